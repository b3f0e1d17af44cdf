/- The reference's numbers: Add, Sub, Mul. -/
import Derived.Test.YtiaikjeljhfadaaMgt
namespace Go.Proofs.Ytiaikjeljhfadaa
set_option linter.unusedSimpArgs false
set_option linter.unusedVariables false
open Go.RowKit
set_option maxRecDepth 100000
/-- A number as it is answered, if it may be: z, o. -/
def Fz (K z : Int) (o : Bool) : Prop := fits z ∧ ((fits K ∧ z = K ∧ o = true) ∨ (¬ fits K ∧ z = 0 ∧ o = false))
theorem fz_ex (K : Int) : ∃ z o, Fz K z o := by
  by_cases h : fits K
  · exact ⟨K, true, h, .inl ⟨h, rfl, rfl⟩⟩
  · exact ⟨0, false, bp_pos 32, .inr ⟨h, rfl, rfl⟩⟩
theorem wideK {K z : Int} {o n : Bool} {w : World} {v : Value} (hf : Fz K z o) (hn : nw K.natAbs ≤ 1000000) (hz : zn n K.natAbs = K) (hv : Mv w v K.natAbs) : Calls Try.prog 74 #[.bool n, v] w fun e w' => e = .returned (.tuple #[.agg (mk z).toArray, .bool o]) ∧ Below w.heap.size w w' := by
  rcases hf.2 with ⟨h, rfl, rfl⟩ | ⟨h, rfl, rfl⟩
  · have := wideZ_any n hv (nw32.2 h)
    rwa [hz] at this
  · exact wideN_any n hv (fun h' => h (nw32.1 h')) hn
theorem zn_neg (s : Bool) (N : Nat) : zn (s && decide (N ≠ 0)) N = zn s N := by
  unfold zn
  by_cases h : N = 0
  · subst h; cases s <;> simp
  · cases s <;> simp [h]
theorem lt_add {A B k : Nat} (hA : A < bb ^ k) (hB : B < bb ^ k) : A + B < bb ^ (k + 1) := by
  rw [bp_succ]
  generalize bb ^ k = X at *
  unfold bb; omega
theorem nw_abs {x y : Int} {A B k : Nat} (hx : x.natAbs = A) (hy : y.natAbs = B) (hA : A < bb ^ k) (hB : B < bb ^ k) : nw (x + y).natAbs ≤ k + 1 ∧ nw (x - y).natAbs ≤ k + 1 := by
  have := lt_add hA hB
  exact ⟨nw_le_of (by omega), nw_le_of (by omega)⟩
set_option maxHeartbeats 2000000 in
theorem Addref_any (s : Bool) {N : Nat} (t : Bool) {M : Nat} (hN : N < bb ^ 32) (hM : M < bb ^ 32) {z : Int} {o : Bool} (hz : Fz (zn s N + zn t M) z o) : Tl 14 #[.agg (wd s N).toArray, .agg (wd t M).toArray] (.tuple #[vw z, .bool o]) := fun w => by
  have HZ := Lib.hid hz
  have HK : Hid (nw (zn s N + zn t M).natAbs ≤ 1000000) := Nat.le_trans (nw_abs (zn_abs s N) (zn_abs t M) hN hM).1 (by omega)
  clear hz
  have HN := Lib.hid hN
  have HM := Lib.hid hM
  have N1 := Lib.hid (fun w => negref_any s hN w)
  have N2 := Lib.hid (fun w => negref_any t hM w)
  have O1 := Lib.hid (fun w => of_any s hN w)
  have O2 := Lib.hid (fun w => of_any t hM w)
  obtain ⟨sn, hsn⟩ : ∃ sn : Bool, (s && decide (N ≠ 0)) = sn := ⟨_, rfl⟩
  obtain ⟨tn, htn⟩ : ∃ tn : Bool, (t && decide (M ≠ 0)) = tn := ⟨_, rfl⟩
  have ES : Hid (zn sn N = zn s N) := by rw [← hsn]; exact zn_neg s N
  have ET : Hid (zn tn M = zn t M) := by rw [← htn]; exact zn_neg t M
  rw [hsn] at N1
  rw [htn] at N2
  clear hsn htn hN hM
  unfold vw
  have b2 := ((Blk.new w (wd s N) 25 rfl).old (.cells (wd t M).toArray 25)).old (.cells (wd false 0).toArray 25)
  have b3 := (Blk.new (w.alloc (.cells (wd s N).toArray 25)) (wd t M) 25 (b := w.heap.size + 1) (by simp)).old (.cells (wd false 0).toArray 25)
  have b4 := Blk.new ((w.alloc (.cells (wd s N).toArray 25)).alloc (.cells (wd t M).toArray 25)) (wd false 0) 25 (b := w.heap.size + 1 + 1) (by simp)
  have hb : Below w.heap.size w (((w.alloc (.cells (wd s N).toArray 25)).alloc (.cells (wd t M).toArray 25)).alloc (.cells (wd false 0).toArray 25)) := (((Below.refl _ _).alloc (Nat.le_refl _) _).alloc (by simp) _).alloc (by simp; omega) _
  go_enter Try.func14, Try.ntmps14
  go_wp2_with (first | (with_reducible refine alW2 rfl rfl ?_) | (with_reducible refine alW rfl rfl ?_))
  try rw [show ((w.alloc (.cells (wd s N).toArray 25)).alloc (.cells (wd t M).toArray 25)).heap.size = w.heap.size + 1 + 1 by simp]
  refine rg_start [] (by kernel_rfl) (fun hS => ?_)
  replace hb := hb.drew
  refine rg_ld 0 rfl (by kernel_rfl) (by kernel_rfl) (by kernel_rfl) (by rfl) hS rfl rfl b2 (by simp <;> omega) (whole25 _ _) ?_
  try simp only [Act.put, List.setIfInBounds_toArray, List.set_cons_zero, List.set_cons_succ]
  refine rg_ld 2 rfl (by kernel_rfl) (by kernel_rfl) (by kernel_rfl) (by rfl) hS rfl rfl b2 (by simp <;> omega) (whole25 _ _) ?_
  try simp only [Act.put, List.setIfInBounds_toArray, List.set_cons_zero, List.set_cons_succ]
  refine rg_ld 4 rfl (by kernel_rfl) (by kernel_rfl) (by kernel_rfl) (by rfl) hS rfl rfl b3 (by simp <;> omega) (whole25 _ _) ?_
  try simp only [Act.put, List.setIfInBounds_toArray, List.set_cons_zero, List.set_cons_succ]
  refine rg_ld 6 rfl (by kernel_rfl) (by kernel_rfl) (by kernel_rfl) (by rfl) hS rfl rfl b3 (by simp <;> omega) (whole25 _ _) ?_
  try simp only [Act.put, List.setIfInBounds_toArray, List.set_cons_zero, List.set_cons_succ]
  refine rg_eff 1 rfl (by kernel_rfl) (by rfl) (fun K hK => ?_)
  go_simp
  refine (N1.out _).mono ?_
  rintro e w1 ⟨rfl, h1⟩
  refine hK _ _ (hS.call h1) (fun hS => ?_)
  clear hK K
  replace hb := bthen hb h1
  clear h1
  try simp only [Act.put, List.setIfInBounds_toArray, List.set_cons_zero, List.set_cons_succ]
  refine rg_eff 3 rfl (by kernel_rfl) (by rfl) (fun K hK => ?_)
  go_simp
  refine (O1.out _).mono ?_
  rintro e w1 ⟨va, rfl, ma, h1⟩
  refine hK _ _ (hS.call h1) (fun hS => ?_)
  clear hK K
  replace hb := bthen hb h1
  clear h1
  try simp only [Act.put, List.setIfInBounds_toArray, List.set_cons_zero, List.set_cons_succ]
  refine rg_eff 5 rfl (by kernel_rfl) (by rfl) (fun K hK => ?_)
  go_simp
  refine (N2.out _).mono ?_
  rintro e w1 ⟨rfl, h1⟩
  refine hK _ _ (hS.call h1) (fun hS => ?_)
  clear hK K
  replace hb := bthen hb h1
  replace ma := ma.call h1
  clear h1
  try simp only [Act.put, List.setIfInBounds_toArray, List.set_cons_zero, List.set_cons_succ]
  refine rg_eff 7 rfl (by kernel_rfl) (by rfl) (fun K hK => ?_)
  go_simp
  refine (O2.out _).mono ?_
  rintro e w1 ⟨vb, rfl, mb, h1⟩
  refine hK _ _ (hS.call h1) (fun hS => ?_)
  clear hK K
  replace ma := ma.call h1
  replace hb := bthen hb h1
  clear h1
  try simp only [Act.put, List.setIfInBounds_toArray, List.set_cons_zero, List.set_cons_succ]
  refine rg_eff 8 rfl (by kernel_rfl) (by rfl) (fun K hK => ?_)
  go_simp
  refine (sum_any sn tn ma mb (by have := nw32.2 HN.out; omega) (by have := nw32.2 HM.out; omega)).mono ?_
  rintro e w1 ⟨n0, vs, M0, rfl, ms, es, h1⟩
  refine hK _ _ (hS.call h1) (fun hS => ?_)
  clear hK K
  replace hb := bthen hb h1
  clear h1 ma mb
  try simp only [Act.put, List.setIfInBounds_toArray, List.set_cons_zero, List.set_cons_succ]
  refine rg_take 9 rfl (by kernel_rfl) (by kernel_rfl) (by kernel_rfl) (by rfl) hS (v := ?_) ?_ ?_
  rotate_left
  · (intro w' hS'; go_simp <;> try with_reducible rfl)
  try simp only [Act.put, List.setIfInBounds_toArray, List.set_cons_zero, List.set_cons_succ]
  refine rg_take 10 rfl (by kernel_rfl) (by kernel_rfl) (by kernel_rfl) (by rfl) hS (v := ?_) ?_ ?_
  rotate_left
  · (intro w' hS'; go_simp <;> try with_reducible rfl)
  try simp only [Act.put, List.setIfInBounds_toArray, List.set_cons_zero, List.set_cons_succ]
  refine rg_take 11 rfl (by kernel_rfl) (by kernel_rfl) (by kernel_rfl) (by rfl) hS (v := ?_) ?_ ?_
  rotate_left
  · (intro w' hS'; go_simp <;> try with_reducible rfl)
  try simp only [Act.put, List.setIfInBounds_toArray, List.set_cons_zero, List.set_cons_succ]
  refine rg_take 12 rfl (by kernel_rfl) (by kernel_rfl) (by kernel_rfl) (by rfl) hS (v := ?_) ?_ ?_
  rotate_left
  · (intro w' hS'; go_simp <;> try with_reducible rfl)
  try simp only [Act.put, List.setIfInBounds_toArray, List.set_cons_zero, List.set_cons_succ]
  refine rg_take 13 rfl (by kernel_rfl) (by kernel_rfl) (by kernel_rfl) (by rfl) hS (v := ?_) ?_ ?_
  rotate_left
  · (intro w' hS'; go_simp <;> try with_reducible rfl)
  try simp only [Act.put, List.setIfInBounds_toArray, List.set_cons_zero, List.set_cons_succ]
  refine rg_done (by kernel_rfl) ?_
  replace b4 := b4.keep hS (by simp)
  rw [ES.out, ET.out] at es
  obtain rfl : M0 = (zn s N + zn t M).natAbs := by rw [← es, zn_abs]
  have MS := Lib.hid ms
  have EE := Lib.hid es
  clear hS ms es b2 b3
  go_wp2_with fail
  refine (wideK HZ.out HK.out EE.out MS.out).mono ?_
  rintro e w1 ⟨rfl, h1⟩
  replace b4 := b4.call h1
  replace hb := bthen hb h1
  clear h1
  go_wp2_with (first | (with_reducible refine stM rfl rfl rfl rfl b4 (wd_length _ _) ?_))
  exact ret_ct (cs := mk z) (v := .bool o) rfl rfl rfl rfl (wholeM _) (b4.row _) ⟨rfl, below_row hb (by omega) _⟩
theorem zn_flip (t : Bool) (M : Nat) : zn (!t) M = - zn t M := by unfold zn; cases t <;> simp
set_option maxHeartbeats 2000000 in
theorem Subref_any (s : Bool) {N : Nat} (t : Bool) {M : Nat} (hN : N < bb ^ 32) (hM : M < bb ^ 32) {z : Int} {o : Bool} (hz : Fz (zn s N - zn t M) z o) : Tl 16 #[.agg (wd s N).toArray, .agg (wd t M).toArray] (.tuple #[vw z, .bool o]) := fun w => by
  have HZ := Lib.hid hz
  have HK : Hid (nw (zn s N - zn t M).natAbs ≤ 1000000) := Nat.le_trans (nw_abs (zn_abs s N) (zn_abs t M) hN hM).2 (by omega)
  clear hz
  have HN := Lib.hid hN
  have HM := Lib.hid hM
  have N1 := Lib.hid (fun w => negref_any s hN w)
  have N2 := Lib.hid (fun w => negref_any t hM w)
  have O1 := Lib.hid (fun w => of_any s hN w)
  have O2 := Lib.hid (fun w => of_any t hM w)
  obtain ⟨sn, hsn⟩ : ∃ sn : Bool, (s && decide (N ≠ 0)) = sn := ⟨_, rfl⟩
  obtain ⟨tn, htn⟩ : ∃ tn : Bool, (t && decide (M ≠ 0)) = tn := ⟨_, rfl⟩
  have ES : Hid (zn sn N = zn s N) := by rw [← hsn]; exact zn_neg s N
  have ET : Hid (zn tn M = zn t M) := by rw [← htn]; exact zn_neg t M
  rw [hsn] at N1
  rw [htn] at N2
  clear hsn htn hN hM
  unfold vw
  have b2 := ((Blk.new w (wd s N) 25 rfl).old (.cells (wd t M).toArray 25)).old (.cells (wd false 0).toArray 25)
  have b3 := (Blk.new (w.alloc (.cells (wd s N).toArray 25)) (wd t M) 25 (b := w.heap.size + 1) (by simp)).old (.cells (wd false 0).toArray 25)
  have b4 := Blk.new ((w.alloc (.cells (wd s N).toArray 25)).alloc (.cells (wd t M).toArray 25)) (wd false 0) 25 (b := w.heap.size + 1 + 1) (by simp)
  have hb : Below w.heap.size w (((w.alloc (.cells (wd s N).toArray 25)).alloc (.cells (wd t M).toArray 25)).alloc (.cells (wd false 0).toArray 25)) := (((Below.refl _ _).alloc (Nat.le_refl _) _).alloc (by simp) _).alloc (by simp; omega) _
  go_enter Try.func16, Try.ntmps16
  go_wp2_with (first | (with_reducible refine alW2 rfl rfl ?_) | (with_reducible refine alW rfl rfl ?_))
  try rw [show ((w.alloc (.cells (wd s N).toArray 25)).alloc (.cells (wd t M).toArray 25)).heap.size = w.heap.size + 1 + 1 by simp]
  refine rg_start [] (by kernel_rfl) (fun hS => ?_)
  replace hb := hb.drew
  refine rg_ld 0 rfl (by kernel_rfl) (by kernel_rfl) (by kernel_rfl) (by rfl) hS rfl rfl b2 (by simp <;> omega) (whole25 _ _) ?_
  try simp only [Act.put, List.setIfInBounds_toArray, List.set_cons_zero, List.set_cons_succ]
  refine rg_ld 2 rfl (by kernel_rfl) (by kernel_rfl) (by kernel_rfl) (by rfl) hS rfl rfl b2 (by simp <;> omega) (whole25 _ _) ?_
  try simp only [Act.put, List.setIfInBounds_toArray, List.set_cons_zero, List.set_cons_succ]
  refine rg_ld 4 rfl (by kernel_rfl) (by kernel_rfl) (by kernel_rfl) (by rfl) hS rfl rfl b3 (by simp <;> omega) (whole25 _ _) ?_
  try simp only [Act.put, List.setIfInBounds_toArray, List.set_cons_zero, List.set_cons_succ]
  refine rg_ld 7 rfl (by kernel_rfl) (by kernel_rfl) (by kernel_rfl) (by rfl) hS rfl rfl b3 (by simp <;> omega) (whole25 _ _) ?_
  try simp only [Act.put, List.setIfInBounds_toArray, List.set_cons_zero, List.set_cons_succ]
  refine rg_eff 1 rfl (by kernel_rfl) (by rfl) (fun K hK => ?_)
  go_simp
  refine (N1.out _).mono ?_
  rintro e w1 ⟨rfl, h1⟩
  refine hK _ _ (hS.call h1) (fun hS => ?_)
  clear hK K
  replace hb := bthen hb h1
  clear h1
  try simp only [Act.put, List.setIfInBounds_toArray, List.set_cons_zero, List.set_cons_succ]
  refine rg_eff 3 rfl (by kernel_rfl) (by rfl) (fun K hK => ?_)
  go_simp
  refine (O1.out _).mono ?_
  rintro e w1 ⟨va, rfl, ma, h1⟩
  refine hK _ _ (hS.call h1) (fun hS => ?_)
  clear hK K
  replace hb := bthen hb h1
  clear h1
  try simp only [Act.put, List.setIfInBounds_toArray, List.set_cons_zero, List.set_cons_succ]
  refine rg_eff 5 rfl (by kernel_rfl) (by rfl) (fun K hK => ?_)
  go_simp
  refine (N2.out _).mono ?_
  rintro e w1 ⟨rfl, h1⟩
  refine hK _ _ (hS.call h1) (fun hS => ?_)
  clear hK K
  replace hb := bthen hb h1
  replace ma := ma.call h1
  clear h1
  try simp only [Act.put, List.setIfInBounds_toArray, List.set_cons_zero, List.set_cons_succ]
  refine rg_take 6 rfl (by kernel_rfl) (by kernel_rfl) (by kernel_rfl) (by rfl) hS (v := ?_) ?_ ?_
  rotate_left
  · (intro w' hS'; go_simp <;> try with_reducible rfl)
  try simp only [Act.put, List.setIfInBounds_toArray, List.set_cons_zero, List.set_cons_succ]
  refine rg_eff 8 rfl (by kernel_rfl) (by rfl) (fun K hK => ?_)
  go_simp
  refine (O2.out _).mono ?_
  rintro e w1 ⟨vb, rfl, mb, h1⟩
  refine hK _ _ (hS.call h1) (fun hS => ?_)
  clear hK K
  replace ma := ma.call h1
  replace hb := bthen hb h1
  clear h1
  try simp only [Act.put, List.setIfInBounds_toArray, List.set_cons_zero, List.set_cons_succ]
  refine rg_eff 9 rfl (by kernel_rfl) (by rfl) (fun K hK => ?_)
  go_simp
  refine (sum_any sn (!tn) ma mb (by have := nw32.2 HN.out; omega) (by have := nw32.2 HM.out; omega)).mono ?_
  rintro e w1 ⟨n0, vs, M0, rfl, ms, es, h1⟩
  refine hK _ _ (hS.call h1) (fun hS => ?_)
  clear hK K
  replace hb := bthen hb h1
  clear h1 ma mb
  try simp only [Act.put, List.setIfInBounds_toArray, List.set_cons_zero, List.set_cons_succ]
  refine rg_take 10 rfl (by kernel_rfl) (by kernel_rfl) (by kernel_rfl) (by rfl) hS (v := ?_) ?_ ?_
  rotate_left
  · (intro w' hS'; go_simp <;> try with_reducible rfl)
  try simp only [Act.put, List.setIfInBounds_toArray, List.set_cons_zero, List.set_cons_succ]
  refine rg_take 11 rfl (by kernel_rfl) (by kernel_rfl) (by kernel_rfl) (by rfl) hS (v := ?_) ?_ ?_
  rotate_left
  · (intro w' hS'; go_simp <;> try with_reducible rfl)
  try simp only [Act.put, List.setIfInBounds_toArray, List.set_cons_zero, List.set_cons_succ]
  refine rg_take 12 rfl (by kernel_rfl) (by kernel_rfl) (by kernel_rfl) (by rfl) hS (v := ?_) ?_ ?_
  rotate_left
  · (intro w' hS'; go_simp <;> try with_reducible rfl)
  try simp only [Act.put, List.setIfInBounds_toArray, List.set_cons_zero, List.set_cons_succ]
  refine rg_take 13 rfl (by kernel_rfl) (by kernel_rfl) (by kernel_rfl) (by rfl) hS (v := ?_) ?_ ?_
  rotate_left
  · (intro w' hS'; go_simp <;> try with_reducible rfl)
  try simp only [Act.put, List.setIfInBounds_toArray, List.set_cons_zero, List.set_cons_succ]
  refine rg_take 14 rfl (by kernel_rfl) (by kernel_rfl) (by kernel_rfl) (by rfl) hS (v := ?_) ?_ ?_
  rotate_left
  · (intro w' hS'; go_simp <;> try with_reducible rfl)
  try simp only [Act.put, List.setIfInBounds_toArray, List.set_cons_zero, List.set_cons_succ]
  refine rg_done (by kernel_rfl) ?_
  replace b4 := b4.keep hS (by simp)
  rw [zn_flip, ES.out, ET.out, ← Int.sub_eq_add_neg] at es
  obtain rfl : M0 = (zn s N - zn t M).natAbs := by rw [← es, zn_abs]
  have MS := Lib.hid ms
  have EE := Lib.hid es
  clear hS ms es b2 b3
  go_wp2_with fail
  refine (wideK HZ.out HK.out EE.out MS.out).mono ?_
  rintro e w1 ⟨rfl, h1⟩
  replace b4 := b4.call h1
  replace hb := bthen hb h1
  clear h1
  go_wp2_with (first | (with_reducible refine stM rfl rfl rfl rfl b4 (wd_length _ _) ?_))
  exact ret_ct (cs := mk z) (v := .bool o) rfl rfl rfl rfl (wholeM _) (b4.row _) ⟨rfl, below_row hb (by omega) _⟩
set_option maxHeartbeats 2000000 in
theorem Mulref_any (s : Bool) {N : Nat} (t : Bool) {M : Nat} (hN : N < bb ^ 32) (hM : M < bb ^ 32) {z : Int} {o : Bool} (hz : Fz (zn s N * zn t M) z o) : Tl 18 #[.agg (wd s N).toArray, .agg (wd t M).toArray] (.tuple #[vw z, .bool o]) := fun w => by
  have HZ := Lib.hid hz
  have EK : Hid ((zn s N * zn t M).natAbs = N * M) := by
    show (zn s N * zn t M).natAbs = N * M
    rw [Int.natAbs_mul, zn_abs, zn_abs]
  have HK : Hid (nw (zn s N * zn t M).natAbs ≤ 1000000) := by
    have h2 : N * M < bb ^ 64 := by
      have := Nat.mul_lt_mul'' hN hM
      rwa [← Nat.pow_add] at this
    have := nw_le_of h2
    show nw (zn s N * zn t M).natAbs ≤ 1000000
    rw [EK.out]; omega
  clear hz
  have HN := Lib.hid hN
  have HM := Lib.hid hM
  have N1 := Lib.hid (fun w => negref_any s hN w)
  have N2 := Lib.hid (fun w => negref_any t hM w)
  have O1 := Lib.hid (fun w => of_any s hN w)
  have O2 := Lib.hid (fun w => of_any t hM w)
  obtain ⟨sn, hsn⟩ : ∃ sn : Bool, (s && decide (N ≠ 0)) = sn := ⟨_, rfl⟩
  obtain ⟨tn, htn⟩ : ∃ tn : Bool, (t && decide (M ≠ 0)) = tn := ⟨_, rfl⟩
  have ES : Hid (zn sn N = zn s N) := by rw [← hsn]; exact zn_neg s N
  have ET : Hid (zn tn M = zn t M) := by rw [← htn]; exact zn_neg t M
  rw [hsn] at N1
  rw [htn] at N2
  clear hsn htn hN hM
  unfold vw
  have b2 := ((Blk.new w (wd s N) 25 rfl).old (.cells (wd t M).toArray 25)).old (.cells (wd false 0).toArray 25)
  have b3 := (Blk.new (w.alloc (.cells (wd s N).toArray 25)) (wd t M) 25 (b := w.heap.size + 1) (by simp)).old (.cells (wd false 0).toArray 25)
  have b4 := Blk.new ((w.alloc (.cells (wd s N).toArray 25)).alloc (.cells (wd t M).toArray 25)) (wd false 0) 25 (b := w.heap.size + 1 + 1) (by simp)
  have hb : Below w.heap.size w (((w.alloc (.cells (wd s N).toArray 25)).alloc (.cells (wd t M).toArray 25)).alloc (.cells (wd false 0).toArray 25)) := (((Below.refl _ _).alloc (Nat.le_refl _) _).alloc (by simp) _).alloc (by simp; omega) _
  have EZ : Hid (zn (sn != tn) (zn s N * zn t M).natAbs = zn s N * zn t M) := by
    show zn (sn != tn) (zn s N * zn t M).natAbs = zn s N * zn t M
    rw [EK.out, ← zn_mul, ES.out, ET.out]
  go_enter Try.func18, Try.ntmps18
  go_wp2_with (first | (with_reducible refine alW2 rfl rfl ?_) | (with_reducible refine alW rfl rfl ?_))
  try rw [show ((w.alloc (.cells (wd s N).toArray 25)).alloc (.cells (wd t M).toArray 25)).heap.size = w.heap.size + 1 + 1 by simp]
  refine rg_start [w.heap.size + 1 + 1] (by kernel_rfl) (fun hS => ?_)
  replace hb := hb.drew
  replace b4 := b4.drew
  refine rg_ld 0 rfl (by kernel_rfl) (by kernel_rfl) (by kernel_rfl) (by rfl) hS rfl rfl b2 (by simp <;> omega) (whole25 _ _) ?_
  try simp only [Act.put, List.setIfInBounds_toArray, List.set_cons_zero, List.set_cons_succ]
  refine rg_ld 2 rfl (by kernel_rfl) (by kernel_rfl) (by kernel_rfl) (by rfl) hS rfl rfl b3 (by simp <;> omega) (whole25 _ _) ?_
  try simp only [Act.put, List.setIfInBounds_toArray, List.set_cons_zero, List.set_cons_succ]
  refine rg_ld 5 rfl (by kernel_rfl) (by kernel_rfl) (by kernel_rfl) (by rfl) hS rfl rfl b2 (by simp <;> omega) (whole25 _ _) ?_
  try simp only [Act.put, List.setIfInBounds_toArray, List.set_cons_zero, List.set_cons_succ]
  refine rg_ld 7 rfl (by kernel_rfl) (by kernel_rfl) (by kernel_rfl) (by rfl) hS rfl rfl b3 (by simp <;> omega) (whole25 _ _) ?_
  try simp only [Act.put, List.setIfInBounds_toArray, List.set_cons_zero, List.set_cons_succ]
  refine rg_eff 1 rfl (by kernel_rfl) (by rfl) (fun K hK => ?_)
  go_simp
  refine (N1.out _).mono ?_
  rintro e w1 ⟨rfl, h1⟩
  refine hK _ _ (hS.call h1) (fun hS => ?_)
  clear hK K
  replace b4 := b4.call h1
  replace hb := bthen hb h1
  clear h1
  try simp only [Act.put, List.setIfInBounds_toArray, List.set_cons_zero, List.set_cons_succ]
  refine rg_eff 3 rfl (by kernel_rfl) (by rfl) (fun K hK => ?_)
  go_simp
  refine (N2.out _).mono ?_
  rintro e w1 ⟨rfl, h1⟩
  refine hK _ _ (hS.call h1) (fun hS => ?_)
  clear hK K
  replace b4 := b4.call h1
  replace hb := bthen hb h1
  clear h1
  try simp only [Act.put, List.setIfInBounds_toArray, List.set_cons_zero, List.set_cons_succ]
  refine rg_take 4 rfl (by kernel_rfl) (by kernel_rfl) (by kernel_rfl) (by rfl) hS (v := .bool (sn != tn)) (fun w' _ => op_neb rfl rfl rfl w') ?_
  try simp only [Act.put, List.setIfInBounds_toArray, List.set_cons_zero, List.set_cons_succ]
  refine rg_eff 6 rfl (by kernel_rfl) (by rfl) (fun K hK => ?_)
  go_simp
  refine (O1.out _).mono ?_
  rintro e w1 ⟨va, rfl, ma, h1⟩
  refine hK _ _ (hS.call h1) (fun hS => ?_)
  clear hK K
  replace b4 := b4.call h1
  replace hb := bthen hb h1
  clear h1
  try simp only [Act.put, List.setIfInBounds_toArray, List.set_cons_zero, List.set_cons_succ]
  refine rg_eff 8 rfl (by kernel_rfl) (by rfl) (fun K hK => ?_)
  go_simp
  refine (O2.out _).mono ?_
  rintro e w1 ⟨vb, rfl, mb, h1⟩
  refine hK _ _ (hS.call h1) (fun hS => ?_)
  clear hK K
  replace b4 := b4.call h1
  replace ma := ma.call h1
  replace hb := bthen hb h1
  clear h1
  try simp only [Act.put, List.setIfInBounds_toArray, List.set_cons_zero, List.set_cons_succ]
  refine rg_eff 9 rfl (by kernel_rfl) (by rfl) (fun K hK => ?_)
  go_simp
  refine (mul_any ma mb (by have := nw32.2 HN.out; omega) (by have := nw32.2 HM.out; omega)).mono ?_
  rintro e w1 ⟨vp, rfl, mp, h1⟩
  refine hK _ _ (hS.call h1) (fun hS => ?_)
  clear hK K
  replace b4 := b4.call h1
  replace hb := bthen hb h1
  clear h1
  rw [← EK.out] at mp
  clear ma mb
  try simp only [Act.put, List.setIfInBounds_toArray, List.set_cons_zero, List.set_cons_succ]
  refine rg_eff 10 rfl (by kernel_rfl) (by rfl) (fun K hK => ?_)
  go_simp
  refine (wideK HZ.out HK.out EZ.out mp).mono ?_
  rintro e w1 ⟨rfl, h1⟩
  refine hK _ _ (hS.call h1) (fun hS => ?_)
  clear hK K
  replace b4 := b4.call h1
  replace hb := bthen hb h1
  clear h1 mp
  try simp only [Act.put, List.setIfInBounds_toArray, List.set_cons_zero, List.set_cons_succ]
  refine rg_take 11 rfl (by kernel_rfl) (by kernel_rfl) (by kernel_rfl) (by rfl) hS (v := ?_) ?_ ?_
  rotate_left
  · (intro w' hS'; go_simp <;> try with_reducible rfl)
  try simp only [Act.put, List.setIfInBounds_toArray, List.set_cons_zero, List.set_cons_succ]
  refine rg_take 12 rfl (by kernel_rfl) (by kernel_rfl) (by kernel_rfl) (by rfl) hS (v := ?_) ?_ ?_
  rotate_left
  · (intro w' hS'; go_simp <;> try with_reducible rfl)
  try simp only [Act.put, List.setIfInBounds_toArray, List.set_cons_zero, List.set_cons_succ]
  refine rg_eff 13 rfl (by kernel_rfl) (by rfl) (fun K hK => ?_)
  refine wp_st (vs := mk z) rfl rfl rfl b4 (by rw [wd_length, mk_length]) (wholeM _) (mk_one _) ?_
  refine hK _ _ (hS.row (.inl (by simp)) _) (fun hS => ?_)
  clear hK K
  try simp only [Act.put, List.setIfInBounds_toArray, List.set_cons_zero, List.set_cons_succ]
  refine rg_take 14 rfl (by kernel_rfl) (by kernel_rfl) (by kernel_rfl) (by rfl) hS (v := ?_) ?_ ?_
  rotate_left
  · (intro w' hS'; go_simp <;> try with_reducible rfl)
  try simp only [Act.put, List.setIfInBounds_toArray, List.set_cons_zero, List.set_cons_succ]
  refine rg_done (by kernel_rfl) ?_
  go_wp2
  exact ret_ct (cs := mk z) (v := .bool o) rfl rfl rfl rfl (wholeM _) (b4.row _) ⟨rfl, below_row hb (by omega) _⟩
end Go.Proofs.Ytiaikjeljhfadaa
