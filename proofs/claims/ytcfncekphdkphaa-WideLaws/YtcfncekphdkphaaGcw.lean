/- What WideGcds answers. -/
import Derived.Test.YtcfncekphdkphaaWdz
namespace Go.Proofs.Ytcfncekphdkphaa
set_option linter.unusedSimpArgs false
set_option linter.unusedVariables false
open Go.RowKit
set_option maxRecDepth 100000
theorem gcd_facts {x y : Int} (h : ¬ (x = 0 ∧ y = 0)) : ((Int.gcd x y : Nat) : Int) ≠ 0 ∧ x.tmod (Int.gcd x y : Nat) = 0 ∧ y.tmod (Int.gcd x y : Nat) = 0 ∧ Int.gcd (x.tdiv (Int.gcd x y : Nat)) (y.tdiv (Int.gcd x y : Nat)) = 1 := by
  have h0 : Int.gcd x y ≠ 0 := fun e => h (Int.gcd_eq_zero_iff.1 e)
  have d1 : ((Int.gcd x y : Nat) : Int) ∣ x := Int.gcd_dvd_left ..
  have d2 : ((Int.gcd x y : Nat) : Int) ∣ y := Int.gcd_dvd_right ..
  refine ⟨by omega, Int.dvd_iff_tmod_eq_zero.1 d1, Int.dvd_iff_tmod_eq_zero.1 d2, ?_⟩
  rw [Int.tdiv_eq_ediv_of_dvd d1, Int.tdiv_eq_ediv_of_dvd d2]
  exact Int.gcd_ediv_gcd_ediv_gcd (by omega)
theorem fits_gcd {x y : Int} (hx : fits x) (hy : fits y) (h : ¬ (x = 0 ∧ y = 0)) : fits (Int.gcd x y : Nat) := by
  unfold fits at *
  rw [Int.natAbs_natCast]
  by_cases h0 : x = 0
  · have : y ≠ 0 := fun e => h ⟨h0, e⟩
    exact Nat.lt_of_le_of_lt (Nat.gcd_le_right _ (by omega)) hy
  · exact Nat.lt_of_le_of_lt (Nat.gcd_le_left _ (by omega)) hx
theorem fits_tdiv {x : Int} (g : Int) (hx : fits x) : fits (x.tdiv g) := by
  unfold fits at *
  rw [Int.natAbs_tdiv]
  exact Nat.lt_of_le_of_lt (Nat.div_le_self _ _) hx
theorem fits0 : fits 0 := small_fits (by decide) (by decide)
theorem fits1 : fits 1 := small_fits (by decide) (by decide)
set_option maxHeartbeats 1000000 in
theorem gcds_na (known : ∀ w, Calls Try.prog 12 #[] w fun e w' => e = .returned (.bool true) ∧ Below w.heap.size w w') (cs : List Value) (w : World) :
    Calls Try.prog 6 #[.agg (wd true 0).toArray, .agg cs.toArray] w fun e w' => e = .returned (.bool true) ∧ Below w.heap.size w w' := by
  have b0 := (Blk.new w (wd true 0) 25 rfl).old (.cells cs.toArray 25)
  have hb : Below w.heap.size w ((w.alloc (.cells (wd true 0).toArray 25)).alloc (.cells cs.toArray 25)) := ((Below.refl _ _).alloc (Nat.le_refl _) _).alloc (by simp) _
  go_enter Try.func6, Try.ntmps6
  go_wp2_with fail
  refine (known _).mono ?_
  rintro e w1 ⟨rfl, h1⟩
  replace b0 := b0.call h1
  replace hb := bthen hb h1
  clear h1
  go_wp2_with (first | (with_reducible refine ldW rfl rfl rfl b0 ?_))
  refine (k_isn _).mono ?_
  rintro e w1 ⟨rfl, h1⟩
  replace hb := bthen hb h1
  clear h1
  go_wp2
  go_ret
  exact ⟨rfl, hb⟩
set_option maxHeartbeats 1000000 in
theorem gcds_nb (known : ∀ w, Calls Try.prog 12 #[] w fun e w' => e = .returned (.bool true) ∧ Below w.heap.size w w') {x : Int} (hx : fits x) (w : World) :
    Calls Try.prog 6 #[.agg (mk x).toArray, .agg (wd true 0).toArray] w fun e w' => e = .returned (.bool true) ∧ Below w.heap.size w w' := by
  have HX := Lib.hid hx
  clear hx
  have b0 := (Blk.new w (mk x) 25 rfl).old (.cells (wd true 0).toArray 25)
  have b1 := Blk.new (w.alloc (.cells (mk x).toArray 25)) (wd true 0) 25 (b := w.heap.size + 1) (by simp)
  have hb : Below w.heap.size w ((w.alloc (.cells (mk x).toArray 25)).alloc (.cells (wd true 0).toArray 25)) := ((Below.refl _ _).alloc (Nat.le_refl _) _).alloc (by simp) _
  go_enter Try.func6, Try.ntmps6
  go_wp2_with fail
  refine (known _).mono ?_
  rintro e w1 ⟨rfl, h1⟩
  replace b0 := b0.call h1
  replace b1 := b1.call h1
  replace hb := bthen hb h1
  clear h1
  go_wp2_with (first | (with_reducible refine ldM rfl rfl rfl b0 ?_))
  refine (is_mk HX.out _).mono ?_
  rintro e w1 ⟨rfl, h1⟩
  replace b1 := b1.call h1
  replace hb := bthen hb h1
  clear h1
  go_wp2_with (first | (refine BigFrame.wpList_want (by rfl) fun _ hK => wp_ldB rfl rfl b1 (whole25 _ _) (hK _ _ ?_)))
  refine (k_isn _).mono ?_
  rintro e w1 ⟨rfl, h1⟩
  replace hb := bthen hb h1
  clear h1
  go_wp2
  go_ret
  exact ⟨rfl, hb⟩
set_option maxHeartbeats 1000000 in
theorem gcds_yes (known : ∀ w, Calls Try.prog 12 #[] w fun e w' => e = .returned (.bool true) ∧ Below w.heap.size w w') {x y : Int} (hx : fits x) (hy : fits y) (w : World) :
    Calls Try.prog 6 #[.agg (mk x).toArray, .agg (mk y).toArray] w fun e w' => e = .returned (.bool true) ∧ Below w.heap.size w w' := by
  have HX := Lib.hid hx
  have HY := Lib.hid hy
  clear hx hy
  have b0 := (Blk.new w (mk x) 25 rfl).old (.cells (mk y).toArray 25)
  have b1 := Blk.new (w.alloc (.cells (mk x).toArray 25)) (mk y) 25 (b := w.heap.size + 1) (by simp)
  have hb : Below w.heap.size w ((w.alloc (.cells (mk x).toArray 25)).alloc (.cells (mk y).toArray 25)) := ((Below.refl _ _).alloc (Nat.le_refl _) _).alloc (by simp) _
  go_enter Try.func6, Try.ntmps6
  go_wp2_with fail
  refine (known _).mono ?_
  rintro e w1 ⟨rfl, h1⟩
  replace b0 := b0.call h1
  replace b1 := b1.call h1
  replace hb := bthen hb h1
  clear h1
  go_wp2_with (first | (with_reducible refine ldM rfl rfl rfl b0 ?_))
  refine (is_mk HX.out _).mono ?_
  rintro e w1 ⟨rfl, h1⟩
  replace b0 := b0.call h1
  replace b1 := b1.call h1
  replace hb := bthen hb h1
  clear h1
  go_wp2_with (first | (refine ldMg (by rfl) rfl rfl b1 ?_))
  refine (is_mk HY.out _).mono ?_
  rintro e w1 ⟨rfl, h1⟩
  replace b0 := b0.call h1
  replace b1 := b1.call h1
  replace hb := bthen hb h1
  clear h1
  go_wp2_with (first | (with_reducible refine ldM rfl rfl rfl b0 ?_) | (with_reducible refine ldM rfl rfl rfl b1 ?_))
  have GC := fun w => Gcd_z (wd_of HX.out) (wd_of HY.out) w
  by_cases h : x = 0 ∧ y = 0
  · obtain ⟨rfl, rfl⟩ := h
    rw [show ((Int.gcd 0 0 : Nat) : Int) = 0 from rfl] at GC
    have GH := Lib.hid GC
    clear GC
    refine (GH.out _).mono ?_
    rintro e w1 ⟨rfl, h1⟩
    replace b0 := b0.call h1
    replace b1 := b1.call h1
    replace hb := bthen hb h1
    clear h1
    have f := Blk.new w1 (wd false 0) 25 rfl
    have b5 := laid_new w1 (0)
    replace b0 := laid_old b0 (0)
    replace b1 := laid_old b1 (0)
    replace hb := laid_below hb (0)
    go_wp2_with (first | (with_reducible refine alW rfl rfl ?_) | (with_reducible refine stM rfl rfl rfl rfl f (wd_length _ _) ?_))
    clear f
    generalize (w1.alloc (.cells (wd false 0).toArray 25)).setRow w1.heap.size (mk (0)).toArray = W at *
    generalize w1.heap.size = pl_b5 at *
    refine (k_from 0 (by decide) (by decide) _).mono ?_
    rintro e w1 ⟨rfl, h1⟩
    replace b0 := b0.call h1
    replace b1 := b1.call h1
    replace b5 := b5.call h1
    replace hb := bthen hb h1
    clear h1
    have f := Blk.new w1 (wd false 0) 25 rfl
    have b6 := laid_new w1 (0)
    replace b0 := laid_old b0 (0)
    replace b1 := laid_old b1 (0)
    replace b5 := laid_old b5 (0)
    replace hb := laid_below hb (0)
    go_wp2_with (first | (with_reducible refine alW rfl rfl ?_) | (with_reducible refine stM rfl rfl rfl rfl f (wd_length _ _) ?_) | (with_reducible refine ldM rfl rfl rfl b0 ?_) | (with_reducible refine ldM rfl rfl rfl b1 ?_) | (with_reducible refine ldM rfl rfl rfl b5 ?_) | (with_reducible refine ldM rfl rfl rfl b6 ?_) | (refine ldMg (by rfl) rfl rfl b1 ?_) | (refine ldMg (by rfl) rfl rfl b6 ?_) | (with_reducible refine eqZ rfl rfl rfl rfl HX.out HX.out ?_) | (refine eqZg (by rfl) rfl rfl rfl HX.out HX.out ?_))
    clear f
    generalize (w1.alloc (.cells (wd false 0).toArray 25)).setRow w1.heap.size (mk (0)).toArray = W at *
    generalize w1.heap.size = pl_b6 at *
    go_ret
    exact ⟨rfl, hb⟩
  · obtain ⟨f1, f2, f3, f4⟩ := gcd_facts h
    have fg := fits_gcd HX.out HY.out h
    have gn : (0 : Int) ≤ ((Int.gcd x y : Nat) : Int) := by omega
    have GC2 := fun w => Gcd_z (wd_of HY.out) (wd_of HX.out) w
    have GC3 := fun w => Gcd_z (wd_of (fits_neg HX.out)) (wd_of HY.out) w
    rw [Int.gcd_comm y x] at GC2
    rw [Int.neg_gcd] at GC3
    obtain ⟨g, hg⟩ : ∃ g : Int, ((Int.gcd x y : Nat) : Int) = g := ⟨_, rfl⟩
    rw [hg] at GC GC2 GC3 f1 f2 f3 f4 fg gn
    have D1 := fun w => DivMod_z (wd_of HX.out) (wd_of fg) f1 w
    have D2 := fun w => DivMod_z (wd_of HY.out) (wd_of fg) f1 w
    have fp := fits_tdiv g HX.out
    have fq := fits_tdiv g HY.out
    have GC4 := fun w => Gcd_z (wd_of fp) (wd_of fq) w
    rw [f2] at D1
    rw [f3] at D2
    rw [f4, show ((1 : Nat) : Int) = 1 from rfl] at GC4
    obtain ⟨p, hp⟩ : ∃ p : Int, x.tdiv g = p := ⟨_, rfl⟩
    obtain ⟨q, hq⟩ : ∃ q : Int, y.tdiv g = q := ⟨_, rfl⟩
    rw [hp] at D1 GC4 fp
    rw [hq] at D2 GC4 fq
    have HG1 := Lib.hid GC
    have HG2 := Lib.hid GC2
    have HG3 := Lib.hid GC3
    have HG4 := Lib.hid GC4
    have HD1 := Lib.hid D1
    have HD2 := Lib.hid D2
    have FG := Lib.hid fg
    have GN : Hid (decide (g < 0) = false) := decide_eq_false (by omega)
    clear GC GC2 GC3 GC4 D1 D2 hp hq hg f1 f2 f3 f4 fg fp fq gn
    by_cases h0 : x = 0
    · have hy0 : ¬ y = 0 := fun e => h ⟨h0, e⟩
      subst h0
      clear h
      refine (HG1.out _).mono ?_
      rintro e w1 ⟨rfl, h1⟩
      replace b0 := b0.call h1
      replace b1 := b1.call h1
      replace hb := bthen hb h1
      clear h1
      have f := Blk.new w1 (wd false 0) 25 rfl
      have b5 := laid_new w1 (g)
      replace b0 := laid_old b0 (g)
      replace b1 := laid_old b1 (g)
      replace hb := laid_below hb (g)
      go_wp2_with (first | (with_reducible refine alW rfl rfl ?_) | (with_reducible refine stM rfl rfl rfl rfl f (wd_length _ _) ?_))
      clear f
      generalize (w1.alloc (.cells (wd false 0).toArray 25)).setRow w1.heap.size (mk (g)).toArray = W at *
      generalize w1.heap.size = pl_b5 at *
      refine (k_from 0 (by decide) (by decide) _).mono ?_
      rintro e w1 ⟨rfl, h1⟩
      replace b0 := b0.call h1
      replace b1 := b1.call h1
      replace b5 := b5.call h1
      replace hb := bthen hb h1
      clear h1
      have f := Blk.new w1 (wd false 0) 25 rfl
      have b6 := laid_new w1 (0)
      replace b0 := laid_old b0 (0)
      replace b1 := laid_old b1 (0)
      replace b5 := laid_old b5 (0)
      replace hb := laid_below hb (0)
      go_wp2_with (first | (with_reducible refine alW rfl rfl ?_) | (with_reducible refine stM rfl rfl rfl rfl f (wd_length _ _) ?_) | (with_reducible refine ldM rfl rfl rfl b0 ?_) | (with_reducible refine ldM rfl rfl rfl b1 ?_) | (with_reducible refine ldM rfl rfl rfl b5 ?_) | (with_reducible refine ldM rfl rfl rfl b6 ?_) | (refine ldMg (by rfl) rfl rfl b1 ?_) | (refine ldMg (by rfl) rfl rfl b6 ?_) | (with_reducible refine eqZ rfl rfl rfl rfl HX.out fits0 ?_) | (refine eqZg (by rfl) rfl rfl rfl HY.out fits0 ?_))
      clear f
      generalize (w1.alloc (.cells (wd false 0).toArray 25)).setRow w1.heap.size (mk (0)).toArray = W at *
      generalize w1.heap.size = pl_b6 at *
      refine (HD1.out _).mono ?_
      rintro e w1 ⟨rfl, h1⟩
      replace b0 := b0.call h1
      replace b1 := b1.call h1
      replace b5 := b5.call h1
      replace b6 := b6.call h1
      replace hb := bthen hb h1
      clear h1
      have f5 := (Blk.new w1 (wd false 0) 25 rfl).old (.cells (wd false 0).toArray 25)
      have f6 := (Blk.new (w1.alloc (.cells (wd false 0).toArray 25)) (wd false 0) 25 (b := w1.heap.size + 1) (by simp)).rowOther (g := w1.heap.size) (mk (p)).toArray (by omega)
      have b7 := (f5.row (mk (p))).rowOther (g := w1.heap.size + 1) (mk (0)).toArray (by omega)
      have b8 := f6.row (mk (0))
      replace b0 := laid_two b0 (p) (0)
      replace b1 := laid_two b1 (p) (0)
      replace b5 := laid_two b5 (p) (0)
      replace b6 := laid_two b6 (p) (0)
      replace hb := laid_below2 hb (p) (0)
      go_wp2_with (first | (with_reducible refine alW2 rfl rfl ?_) | (with_reducible refine alW rfl rfl ?_) | (with_reducible refine stM rfl rfl rfl rfl f5 (wd_length _ _) ?_) | (with_reducible refine stM rfl rfl rfl rfl f6 (wd_length _ _) ?_) | (with_reducible refine ldM rfl rfl rfl b1 ?_) | (with_reducible refine ldM rfl rfl rfl b5 ?_))
      clear f5 f6
      generalize (((w1.alloc (.cells (wd false 0).toArray 25)).alloc (.cells (wd false 0).toArray 25)).setRow w1.heap.size (mk (p)).toArray).setRow (w1.heap.size + 1) (mk (0)).toArray = W at *
      generalize w1.heap.size + 1 = pl_b8 at *
      generalize w1.heap.size = pl_b7 at *
      refine (HD2.out _).mono ?_
      rintro e w1 ⟨rfl, h1⟩
      replace b0 := b0.call h1
      replace b1 := b1.call h1
      replace b5 := b5.call h1
      replace b6 := b6.call h1
      replace b7 := b7.call h1
      replace b8 := b8.call h1
      replace hb := bthen hb h1
      clear h1
      have f5 := (Blk.new w1 (wd false 0) 25 rfl).old (.cells (wd false 0).toArray 25)
      have f6 := (Blk.new (w1.alloc (.cells (wd false 0).toArray 25)) (wd false 0) 25 (b := w1.heap.size + 1) (by simp)).rowOther (g := w1.heap.size) (mk (q)).toArray (by omega)
      have b10 := (f5.row (mk (q))).rowOther (g := w1.heap.size + 1) (mk (0)).toArray (by omega)
      have b11 := f6.row (mk (0))
      replace b0 := laid_two b0 (q) (0)
      replace b1 := laid_two b1 (q) (0)
      replace b5 := laid_two b5 (q) (0)
      replace b6 := laid_two b6 (q) (0)
      replace b7 := laid_two b7 (q) (0)
      replace b8 := laid_two b8 (q) (0)
      replace hb := laid_below2 hb (q) (0)
      go_wp2_with (first | (with_reducible refine alW2 rfl rfl ?_) | (with_reducible refine alW rfl rfl ?_) | (with_reducible refine stM rfl rfl rfl rfl f5 (wd_length _ _) ?_) | (with_reducible refine stM rfl rfl rfl rfl f6 (wd_length _ _) ?_))
      clear f5 f6
      generalize (((w1.alloc (.cells (wd false 0).toArray 25)).alloc (.cells (wd false 0).toArray 25)).setRow w1.heap.size (mk (q)).toArray).setRow (w1.heap.size + 1) (mk (0)).toArray = W at *
      generalize w1.heap.size + 1 = pl_b11 at *
      generalize w1.heap.size = pl_b10 at *
      have g0 : (mk g)[0]? = some (.bool false) := by
        unfold mk wd; rw [GN.out]; rfl
      refine rg_start [] (by kernel_rfl) (fun hS => ?_)
      replace hb := hb.drew
      refine rg_take 0 rfl (by as_aux_lemma => kernel_rfl) (by as_aux_lemma => kernel_rfl) (by as_aux_lemma => kernel_rfl) (by as_aux_lemma => rfl) hS (v := ?_) ?_ ?_
      rotate_left
      · (intro w' hS'; go_simp <;> try with_reducible rfl)
      try simp only [Act.put, List.setIfInBounds_toArray, List.set_cons_zero, List.set_cons_succ]
      refine rg_take 1 rfl (by as_aux_lemma => kernel_rfl) (by as_aux_lemma => kernel_rfl) (by as_aux_lemma => kernel_rfl) (by as_aux_lemma => rfl) hS (v := ?_) ?_ ?_
      rotate_left
      · (intro w' hS'; go_simp <;> try with_reducible rfl)
      try simp only [Act.put, List.setIfInBounds_toArray, List.set_cons_zero, List.set_cons_succ]
      refine rg_take 2 rfl (by as_aux_lemma => kernel_rfl) (by as_aux_lemma => kernel_rfl) (by as_aux_lemma => kernel_rfl) (by as_aux_lemma => rfl) hS (v := ?_) ?_ ?_
      rotate_left
      · (intro w' hS'; go_simp <;> try with_reducible rfl)
      try simp only [Act.put, List.setIfInBounds_toArray, List.set_cons_zero, List.set_cons_succ]
      refine rg_take 3 rfl (by as_aux_lemma => kernel_rfl) (by as_aux_lemma => kernel_rfl) (by as_aux_lemma => kernel_rfl) (by as_aux_lemma => rfl) hS (v := ?_) ?_ ?_
      rotate_left
      · (intro w' hS'; go_simp <;> try with_reducible rfl)
      try simp only [Act.put, List.setIfInBounds_toArray, List.set_cons_zero, List.set_cons_succ]
      refine rg_take 4 rfl (by as_aux_lemma => kernel_rfl) (by as_aux_lemma => kernel_rfl) (by as_aux_lemma => kernel_rfl) (by as_aux_lemma => rfl) hS (v := ?_) ?_ ?_
      rotate_left
      · (intro w' hS'; go_simp <;> try with_reducible rfl)
      try simp only [Act.put, List.setIfInBounds_toArray, List.set_cons_zero, List.set_cons_succ]
      refine rg_ld 5 rfl (by as_aux_lemma => kernel_rfl) (by as_aux_lemma => kernel_rfl) (by as_aux_lemma => kernel_rfl) (by as_aux_lemma => rfl) hS rfl rfl b8 (by simp <;> omega) (wholeM _) ?_
      try simp only [Act.put, List.setIfInBounds_toArray, List.set_cons_zero, List.set_cons_succ]
      refine rg_ld 6 rfl (by as_aux_lemma => kernel_rfl) (by as_aux_lemma => kernel_rfl) (by as_aux_lemma => kernel_rfl) (by as_aux_lemma => rfl) hS rfl rfl b6 (by simp <;> omega) (wholeM _) ?_
      try simp only [Act.put, List.setIfInBounds_toArray, List.set_cons_zero, List.set_cons_succ]
      refine rg_take 7 rfl (by as_aux_lemma => kernel_rfl) (by as_aux_lemma => kernel_rfl) (by as_aux_lemma => kernel_rfl) (by as_aux_lemma => rfl) hS (v := .bool true) (fun w' _ => op_eqM (z := 0) fits0 rfl rfl rfl w') ?_
      try simp only [Act.put, List.setIfInBounds_toArray, List.set_cons_zero, List.set_cons_succ]
      refine rg_take 8 rfl (by as_aux_lemma => kernel_rfl) (by as_aux_lemma => kernel_rfl) (by as_aux_lemma => kernel_rfl) (by as_aux_lemma => rfl) hS (v := ?_) ?_ ?_
      rotate_left
      · (intro w' hS'; go_simp <;> try with_reducible rfl)
      try simp only [Act.put, List.setIfInBounds_toArray, List.set_cons_zero, List.set_cons_succ]
      refine rg_take 9 rfl (by as_aux_lemma => kernel_rfl) (by as_aux_lemma => kernel_rfl) (by as_aux_lemma => kernel_rfl) (by as_aux_lemma => rfl) hS (v := ?_) ?_ ?_
      rotate_left
      · (intro w' hS'; go_simp <;> try with_reducible rfl)
      try simp only [Act.put, List.setIfInBounds_toArray, List.set_cons_zero, List.set_cons_succ]
      refine rg_ld 10 rfl (by as_aux_lemma => kernel_rfl) (by as_aux_lemma => kernel_rfl) (by as_aux_lemma => kernel_rfl) (by as_aux_lemma => rfl) hS rfl rfl b11 (by simp <;> omega) (wholeM _) ?_
      try simp only [Act.put, List.setIfInBounds_toArray, List.set_cons_zero, List.set_cons_succ]
      refine rg_ld 11 rfl (by as_aux_lemma => kernel_rfl) (by as_aux_lemma => kernel_rfl) (by as_aux_lemma => kernel_rfl) (by as_aux_lemma => rfl) hS rfl rfl b6 (by simp <;> omega) (wholeM _) ?_
      try simp only [Act.put, List.setIfInBounds_toArray, List.set_cons_zero, List.set_cons_succ]
      refine rg_take 12 rfl (by as_aux_lemma => kernel_rfl) (by as_aux_lemma => kernel_rfl) (by as_aux_lemma => kernel_rfl) (by as_aux_lemma => rfl) hS (v := .bool true) (fun w' _ => op_eqM (z := 0) fits0 rfl rfl rfl w') ?_
      try simp only [Act.put, List.setIfInBounds_toArray, List.set_cons_zero, List.set_cons_succ]
      refine rg_take 13 rfl (by as_aux_lemma => kernel_rfl) (by as_aux_lemma => kernel_rfl) (by as_aux_lemma => kernel_rfl) (by as_aux_lemma => rfl) hS (v := ?_) ?_ ?_
      rotate_left
      · (intro w' hS'; go_simp <;> try with_reducible rfl)
      try simp only [Act.put, List.setIfInBounds_toArray, List.set_cons_zero, List.set_cons_succ]
      refine rg_take 14 rfl (by as_aux_lemma => kernel_rfl) (by as_aux_lemma => kernel_rfl) (by as_aux_lemma => kernel_rfl) (by as_aux_lemma => rfl) hS (v := ?_) ?_ ?_
      rotate_left
      · (intro w' hS'; go_simp <;> try with_reducible rfl)
      try simp only [Act.put, List.setIfInBounds_toArray, List.set_cons_zero, List.set_cons_succ]
      refine rg_take 15 rfl (by as_aux_lemma => kernel_rfl) (by as_aux_lemma => kernel_rfl) (by as_aux_lemma => kernel_rfl) (by as_aux_lemma => rfl) hS (v := ?_) ?_ ?_
      rotate_left
      · (intro w' hS'; go_simp <;> try with_reducible rfl)
      try simp only [Act.put, List.setIfInBounds_toArray, List.set_cons_zero, List.set_cons_succ]
      refine rg_take 16 rfl (by as_aux_lemma => kernel_rfl) (by as_aux_lemma => kernel_rfl) (by as_aux_lemma => kernel_rfl) (by as_aux_lemma => rfl) hS (v := ?_) ?_ ?_
      rotate_left
      · (intro w' hS'; have hc := (b5.keep hS' (by simp <;> omega)).cell (i := 0) (v := .bool false) g0; go_simp <;> try with_reducible rfl)
      try simp only [Act.put, List.setIfInBounds_toArray, List.set_cons_zero, List.set_cons_succ]
      refine rg_take 17 rfl (by as_aux_lemma => kernel_rfl) (by as_aux_lemma => kernel_rfl) (by as_aux_lemma => kernel_rfl) (by as_aux_lemma => rfl) hS (v := ?_) ?_ ?_
      rotate_left
      · (intro w' hS'; go_simp <;> try with_reducible rfl)
      try simp only [Act.put, List.setIfInBounds_toArray, List.set_cons_zero, List.set_cons_succ]
      refine rg_take 18 rfl (by as_aux_lemma => kernel_rfl) (by as_aux_lemma => kernel_rfl) (by as_aux_lemma => kernel_rfl) (by as_aux_lemma => rfl) hS (v := ?_) ?_ ?_
      rotate_left
      · (intro w' hS'; go_simp <;> try with_reducible rfl)
      try simp only [Act.put, List.setIfInBounds_toArray, List.set_cons_zero, List.set_cons_succ]
      refine rg_take 19 rfl (by as_aux_lemma => kernel_rfl) (by as_aux_lemma => kernel_rfl) (by as_aux_lemma => kernel_rfl) (by as_aux_lemma => rfl) hS (v := ?_) ?_ ?_
      rotate_left
      · (intro w' hS'; go_simp <;> try with_reducible rfl)
      try simp only [Act.put, List.setIfInBounds_toArray, List.set_cons_zero, List.set_cons_succ]
      refine rg_ld 20 rfl (by as_aux_lemma => kernel_rfl) (by as_aux_lemma => kernel_rfl) (by as_aux_lemma => kernel_rfl) (by as_aux_lemma => rfl) hS rfl rfl b5 (by simp <;> omega) (wholeM _) ?_
      try simp only [Act.put, List.setIfInBounds_toArray, List.set_cons_zero, List.set_cons_succ]
      refine rg_ld 21 rfl (by as_aux_lemma => kernel_rfl) (by as_aux_lemma => kernel_rfl) (by as_aux_lemma => kernel_rfl) (by as_aux_lemma => rfl) hS rfl rfl b1 (by simp <;> omega) (wholeM _) ?_
      try simp only [Act.put, List.setIfInBounds_toArray, List.set_cons_zero, List.set_cons_succ]
      refine rg_ld 22 rfl (by as_aux_lemma => kernel_rfl) (by as_aux_lemma => kernel_rfl) (by as_aux_lemma => kernel_rfl) (by as_aux_lemma => rfl) hS rfl rfl b0 (by simp <;> omega) (wholeM _) ?_
      try simp only [Act.put, List.setIfInBounds_toArray, List.set_cons_zero, List.set_cons_succ]
      refine rg_eff 23 rfl (by as_aux_lemma => kernel_rfl) (by as_aux_lemma => rfl) (fun K hK => ?_)
      go_simp
      refine (HG2.out _).mono ?_
      rintro e w1 ⟨rfl, h1⟩
      refine hK _ _ (hS.call h1) (fun hS => ?_)
      clear hK K
      replace hb := bthen hb h1
      clear h1
      try simp only [Act.put, List.setIfInBounds_toArray, List.set_cons_zero, List.set_cons_succ]
      refine rg_take 24 rfl (by as_aux_lemma => kernel_rfl) (by as_aux_lemma => kernel_rfl) (by as_aux_lemma => kernel_rfl) (by as_aux_lemma => rfl) hS (v := .bool true) (fun w' _ => op_eqM (z := g) FG.out rfl rfl rfl w') ?_
      try simp only [Act.put, List.setIfInBounds_toArray, List.set_cons_zero, List.set_cons_succ]
      refine rg_take 25 rfl (by as_aux_lemma => kernel_rfl) (by as_aux_lemma => kernel_rfl) (by as_aux_lemma => kernel_rfl) (by as_aux_lemma => rfl) hS (v := ?_) ?_ ?_
      rotate_left
      · (intro w' hS'; go_simp <;> try with_reducible rfl)
      try simp only [Act.put, List.setIfInBounds_toArray, List.set_cons_zero, List.set_cons_succ]
      refine rg_take 26 rfl (by as_aux_lemma => kernel_rfl) (by as_aux_lemma => kernel_rfl) (by as_aux_lemma => kernel_rfl) (by as_aux_lemma => rfl) hS (v := ?_) ?_ ?_
      rotate_left
      · (intro w' hS'; go_simp <;> try with_reducible rfl)
      try simp only [Act.put, List.setIfInBounds_toArray, List.set_cons_zero, List.set_cons_succ]
      refine rg_ld 27 rfl (by as_aux_lemma => kernel_rfl) (by as_aux_lemma => kernel_rfl) (by as_aux_lemma => kernel_rfl) (by as_aux_lemma => rfl) hS rfl rfl b5 (by simp <;> omega) (wholeM _) ?_
      try simp only [Act.put, List.setIfInBounds_toArray, List.set_cons_zero, List.set_cons_succ]
      refine rg_ld 28 rfl (by as_aux_lemma => kernel_rfl) (by as_aux_lemma => kernel_rfl) (by as_aux_lemma => kernel_rfl) (by as_aux_lemma => rfl) hS rfl rfl b0 (by simp <;> omega) (wholeM _) ?_
      try simp only [Act.put, List.setIfInBounds_toArray, List.set_cons_zero, List.set_cons_succ]
      refine rg_ld 30 rfl (by as_aux_lemma => kernel_rfl) (by as_aux_lemma => kernel_rfl) (by as_aux_lemma => kernel_rfl) (by as_aux_lemma => rfl) hS rfl rfl b1 (by simp <;> omega) (wholeM _) ?_
      try simp only [Act.put, List.setIfInBounds_toArray, List.set_cons_zero, List.set_cons_succ]
      refine rg_eff 29 rfl (by as_aux_lemma => kernel_rfl) (by as_aux_lemma => rfl) (fun K hK => ?_)
      go_simp
      refine (Neg_w (wd_of HX.out) _).mono ?_
      rintro e w1 ⟨rfl, h1⟩
      refine hK _ _ (hS.call h1) (fun hS => ?_)
      clear hK K
      replace hb := bthen hb h1
      clear h1
      try simp only [Act.put, List.setIfInBounds_toArray, List.set_cons_zero, List.set_cons_succ]
      refine rg_eff 31 rfl (by as_aux_lemma => kernel_rfl) (by as_aux_lemma => rfl) (fun K hK => ?_)
      go_simp
      refine (HG3.out _).mono ?_
      rintro e w1 ⟨rfl, h1⟩
      refine hK _ _ (hS.call h1) (fun hS => ?_)
      clear hK K
      replace hb := bthen hb h1
      clear h1
      try simp only [Act.put, List.setIfInBounds_toArray, List.set_cons_zero, List.set_cons_succ]
      refine rg_take 32 rfl (by as_aux_lemma => kernel_rfl) (by as_aux_lemma => kernel_rfl) (by as_aux_lemma => kernel_rfl) (by as_aux_lemma => rfl) hS (v := .bool true) (fun w' _ => op_eqM (z := g) FG.out rfl rfl rfl w') ?_
      try simp only [Act.put, List.setIfInBounds_toArray, List.set_cons_zero, List.set_cons_succ]
      refine rg_take 33 rfl (by as_aux_lemma => kernel_rfl) (by as_aux_lemma => kernel_rfl) (by as_aux_lemma => kernel_rfl) (by as_aux_lemma => rfl) hS (v := ?_) ?_ ?_
      rotate_left
      · (intro w' hS'; go_simp <;> try with_reducible rfl)
      try simp only [Act.put, List.setIfInBounds_toArray, List.set_cons_zero, List.set_cons_succ]
      refine rg_take 34 rfl (by as_aux_lemma => kernel_rfl) (by as_aux_lemma => kernel_rfl) (by as_aux_lemma => kernel_rfl) (by as_aux_lemma => rfl) hS (v := ?_) ?_ ?_
      rotate_left
      · (intro w' hS'; go_simp <;> try with_reducible rfl)
      try simp only [Act.put, List.setIfInBounds_toArray, List.set_cons_zero, List.set_cons_succ]
      refine rg_ld 35 rfl (by as_aux_lemma => kernel_rfl) (by as_aux_lemma => kernel_rfl) (by as_aux_lemma => kernel_rfl) (by as_aux_lemma => rfl) hS rfl rfl b7 (by simp <;> omega) (wholeM _) ?_
      try simp only [Act.put, List.setIfInBounds_toArray, List.set_cons_zero, List.set_cons_succ]
      refine rg_ld 36 rfl (by as_aux_lemma => kernel_rfl) (by as_aux_lemma => kernel_rfl) (by as_aux_lemma => kernel_rfl) (by as_aux_lemma => rfl) hS rfl rfl b10 (by simp <;> omega) (wholeM _) ?_
      try simp only [Act.put, List.setIfInBounds_toArray, List.set_cons_zero, List.set_cons_succ]
      refine rg_eff 37 rfl (by as_aux_lemma => kernel_rfl) (by as_aux_lemma => rfl) (fun K hK => ?_)
      go_simp
      refine (HG4.out _).mono ?_
      rintro e w1 ⟨rfl, h1⟩
      refine hK _ _ (hS.call h1) (fun hS => ?_)
      clear hK K
      replace hb := bthen hb h1
      clear h1
      try simp only [Act.put, List.setIfInBounds_toArray, List.set_cons_zero, List.set_cons_succ]
      refine rg_eff 38 rfl (by as_aux_lemma => kernel_rfl) (by as_aux_lemma => rfl) (fun K hK => ?_)
      go_simp
      refine (k_from 1 (by decide) (by decide) _).mono ?_
      rintro e w1 ⟨rfl, h1⟩
      refine hK _ _ (hS.call h1) (fun hS => ?_)
      clear hK K
      replace hb := bthen hb h1
      clear h1
      try simp only [Act.put, List.setIfInBounds_toArray, List.set_cons_zero, List.set_cons_succ]
      refine rg_take 39 rfl (by as_aux_lemma => kernel_rfl) (by as_aux_lemma => kernel_rfl) (by as_aux_lemma => kernel_rfl) (by as_aux_lemma => rfl) hS (v := .bool true) (fun w' _ => op_eqM (z := 1) fits1 rfl rfl rfl w') ?_
      try simp only [Act.put, List.setIfInBounds_toArray, List.set_cons_zero, List.set_cons_succ]
      refine rg_take 40 rfl (by as_aux_lemma => kernel_rfl) (by as_aux_lemma => kernel_rfl) (by as_aux_lemma => kernel_rfl) (by as_aux_lemma => rfl) hS (v := ?_) ?_ ?_
      rotate_left
      · (intro w' hS'; go_simp <;> try with_reducible rfl)
      try simp only [Act.put, List.setIfInBounds_toArray, List.set_cons_zero, List.set_cons_succ]
      refine rg_take 41 rfl (by as_aux_lemma => kernel_rfl) (by as_aux_lemma => kernel_rfl) (by as_aux_lemma => kernel_rfl) (by as_aux_lemma => rfl) hS (v := ?_) ?_ ?_
      rotate_left
      · (intro w' hS'; go_simp <;> try with_reducible rfl)
      try simp only [Act.put, List.setIfInBounds_toArray, List.set_cons_zero, List.set_cons_succ]
      refine rg_done (by kernel_rfl) ?_
      go_wp2
      go_ret
      exact ⟨rfl, hb⟩
    · clear h
      refine (HG1.out _).mono ?_
      rintro e w1 ⟨rfl, h1⟩
      replace b0 := b0.call h1
      replace b1 := b1.call h1
      replace hb := bthen hb h1
      clear h1
      have f := Blk.new w1 (wd false 0) 25 rfl
      have b5 := laid_new w1 (g)
      replace b0 := laid_old b0 (g)
      replace b1 := laid_old b1 (g)
      replace hb := laid_below hb (g)
      go_wp2_with (first | (with_reducible refine alW rfl rfl ?_) | (with_reducible refine stM rfl rfl rfl rfl f (wd_length _ _) ?_))
      clear f
      generalize (w1.alloc (.cells (wd false 0).toArray 25)).setRow w1.heap.size (mk (g)).toArray = W at *
      generalize w1.heap.size = pl_b5 at *
      refine (k_from 0 (by decide) (by decide) _).mono ?_
      rintro e w1 ⟨rfl, h1⟩
      replace b0 := b0.call h1
      replace b1 := b1.call h1
      replace b5 := b5.call h1
      replace hb := bthen hb h1
      clear h1
      have f := Blk.new w1 (wd false 0) 25 rfl
      have b6 := laid_new w1 (0)
      replace b0 := laid_old b0 (0)
      replace b1 := laid_old b1 (0)
      replace b5 := laid_old b5 (0)
      replace hb := laid_below hb (0)
      go_wp2_with (first | (with_reducible refine alW rfl rfl ?_) | (with_reducible refine stM rfl rfl rfl rfl f (wd_length _ _) ?_) | (with_reducible refine ldM rfl rfl rfl b0 ?_) | (with_reducible refine ldM rfl rfl rfl b1 ?_) | (with_reducible refine ldM rfl rfl rfl b5 ?_) | (with_reducible refine ldM rfl rfl rfl b6 ?_) | (refine ldMg (by rfl) rfl rfl b1 ?_) | (refine ldMg (by rfl) rfl rfl b6 ?_) | (with_reducible refine eqZ rfl rfl rfl rfl HX.out fits0 ?_) | (refine eqZg (by rfl) rfl rfl rfl HY.out fits0 ?_))
      clear f
      generalize (w1.alloc (.cells (wd false 0).toArray 25)).setRow w1.heap.size (mk (0)).toArray = W at *
      generalize w1.heap.size = pl_b6 at *
      refine (HD1.out _).mono ?_
      rintro e w1 ⟨rfl, h1⟩
      replace b0 := b0.call h1
      replace b1 := b1.call h1
      replace b5 := b5.call h1
      replace b6 := b6.call h1
      replace hb := bthen hb h1
      clear h1
      have f5 := (Blk.new w1 (wd false 0) 25 rfl).old (.cells (wd false 0).toArray 25)
      have f6 := (Blk.new (w1.alloc (.cells (wd false 0).toArray 25)) (wd false 0) 25 (b := w1.heap.size + 1) (by simp)).rowOther (g := w1.heap.size) (mk (p)).toArray (by omega)
      have b7 := (f5.row (mk (p))).rowOther (g := w1.heap.size + 1) (mk (0)).toArray (by omega)
      have b8 := f6.row (mk (0))
      replace b0 := laid_two b0 (p) (0)
      replace b1 := laid_two b1 (p) (0)
      replace b5 := laid_two b5 (p) (0)
      replace b6 := laid_two b6 (p) (0)
      replace hb := laid_below2 hb (p) (0)
      go_wp2_with (first | (with_reducible refine alW2 rfl rfl ?_) | (with_reducible refine alW rfl rfl ?_) | (with_reducible refine stM rfl rfl rfl rfl f5 (wd_length _ _) ?_) | (with_reducible refine stM rfl rfl rfl rfl f6 (wd_length _ _) ?_) | (with_reducible refine ldM rfl rfl rfl b1 ?_) | (with_reducible refine ldM rfl rfl rfl b5 ?_))
      clear f5 f6
      generalize (((w1.alloc (.cells (wd false 0).toArray 25)).alloc (.cells (wd false 0).toArray 25)).setRow w1.heap.size (mk (p)).toArray).setRow (w1.heap.size + 1) (mk (0)).toArray = W at *
      generalize w1.heap.size + 1 = pl_b8 at *
      generalize w1.heap.size = pl_b7 at *
      refine (HD2.out _).mono ?_
      rintro e w1 ⟨rfl, h1⟩
      replace b0 := b0.call h1
      replace b1 := b1.call h1
      replace b5 := b5.call h1
      replace b6 := b6.call h1
      replace b7 := b7.call h1
      replace b8 := b8.call h1
      replace hb := bthen hb h1
      clear h1
      have f5 := (Blk.new w1 (wd false 0) 25 rfl).old (.cells (wd false 0).toArray 25)
      have f6 := (Blk.new (w1.alloc (.cells (wd false 0).toArray 25)) (wd false 0) 25 (b := w1.heap.size + 1) (by simp)).rowOther (g := w1.heap.size) (mk (q)).toArray (by omega)
      have b10 := (f5.row (mk (q))).rowOther (g := w1.heap.size + 1) (mk (0)).toArray (by omega)
      have b11 := f6.row (mk (0))
      replace b0 := laid_two b0 (q) (0)
      replace b1 := laid_two b1 (q) (0)
      replace b5 := laid_two b5 (q) (0)
      replace b6 := laid_two b6 (q) (0)
      replace b7 := laid_two b7 (q) (0)
      replace b8 := laid_two b8 (q) (0)
      replace hb := laid_below2 hb (q) (0)
      go_wp2_with (first | (with_reducible refine alW2 rfl rfl ?_) | (with_reducible refine alW rfl rfl ?_) | (with_reducible refine stM rfl rfl rfl rfl f5 (wd_length _ _) ?_) | (with_reducible refine stM rfl rfl rfl rfl f6 (wd_length _ _) ?_))
      clear f5 f6
      generalize (((w1.alloc (.cells (wd false 0).toArray 25)).alloc (.cells (wd false 0).toArray 25)).setRow w1.heap.size (mk (q)).toArray).setRow (w1.heap.size + 1) (mk (0)).toArray = W at *
      generalize w1.heap.size + 1 = pl_b11 at *
      generalize w1.heap.size = pl_b10 at *
      have g0 : (mk g)[0]? = some (.bool false) := by
        unfold mk wd; rw [GN.out]; rfl
      refine rg_start [] (by kernel_rfl) (fun hS => ?_)
      replace hb := hb.drew
      refine rg_take 0 rfl (by as_aux_lemma => kernel_rfl) (by as_aux_lemma => kernel_rfl) (by as_aux_lemma => kernel_rfl) (by as_aux_lemma => rfl) hS (v := ?_) ?_ ?_
      rotate_left
      · (intro w' hS'; go_simp <;> try with_reducible rfl)
      try simp only [Act.put, List.setIfInBounds_toArray, List.set_cons_zero, List.set_cons_succ]
      refine rg_take 1 rfl (by as_aux_lemma => kernel_rfl) (by as_aux_lemma => kernel_rfl) (by as_aux_lemma => kernel_rfl) (by as_aux_lemma => rfl) hS (v := ?_) ?_ ?_
      rotate_left
      · (intro w' hS'; go_simp <;> try with_reducible rfl)
      try simp only [Act.put, List.setIfInBounds_toArray, List.set_cons_zero, List.set_cons_succ]
      refine rg_take 2 rfl (by as_aux_lemma => kernel_rfl) (by as_aux_lemma => kernel_rfl) (by as_aux_lemma => kernel_rfl) (by as_aux_lemma => rfl) hS (v := ?_) ?_ ?_
      rotate_left
      · (intro w' hS'; go_simp <;> try with_reducible rfl)
      try simp only [Act.put, List.setIfInBounds_toArray, List.set_cons_zero, List.set_cons_succ]
      refine rg_take 3 rfl (by as_aux_lemma => kernel_rfl) (by as_aux_lemma => kernel_rfl) (by as_aux_lemma => kernel_rfl) (by as_aux_lemma => rfl) hS (v := ?_) ?_ ?_
      rotate_left
      · (intro w' hS'; go_simp <;> try with_reducible rfl)
      try simp only [Act.put, List.setIfInBounds_toArray, List.set_cons_zero, List.set_cons_succ]
      refine rg_take 4 rfl (by as_aux_lemma => kernel_rfl) (by as_aux_lemma => kernel_rfl) (by as_aux_lemma => kernel_rfl) (by as_aux_lemma => rfl) hS (v := ?_) ?_ ?_
      rotate_left
      · (intro w' hS'; go_simp <;> try with_reducible rfl)
      try simp only [Act.put, List.setIfInBounds_toArray, List.set_cons_zero, List.set_cons_succ]
      refine rg_ld 5 rfl (by as_aux_lemma => kernel_rfl) (by as_aux_lemma => kernel_rfl) (by as_aux_lemma => kernel_rfl) (by as_aux_lemma => rfl) hS rfl rfl b8 (by simp <;> omega) (wholeM _) ?_
      try simp only [Act.put, List.setIfInBounds_toArray, List.set_cons_zero, List.set_cons_succ]
      refine rg_ld 6 rfl (by as_aux_lemma => kernel_rfl) (by as_aux_lemma => kernel_rfl) (by as_aux_lemma => kernel_rfl) (by as_aux_lemma => rfl) hS rfl rfl b6 (by simp <;> omega) (wholeM _) ?_
      try simp only [Act.put, List.setIfInBounds_toArray, List.set_cons_zero, List.set_cons_succ]
      refine rg_take 7 rfl (by as_aux_lemma => kernel_rfl) (by as_aux_lemma => kernel_rfl) (by as_aux_lemma => kernel_rfl) (by as_aux_lemma => rfl) hS (v := .bool true) (fun w' _ => op_eqM (z := 0) fits0 rfl rfl rfl w') ?_
      try simp only [Act.put, List.setIfInBounds_toArray, List.set_cons_zero, List.set_cons_succ]
      refine rg_take 8 rfl (by as_aux_lemma => kernel_rfl) (by as_aux_lemma => kernel_rfl) (by as_aux_lemma => kernel_rfl) (by as_aux_lemma => rfl) hS (v := ?_) ?_ ?_
      rotate_left
      · (intro w' hS'; go_simp <;> try with_reducible rfl)
      try simp only [Act.put, List.setIfInBounds_toArray, List.set_cons_zero, List.set_cons_succ]
      refine rg_take 9 rfl (by as_aux_lemma => kernel_rfl) (by as_aux_lemma => kernel_rfl) (by as_aux_lemma => kernel_rfl) (by as_aux_lemma => rfl) hS (v := ?_) ?_ ?_
      rotate_left
      · (intro w' hS'; go_simp <;> try with_reducible rfl)
      try simp only [Act.put, List.setIfInBounds_toArray, List.set_cons_zero, List.set_cons_succ]
      refine rg_ld 10 rfl (by as_aux_lemma => kernel_rfl) (by as_aux_lemma => kernel_rfl) (by as_aux_lemma => kernel_rfl) (by as_aux_lemma => rfl) hS rfl rfl b11 (by simp <;> omega) (wholeM _) ?_
      try simp only [Act.put, List.setIfInBounds_toArray, List.set_cons_zero, List.set_cons_succ]
      refine rg_ld 11 rfl (by as_aux_lemma => kernel_rfl) (by as_aux_lemma => kernel_rfl) (by as_aux_lemma => kernel_rfl) (by as_aux_lemma => rfl) hS rfl rfl b6 (by simp <;> omega) (wholeM _) ?_
      try simp only [Act.put, List.setIfInBounds_toArray, List.set_cons_zero, List.set_cons_succ]
      refine rg_take 12 rfl (by as_aux_lemma => kernel_rfl) (by as_aux_lemma => kernel_rfl) (by as_aux_lemma => kernel_rfl) (by as_aux_lemma => rfl) hS (v := .bool true) (fun w' _ => op_eqM (z := 0) fits0 rfl rfl rfl w') ?_
      try simp only [Act.put, List.setIfInBounds_toArray, List.set_cons_zero, List.set_cons_succ]
      refine rg_take 13 rfl (by as_aux_lemma => kernel_rfl) (by as_aux_lemma => kernel_rfl) (by as_aux_lemma => kernel_rfl) (by as_aux_lemma => rfl) hS (v := ?_) ?_ ?_
      rotate_left
      · (intro w' hS'; go_simp <;> try with_reducible rfl)
      try simp only [Act.put, List.setIfInBounds_toArray, List.set_cons_zero, List.set_cons_succ]
      refine rg_take 14 rfl (by as_aux_lemma => kernel_rfl) (by as_aux_lemma => kernel_rfl) (by as_aux_lemma => kernel_rfl) (by as_aux_lemma => rfl) hS (v := ?_) ?_ ?_
      rotate_left
      · (intro w' hS'; go_simp <;> try with_reducible rfl)
      try simp only [Act.put, List.setIfInBounds_toArray, List.set_cons_zero, List.set_cons_succ]
      refine rg_take 15 rfl (by as_aux_lemma => kernel_rfl) (by as_aux_lemma => kernel_rfl) (by as_aux_lemma => kernel_rfl) (by as_aux_lemma => rfl) hS (v := ?_) ?_ ?_
      rotate_left
      · (intro w' hS'; go_simp <;> try with_reducible rfl)
      try simp only [Act.put, List.setIfInBounds_toArray, List.set_cons_zero, List.set_cons_succ]
      refine rg_take 16 rfl (by as_aux_lemma => kernel_rfl) (by as_aux_lemma => kernel_rfl) (by as_aux_lemma => kernel_rfl) (by as_aux_lemma => rfl) hS (v := ?_) ?_ ?_
      rotate_left
      · (intro w' hS'; have hc := (b5.keep hS' (by simp <;> omega)).cell (i := 0) (v := .bool false) g0; go_simp <;> try with_reducible rfl)
      try simp only [Act.put, List.setIfInBounds_toArray, List.set_cons_zero, List.set_cons_succ]
      refine rg_take 17 rfl (by as_aux_lemma => kernel_rfl) (by as_aux_lemma => kernel_rfl) (by as_aux_lemma => kernel_rfl) (by as_aux_lemma => rfl) hS (v := ?_) ?_ ?_
      rotate_left
      · (intro w' hS'; go_simp <;> try with_reducible rfl)
      try simp only [Act.put, List.setIfInBounds_toArray, List.set_cons_zero, List.set_cons_succ]
      refine rg_take 18 rfl (by as_aux_lemma => kernel_rfl) (by as_aux_lemma => kernel_rfl) (by as_aux_lemma => kernel_rfl) (by as_aux_lemma => rfl) hS (v := ?_) ?_ ?_
      rotate_left
      · (intro w' hS'; go_simp <;> try with_reducible rfl)
      try simp only [Act.put, List.setIfInBounds_toArray, List.set_cons_zero, List.set_cons_succ]
      refine rg_take 19 rfl (by as_aux_lemma => kernel_rfl) (by as_aux_lemma => kernel_rfl) (by as_aux_lemma => kernel_rfl) (by as_aux_lemma => rfl) hS (v := ?_) ?_ ?_
      rotate_left
      · (intro w' hS'; go_simp <;> try with_reducible rfl)
      try simp only [Act.put, List.setIfInBounds_toArray, List.set_cons_zero, List.set_cons_succ]
      refine rg_ld 20 rfl (by as_aux_lemma => kernel_rfl) (by as_aux_lemma => kernel_rfl) (by as_aux_lemma => kernel_rfl) (by as_aux_lemma => rfl) hS rfl rfl b5 (by simp <;> omega) (wholeM _) ?_
      try simp only [Act.put, List.setIfInBounds_toArray, List.set_cons_zero, List.set_cons_succ]
      refine rg_ld 21 rfl (by as_aux_lemma => kernel_rfl) (by as_aux_lemma => kernel_rfl) (by as_aux_lemma => kernel_rfl) (by as_aux_lemma => rfl) hS rfl rfl b1 (by simp <;> omega) (wholeM _) ?_
      try simp only [Act.put, List.setIfInBounds_toArray, List.set_cons_zero, List.set_cons_succ]
      refine rg_ld 22 rfl (by as_aux_lemma => kernel_rfl) (by as_aux_lemma => kernel_rfl) (by as_aux_lemma => kernel_rfl) (by as_aux_lemma => rfl) hS rfl rfl b0 (by simp <;> omega) (wholeM _) ?_
      try simp only [Act.put, List.setIfInBounds_toArray, List.set_cons_zero, List.set_cons_succ]
      refine rg_eff 23 rfl (by as_aux_lemma => kernel_rfl) (by as_aux_lemma => rfl) (fun K hK => ?_)
      go_simp
      refine (HG2.out _).mono ?_
      rintro e w1 ⟨rfl, h1⟩
      refine hK _ _ (hS.call h1) (fun hS => ?_)
      clear hK K
      replace hb := bthen hb h1
      clear h1
      try simp only [Act.put, List.setIfInBounds_toArray, List.set_cons_zero, List.set_cons_succ]
      refine rg_take 24 rfl (by as_aux_lemma => kernel_rfl) (by as_aux_lemma => kernel_rfl) (by as_aux_lemma => kernel_rfl) (by as_aux_lemma => rfl) hS (v := .bool true) (fun w' _ => op_eqM (z := g) FG.out rfl rfl rfl w') ?_
      try simp only [Act.put, List.setIfInBounds_toArray, List.set_cons_zero, List.set_cons_succ]
      refine rg_take 25 rfl (by as_aux_lemma => kernel_rfl) (by as_aux_lemma => kernel_rfl) (by as_aux_lemma => kernel_rfl) (by as_aux_lemma => rfl) hS (v := ?_) ?_ ?_
      rotate_left
      · (intro w' hS'; go_simp <;> try with_reducible rfl)
      try simp only [Act.put, List.setIfInBounds_toArray, List.set_cons_zero, List.set_cons_succ]
      refine rg_take 26 rfl (by as_aux_lemma => kernel_rfl) (by as_aux_lemma => kernel_rfl) (by as_aux_lemma => kernel_rfl) (by as_aux_lemma => rfl) hS (v := ?_) ?_ ?_
      rotate_left
      · (intro w' hS'; go_simp <;> try with_reducible rfl)
      try simp only [Act.put, List.setIfInBounds_toArray, List.set_cons_zero, List.set_cons_succ]
      refine rg_ld 27 rfl (by as_aux_lemma => kernel_rfl) (by as_aux_lemma => kernel_rfl) (by as_aux_lemma => kernel_rfl) (by as_aux_lemma => rfl) hS rfl rfl b5 (by simp <;> omega) (wholeM _) ?_
      try simp only [Act.put, List.setIfInBounds_toArray, List.set_cons_zero, List.set_cons_succ]
      refine rg_ld 28 rfl (by as_aux_lemma => kernel_rfl) (by as_aux_lemma => kernel_rfl) (by as_aux_lemma => kernel_rfl) (by as_aux_lemma => rfl) hS rfl rfl b0 (by simp <;> omega) (wholeM _) ?_
      try simp only [Act.put, List.setIfInBounds_toArray, List.set_cons_zero, List.set_cons_succ]
      refine rg_ld 30 rfl (by as_aux_lemma => kernel_rfl) (by as_aux_lemma => kernel_rfl) (by as_aux_lemma => kernel_rfl) (by as_aux_lemma => rfl) hS rfl rfl b1 (by simp <;> omega) (wholeM _) ?_
      try simp only [Act.put, List.setIfInBounds_toArray, List.set_cons_zero, List.set_cons_succ]
      refine rg_eff 29 rfl (by as_aux_lemma => kernel_rfl) (by as_aux_lemma => rfl) (fun K hK => ?_)
      go_simp
      refine (Neg_w (wd_of HX.out) _).mono ?_
      rintro e w1 ⟨rfl, h1⟩
      refine hK _ _ (hS.call h1) (fun hS => ?_)
      clear hK K
      replace hb := bthen hb h1
      clear h1
      try simp only [Act.put, List.setIfInBounds_toArray, List.set_cons_zero, List.set_cons_succ]
      refine rg_eff 31 rfl (by as_aux_lemma => kernel_rfl) (by as_aux_lemma => rfl) (fun K hK => ?_)
      go_simp
      refine (HG3.out _).mono ?_
      rintro e w1 ⟨rfl, h1⟩
      refine hK _ _ (hS.call h1) (fun hS => ?_)
      clear hK K
      replace hb := bthen hb h1
      clear h1
      try simp only [Act.put, List.setIfInBounds_toArray, List.set_cons_zero, List.set_cons_succ]
      refine rg_take 32 rfl (by as_aux_lemma => kernel_rfl) (by as_aux_lemma => kernel_rfl) (by as_aux_lemma => kernel_rfl) (by as_aux_lemma => rfl) hS (v := .bool true) (fun w' _ => op_eqM (z := g) FG.out rfl rfl rfl w') ?_
      try simp only [Act.put, List.setIfInBounds_toArray, List.set_cons_zero, List.set_cons_succ]
      refine rg_take 33 rfl (by as_aux_lemma => kernel_rfl) (by as_aux_lemma => kernel_rfl) (by as_aux_lemma => kernel_rfl) (by as_aux_lemma => rfl) hS (v := ?_) ?_ ?_
      rotate_left
      · (intro w' hS'; go_simp <;> try with_reducible rfl)
      try simp only [Act.put, List.setIfInBounds_toArray, List.set_cons_zero, List.set_cons_succ]
      refine rg_take 34 rfl (by as_aux_lemma => kernel_rfl) (by as_aux_lemma => kernel_rfl) (by as_aux_lemma => kernel_rfl) (by as_aux_lemma => rfl) hS (v := ?_) ?_ ?_
      rotate_left
      · (intro w' hS'; go_simp <;> try with_reducible rfl)
      try simp only [Act.put, List.setIfInBounds_toArray, List.set_cons_zero, List.set_cons_succ]
      refine rg_ld 35 rfl (by as_aux_lemma => kernel_rfl) (by as_aux_lemma => kernel_rfl) (by as_aux_lemma => kernel_rfl) (by as_aux_lemma => rfl) hS rfl rfl b7 (by simp <;> omega) (wholeM _) ?_
      try simp only [Act.put, List.setIfInBounds_toArray, List.set_cons_zero, List.set_cons_succ]
      refine rg_ld 36 rfl (by as_aux_lemma => kernel_rfl) (by as_aux_lemma => kernel_rfl) (by as_aux_lemma => kernel_rfl) (by as_aux_lemma => rfl) hS rfl rfl b10 (by simp <;> omega) (wholeM _) ?_
      try simp only [Act.put, List.setIfInBounds_toArray, List.set_cons_zero, List.set_cons_succ]
      refine rg_eff 37 rfl (by as_aux_lemma => kernel_rfl) (by as_aux_lemma => rfl) (fun K hK => ?_)
      go_simp
      refine (HG4.out _).mono ?_
      rintro e w1 ⟨rfl, h1⟩
      refine hK _ _ (hS.call h1) (fun hS => ?_)
      clear hK K
      replace hb := bthen hb h1
      clear h1
      try simp only [Act.put, List.setIfInBounds_toArray, List.set_cons_zero, List.set_cons_succ]
      refine rg_eff 38 rfl (by as_aux_lemma => kernel_rfl) (by as_aux_lemma => rfl) (fun K hK => ?_)
      go_simp
      refine (k_from 1 (by decide) (by decide) _).mono ?_
      rintro e w1 ⟨rfl, h1⟩
      refine hK _ _ (hS.call h1) (fun hS => ?_)
      clear hK K
      replace hb := bthen hb h1
      clear h1
      try simp only [Act.put, List.setIfInBounds_toArray, List.set_cons_zero, List.set_cons_succ]
      refine rg_take 39 rfl (by as_aux_lemma => kernel_rfl) (by as_aux_lemma => kernel_rfl) (by as_aux_lemma => kernel_rfl) (by as_aux_lemma => rfl) hS (v := .bool true) (fun w' _ => op_eqM (z := 1) fits1 rfl rfl rfl w') ?_
      try simp only [Act.put, List.setIfInBounds_toArray, List.set_cons_zero, List.set_cons_succ]
      refine rg_take 40 rfl (by as_aux_lemma => kernel_rfl) (by as_aux_lemma => kernel_rfl) (by as_aux_lemma => kernel_rfl) (by as_aux_lemma => rfl) hS (v := ?_) ?_ ?_
      rotate_left
      · (intro w' hS'; go_simp <;> try with_reducible rfl)
      try simp only [Act.put, List.setIfInBounds_toArray, List.set_cons_zero, List.set_cons_succ]
      refine rg_take 41 rfl (by as_aux_lemma => kernel_rfl) (by as_aux_lemma => kernel_rfl) (by as_aux_lemma => kernel_rfl) (by as_aux_lemma => rfl) hS (v := ?_) ?_ ?_
      rotate_left
      · (intro w' hS'; go_simp <;> try with_reducible rfl)
      try simp only [Act.put, List.setIfInBounds_toArray, List.set_cons_zero, List.set_cons_succ]
      refine rg_done (by kernel_rfl) ?_
      go_wp2
      go_ret
      exact ⟨rfl, hb⟩
end Go.Proofs.Ytcfncekphdkphaa
