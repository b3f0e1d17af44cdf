/- Joined of: Rnw Rof Rfl. -/
import Derived.Test.YtoegjibeomhekaaGreatRcm
/- Package ratio: lowest, New, Of, Floor, whole. -/
namespace Go.Proofs.YtoegjibeomhekaaGreat
set_option linter.unusedSimpArgs false
set_option linter.unusedVariables false
open Go.RowKit
set_option maxRecDepth 100000
set_option maxHeartbeats 2000000 in
theorem lowest_walk {n d x y g N D : Int} (hn : fits n) (hd : fits d) (hxy : d < 0 ∧ x = -n ∧ y = -d ∨ ¬ d < 0 ∧ x = n ∧ y = d) (G : Tl 69 #[vw x, vw y] (vw g)) (P1 : Tl 79 #[vw x, vw g] (vw N)) (P2 : Tl 79 #[vw y, vw g] (vw D)) :
    Tl 63 #[vw n, vw d] (vf N D) := by
  intro w
  unfold vf
  unfold vw at *
  have HS := Lib.hid (fun w => rsign_any hd w)
  have HN1 := Lib.hid (fun w => Neg_w (wd_of hn) w)
  have HN2 := Lib.hid (fun w => Neg_w (wd_of hd) w)
  have HG := Lib.hid G
  have HP1 := Lib.hid P1
  have HP2 := Lib.hid P2
  have HXY := Lib.hid hxy
  have SN := Lib.hid (sn_neg d)
  generalize sn d = c at *
  clear hn hd G P1 P2 hxy
  have b2 := ((Blk.new w (mk n) 43 rfl).old (.cells (mk d).toArray 43)).old (.cells (rr false 0 false 0).toArray 45)
  have b3 := (Blk.new (w.alloc (.cells (mk n).toArray 43)) (mk d) 43 (b := w.heap.size + 1) (by simp)).old (.cells (rr false 0 false 0).toArray 45)
  have b4 := Blk.new ((w.alloc (.cells (mk n).toArray 43)).alloc (.cells (mk d).toArray 43)) (rr false 0 false 0) 45 (b := w.heap.size + 1 + 1) (by simp)
  have hb : Below w.heap.size w (((w.alloc (.cells (mk n).toArray 43)).alloc (.cells (mk d).toArray 43)).alloc (.cells (rr false 0 false 0).toArray 45)) := (((Below.refl _ _).alloc (Nat.le_refl _) _).alloc (by simp) _).alloc (by simp; omega) _
  go_enter Tryz.func63, Tryz.ntmps63
  go_wp2_with (first | (with_reducible refine alR rfl rfl ?_) | (with_reducible refine ldM rfl rfl rfl b2 ?_) | (with_reducible refine ldM rfl rfl rfl b3 ?_))
  refine (HS.out _).mono ?_
  rintro e w1 ⟨rfl, h1⟩
  replace b2 := b2.call h1
  replace b3 := b3.call h1
  replace b4 := b4.call h1
  replace hb := bthen hb h1
  clear h1
  go_upto_if 8 with fail
  go_cut [] (fun wx => Below w.heap.size w wx ∧ Blk wx w.heap.size (mk x) 43 ∧ Blk wx (w.heap.size + 1) (mk y) 43 ∧ Blk wx (w.heap.size + 1 + 1) (rr false 0 false 0) 45)
  case first =>
    by_cases h : d < 0
    · have hc : c < 0 := SN.out.2 h
      obtain ⟨_, rfl, rfl⟩ : d < 0 ∧ x = -n ∧ y = -d := by
        rcases HXY.out with h1 | h1
        · exact h1
        · have := h1.1; omega
      go_wp2_with fail
      refine rg_start [w.heap.size, w.heap.size + 1] (by kernel_rfl) (fun hS => ?_)
      replace hb := hb.drew
      replace b2 := b2.drew
      replace b3 := b3.drew
      replace b4 := b4.drew
      refine rg_two 0 2 rfl rfl (by kernel_rfl) (by rfl) (by rfl) (fun K hK => ?_) (fun K hK => ?_)
      · refine wp_ldB rfl rfl b2 (wholeM _) ?_
        refine hK _ _ hS (fun hS => ?_)
        clear hK K
        try simp only [Act.put, List.setIfInBounds_toArray, List.set_cons_zero, List.set_cons_succ]
        refine rg_two 1 2 rfl rfl (by kernel_rfl) (by rfl) (by rfl) (fun K hK => ?_) (fun K hK => ?_)
        · go_simp
          refine (HN1.out _).mono ?_
          rintro e w1 ⟨rfl, h1⟩
          refine hK _ _ (hS.call h1) (fun hS => ?_)
          clear hK K
          replace b2 := b2.call h1
          replace b3 := b3.call h1
          replace b4 := b4.call h1
          replace hb := bthen hb h1
          clear h1
          try simp only [Act.put, List.setIfInBounds_toArray, List.set_cons_zero, List.set_cons_succ]
          refine rg_eff 2 rfl (by kernel_rfl) (by rfl) (fun K hK => ?_)
          refine wp_ldB rfl rfl b3 (wholeM _) ?_
          refine hK _ _ hS (fun hS => ?_)
          clear hK K
          try simp only [Act.put, List.setIfInBounds_toArray, List.set_cons_zero, List.set_cons_succ]
          refine rg_eff 3 rfl (by kernel_rfl) (by rfl) (fun K hK => ?_)
          go_simp
          refine (HN2.out _).mono ?_
          rintro e w1 ⟨rfl, h1⟩
          refine hK _ _ (hS.call h1) (fun hS => ?_)
          clear hK K
          replace b2 := b2.call h1
          replace b3 := b3.call h1
          replace b4 := b4.call h1
          replace hb := bthen hb h1
          clear h1
          try simp only [Act.put, List.setIfInBounds_toArray, List.set_cons_zero, List.set_cons_succ]
          refine rg_eff 4 rfl (by kernel_rfl) (by rfl) (fun K hK => ?_)
          refine wp_st (vs := mk (-n)) rfl rfl rfl b2 (by rw [mk_length, mk_length]) (wholeM _) (mk_one _) ?_
          refine hK _ _ (hS.row (.inl (by simp)) _) (fun hS => ?_)
          clear hK K
          replace b2 := b2.row (mk (-n))
          replace b3 := b3.rowOther (g := w.heap.size) (mk (-n)).toArray (by omega)
          replace b4 := b4.rowOther (g := w.heap.size) (mk (-n)).toArray (by omega)
          replace hb := below_row hb (g := w.heap.size) (by omega) (mk (-n)).toArray
          try simp only [Act.put, List.setIfInBounds_toArray, List.set_cons_zero, List.set_cons_succ]
          refine rg_eff 5 rfl (by kernel_rfl) (by rfl) (fun K hK => ?_)
          refine wp_st (vs := mk (-d)) rfl rfl rfl b3 (by rw [mk_length, mk_length]) (wholeM _) (mk_one _) ?_
          refine hK _ _ (hS.row (.inl (by simp)) _) (fun hS => ?_)
          clear hK K
          replace b3 := b3.row (mk (-d))
          replace b2 := b2.rowOther (g := w.heap.size + 1) (mk (-d)).toArray (by omega)
          replace b4 := b4.rowOther (g := w.heap.size + 1) (mk (-d)).toArray (by omega)
          replace hb := below_row hb (g := w.heap.size + 1) (by omega) (mk (-d)).toArray
          try simp only [Act.put, List.setIfInBounds_toArray, List.set_cons_zero, List.set_cons_succ]
          refine rg_done (by kernel_rfl) ?_
          go_wp2_with fail
          go_meet
          case rel => exact ⟨hb, b2, b3, b4⟩
        · refine wp_ldB rfl rfl b3 (wholeM _) ?_
          refine hK _ _ hS (fun hS => ?_)
          clear hK K
          try simp only [Act.put, List.setIfInBounds_toArray, List.set_cons_zero, List.set_cons_succ]
          refine rg_eff 1 rfl (by kernel_rfl) (by rfl) (fun K hK => ?_)
          go_simp
          refine (HN1.out _).mono ?_
          rintro e w1 ⟨rfl, h1⟩
          refine hK _ _ (hS.call h1) (fun hS => ?_)
          clear hK K
          replace b2 := b2.call h1
          replace b3 := b3.call h1
          replace b4 := b4.call h1
          replace hb := bthen hb h1
          clear h1
          try simp only [Act.put, List.setIfInBounds_toArray, List.set_cons_zero, List.set_cons_succ]
          refine rg_eff 3 rfl (by kernel_rfl) (by rfl) (fun K hK => ?_)
          go_simp
          refine (HN2.out _).mono ?_
          rintro e w1 ⟨rfl, h1⟩
          refine hK _ _ (hS.call h1) (fun hS => ?_)
          clear hK K
          replace b2 := b2.call h1
          replace b3 := b3.call h1
          replace b4 := b4.call h1
          replace hb := bthen hb h1
          clear h1
          try simp only [Act.put, List.setIfInBounds_toArray, List.set_cons_zero, List.set_cons_succ]
          refine rg_eff 4 rfl (by kernel_rfl) (by rfl) (fun K hK => ?_)
          refine wp_st (vs := mk (-n)) rfl rfl rfl b2 (by rw [mk_length, mk_length]) (wholeM _) (mk_one _) ?_
          refine hK _ _ (hS.row (.inl (by simp)) _) (fun hS => ?_)
          clear hK K
          replace b2 := b2.row (mk (-n))
          replace b3 := b3.rowOther (g := w.heap.size) (mk (-n)).toArray (by omega)
          replace b4 := b4.rowOther (g := w.heap.size) (mk (-n)).toArray (by omega)
          replace hb := below_row hb (g := w.heap.size) (by omega) (mk (-n)).toArray
          try simp only [Act.put, List.setIfInBounds_toArray, List.set_cons_zero, List.set_cons_succ]
          refine rg_eff 5 rfl (by kernel_rfl) (by rfl) (fun K hK => ?_)
          refine wp_st (vs := mk (-d)) rfl rfl rfl b3 (by rw [mk_length, mk_length]) (wholeM _) (mk_one _) ?_
          refine hK _ _ (hS.row (.inl (by simp)) _) (fun hS => ?_)
          clear hK K
          replace b3 := b3.row (mk (-d))
          replace b2 := b2.rowOther (g := w.heap.size + 1) (mk (-d)).toArray (by omega)
          replace b4 := b4.rowOther (g := w.heap.size + 1) (mk (-d)).toArray (by omega)
          replace hb := below_row hb (g := w.heap.size + 1) (by omega) (mk (-d)).toArray
          try simp only [Act.put, List.setIfInBounds_toArray, List.set_cons_zero, List.set_cons_succ]
          refine rg_done (by kernel_rfl) ?_
          go_wp2_with fail
          go_meet
          case rel => exact ⟨hb, b2, b3, b4⟩
      · refine wp_ldB rfl rfl b3 (wholeM _) ?_
        refine hK _ _ hS (fun hS => ?_)
        clear hK K
        try simp only [Act.put, List.setIfInBounds_toArray, List.set_cons_zero, List.set_cons_succ]
        refine rg_eff 0 rfl (by kernel_rfl) (by rfl) (fun K hK => ?_)
        refine wp_ldB rfl rfl b2 (wholeM _) ?_
        refine hK _ _ hS (fun hS => ?_)
        clear hK K
        try simp only [Act.put, List.setIfInBounds_toArray, List.set_cons_zero, List.set_cons_succ]
        refine rg_eff 1 rfl (by kernel_rfl) (by rfl) (fun K hK => ?_)
        go_simp
        refine (HN1.out _).mono ?_
        rintro e w1 ⟨rfl, h1⟩
        refine hK _ _ (hS.call h1) (fun hS => ?_)
        clear hK K
        replace b2 := b2.call h1
        replace b3 := b3.call h1
        replace b4 := b4.call h1
        replace hb := bthen hb h1
        clear h1
        try simp only [Act.put, List.setIfInBounds_toArray, List.set_cons_zero, List.set_cons_succ]
        refine rg_eff 3 rfl (by kernel_rfl) (by rfl) (fun K hK => ?_)
        go_simp
        refine (HN2.out _).mono ?_
        rintro e w1 ⟨rfl, h1⟩
        refine hK _ _ (hS.call h1) (fun hS => ?_)
        clear hK K
        replace b2 := b2.call h1
        replace b3 := b3.call h1
        replace b4 := b4.call h1
        replace hb := bthen hb h1
        clear h1
        try simp only [Act.put, List.setIfInBounds_toArray, List.set_cons_zero, List.set_cons_succ]
        refine rg_eff 4 rfl (by kernel_rfl) (by rfl) (fun K hK => ?_)
        refine wp_st (vs := mk (-n)) rfl rfl rfl b2 (by rw [mk_length, mk_length]) (wholeM _) (mk_one _) ?_
        refine hK _ _ (hS.row (.inl (by simp)) _) (fun hS => ?_)
        clear hK K
        replace b2 := b2.row (mk (-n))
        replace b3 := b3.rowOther (g := w.heap.size) (mk (-n)).toArray (by omega)
        replace b4 := b4.rowOther (g := w.heap.size) (mk (-n)).toArray (by omega)
        replace hb := below_row hb (g := w.heap.size) (by omega) (mk (-n)).toArray
        try simp only [Act.put, List.setIfInBounds_toArray, List.set_cons_zero, List.set_cons_succ]
        refine rg_eff 5 rfl (by kernel_rfl) (by rfl) (fun K hK => ?_)
        refine wp_st (vs := mk (-d)) rfl rfl rfl b3 (by rw [mk_length, mk_length]) (wholeM _) (mk_one _) ?_
        refine hK _ _ (hS.row (.inl (by simp)) _) (fun hS => ?_)
        clear hK K
        replace b3 := b3.row (mk (-d))
        replace b2 := b2.rowOther (g := w.heap.size + 1) (mk (-d)).toArray (by omega)
        replace b4 := b4.rowOther (g := w.heap.size + 1) (mk (-d)).toArray (by omega)
        replace hb := below_row hb (g := w.heap.size + 1) (by omega) (mk (-d)).toArray
        try simp only [Act.put, List.setIfInBounds_toArray, List.set_cons_zero, List.set_cons_succ]
        refine rg_done (by kernel_rfl) ?_
        go_wp2_with fail
        go_meet
        case rel => exact ⟨hb, b2, b3, b4⟩
    · have hc : ¬ c < 0 := fun h1 => h (SN.out.1 h1)
      obtain ⟨_, rfl, rfl⟩ : ¬ d < 0 ∧ x = n ∧ y = d := by
        rcases HXY.out with h1 | h1
        · have := h1.1; omega
        · exact ⟨h, h1.2⟩
      go_wp2
      go_meet
      case rel => exact ⟨hb, b2, b3, b4⟩
  case rest =>
    clear hb b2 b3 b4
    obtain ⟨hb, b2, b3, b4⟩ := hcut
    go_wp2_with (first | (with_reducible refine ldM rfl rfl rfl b2 ?_) | (with_reducible refine ldM rfl rfl rfl b3 ?_))
    refine (HG.out _).mono ?_
    rintro e w1 ⟨rfl, h1⟩
    replace b2 := b2.call h1
    replace b3 := b3.call h1
    replace b4 := b4.call h1
    replace hb := bthen hb h1
    clear h1
    have f := Blk.new w1 (wd false 0) 43 rfl
    have b5 := laid_new w1 (g)
    replace b2 := laid_old b2 (g)
    replace b3 := laid_old b3 (g)
    replace b4 := laid_old b4 (g)
    replace hb := laid_below hb (g)
    go_wp2_with (first | (with_reducible refine alW rfl rfl ?_) | (with_reducible refine stM rfl rfl rfl rfl f (wd_length _ _) ?_))
    clear f
    generalize (w1.alloc (.cells (wd false 0).toArray 43)).setRow w1.heap.size (mk (g)).toArray = W at *
    generalize w1.heap.size = pl_b5 at *
    have n5 := b5.ne b4 (wr_ne _ _ _ _ _)
    refine rg_start [w.heap.size + 1 + 1] (by kernel_rfl) (fun hS => ?_)
    replace hb := hb.drew
    replace b4 := b4.drew
    refine rg_ld 0 rfl (by kernel_rfl) (by kernel_rfl) (by kernel_rfl) (by rfl) hS rfl rfl b2 (by simp <;> omega) (wholeM _) ?_
    try simp only [Act.put, List.setIfInBounds_toArray, List.set_cons_zero, List.set_cons_succ]
    refine rg_ld 1 rfl (by kernel_rfl) (by kernel_rfl) (by kernel_rfl) (by rfl) hS rfl rfl b5 (by simp <;> omega) (wholeM _) ?_
    try simp only [Act.put, List.setIfInBounds_toArray, List.set_cons_zero, List.set_cons_succ]
    refine rg_ld 3 rfl (by kernel_rfl) (by kernel_rfl) (by kernel_rfl) (by rfl) hS rfl rfl b3 (by simp <;> omega) (wholeM _) ?_
    try simp only [Act.put, List.setIfInBounds_toArray, List.set_cons_zero, List.set_cons_succ]
    refine rg_ld 4 rfl (by kernel_rfl) (by kernel_rfl) (by kernel_rfl) (by rfl) hS rfl rfl b5 (by simp <;> omega) (wholeM _) ?_
    try simp only [Act.put, List.setIfInBounds_toArray, List.set_cons_zero, List.set_cons_succ]
    refine rg_eff 2 rfl (by kernel_rfl) (by rfl) (fun K hK => ?_)
    go_simp
    refine (HP1.out _).mono ?_
    rintro e w1 ⟨rfl, h1⟩
    refine hK _ _ (hS.call h1) (fun hS => ?_)
    clear hK K
    replace b4 := b4.call h1
    replace hb := bthen hb h1
    clear h1
    try simp only [Act.put, List.setIfInBounds_toArray, List.set_cons_zero, List.set_cons_succ]
    refine rg_eff 5 rfl (by kernel_rfl) (by rfl) (fun K hK => ?_)
    go_simp
    refine (HP2.out _).mono ?_
    rintro e w1 ⟨rfl, h1⟩
    refine hK _ _ (hS.call h1) (fun hS => ?_)
    clear hK K
    replace b4 := b4.call h1
    replace hb := bthen hb h1
    clear h1
    try simp only [Act.put, List.setIfInBounds_toArray, List.set_cons_zero, List.set_cons_succ]
    refine rg_build 6 rfl (by kernel_rfl) (by kernel_rfl) (by kernel_rfl) (by rfl) hS rfl (pl := [(0, .agg (mk N).toArray), (1, .agg (mk D).toArray)]) (builtF _ _) (by simp [Act.eval]) ?_
    try simp only [Act.put, List.setIfInBounds_toArray, List.set_cons_zero, List.set_cons_succ]
    refine rg_eff 7 rfl (by kernel_rfl) (by rfl) (fun K hK => ?_)
    refine wp_st (vs := fr N D) rfl rfl rfl b4 (by rw [rr_length, fr_length]) (wholeF _ _) (fr_one _ _) ?_
    refine hK _ _ (hS.row (.inl (by simp)) _) (fun hS => ?_)
    clear hK K
    try simp only [Act.put, List.setIfInBounds_toArray, List.set_cons_zero, List.set_cons_succ]
    refine rg_done (by kernel_rfl) ?_
    go_wp2
    exact ret_c (cs := fr N D) rfl rfl rfl (wholeF _ _) (b4.row _) ⟨rfl, below_row hb (by omega) _⟩
/-- n by d in lowest terms. -/
theorem lowest_any {n d : Int} (hn : fits n) (hd : fits d) (h0 : d ≠ 0) : ∃ N D, Rt N D ∧ N * d = n * D ∧ fits N ∧ fits D ∧ Tl 63 #[vw n, vw d] (vf N D) := by
  have key : ∀ {x y : Int}, fits x → fits y → 0 < y → (d < 0 ∧ x = -n ∧ y = -d ∨ ¬ d < 0 ∧ x = n ∧ y = d) → ∃ N D, Rt N D ∧ N * y = x * D ∧ fits N ∧ fits D ∧ Tl 63 #[vw n, vw d] (vf N D) := fun {x y} hx hy h1 hxy => by
    obtain ⟨R1, R2⟩ := low_rt (n := x) h1
    have g0 := gcd_ne_right (a := x) (b := y) (by omega)
    have d1 : ((Int.gcd x y : Nat) : Int) ∣ x := Int.gcd_dvd_left ..
    have d2 : ((Int.gcd x y : Nat) : Int) ∣ y := Int.gcd_dvd_right ..
    have fg := fits_gcd' hx hy
    have fe : ∀ {z g : Int}, fits z → g ∣ z → fits (z / g) := fun {z g} hz hg => by
      rw [← Int.tdiv_eq_ediv_of_dvd hg]
      unfold fits at *
      rw [Int.natAbs_tdiv]
      exact Nat.lt_of_le_of_lt (Nat.div_le_self _ _) hz
    exact ⟨_, _, R1, R2, fe hx d1, fe hy d2, lowest_walk hn hd hxy (fun w => Gcd_z (wd_of hx) (wd_of hy) w) (fun w => part_ex hx fg g0 d1 rfl w) (fun w => part_ex hy fg g0 d2 rfl w)⟩
  by_cases h : d < 0
  · obtain ⟨N, D, h1, h2, h3, h4, h5⟩ := key (fits_neg hn) (fits_neg hd) (by omega) (.inl ⟨h, rfl, rfl⟩)
    refine ⟨N, D, h1, ?_, h3, h4, h5⟩
    rw [Int.mul_neg, Int.neg_mul] at h2
    omega
  · exact key hn hd (by omega) (.inr ⟨h, rfl, rfl⟩)
end Go.Proofs.YtoegjibeomhekaaGreat

/- Package ratio: New, Of, Floor, whole. -/
namespace Go.Proofs.YtoegjibeomhekaaGreat
set_option linter.unusedSimpArgs false
set_option linter.unusedVariables false
open Go.RowKit
set_option maxRecDepth 100000
theorem sz_zero (k : Nat) : Sz k 0 := Nat.two_pow_pos k
set_option maxHeartbeats 1000000 in
theorem may_any {x : Int} (hx : Sz 1023 x) : Tl 61 #[vw x] (.bool true) := by
  intro w
  unfold vw
  have fx := sz_fits hx (by omega)
  have HI := Lib.hid (fun w => is_mk fx w)
  have HB := Lib.hid (fun w => Bits_w (wd_of fx) w)
  have hl : (bitLen x.natAbs : Int) ≤ 1023 := by have := sz_bits.2 hx; omega
  generalize (bitLen x.natAbs : Int) = l at *
  clear hx fx
  have b1 := Blk.new w (mk x) 43 rfl
  have hb : Below w.heap.size w (w.alloc (.cells (mk x).toArray 43)) := (Below.refl _ _).alloc (Nat.le_refl _) _
  go_enter Tryz.func61, Tryz.ntmps61
  go_wp2_with (first | (with_reducible refine ldM rfl rfl rfl b1 ?_))
  refine (HI.out _).mono ?_
  rintro e w1 ⟨rfl, h1⟩
  replace b1 := b1.call h1
  replace hb := bthen hb h1
  clear h1
  go_wp2_with (first | (refine ldMg (by rfl) rfl rfl b1 ?_))
  refine (HB.out _).mono ?_
  rintro e w1 ⟨rfl, h1⟩
  replace b1 := b1.call h1
  replace hb := bthen hb h1
  clear h1
  have hd : decide (l ≤ 1023) = true := decide_eq_true hl
  go_wp2
  go_ret
  exact ⟨rfl, hb⟩
set_option maxHeartbeats 1000000 in
theorem New_walk {n d N D : Int} (hn : Sz 1023 n) (hd : Sz 1023 d) (h0 : d ≠ 0) (T : Tl 63 #[vw n, vw d] (vf N D)) : Tl 52 #[vw n, vw d] (.tuple #[vf N D, .bool true]) := by
  have hc0 : ¬ sn d = 0 := fun h => h0 ((sn_zero d).1 h)
  have hc1 : decide (sn d = 0) = false := decide_eq_false hc0
  have HT := Lib.hid T
  clear T
  unfold vw vf at HT
  intro w
  unfold vf at *
  unfold vw at *
  have HM1 := Lib.hid (may_any hn)
  have HM2 := Lib.hid (may_any hd)
  unfold vw at HM1 HM2
  have HS := Lib.hid (fun w => rsign_any (sz_fits hd (by omega)) w)
  have b2 := ((Blk.new w (mk n) 43 rfl).old (.cells (mk d).toArray 43)).old (.cells (rr false 0 false 0).toArray 45)
  have b3 := (Blk.new (w.alloc (.cells (mk n).toArray 43)) (mk d) 43 (b := w.heap.size + 1) (by simp)).old (.cells (rr false 0 false 0).toArray 45)
  have b4 := Blk.new ((w.alloc (.cells (mk n).toArray 43)).alloc (.cells (mk d).toArray 43)) (rr false 0 false 0) 45 (b := w.heap.size + 1 + 1) (by simp)
  have hb : Below w.heap.size w (((w.alloc (.cells (mk n).toArray 43)).alloc (.cells (mk d).toArray 43)).alloc (.cells (rr false 0 false 0).toArray 45)) := (((Below.refl _ _).alloc (Nat.le_refl _) _).alloc (by simp) _).alloc (by simp; omega) _
  generalize sn d = c at *
  clear hn hd h0
  go_enter Tryz.func52, Tryz.ntmps52
  go_wp2_with (first | (with_reducible refine alR rfl rfl ?_) | (with_reducible refine ldM rfl rfl rfl b2 ?_))
  refine (HM1.out _).mono ?_
  rintro e w1 ⟨rfl, h1⟩
  replace b2 := b2.call h1
  replace b3 := b3.call h1
  replace b4 := b4.call h1
  replace hb := bthen hb h1
  clear h1
  go_wp2_with (first | (refine ldMg (by rfl) rfl rfl b3 ?_))
  refine (HM2.out _).mono ?_
  rintro e w1 ⟨rfl, h1⟩
  replace b2 := b2.call h1
  replace b3 := b3.call h1
  replace b4 := b4.call h1
  replace hb := bthen hb h1
  clear h1
  go_wp2_with (first | (refine ldMg (by rfl) rfl rfl b3 ?_))
  refine (HS.out _).mono ?_
  rintro e w1 ⟨rfl, h1⟩
  replace b2 := b2.call h1
  replace b3 := b3.call h1
  replace b4 := b4.call h1
  replace hb := bthen hb h1
  clear h1
  go_wp2_with (first | (with_reducible refine ldM rfl rfl rfl b2 ?_) | (with_reducible refine ldM rfl rfl rfl b3 ?_))
  refine (HT.out _).mono ?_
  rintro e w1 ⟨rfl, h1⟩
  replace b4 := b4.call h1
  replace hb := bthen hb h1
  clear h1
  go_wp2_with (first | (with_reducible refine stR rfl rfl rfl rfl b4 (rr_length _ _ _ _) ?_))
  exact ret_ct (cs := fr N D) (v := .bool true) rfl rfl rfl rfl (wholeF _ _) (b4.row _) ⟨rfl, below_row hb (by omega) _⟩
set_option maxHeartbeats 1000000 in
theorem New_zero {n : Int} (hn : Sz 1023 n) : Tl 52 #[vw n, vw 0] (.tuple #[.agg (rr false 0 false 0).toArray, .bool false]) := by
  have hd : Sz 1023 0 := sz_zero _
  have HS2 : Hid (∀ w, Calls Tryz.prog 62 #[.agg (mk 0).toArray] w fun e w' => e = .returned (.int .i64 0) ∧ Below w.heap.size w w') := fun w => rsign_any f0 w
  obtain ⟨d, hd0⟩ : ∃ d : Int, (0 : Int) = d := ⟨_, rfl⟩
  have HS3 : Hid (∀ w, Calls Tryz.prog 62 #[.agg (mk d).toArray] w fun e w' => e = .returned (.int .i64 0) ∧ Below w.heap.size w w') := by
    subst hd0; exact HS2
  rw [hd0] at hd ⊢
  clear HS2 hd0
  intro w
  unfold vf at *
  unfold vw at *
  have HM1 := Lib.hid (may_any hn)
  have HM2 := Lib.hid (may_any hd)
  unfold vw at HM1 HM2
  have HS := Lib.hid (fun w => rsign_any (sz_fits hd (by omega)) w)
  have b2 := ((Blk.new w (mk n) 43 rfl).old (.cells (mk d).toArray 43)).old (.cells (rr false 0 false 0).toArray 45)
  have b3 := (Blk.new (w.alloc (.cells (mk n).toArray 43)) (mk d) 43 (b := w.heap.size + 1) (by simp)).old (.cells (rr false 0 false 0).toArray 45)
  have b4 := Blk.new ((w.alloc (.cells (mk n).toArray 43)).alloc (.cells (mk d).toArray 43)) (rr false 0 false 0) 45 (b := w.heap.size + 1 + 1) (by simp)
  have hb : Below w.heap.size w (((w.alloc (.cells (mk n).toArray 43)).alloc (.cells (mk d).toArray 43)).alloc (.cells (rr false 0 false 0).toArray 45)) := (((Below.refl _ _).alloc (Nat.le_refl _) _).alloc (by simp) _).alloc (by simp; omega) _
  clear hn hd HS
  go_enter Tryz.func52, Tryz.ntmps52
  go_wp2_with (first | (with_reducible refine alR rfl rfl ?_) | (with_reducible refine ldM rfl rfl rfl b2 ?_))
  refine (HM1.out _).mono ?_
  rintro e w1 ⟨rfl, h1⟩
  replace b2 := b2.call h1
  replace b3 := b3.call h1
  replace b4 := b4.call h1
  replace hb := bthen hb h1
  clear h1
  go_wp2_with (first | (refine ldMg (by rfl) rfl rfl b3 ?_))
  refine (HM2.out _).mono ?_
  rintro e w1 ⟨rfl, h1⟩
  replace b2 := b2.call h1
  replace b3 := b3.call h1
  replace b4 := b4.call h1
  replace hb := bthen hb h1
  clear h1
  go_wp2_with (first | (refine ldMg (by rfl) rfl rfl b3 ?_))
  refine (HS3.out _).mono ?_
  rintro e w1 ⟨rfl, h1⟩
  replace b2 := b2.call h1
  replace b3 := b3.call h1
  replace b4 := b4.call h1
  replace hb := bthen hb h1
  clear h1
  go_wp2_with (first | (with_reducible refine bdR0 rfl rfl ?_) | (with_reducible refine stRr rfl rfl rfl rfl b4 (rr_length _ _ _ _) ?_))
  exact ret_ct (cs := rr false 0 false 0) (v := .bool false) rfl rfl rfl rfl (wholeR _ _ _ _) (b4.row _) ⟨rfl, below_row hb (by omega) _⟩
theorem New_any {n d : Int} (hn : Sz 1023 n) (hd : Sz 1023 d) (h0 : d ≠ 0) : ∃ N D, Rt N D ∧ N * d = n * D ∧ Tl 52 #[vw n, vw d] (.tuple #[vf N D, .bool true]) := by
  obtain ⟨N, D, h1, h2, h3, h4, h5⟩ := lowest_any (sz_fits hn (by omega)) (sz_fits hd (by omega)) h0
  exact ⟨N, D, h1, h2, New_walk hn hd h0 h5⟩
set_option maxHeartbeats 1000000 in
theorem Of_walk {n d : Int} {cs : List Value} {b : Bool} (hn : -9223372036854775808 ≤ n ∧ n ≤ 9223372036854775807) (hd : -9223372036854775808 ≤ d ∧ d ≤ 9223372036854775807) (hl : cs.length = 66) (h1 : ∀ v ∈ cs, v.oneCell' = true) (T : Tl 52 #[vw n, vw d] (.tuple #[.agg cs.toArray, .bool b])) :
    Tl 42 #[.int .i64 n, .int .i64 d] (.tuple #[.agg cs.toArray, .bool b]) := by
  intro w
  unfold vw at *
  have HF1 := Lib.hid (fun w => From_w n w hn.1 hn.2)
  have HF2 := Lib.hid (fun w => From_w d w hd.1 hd.2)
  have HT := Lib.hid T
  have HL := Lib.hid (And.intro hl h1)
  clear hn hd T hl h1
  have b4 := Blk.new w (rr false 0 false 0) 45 rfl
  have hb : Below w.heap.size w (w.alloc (.cells (rr false 0 false 0).toArray 45)) := (Below.refl _ _).alloc (Nat.le_refl _) _
  go_enter Tryz.func42, Tryz.ntmps42
  go_wp2_with (first | (with_reducible refine alR rfl rfl ?_))
  refine (HF1.out _).mono ?_
  rintro e w1 ⟨rfl, h1⟩
  replace b4 := b4.call h1
  replace hb := bthen hb h1
  clear h1
  go_wp2_with fail
  refine (HF2.out _).mono ?_
  rintro e w1 ⟨rfl, h1⟩
  replace b4 := b4.call h1
  replace hb := bthen hb h1
  clear h1
  go_wp2_with fail
  refine (HT.out _).mono ?_
  rintro e w1 ⟨rfl, h1⟩
  replace b4 := b4.call h1
  replace hb := bthen hb h1
  clear h1
  go_wp2_with (first | (with_reducible refine st_blk rfl rfl rfl rfl b4 (by rw [rr_length, HL.out.1]) (by rw [HL.out.1]; exact sizeR) HL.out.2 ?_))
  exact ret_ct (cs := cs) (v := .bool b) rfl rfl rfl rfl (by obtain ⟨d, h, h'⟩ := underR; exact ⟨d, h, h', by rw [HL.out.1]; exact sizeR⟩) (b4.row _) ⟨rfl, below_row hb (by omega) _⟩
theorem sz_i64 {n : Int} (h : -9223372036854775808 ≤ n ∧ n ≤ 9223372036854775807) : Sz 64 n := by
  unfold Sz
  have : (2 : Nat) ^ 64 = 18446744073709551616 := by decide
  rw [this]; omega
theorem Of_any {n d : Int} (hn : -9223372036854775808 ≤ n ∧ n ≤ 9223372036854775807) (hd : -9223372036854775808 ≤ d ∧ d ≤ 9223372036854775807) (h0 : d ≠ 0) : ∃ N D, Rt N D ∧ N * d = n * D ∧ Tl 42 #[.int .i64 n, .int .i64 d] (.tuple #[vf N D, .bool true]) := by
  obtain ⟨N, D, h1, h2, h3⟩ := New_any (sz_mono (sz_i64 hn) (by omega)) (sz_mono (sz_i64 hd) (by omega)) h0
  exact ⟨N, D, h1, h2, Of_walk hn hd (fr_length _ _) (fr_one _ _) h3⟩
theorem Of_zero {n : Int} (hn : -9223372036854775808 ≤ n ∧ n ≤ 9223372036854775807) : Tl 42 #[.int .i64 n, .int .i64 0] (.tuple #[.agg (rr false 0 false 0).toArray, .bool false]) :=
  Of_walk hn (by decide) (rr_length _ _ _ _) (rr_one _ _ _ _) (New_zero (sz_mono (sz_i64 hn) (by omega)))
end Go.Proofs.YtoegjibeomhekaaGreat

/- Package ratio: Floor; parquetref1's From, Whole. -/
namespace Go.Proofs.YtoegjibeomhekaaGreat
set_option linter.unusedSimpArgs false
set_option linter.unusedVariables false
open Go.RowKit
set_option maxRecDepth 100000
theorem floor_of {n d : Int} (hd : 0 < d) : (n.tmod d < 0 → n.tdiv d - 1 = n / d) ∧ (¬ n.tmod d < 0 → n.tdiv d = n / d) := by
  have h1 := Int.mul_tdiv_add_tmod n d
  have h2 := Int.natAbs_tmod n d
  have h3 : (n.tmod d).natAbs < d.natAbs := by rw [h2]; exact Nat.mod_lt _ (by omega)
  constructor
  · intro h
    refine ((Int.ediv_eq_iff_of_pos hd).2 ?_).symm
    rw [Int.sub_mul, Int.one_mul, Int.mul_comm]
    omega
  · intro h
    refine ((Int.ediv_eq_iff_of_pos hd).2 ?_).symm
    rw [Int.mul_comm]
    omega
end Go.Proofs.YtoegjibeomhekaaGreat
