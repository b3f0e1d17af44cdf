/- Joined of: Rne Rdc Rdl. -/
import Derived.Test.YtcbhmmeobkhomaaRps
/- Package ratio: nearest. -/
namespace Go.Proofs.Ytcbhmmeobkhomaa
set_option linter.unusedSimpArgs false
set_option linter.unusedVariables false
open Go.RowKit
set_option maxRecDepth 100000
set_option maxHeartbeats 2000000 in
theorem nearest_walk {n d A : Int} (k : Nat) (X : Nat → Int) (y z q r : Int) (hk : k ≤ 20) (hn : fits n) (hA : n < 0 ∧ A = -n ∨ ¬ n < 0 ∧ A = n) (hX : X 0 = A)
    (T : ∀ j, j < k → Tl 31 #[vw (X j), vw 10] (vw (X (j + 1)))) (T2 : Tl 31 #[vw (X k), vw 2] (vw y)) (AD : Tl 48 #[vw y, vw d] (.tuple #[vw z, .bool true]))
    (T3 : Tl 31 #[vw d, vw 2] (vw r)) (DM : ∃ t, Tl 38 #[vw z, vw r] (.tuple #[vw q, vw t, .bool true])) :
    Tl 24 #[vf n d, .int .i64 (k : Int)] (vw q) := fun w => by
  obtain ⟨t, DM⟩ := DM
  unfold Tl vw at T T2 AD T3 DM
  unfold vf vw
  have HT := Lib.hid T
  have HT2 := Lib.hid T2
  have HAD := Lib.hid AD
  have HT3 := Lib.hid T3
  have HDM := Lib.hid DM
  have HS := Lib.hid (fun w => rsign_any hn w)
  have HN := Lib.hid (fun w => Neg_w (wd_of hn) w)
  have SN := Lib.hid (sn_neg n)
  have HA := Lib.hid hA
  have HX := Lib.hid hX
  generalize sn n = c at *
  clear T T2 AD T3 DM hn hA hX
  have b2 := (Blk.new w (fr n d) 29 rfl).old (.cells (wd false 0).toArray 27)
  have b4 := Blk.new (w.alloc (.cells (fr n d).toArray 29)) (wd false 0) 27 (b := w.heap.size + 1) (by simp)
  have hb : Below w.heap.size w ((w.alloc (.cells (fr n d).toArray 29)).alloc (.cells (wd false 0).toArray 27)) := ((Below.refl _ _).alloc (Nat.le_refl _) _).alloc (by simp) _
  go_enter Try.func24, Try.ntmps24
  go_wp2_with (first | (with_reducible refine alW rfl rfl ?_))
  have hsz := hb.size
  try simp only [Act.put, List.setIfInBounds_toArray, List.set_cons_zero, List.set_cons_succ]
  try rw [show (w.alloc (.cells (fr n d).toArray 29)).heap.size = w.heap.size + 1 by simp]
  generalize (w.alloc (.cells (fr n d).toArray 29)).alloc (.cells (wd false 0).toArray 27) = W at *
  go_cut [5, 6] (fun p p' wx => ∃ g g', p = .pointer (some ⟨g, 0, none⟩) ∧ p' = .pointer (some ⟨g', 0, none⟩) ∧ g ≠ g' ∧ w.heap.size + 1 < g ∧ w.heap.size + 1 < g' ∧ Below w.heap.size w wx ∧ Blk wx g (mk n) 27 ∧ Blk wx g' (mk 2) 27 ∧ Blk wx w.heap.size (fr n d) 29 ∧ Blk wx (w.heap.size + 1) (wd false 0) 27)
  case first =>
    have l4 := b4.lt
    refine rg_start [] (by kernel_rfl) (fun hS => ?_)
    replace hb := hb.drew
    refine rg_take 0 rfl (by kernel_rfl) (by kernel_rfl) (by kernel_rfl) (by rfl) hS (v := ?_) ?_ ?_
    rotate_left
    · (intro w' hS'; go_simp <;> try with_reducible rfl)
    try simp only [Act.put, List.setIfInBounds_toArray, List.set_cons_zero, List.set_cons_succ]
    refine rg_ldP 1 rfl (by kernel_rfl) (by kernel_rfl) (by kernel_rfl) (by rfl) hS rfl rfl b2 (by simp <;> omega) (partF_n _ _) (wholeM _) ?_
    try simp only [Act.put, List.setIfInBounds_toArray, List.set_cons_zero, List.set_cons_succ]
    refine rg_three 2 3 4 rfl rfl rfl (by kernel_rfl) (by rfl) (by rfl) (by rfl) (fun K hK => ?_) (fun K hK => ?_) (fun K hK => ?_)
    · go_simp
      refine (k_from 2 (by decide) (by decide) _).mono ?_
      rintro e w1 ⟨rfl, h1⟩
      refine hK _ _ (hS.call h1) (fun hS => ?_)
      clear hK K
      try replace a5 := a5.call h1
      try replace a6 := a6.call h1
      replace hb := bthen hb h1
      clear h1
      try simp only [Act.put, List.setIfInBounds_toArray, List.set_cons_zero, List.set_cons_succ]
      refine rg_two 3 4 rfl rfl (by kernel_rfl) (by rfl) (by rfl) (fun K hK => ?_) (fun K hK => ?_)
      · refine wp_alB (zs := wd false 0) rfl (by kernel_rfl) (fun p5 q5 a5 => ?_)
        try (have hne : p5 ≠ p6 := by have := a6.lt; omega)
        replace q5 := Nat.le_trans hS.1 q5
        refine hK _ _ (hS.alloc _) (fun hS => ?_)
        clear hK K
        try replace a6 := a6.old (.cells (wd false 0).toArray 27)
        replace hb := hb.alloc hb.size (.cells (wd false 0).toArray 27)
        try simp only [Act.put, List.setIfInBounds_toArray, List.set_cons_zero, List.set_cons_succ]
        refine rg_eff 4 rfl (by kernel_rfl) (by rfl) (fun K hK => ?_)
        refine wp_alB (zs := wd false 0) rfl (by kernel_rfl) (fun p6 q6 a6 => ?_)
        try (have hne : p5 ≠ p6 := by have := a5.lt; omega)
        replace q6 := Nat.le_trans hS.1 q6
        refine hK _ _ (hS.alloc _) (fun hS => ?_)
        clear hK K
        try replace a5 := a5.old (.cells (wd false 0).toArray 27)
        replace hb := hb.alloc hb.size (.cells (wd false 0).toArray 27)
        try simp only [Act.put, List.setIfInBounds_toArray, List.set_cons_zero, List.set_cons_succ]
        refine rg_eff 5 rfl (by kernel_rfl) (by rfl) (fun K hK => ?_)
        refine wp_st (vs := mk n) rfl rfl rfl a5 (by rw [wd_length, mk_length]) (wholeM _) (mk_one _) ?_
        refine hK _ _ (hS.row (.inr q5) _) (fun hS => ?_)
        clear hK K
        replace a5 := a5.row (mk n)
        replace a6 := a6.rowOther (g := p5) (mk n).toArray (by omega)
        replace hb := below_row hb (g := p5) (by omega) (mk n).toArray
        try simp only [Act.put, List.setIfInBounds_toArray, List.set_cons_zero, List.set_cons_succ]
        refine rg_eff 6 rfl (by kernel_rfl) (by rfl) (fun K hK => ?_)
        refine wp_st (vs := mk 2) rfl rfl rfl a6 (by rw [wd_length, mk_length]) (wholeM _) (mk_one _) ?_
        refine hK _ _ (hS.row (.inr q6) _) (fun hS => ?_)
        clear hK K
        replace a6 := a6.row (mk 2)
        replace a5 := a5.rowOther (g := p6) (mk 2).toArray (by omega)
        replace hb := below_row hb (g := p6) (by omega) (mk 2).toArray
        try simp only [Act.put, List.setIfInBounds_toArray, List.set_cons_zero, List.set_cons_succ]
        refine rg_done (by kernel_rfl) ?_
        go_wp2_with fail
        go_meet
        case rel => exact ⟨p5, p6, rfl, rfl, hne, by omega, by omega, hb, a5, a6, b2.keep hS (by simp), b4.keep hS (by simp)⟩
      · refine wp_alB (zs := wd false 0) rfl (by kernel_rfl) (fun p6 q6 a6 => ?_)
        try (have hne : p5 ≠ p6 := by have := a5.lt; omega)
        replace q6 := Nat.le_trans hS.1 q6
        refine hK _ _ (hS.alloc _) (fun hS => ?_)
        clear hK K
        try replace a5 := a5.old (.cells (wd false 0).toArray 27)
        replace hb := hb.alloc hb.size (.cells (wd false 0).toArray 27)
        try simp only [Act.put, List.setIfInBounds_toArray, List.set_cons_zero, List.set_cons_succ]
        refine rg_eff 3 rfl (by kernel_rfl) (by rfl) (fun K hK => ?_)
        refine wp_alB (zs := wd false 0) rfl (by kernel_rfl) (fun p5 q5 a5 => ?_)
        try (have hne : p5 ≠ p6 := by have := a6.lt; omega)
        replace q5 := Nat.le_trans hS.1 q5
        refine hK _ _ (hS.alloc _) (fun hS => ?_)
        clear hK K
        try replace a6 := a6.old (.cells (wd false 0).toArray 27)
        replace hb := hb.alloc hb.size (.cells (wd false 0).toArray 27)
        try simp only [Act.put, List.setIfInBounds_toArray, List.set_cons_zero, List.set_cons_succ]
        refine rg_eff 5 rfl (by kernel_rfl) (by rfl) (fun K hK => ?_)
        refine wp_st (vs := mk n) rfl rfl rfl a5 (by rw [wd_length, mk_length]) (wholeM _) (mk_one _) ?_
        refine hK _ _ (hS.row (.inr q5) _) (fun hS => ?_)
        clear hK K
        replace a5 := a5.row (mk n)
        replace a6 := a6.rowOther (g := p5) (mk n).toArray (by omega)
        replace hb := below_row hb (g := p5) (by omega) (mk n).toArray
        try simp only [Act.put, List.setIfInBounds_toArray, List.set_cons_zero, List.set_cons_succ]
        refine rg_eff 6 rfl (by kernel_rfl) (by rfl) (fun K hK => ?_)
        refine wp_st (vs := mk 2) rfl rfl rfl a6 (by rw [wd_length, mk_length]) (wholeM _) (mk_one _) ?_
        refine hK _ _ (hS.row (.inr q6) _) (fun hS => ?_)
        clear hK K
        replace a6 := a6.row (mk 2)
        replace a5 := a5.rowOther (g := p6) (mk 2).toArray (by omega)
        replace hb := below_row hb (g := p6) (by omega) (mk 2).toArray
        try simp only [Act.put, List.setIfInBounds_toArray, List.set_cons_zero, List.set_cons_succ]
        refine rg_done (by kernel_rfl) ?_
        go_wp2_with fail
        go_meet
        case rel => exact ⟨p5, p6, rfl, rfl, hne, by omega, by omega, hb, a5, a6, b2.keep hS (by simp), b4.keep hS (by simp)⟩
    · refine wp_alB (zs := wd false 0) rfl (by kernel_rfl) (fun p5 q5 a5 => ?_)
      try (have hne : p5 ≠ p6 := by have := a6.lt; omega)
      replace q5 := Nat.le_trans hS.1 q5
      refine hK _ _ (hS.alloc _) (fun hS => ?_)
      clear hK K
      try replace a6 := a6.old (.cells (wd false 0).toArray 27)
      replace hb := hb.alloc hb.size (.cells (wd false 0).toArray 27)
      try simp only [Act.put, List.setIfInBounds_toArray, List.set_cons_zero, List.set_cons_succ]
      refine rg_two 2 4 rfl rfl (by kernel_rfl) (by rfl) (by rfl) (fun K hK => ?_) (fun K hK => ?_)
      · go_simp
        refine (k_from 2 (by decide) (by decide) _).mono ?_
        rintro e w1 ⟨rfl, h1⟩
        refine hK _ _ (hS.call h1) (fun hS => ?_)
        clear hK K
        try replace a5 := a5.call h1
        try replace a6 := a6.call h1
        replace hb := bthen hb h1
        clear h1
        try simp only [Act.put, List.setIfInBounds_toArray, List.set_cons_zero, List.set_cons_succ]
        refine rg_eff 4 rfl (by kernel_rfl) (by rfl) (fun K hK => ?_)
        refine wp_alB (zs := wd false 0) rfl (by kernel_rfl) (fun p6 q6 a6 => ?_)
        try (have hne : p5 ≠ p6 := by have := a5.lt; omega)
        replace q6 := Nat.le_trans hS.1 q6
        refine hK _ _ (hS.alloc _) (fun hS => ?_)
        clear hK K
        try replace a5 := a5.old (.cells (wd false 0).toArray 27)
        replace hb := hb.alloc hb.size (.cells (wd false 0).toArray 27)
        try simp only [Act.put, List.setIfInBounds_toArray, List.set_cons_zero, List.set_cons_succ]
        refine rg_eff 5 rfl (by kernel_rfl) (by rfl) (fun K hK => ?_)
        refine wp_st (vs := mk n) rfl rfl rfl a5 (by rw [wd_length, mk_length]) (wholeM _) (mk_one _) ?_
        refine hK _ _ (hS.row (.inr q5) _) (fun hS => ?_)
        clear hK K
        replace a5 := a5.row (mk n)
        replace a6 := a6.rowOther (g := p5) (mk n).toArray (by omega)
        replace hb := below_row hb (g := p5) (by omega) (mk n).toArray
        try simp only [Act.put, List.setIfInBounds_toArray, List.set_cons_zero, List.set_cons_succ]
        refine rg_eff 6 rfl (by kernel_rfl) (by rfl) (fun K hK => ?_)
        refine wp_st (vs := mk 2) rfl rfl rfl a6 (by rw [wd_length, mk_length]) (wholeM _) (mk_one _) ?_
        refine hK _ _ (hS.row (.inr q6) _) (fun hS => ?_)
        clear hK K
        replace a6 := a6.row (mk 2)
        replace a5 := a5.rowOther (g := p6) (mk 2).toArray (by omega)
        replace hb := below_row hb (g := p6) (by omega) (mk 2).toArray
        try simp only [Act.put, List.setIfInBounds_toArray, List.set_cons_zero, List.set_cons_succ]
        refine rg_done (by kernel_rfl) ?_
        go_wp2_with fail
        go_meet
        case rel => exact ⟨p5, p6, rfl, rfl, hne, by omega, by omega, hb, a5, a6, b2.keep hS (by simp), b4.keep hS (by simp)⟩
      · refine wp_alB (zs := wd false 0) rfl (by kernel_rfl) (fun p6 q6 a6 => ?_)
        try (have hne : p5 ≠ p6 := by have := a5.lt; omega)
        replace q6 := Nat.le_trans hS.1 q6
        refine hK _ _ (hS.alloc _) (fun hS => ?_)
        clear hK K
        try replace a5 := a5.old (.cells (wd false 0).toArray 27)
        replace hb := hb.alloc hb.size (.cells (wd false 0).toArray 27)
        try simp only [Act.put, List.setIfInBounds_toArray, List.set_cons_zero, List.set_cons_succ]
        refine rg_eff 2 rfl (by kernel_rfl) (by rfl) (fun K hK => ?_)
        go_simp
        refine (k_from 2 (by decide) (by decide) _).mono ?_
        rintro e w1 ⟨rfl, h1⟩
        refine hK _ _ (hS.call h1) (fun hS => ?_)
        clear hK K
        try replace a5 := a5.call h1
        try replace a6 := a6.call h1
        replace hb := bthen hb h1
        clear h1
        try simp only [Act.put, List.setIfInBounds_toArray, List.set_cons_zero, List.set_cons_succ]
        refine rg_eff 5 rfl (by kernel_rfl) (by rfl) (fun K hK => ?_)
        refine wp_st (vs := mk n) rfl rfl rfl a5 (by rw [wd_length, mk_length]) (wholeM _) (mk_one _) ?_
        refine hK _ _ (hS.row (.inr q5) _) (fun hS => ?_)
        clear hK K
        replace a5 := a5.row (mk n)
        replace a6 := a6.rowOther (g := p5) (mk n).toArray (by omega)
        replace hb := below_row hb (g := p5) (by omega) (mk n).toArray
        try simp only [Act.put, List.setIfInBounds_toArray, List.set_cons_zero, List.set_cons_succ]
        refine rg_eff 6 rfl (by kernel_rfl) (by rfl) (fun K hK => ?_)
        refine wp_st (vs := mk 2) rfl rfl rfl a6 (by rw [wd_length, mk_length]) (wholeM _) (mk_one _) ?_
        refine hK _ _ (hS.row (.inr q6) _) (fun hS => ?_)
        clear hK K
        replace a6 := a6.row (mk 2)
        replace a5 := a5.rowOther (g := p6) (mk 2).toArray (by omega)
        replace hb := below_row hb (g := p6) (by omega) (mk 2).toArray
        try simp only [Act.put, List.setIfInBounds_toArray, List.set_cons_zero, List.set_cons_succ]
        refine rg_done (by kernel_rfl) ?_
        go_wp2_with fail
        go_meet
        case rel => exact ⟨p5, p6, rfl, rfl, hne, by omega, by omega, hb, a5, a6, b2.keep hS (by simp), b4.keep hS (by simp)⟩
    · refine wp_alB (zs := wd false 0) rfl (by kernel_rfl) (fun p6 q6 a6 => ?_)
      try (have hne : p5 ≠ p6 := by have := a5.lt; omega)
      replace q6 := Nat.le_trans hS.1 q6
      refine hK _ _ (hS.alloc _) (fun hS => ?_)
      clear hK K
      try replace a5 := a5.old (.cells (wd false 0).toArray 27)
      replace hb := hb.alloc hb.size (.cells (wd false 0).toArray 27)
      try simp only [Act.put, List.setIfInBounds_toArray, List.set_cons_zero, List.set_cons_succ]
      refine rg_two 2 3 rfl rfl (by kernel_rfl) (by rfl) (by rfl) (fun K hK => ?_) (fun K hK => ?_)
      · go_simp
        refine (k_from 2 (by decide) (by decide) _).mono ?_
        rintro e w1 ⟨rfl, h1⟩
        refine hK _ _ (hS.call h1) (fun hS => ?_)
        clear hK K
        try replace a5 := a5.call h1
        try replace a6 := a6.call h1
        replace hb := bthen hb h1
        clear h1
        try simp only [Act.put, List.setIfInBounds_toArray, List.set_cons_zero, List.set_cons_succ]
        refine rg_eff 3 rfl (by kernel_rfl) (by rfl) (fun K hK => ?_)
        refine wp_alB (zs := wd false 0) rfl (by kernel_rfl) (fun p5 q5 a5 => ?_)
        try (have hne : p5 ≠ p6 := by have := a6.lt; omega)
        replace q5 := Nat.le_trans hS.1 q5
        refine hK _ _ (hS.alloc _) (fun hS => ?_)
        clear hK K
        try replace a6 := a6.old (.cells (wd false 0).toArray 27)
        replace hb := hb.alloc hb.size (.cells (wd false 0).toArray 27)
        try simp only [Act.put, List.setIfInBounds_toArray, List.set_cons_zero, List.set_cons_succ]
        refine rg_eff 5 rfl (by kernel_rfl) (by rfl) (fun K hK => ?_)
        refine wp_st (vs := mk n) rfl rfl rfl a5 (by rw [wd_length, mk_length]) (wholeM _) (mk_one _) ?_
        refine hK _ _ (hS.row (.inr q5) _) (fun hS => ?_)
        clear hK K
        replace a5 := a5.row (mk n)
        replace a6 := a6.rowOther (g := p5) (mk n).toArray (by omega)
        replace hb := below_row hb (g := p5) (by omega) (mk n).toArray
        try simp only [Act.put, List.setIfInBounds_toArray, List.set_cons_zero, List.set_cons_succ]
        refine rg_eff 6 rfl (by kernel_rfl) (by rfl) (fun K hK => ?_)
        refine wp_st (vs := mk 2) rfl rfl rfl a6 (by rw [wd_length, mk_length]) (wholeM _) (mk_one _) ?_
        refine hK _ _ (hS.row (.inr q6) _) (fun hS => ?_)
        clear hK K
        replace a6 := a6.row (mk 2)
        replace a5 := a5.rowOther (g := p6) (mk 2).toArray (by omega)
        replace hb := below_row hb (g := p6) (by omega) (mk 2).toArray
        try simp only [Act.put, List.setIfInBounds_toArray, List.set_cons_zero, List.set_cons_succ]
        refine rg_done (by kernel_rfl) ?_
        go_wp2_with fail
        go_meet
        case rel => exact ⟨p5, p6, rfl, rfl, hne, by omega, by omega, hb, a5, a6, b2.keep hS (by simp), b4.keep hS (by simp)⟩
      · refine wp_alB (zs := wd false 0) rfl (by kernel_rfl) (fun p5 q5 a5 => ?_)
        try (have hne : p5 ≠ p6 := by have := a6.lt; omega)
        replace q5 := Nat.le_trans hS.1 q5
        refine hK _ _ (hS.alloc _) (fun hS => ?_)
        clear hK K
        try replace a6 := a6.old (.cells (wd false 0).toArray 27)
        replace hb := hb.alloc hb.size (.cells (wd false 0).toArray 27)
        try simp only [Act.put, List.setIfInBounds_toArray, List.set_cons_zero, List.set_cons_succ]
        refine rg_eff 2 rfl (by kernel_rfl) (by rfl) (fun K hK => ?_)
        go_simp
        refine (k_from 2 (by decide) (by decide) _).mono ?_
        rintro e w1 ⟨rfl, h1⟩
        refine hK _ _ (hS.call h1) (fun hS => ?_)
        clear hK K
        try replace a5 := a5.call h1
        try replace a6 := a6.call h1
        replace hb := bthen hb h1
        clear h1
        try simp only [Act.put, List.setIfInBounds_toArray, List.set_cons_zero, List.set_cons_succ]
        refine rg_eff 5 rfl (by kernel_rfl) (by rfl) (fun K hK => ?_)
        refine wp_st (vs := mk n) rfl rfl rfl a5 (by rw [wd_length, mk_length]) (wholeM _) (mk_one _) ?_
        refine hK _ _ (hS.row (.inr q5) _) (fun hS => ?_)
        clear hK K
        replace a5 := a5.row (mk n)
        replace a6 := a6.rowOther (g := p5) (mk n).toArray (by omega)
        replace hb := below_row hb (g := p5) (by omega) (mk n).toArray
        try simp only [Act.put, List.setIfInBounds_toArray, List.set_cons_zero, List.set_cons_succ]
        refine rg_eff 6 rfl (by kernel_rfl) (by rfl) (fun K hK => ?_)
        refine wp_st (vs := mk 2) rfl rfl rfl a6 (by rw [wd_length, mk_length]) (wholeM _) (mk_one _) ?_
        refine hK _ _ (hS.row (.inr q6) _) (fun hS => ?_)
        clear hK K
        replace a6 := a6.row (mk 2)
        replace a5 := a5.rowOther (g := p6) (mk 2).toArray (by omega)
        replace hb := below_row hb (g := p6) (by omega) (mk 2).toArray
        try simp only [Act.put, List.setIfInBounds_toArray, List.set_cons_zero, List.set_cons_succ]
        refine rg_done (by kernel_rfl) ?_
        go_wp2_with fail
        go_meet
        case rel => exact ⟨p5, p6, rfl, rfl, hne, by omega, by omega, hb, a5, a6, b2.keep hS (by simp), b4.keep hS (by simp)⟩
  case rest =>
    clear hb b2 b4 hsz
    obtain ⟨g5, g6, rfl, rfl, hne, lt5, lt6, hb, b5, b6, b2, b4⟩ := hcut
    go_wp2_with (first | (with_reducible refine ldM rfl rfl rfl b5 ?_))
    refine (HS.out _).mono ?_
    rintro e w1 ⟨rfl, h1⟩
    replace b2 := b2.call h1
    replace b4 := b4.call h1
    replace b5 := b5.call h1
    replace b6 := b6.call h1
    replace hb := bthen hb h1
    clear h1
    go_upto_if 15 with fail
    go_cut [] (fun wx => Below w.heap.size w wx ∧ Blk wx g5 (mk A) 27 ∧ Blk wx g6 (mk 2) 27 ∧ Blk wx w.heap.size (fr n d) 29 ∧ Blk wx (w.heap.size + 1) (wd false 0) 27)
    case first =>
      by_cases h : n < 0
      · have hc : c < 0 := SN.out.2 h
        obtain rfl : A = -n := by
          rcases HA.out with h1 | h1
          · exact h1.2
          · have := h1.1; omega
        go_wp2_with (first | (with_reducible refine ldM rfl rfl rfl b5 ?_))
        refine (HN.out _).mono ?_
        rintro e w1 ⟨rfl, h1⟩
        replace b2 := b2.call h1
        replace b4 := b4.call h1
        replace b5 := b5.call h1
        replace b6 := b6.call h1
        replace hb := bthen hb h1
        clear h1
        go_wp2_with (first | (with_reducible refine stM rfl rfl rfl rfl b5 (mk_length _) ?_))
        go_meet
        case rel => exact ⟨below_row hb (by omega) _, b5.row _, b6.rowOther _ (by omega), b2.rowOther _ (by omega), b4.rowOther _ (by omega)⟩
      · have hc : ¬ c < 0 := fun h1 => h (SN.out.1 h1)
        obtain rfl : A = n := by
          rcases HA.out with h1 | h1
          · have := h1.1; omega
          · exact h1.2
        go_wp2
        go_meet
        case rel => exact ⟨hb, b5, b6, b2, b4⟩
    case rest =>
      clear hb b2 b4 b5 b6
      obtain ⟨hb, b5, b6, b2, b4⟩ := hcut
      go_wp2_with fail
      go_loopw [19] (fun i wr => ∃ j : Nat, j ≤ k ∧ i = .int .i64 j ∧ Below w.heap.size w wr ∧ Blk wr g5 (mk (X j)) 27 ∧ Blk wr g6 (mk 2) 27 ∧ Blk wr w.heap.size (fr n d) 29 ∧ Blk wr (w.heap.size + 1) (wd false 0) 27) (fun i _ => k - (intOf i).toNat)
      case atStart => exact ⟨0, Nat.zero_le _, rfl, hb, by rw [HX.out]; exact b5, b6, b2, b4⟩
      case round =>
        clear hb b2 b4 b5 b6
        obtain ⟨j, hj, rfl, hb, b5, b6, b2, b4⟩ := hrel
        by_cases hlt : j < k
        · have hlt' : (j : Int) < (k : Int) := by omega
          have HTj := Lib.hid (HT.out j hlt)
          generalize X j = xj at *
          obtain ⟨xs, hxs⟩ : ∃ x, X (j + 1) = x := ⟨_, rfl⟩
          rw [hxs] at HTj
          have HXS := Lib.hid hxs
          clear hxs
          go_wp2_with fail
          refine rg_start [g5] (by kernel_rfl) (fun hS => ?_)
          replace hb := hb.drew
          replace b5 := b5.drew
          replace b6 := b6.drew
          replace b2 := b2.drew
          replace b4 := b4.drew
          refine rg_two 0 1 rfl rfl (by kernel_rfl) (by rfl) (by rfl) (fun K hK => ?_) (fun K hK => ?_)
          · refine wp_ldB rfl rfl b5 (wholeM _) ?_
            refine hK _ _ hS (fun hS => ?_)
            clear hK K
            try simp only [Act.put, List.setIfInBounds_toArray, List.set_cons_zero, List.set_cons_succ]
            refine rg_eff 1 rfl (by kernel_rfl) (by rfl) (fun K hK => ?_)
            go_simp
            refine (k_from 10 (by decide) (by decide) _).mono ?_
            rintro e w1 ⟨rfl, h1⟩
            refine hK _ _ (hS.call h1) (fun hS => ?_)
            clear hK K
            replace b5 := b5.call h1
            replace b6 := b6.call h1
            replace b2 := b2.call h1
            replace b4 := b4.call h1
            replace hb := bthen hb h1
            clear h1
            try simp only [Act.put, List.setIfInBounds_toArray, List.set_cons_zero, List.set_cons_succ]
            refine rg_eff 2 rfl (by kernel_rfl) (by rfl) (fun K hK => ?_)
            go_simp
            refine (HTj.out _).mono ?_
            rintro e w1 ⟨rfl, h1⟩
            refine hK _ _ (hS.call h1) (fun hS => ?_)
            clear hK K
            replace b5 := b5.call h1
            replace b6 := b6.call h1
            replace b2 := b2.call h1
            replace b4 := b4.call h1
            replace hb := bthen hb h1
            clear h1
            try simp only [Act.put, List.setIfInBounds_toArray, List.set_cons_zero, List.set_cons_succ]
            refine rg_eff 3 rfl (by kernel_rfl) (by rfl) (fun K hK => ?_)
            refine wp_st (vs := mk xs) rfl rfl rfl b5 (by rw [mk_length, mk_length]) (wholeM _) (mk_one _) ?_
            refine hK _ _ (hS.row (.inl (by simp)) _) (fun hS => ?_)
            clear hK K
            try simp only [Act.put, List.setIfInBounds_toArray, List.set_cons_zero, List.set_cons_succ]
            refine rg_done (by kernel_rfl) ?_
            go_wp2
            go_roundw
            case rel => exact ⟨j + 1, by omega, by go_num, below_row hb (by omega) _, by rw [HXS.out]; exact b5.row _, b6.rowOther _ (by omega), b2.rowOther _ (by omega), b4.rowOther _ (by omega)⟩
            case measure => simp [intOf]; omega
          · go_simp
            refine (k_from 10 (by decide) (by decide) _).mono ?_
            rintro e w1 ⟨rfl, h1⟩
            refine hK _ _ (hS.call h1) (fun hS => ?_)
            clear hK K
            replace b5 := b5.call h1
            replace b6 := b6.call h1
            replace b2 := b2.call h1
            replace b4 := b4.call h1
            replace hb := bthen hb h1
            clear h1
            try simp only [Act.put, List.setIfInBounds_toArray, List.set_cons_zero, List.set_cons_succ]
            refine rg_eff 0 rfl (by kernel_rfl) (by rfl) (fun K hK => ?_)
            refine wp_ldB rfl rfl b5 (wholeM _) ?_
            refine hK _ _ hS (fun hS => ?_)
            clear hK K
            try simp only [Act.put, List.setIfInBounds_toArray, List.set_cons_zero, List.set_cons_succ]
            refine rg_eff 2 rfl (by kernel_rfl) (by rfl) (fun K hK => ?_)
            go_simp
            refine (HTj.out _).mono ?_
            rintro e w1 ⟨rfl, h1⟩
            refine hK _ _ (hS.call h1) (fun hS => ?_)
            clear hK K
            replace b5 := b5.call h1
            replace b6 := b6.call h1
            replace b2 := b2.call h1
            replace b4 := b4.call h1
            replace hb := bthen hb h1
            clear h1
            try simp only [Act.put, List.setIfInBounds_toArray, List.set_cons_zero, List.set_cons_succ]
            refine rg_eff 3 rfl (by kernel_rfl) (by rfl) (fun K hK => ?_)
            refine wp_st (vs := mk xs) rfl rfl rfl b5 (by rw [mk_length, mk_length]) (wholeM _) (mk_one _) ?_
            refine hK _ _ (hS.row (.inl (by simp)) _) (fun hS => ?_)
            clear hK K
            try simp only [Act.put, List.setIfInBounds_toArray, List.set_cons_zero, List.set_cons_succ]
            refine rg_done (by kernel_rfl) ?_
            go_wp2
            go_roundw
            case rel => exact ⟨j + 1, by omega, by go_num, below_row hb (by omega) _, by rw [HXS.out]; exact b5.row _, b6.rowOther _ (by omega), b2.rowOther _ (by omega), b4.rowOther _ (by omega)⟩
            case measure => simp [intOf]; omega
        · obtain rfl : j = k := by omega
          generalize X j = xj at *
          go_wp2_with fail
          refine rg_start [g5] (by kernel_rfl) (fun hS => ?_)
          replace hb := hb.drew
          replace b5 := b5.drew
          replace b4 := b4.drew
          replace b6 := b6.drew
          replace b2 := b2.drew
          refine rg_ld 1 rfl (by kernel_rfl) (by kernel_rfl) (by kernel_rfl) (by rfl) hS rfl rfl b6 (by simp <;> omega) (wholeM _) ?_
          try simp only [Act.put, List.setIfInBounds_toArray, List.set_cons_zero, List.set_cons_succ]
          refine rg_take 3 rfl (by kernel_rfl) (by kernel_rfl) (by kernel_rfl) (by rfl) hS (v := ?_) ?_ ?_
          rotate_left
          · (intro w' hS'; go_simp <;> try with_reducible rfl)
          try simp only [Act.put, List.setIfInBounds_toArray, List.set_cons_zero, List.set_cons_succ]
          refine rg_ldP 4 rfl (by kernel_rfl) (by kernel_rfl) (by kernel_rfl) (by rfl) hS rfl rfl b2 (by simp <;> omega) (partF_d _ _) (wholeM _) ?_
          try simp only [Act.put, List.setIfInBounds_toArray, List.set_cons_zero, List.set_cons_succ]
          refine rg_eff 0 rfl (by kernel_rfl) (by rfl) (fun K hK => ?_)
          refine wp_ldB rfl rfl b5 (wholeM _) ?_
          refine hK _ _ hS (fun hS => ?_)
          clear hK K
          try simp only [Act.put, List.setIfInBounds_toArray, List.set_cons_zero, List.set_cons_succ]
          refine rg_eff 2 rfl (by kernel_rfl) (by rfl) (fun K hK => ?_)
          go_simp
          refine (HT2.out _).mono ?_
          rintro e w1 ⟨rfl, h1⟩
          refine hK _ _ (hS.call h1) (fun hS => ?_)
          clear hK K
          replace b5 := b5.call h1
          replace b4 := b4.call h1
          replace hb := bthen hb h1
          clear h1
          try simp only [Act.put, List.setIfInBounds_toArray, List.set_cons_zero, List.set_cons_succ]
          refine rg_eff 5 rfl (by kernel_rfl) (by rfl) (fun K hK => ?_)
          go_simp
          refine (HAD.out _).mono ?_
          rintro e w1 ⟨rfl, h1⟩
          refine hK _ _ (hS.call h1) (fun hS => ?_)
          clear hK K
          replace b5 := b5.call h1
          replace b4 := b4.call h1
          replace hb := bthen hb h1
          clear h1
          try simp only [Act.put, List.setIfInBounds_toArray, List.set_cons_zero, List.set_cons_succ]
          refine rg_take 6 rfl (by kernel_rfl) (by kernel_rfl) (by kernel_rfl) (by rfl) hS (v := ?_) ?_ ?_
          rotate_left
          · (intro w' hS'; go_simp <;> try with_reducible rfl)
          try simp only [Act.put, List.setIfInBounds_toArray, List.set_cons_zero, List.set_cons_succ]
          refine rg_take 7 rfl (by kernel_rfl) (by kernel_rfl) (by kernel_rfl) (by rfl) hS (v := ?_) ?_ ?_
          rotate_left
          · (intro w' hS'; go_simp <;> try with_reducible rfl)
          try simp only [Act.put, List.setIfInBounds_toArray, List.set_cons_zero, List.set_cons_succ]
          refine rg_take 8 rfl (by kernel_rfl) (by kernel_rfl) (by kernel_rfl) (by rfl) hS (v := ?_) ?_ ?_
          rotate_left
          · (intro w' hS'; go_simp <;> try with_reducible rfl)
          try simp only [Act.put, List.setIfInBounds_toArray, List.set_cons_zero, List.set_cons_succ]
          refine rg_eff 9 rfl (by kernel_rfl) (by rfl) (fun K hK => ?_)
          refine wp_st (vs := mk z) rfl rfl rfl b5 (by rw [mk_length, mk_length]) (wholeM _) (mk_one _) ?_
          refine hK _ _ (hS.row (.inl (by simp)) _) (fun hS => ?_)
          clear hK K
          replace b5 := b5.row (mk z)
          replace b4 := b4.rowOther (g := g5) (mk z).toArray (by omega)
          replace hb := below_row hb (g := g5) (by omega) (mk z).toArray
          try simp only [Act.put, List.setIfInBounds_toArray, List.set_cons_zero, List.set_cons_succ]
          refine rg_done (by kernel_rfl) ?_
          replace b6 := b6.keep hS (by simp <;> omega)
          replace b2 := b2.keep hS (by simp <;> omega)
          clear hS
          go_wp2_with fail
          have hsz := hb.size
          have l4 := b4.lt
          try simp only [Act.put, List.setIfInBounds_toArray, List.set_cons_zero, List.set_cons_succ]
          go_cut [7] (fun p wx => ∃ g, p = .pointer (some ⟨g, 0, none⟩) ∧ Below w.heap.size w wx ∧ Blk wx g (mk q) 27 ∧ Blk wx (w.heap.size + 1) (wd false 0) 27)
          case first =>
            refine rg_start [] (by kernel_rfl) (fun hS => ?_)
            replace hb := hb.drew
            refine rg_ld 0 rfl (by kernel_rfl) (by kernel_rfl) (by kernel_rfl) (by rfl) hS rfl rfl b5 (by simp <;> omega) (wholeM _) ?_
            try simp only [Act.put, List.setIfInBounds_toArray, List.set_cons_zero, List.set_cons_succ]
            refine rg_take 1 rfl (by kernel_rfl) (by kernel_rfl) (by kernel_rfl) (by rfl) hS (v := ?_) ?_ ?_
            rotate_left
            · (intro w' hS'; go_simp <;> try with_reducible rfl)
            try simp only [Act.put, List.setIfInBounds_toArray, List.set_cons_zero, List.set_cons_succ]
            refine rg_ldP 2 rfl (by kernel_rfl) (by kernel_rfl) (by kernel_rfl) (by rfl) hS rfl rfl b2 (by simp <;> omega) (partF_d _ _) (wholeM _) ?_
            try simp only [Act.put, List.setIfInBounds_toArray, List.set_cons_zero, List.set_cons_succ]
            refine rg_ld 3 rfl (by kernel_rfl) (by kernel_rfl) (by kernel_rfl) (by rfl) hS rfl rfl b6 (by simp <;> omega) (wholeM _) ?_
            try simp only [Act.put, List.setIfInBounds_toArray, List.set_cons_zero, List.set_cons_succ]
            refine rg_three 4 10 11 rfl rfl rfl (by kernel_rfl) (by rfl) (by rfl) (by rfl) (fun K hK => ?_) (fun K hK => ?_) (fun K hK => ?_)
            · go_simp
              refine (HT3.out _).mono ?_
              rintro e w1 ⟨rfl, h1⟩
              refine hK _ _ (hS.call h1) (fun hS => ?_)
              clear hK K
              try replace a7 := a7.call h1
              try replace a8 := a8.call h1
              replace hb := bthen hb h1
              clear h1
              try simp only [Act.put, List.setIfInBounds_toArray, List.set_cons_zero, List.set_cons_succ]
              refine rg_three 5 10 11 rfl rfl rfl (by kernel_rfl) (by rfl) (by rfl) (by rfl) (fun K hK => ?_) (fun K hK => ?_) (fun K hK => ?_)
              · go_simp
                refine (HDM.out _).mono ?_
                rintro e w1 ⟨rfl, h1⟩
                refine hK _ _ (hS.call h1) (fun hS => ?_)
                clear hK K
                try replace a7 := a7.call h1
                try replace a8 := a8.call h1
                replace hb := bthen hb h1
                clear h1
                try simp only [Act.put, List.setIfInBounds_toArray, List.set_cons_zero, List.set_cons_succ]
                refine rg_take 6 rfl (by kernel_rfl) (by kernel_rfl) (by kernel_rfl) (by rfl) hS (v := ?_) ?_ ?_
                rotate_left
                · (intro w' hS'; go_simp <;> try with_reducible rfl)
                try simp only [Act.put, List.setIfInBounds_toArray, List.set_cons_zero, List.set_cons_succ]
                refine rg_take 7 rfl (by kernel_rfl) (by kernel_rfl) (by kernel_rfl) (by rfl) hS (v := ?_) ?_ ?_
                rotate_left
                · (intro w' hS'; go_simp <;> try with_reducible rfl)
                try simp only [Act.put, List.setIfInBounds_toArray, List.set_cons_zero, List.set_cons_succ]
                refine rg_take 8 rfl (by kernel_rfl) (by kernel_rfl) (by kernel_rfl) (by rfl) hS (v := ?_) ?_ ?_
                rotate_left
                · (intro w' hS'; go_simp <;> try with_reducible rfl)
                try simp only [Act.put, List.setIfInBounds_toArray, List.set_cons_zero, List.set_cons_succ]
                refine rg_take 9 rfl (by kernel_rfl) (by kernel_rfl) (by kernel_rfl) (by rfl) hS (v := ?_) ?_ ?_
                rotate_left
                · (intro w' hS'; go_simp <;> try with_reducible rfl)
                try simp only [Act.put, List.setIfInBounds_toArray, List.set_cons_zero, List.set_cons_succ]
                refine rg_two 10 11 rfl rfl (by kernel_rfl) (by rfl) (by rfl) (fun K hK => ?_) (fun K hK => ?_)
                · refine wp_alB (zs := wd false 0) rfl (by kernel_rfl) (fun p7 q7 a7 => ?_)
                  try (have hnp : p7 ≠ p8 := by have := a8.lt; omega)
                  replace q7 := Nat.le_trans hS.1 q7
                  refine hK _ _ (hS.alloc _) (fun hS => ?_)
                  clear hK K
                  try replace a8 := a8.old (.cells (wd false 0).toArray 27)
                  replace hb := hb.alloc hb.size (.cells (wd false 0).toArray 27)
                  try simp only [Act.put, List.setIfInBounds_toArray, List.set_cons_zero, List.set_cons_succ]
                  refine rg_eff 11 rfl (by kernel_rfl) (by rfl) (fun K hK => ?_)
                  refine wp_alB (zs := wd false 0) rfl (by kernel_rfl) (fun p8 q8 a8 => ?_)
                  try (have hnp : p7 ≠ p8 := by have := a7.lt; omega)
                  replace q8 := Nat.le_trans hS.1 q8
                  refine hK _ _ (hS.alloc _) (fun hS => ?_)
                  clear hK K
                  try replace a7 := a7.old (.cells (wd false 0).toArray 27)
                  replace hb := hb.alloc hb.size (.cells (wd false 0).toArray 27)
                  try simp only [Act.put, List.setIfInBounds_toArray, List.set_cons_zero, List.set_cons_succ]
                  refine rg_eff 12 rfl (by kernel_rfl) (by rfl) (fun K hK => ?_)
                  refine wp_st (vs := mk q) rfl rfl rfl a7 (by rw [wd_length, mk_length]) (wholeM _) (mk_one _) ?_
                  refine hK _ _ (hS.row (.inr q7) _) (fun hS => ?_)
                  clear hK K
                  replace a7 := a7.row (mk q)
                  replace a8 := a8.rowOther (g := p7) (mk q).toArray (by omega)
                  replace hb := below_row hb (g := p7) (by omega) (mk q).toArray
                  try simp only [Act.put, List.setIfInBounds_toArray, List.set_cons_zero, List.set_cons_succ]
                  refine rg_eff 13 rfl (by kernel_rfl) (by rfl) (fun K hK => ?_)
                  refine wp_st (vs := mk t) rfl rfl rfl a8 (by rw [wd_length, mk_length]) (wholeM _) (mk_one _) ?_
                  refine hK _ _ (hS.row (.inr q8) _) (fun hS => ?_)
                  clear hK K
                  replace a8 := a8.row (mk t)
                  replace a7 := a7.rowOther (g := p8) (mk t).toArray (by omega)
                  replace hb := below_row hb (g := p8) (by omega) (mk t).toArray
                  try simp only [Act.put, List.setIfInBounds_toArray, List.set_cons_zero, List.set_cons_succ]
                  refine rg_take 14 rfl (by kernel_rfl) (by kernel_rfl) (by kernel_rfl) (by rfl) hS (v := ?_) ?_ ?_
                  rotate_left
                  · (intro w' hS'; go_simp <;> try with_reducible rfl)
                  try simp only [Act.put, List.setIfInBounds_toArray, List.set_cons_zero, List.set_cons_succ]
                  refine rg_done (by kernel_rfl) ?_
                  go_wp2_with fail
                  go_meet
                  case rel => exact ⟨p7, rfl, hb, a7, b4.keep hS (by simp)⟩
                · refine wp_alB (zs := wd false 0) rfl (by kernel_rfl) (fun p8 q8 a8 => ?_)
                  try (have hnp : p7 ≠ p8 := by have := a7.lt; omega)
                  replace q8 := Nat.le_trans hS.1 q8
                  refine hK _ _ (hS.alloc _) (fun hS => ?_)
                  clear hK K
                  try replace a7 := a7.old (.cells (wd false 0).toArray 27)
                  replace hb := hb.alloc hb.size (.cells (wd false 0).toArray 27)
                  try simp only [Act.put, List.setIfInBounds_toArray, List.set_cons_zero, List.set_cons_succ]
                  refine rg_eff 10 rfl (by kernel_rfl) (by rfl) (fun K hK => ?_)
                  refine wp_alB (zs := wd false 0) rfl (by kernel_rfl) (fun p7 q7 a7 => ?_)
                  try (have hnp : p7 ≠ p8 := by have := a8.lt; omega)
                  replace q7 := Nat.le_trans hS.1 q7
                  refine hK _ _ (hS.alloc _) (fun hS => ?_)
                  clear hK K
                  try replace a8 := a8.old (.cells (wd false 0).toArray 27)
                  replace hb := hb.alloc hb.size (.cells (wd false 0).toArray 27)
                  try simp only [Act.put, List.setIfInBounds_toArray, List.set_cons_zero, List.set_cons_succ]
                  refine rg_eff 12 rfl (by kernel_rfl) (by rfl) (fun K hK => ?_)
                  refine wp_st (vs := mk q) rfl rfl rfl a7 (by rw [wd_length, mk_length]) (wholeM _) (mk_one _) ?_
                  refine hK _ _ (hS.row (.inr q7) _) (fun hS => ?_)
                  clear hK K
                  replace a7 := a7.row (mk q)
                  replace a8 := a8.rowOther (g := p7) (mk q).toArray (by omega)
                  replace hb := below_row hb (g := p7) (by omega) (mk q).toArray
                  try simp only [Act.put, List.setIfInBounds_toArray, List.set_cons_zero, List.set_cons_succ]
                  refine rg_eff 13 rfl (by kernel_rfl) (by rfl) (fun K hK => ?_)
                  refine wp_st (vs := mk t) rfl rfl rfl a8 (by rw [wd_length, mk_length]) (wholeM _) (mk_one _) ?_
                  refine hK _ _ (hS.row (.inr q8) _) (fun hS => ?_)
                  clear hK K
                  replace a8 := a8.row (mk t)
                  replace a7 := a7.rowOther (g := p8) (mk t).toArray (by omega)
                  replace hb := below_row hb (g := p8) (by omega) (mk t).toArray
                  try simp only [Act.put, List.setIfInBounds_toArray, List.set_cons_zero, List.set_cons_succ]
                  refine rg_take 14 rfl (by kernel_rfl) (by kernel_rfl) (by kernel_rfl) (by rfl) hS (v := ?_) ?_ ?_
                  rotate_left
                  · (intro w' hS'; go_simp <;> try with_reducible rfl)
                  try simp only [Act.put, List.setIfInBounds_toArray, List.set_cons_zero, List.set_cons_succ]
                  refine rg_done (by kernel_rfl) ?_
                  go_wp2_with fail
                  go_meet
                  case rel => exact ⟨p7, rfl, hb, a7, b4.keep hS (by simp)⟩
              · refine wp_alB (zs := wd false 0) rfl (by kernel_rfl) (fun p7 q7 a7 => ?_)
                try (have hnp : p7 ≠ p8 := by have := a8.lt; omega)
                replace q7 := Nat.le_trans hS.1 q7
                refine hK _ _ (hS.alloc _) (fun hS => ?_)
                clear hK K
                try replace a8 := a8.old (.cells (wd false 0).toArray 27)
                replace hb := hb.alloc hb.size (.cells (wd false 0).toArray 27)
                try simp only [Act.put, List.setIfInBounds_toArray, List.set_cons_zero, List.set_cons_succ]
                refine rg_two 5 11 rfl rfl (by kernel_rfl) (by rfl) (by rfl) (fun K hK => ?_) (fun K hK => ?_)
                · go_simp
                  refine (HDM.out _).mono ?_
                  rintro e w1 ⟨rfl, h1⟩
                  refine hK _ _ (hS.call h1) (fun hS => ?_)
                  clear hK K
                  try replace a7 := a7.call h1
                  try replace a8 := a8.call h1
                  replace hb := bthen hb h1
                  clear h1
                  try simp only [Act.put, List.setIfInBounds_toArray, List.set_cons_zero, List.set_cons_succ]
                  refine rg_take 6 rfl (by kernel_rfl) (by kernel_rfl) (by kernel_rfl) (by rfl) hS (v := ?_) ?_ ?_
                  rotate_left
                  · (intro w' hS'; go_simp <;> try with_reducible rfl)
                  try simp only [Act.put, List.setIfInBounds_toArray, List.set_cons_zero, List.set_cons_succ]
                  refine rg_take 7 rfl (by kernel_rfl) (by kernel_rfl) (by kernel_rfl) (by rfl) hS (v := ?_) ?_ ?_
                  rotate_left
                  · (intro w' hS'; go_simp <;> try with_reducible rfl)
                  try simp only [Act.put, List.setIfInBounds_toArray, List.set_cons_zero, List.set_cons_succ]
                  refine rg_take 8 rfl (by kernel_rfl) (by kernel_rfl) (by kernel_rfl) (by rfl) hS (v := ?_) ?_ ?_
                  rotate_left
                  · (intro w' hS'; go_simp <;> try with_reducible rfl)
                  try simp only [Act.put, List.setIfInBounds_toArray, List.set_cons_zero, List.set_cons_succ]
                  refine rg_take 9 rfl (by kernel_rfl) (by kernel_rfl) (by kernel_rfl) (by rfl) hS (v := ?_) ?_ ?_
                  rotate_left
                  · (intro w' hS'; go_simp <;> try with_reducible rfl)
                  try simp only [Act.put, List.setIfInBounds_toArray, List.set_cons_zero, List.set_cons_succ]
                  refine rg_eff 11 rfl (by kernel_rfl) (by rfl) (fun K hK => ?_)
                  refine wp_alB (zs := wd false 0) rfl (by kernel_rfl) (fun p8 q8 a8 => ?_)
                  try (have hnp : p7 ≠ p8 := by have := a7.lt; omega)
                  replace q8 := Nat.le_trans hS.1 q8
                  refine hK _ _ (hS.alloc _) (fun hS => ?_)
                  clear hK K
                  try replace a7 := a7.old (.cells (wd false 0).toArray 27)
                  replace hb := hb.alloc hb.size (.cells (wd false 0).toArray 27)
                  try simp only [Act.put, List.setIfInBounds_toArray, List.set_cons_zero, List.set_cons_succ]
                  refine rg_eff 12 rfl (by kernel_rfl) (by rfl) (fun K hK => ?_)
                  refine wp_st (vs := mk q) rfl rfl rfl a7 (by rw [wd_length, mk_length]) (wholeM _) (mk_one _) ?_
                  refine hK _ _ (hS.row (.inr q7) _) (fun hS => ?_)
                  clear hK K
                  replace a7 := a7.row (mk q)
                  replace a8 := a8.rowOther (g := p7) (mk q).toArray (by omega)
                  replace hb := below_row hb (g := p7) (by omega) (mk q).toArray
                  try simp only [Act.put, List.setIfInBounds_toArray, List.set_cons_zero, List.set_cons_succ]
                  refine rg_eff 13 rfl (by kernel_rfl) (by rfl) (fun K hK => ?_)
                  refine wp_st (vs := mk t) rfl rfl rfl a8 (by rw [wd_length, mk_length]) (wholeM _) (mk_one _) ?_
                  refine hK _ _ (hS.row (.inr q8) _) (fun hS => ?_)
                  clear hK K
                  replace a8 := a8.row (mk t)
                  replace a7 := a7.rowOther (g := p8) (mk t).toArray (by omega)
                  replace hb := below_row hb (g := p8) (by omega) (mk t).toArray
                  try simp only [Act.put, List.setIfInBounds_toArray, List.set_cons_zero, List.set_cons_succ]
                  refine rg_take 14 rfl (by kernel_rfl) (by kernel_rfl) (by kernel_rfl) (by rfl) hS (v := ?_) ?_ ?_
                  rotate_left
                  · (intro w' hS'; go_simp <;> try with_reducible rfl)
                  try simp only [Act.put, List.setIfInBounds_toArray, List.set_cons_zero, List.set_cons_succ]
                  refine rg_done (by kernel_rfl) ?_
                  go_wp2_with fail
                  go_meet
                  case rel => exact ⟨p7, rfl, hb, a7, b4.keep hS (by simp)⟩
                · refine wp_alB (zs := wd false 0) rfl (by kernel_rfl) (fun p8 q8 a8 => ?_)
                  try (have hnp : p7 ≠ p8 := by have := a7.lt; omega)
                  replace q8 := Nat.le_trans hS.1 q8
                  refine hK _ _ (hS.alloc _) (fun hS => ?_)
                  clear hK K
                  try replace a7 := a7.old (.cells (wd false 0).toArray 27)
                  replace hb := hb.alloc hb.size (.cells (wd false 0).toArray 27)
                  try simp only [Act.put, List.setIfInBounds_toArray, List.set_cons_zero, List.set_cons_succ]
                  refine rg_eff 5 rfl (by kernel_rfl) (by rfl) (fun K hK => ?_)
                  go_simp
                  refine (HDM.out _).mono ?_
                  rintro e w1 ⟨rfl, h1⟩
                  refine hK _ _ (hS.call h1) (fun hS => ?_)
                  clear hK K
                  try replace a7 := a7.call h1
                  try replace a8 := a8.call h1
                  replace hb := bthen hb h1
                  clear h1
                  try simp only [Act.put, List.setIfInBounds_toArray, List.set_cons_zero, List.set_cons_succ]
                  refine rg_take 6 rfl (by kernel_rfl) (by kernel_rfl) (by kernel_rfl) (by rfl) hS (v := ?_) ?_ ?_
                  rotate_left
                  · (intro w' hS'; go_simp <;> try with_reducible rfl)
                  try simp only [Act.put, List.setIfInBounds_toArray, List.set_cons_zero, List.set_cons_succ]
                  refine rg_take 7 rfl (by kernel_rfl) (by kernel_rfl) (by kernel_rfl) (by rfl) hS (v := ?_) ?_ ?_
                  rotate_left
                  · (intro w' hS'; go_simp <;> try with_reducible rfl)
                  try simp only [Act.put, List.setIfInBounds_toArray, List.set_cons_zero, List.set_cons_succ]
                  refine rg_take 8 rfl (by kernel_rfl) (by kernel_rfl) (by kernel_rfl) (by rfl) hS (v := ?_) ?_ ?_
                  rotate_left
                  · (intro w' hS'; go_simp <;> try with_reducible rfl)
                  try simp only [Act.put, List.setIfInBounds_toArray, List.set_cons_zero, List.set_cons_succ]
                  refine rg_take 9 rfl (by kernel_rfl) (by kernel_rfl) (by kernel_rfl) (by rfl) hS (v := ?_) ?_ ?_
                  rotate_left
                  · (intro w' hS'; go_simp <;> try with_reducible rfl)
                  try simp only [Act.put, List.setIfInBounds_toArray, List.set_cons_zero, List.set_cons_succ]
                  refine rg_eff 12 rfl (by kernel_rfl) (by rfl) (fun K hK => ?_)
                  refine wp_st (vs := mk q) rfl rfl rfl a7 (by rw [wd_length, mk_length]) (wholeM _) (mk_one _) ?_
                  refine hK _ _ (hS.row (.inr q7) _) (fun hS => ?_)
                  clear hK K
                  replace a7 := a7.row (mk q)
                  replace a8 := a8.rowOther (g := p7) (mk q).toArray (by omega)
                  replace hb := below_row hb (g := p7) (by omega) (mk q).toArray
                  try simp only [Act.put, List.setIfInBounds_toArray, List.set_cons_zero, List.set_cons_succ]
                  refine rg_eff 13 rfl (by kernel_rfl) (by rfl) (fun K hK => ?_)
                  refine wp_st (vs := mk t) rfl rfl rfl a8 (by rw [wd_length, mk_length]) (wholeM _) (mk_one _) ?_
                  refine hK _ _ (hS.row (.inr q8) _) (fun hS => ?_)
                  clear hK K
                  replace a8 := a8.row (mk t)
                  replace a7 := a7.rowOther (g := p8) (mk t).toArray (by omega)
                  replace hb := below_row hb (g := p8) (by omega) (mk t).toArray
                  try simp only [Act.put, List.setIfInBounds_toArray, List.set_cons_zero, List.set_cons_succ]
                  refine rg_take 14 rfl (by kernel_rfl) (by kernel_rfl) (by kernel_rfl) (by rfl) hS (v := ?_) ?_ ?_
                  rotate_left
                  · (intro w' hS'; go_simp <;> try with_reducible rfl)
                  try simp only [Act.put, List.setIfInBounds_toArray, List.set_cons_zero, List.set_cons_succ]
                  refine rg_done (by kernel_rfl) ?_
                  go_wp2_with fail
                  go_meet
                  case rel => exact ⟨p7, rfl, hb, a7, b4.keep hS (by simp)⟩
              · refine wp_alB (zs := wd false 0) rfl (by kernel_rfl) (fun p8 q8 a8 => ?_)
                try (have hnp : p7 ≠ p8 := by have := a7.lt; omega)
                replace q8 := Nat.le_trans hS.1 q8
                refine hK _ _ (hS.alloc _) (fun hS => ?_)
                clear hK K
                try replace a7 := a7.old (.cells (wd false 0).toArray 27)
                replace hb := hb.alloc hb.size (.cells (wd false 0).toArray 27)
                try simp only [Act.put, List.setIfInBounds_toArray, List.set_cons_zero, List.set_cons_succ]
                refine rg_two 5 10 rfl rfl (by kernel_rfl) (by rfl) (by rfl) (fun K hK => ?_) (fun K hK => ?_)
                · go_simp
                  refine (HDM.out _).mono ?_
                  rintro e w1 ⟨rfl, h1⟩
                  refine hK _ _ (hS.call h1) (fun hS => ?_)
                  clear hK K
                  try replace a7 := a7.call h1
                  try replace a8 := a8.call h1
                  replace hb := bthen hb h1
                  clear h1
                  try simp only [Act.put, List.setIfInBounds_toArray, List.set_cons_zero, List.set_cons_succ]
                  refine rg_take 6 rfl (by kernel_rfl) (by kernel_rfl) (by kernel_rfl) (by rfl) hS (v := ?_) ?_ ?_
                  rotate_left
                  · (intro w' hS'; go_simp <;> try with_reducible rfl)
                  try simp only [Act.put, List.setIfInBounds_toArray, List.set_cons_zero, List.set_cons_succ]
                  refine rg_take 7 rfl (by kernel_rfl) (by kernel_rfl) (by kernel_rfl) (by rfl) hS (v := ?_) ?_ ?_
                  rotate_left
                  · (intro w' hS'; go_simp <;> try with_reducible rfl)
                  try simp only [Act.put, List.setIfInBounds_toArray, List.set_cons_zero, List.set_cons_succ]
                  refine rg_take 8 rfl (by kernel_rfl) (by kernel_rfl) (by kernel_rfl) (by rfl) hS (v := ?_) ?_ ?_
                  rotate_left
                  · (intro w' hS'; go_simp <;> try with_reducible rfl)
                  try simp only [Act.put, List.setIfInBounds_toArray, List.set_cons_zero, List.set_cons_succ]
                  refine rg_take 9 rfl (by kernel_rfl) (by kernel_rfl) (by kernel_rfl) (by rfl) hS (v := ?_) ?_ ?_
                  rotate_left
                  · (intro w' hS'; go_simp <;> try with_reducible rfl)
                  try simp only [Act.put, List.setIfInBounds_toArray, List.set_cons_zero, List.set_cons_succ]
                  refine rg_eff 10 rfl (by kernel_rfl) (by rfl) (fun K hK => ?_)
                  refine wp_alB (zs := wd false 0) rfl (by kernel_rfl) (fun p7 q7 a7 => ?_)
                  try (have hnp : p7 ≠ p8 := by have := a8.lt; omega)
                  replace q7 := Nat.le_trans hS.1 q7
                  refine hK _ _ (hS.alloc _) (fun hS => ?_)
                  clear hK K
                  try replace a8 := a8.old (.cells (wd false 0).toArray 27)
                  replace hb := hb.alloc hb.size (.cells (wd false 0).toArray 27)
                  try simp only [Act.put, List.setIfInBounds_toArray, List.set_cons_zero, List.set_cons_succ]
                  refine rg_eff 12 rfl (by kernel_rfl) (by rfl) (fun K hK => ?_)
                  refine wp_st (vs := mk q) rfl rfl rfl a7 (by rw [wd_length, mk_length]) (wholeM _) (mk_one _) ?_
                  refine hK _ _ (hS.row (.inr q7) _) (fun hS => ?_)
                  clear hK K
                  replace a7 := a7.row (mk q)
                  replace a8 := a8.rowOther (g := p7) (mk q).toArray (by omega)
                  replace hb := below_row hb (g := p7) (by omega) (mk q).toArray
                  try simp only [Act.put, List.setIfInBounds_toArray, List.set_cons_zero, List.set_cons_succ]
                  refine rg_eff 13 rfl (by kernel_rfl) (by rfl) (fun K hK => ?_)
                  refine wp_st (vs := mk t) rfl rfl rfl a8 (by rw [wd_length, mk_length]) (wholeM _) (mk_one _) ?_
                  refine hK _ _ (hS.row (.inr q8) _) (fun hS => ?_)
                  clear hK K
                  replace a8 := a8.row (mk t)
                  replace a7 := a7.rowOther (g := p8) (mk t).toArray (by omega)
                  replace hb := below_row hb (g := p8) (by omega) (mk t).toArray
                  try simp only [Act.put, List.setIfInBounds_toArray, List.set_cons_zero, List.set_cons_succ]
                  refine rg_take 14 rfl (by kernel_rfl) (by kernel_rfl) (by kernel_rfl) (by rfl) hS (v := ?_) ?_ ?_
                  rotate_left
                  · (intro w' hS'; go_simp <;> try with_reducible rfl)
                  try simp only [Act.put, List.setIfInBounds_toArray, List.set_cons_zero, List.set_cons_succ]
                  refine rg_done (by kernel_rfl) ?_
                  go_wp2_with fail
                  go_meet
                  case rel => exact ⟨p7, rfl, hb, a7, b4.keep hS (by simp)⟩
                · refine wp_alB (zs := wd false 0) rfl (by kernel_rfl) (fun p7 q7 a7 => ?_)
                  try (have hnp : p7 ≠ p8 := by have := a8.lt; omega)
                  replace q7 := Nat.le_trans hS.1 q7
                  refine hK _ _ (hS.alloc _) (fun hS => ?_)
                  clear hK K
                  try replace a8 := a8.old (.cells (wd false 0).toArray 27)
                  replace hb := hb.alloc hb.size (.cells (wd false 0).toArray 27)
                  try simp only [Act.put, List.setIfInBounds_toArray, List.set_cons_zero, List.set_cons_succ]
                  refine rg_eff 5 rfl (by kernel_rfl) (by rfl) (fun K hK => ?_)
                  go_simp
                  refine (HDM.out _).mono ?_
                  rintro e w1 ⟨rfl, h1⟩
                  refine hK _ _ (hS.call h1) (fun hS => ?_)
                  clear hK K
                  try replace a7 := a7.call h1
                  try replace a8 := a8.call h1
                  replace hb := bthen hb h1
                  clear h1
                  try simp only [Act.put, List.setIfInBounds_toArray, List.set_cons_zero, List.set_cons_succ]
                  refine rg_take 6 rfl (by kernel_rfl) (by kernel_rfl) (by kernel_rfl) (by rfl) hS (v := ?_) ?_ ?_
                  rotate_left
                  · (intro w' hS'; go_simp <;> try with_reducible rfl)
                  try simp only [Act.put, List.setIfInBounds_toArray, List.set_cons_zero, List.set_cons_succ]
                  refine rg_take 7 rfl (by kernel_rfl) (by kernel_rfl) (by kernel_rfl) (by rfl) hS (v := ?_) ?_ ?_
                  rotate_left
                  · (intro w' hS'; go_simp <;> try with_reducible rfl)
                  try simp only [Act.put, List.setIfInBounds_toArray, List.set_cons_zero, List.set_cons_succ]
                  refine rg_take 8 rfl (by kernel_rfl) (by kernel_rfl) (by kernel_rfl) (by rfl) hS (v := ?_) ?_ ?_
                  rotate_left
                  · (intro w' hS'; go_simp <;> try with_reducible rfl)
                  try simp only [Act.put, List.setIfInBounds_toArray, List.set_cons_zero, List.set_cons_succ]
                  refine rg_take 9 rfl (by kernel_rfl) (by kernel_rfl) (by kernel_rfl) (by rfl) hS (v := ?_) ?_ ?_
                  rotate_left
                  · (intro w' hS'; go_simp <;> try with_reducible rfl)
                  try simp only [Act.put, List.setIfInBounds_toArray, List.set_cons_zero, List.set_cons_succ]
                  refine rg_eff 12 rfl (by kernel_rfl) (by rfl) (fun K hK => ?_)
                  refine wp_st (vs := mk q) rfl rfl rfl a7 (by rw [wd_length, mk_length]) (wholeM _) (mk_one _) ?_
                  refine hK _ _ (hS.row (.inr q7) _) (fun hS => ?_)
                  clear hK K
                  replace a7 := a7.row (mk q)
                  replace a8 := a8.rowOther (g := p7) (mk q).toArray (by omega)
                  replace hb := below_row hb (g := p7) (by omega) (mk q).toArray
                  try simp only [Act.put, List.setIfInBounds_toArray, List.set_cons_zero, List.set_cons_succ]
                  refine rg_eff 13 rfl (by kernel_rfl) (by rfl) (fun K hK => ?_)
                  refine wp_st (vs := mk t) rfl rfl rfl a8 (by rw [wd_length, mk_length]) (wholeM _) (mk_one _) ?_
                  refine hK _ _ (hS.row (.inr q8) _) (fun hS => ?_)
                  clear hK K
                  replace a8 := a8.row (mk t)
                  replace a7 := a7.rowOther (g := p8) (mk t).toArray (by omega)
                  replace hb := below_row hb (g := p8) (by omega) (mk t).toArray
                  try simp only [Act.put, List.setIfInBounds_toArray, List.set_cons_zero, List.set_cons_succ]
                  refine rg_take 14 rfl (by kernel_rfl) (by kernel_rfl) (by kernel_rfl) (by rfl) hS (v := ?_) ?_ ?_
                  rotate_left
                  · (intro w' hS'; go_simp <;> try with_reducible rfl)
                  try simp only [Act.put, List.setIfInBounds_toArray, List.set_cons_zero, List.set_cons_succ]
                  refine rg_done (by kernel_rfl) ?_
                  go_wp2_with fail
                  go_meet
                  case rel => exact ⟨p7, rfl, hb, a7, b4.keep hS (by simp)⟩
            · refine wp_alB (zs := wd false 0) rfl (by kernel_rfl) (fun p7 q7 a7 => ?_)
              try (have hnp : p7 ≠ p8 := by have := a8.lt; omega)
              replace q7 := Nat.le_trans hS.1 q7
              refine hK _ _ (hS.alloc _) (fun hS => ?_)
              clear hK K
              try replace a8 := a8.old (.cells (wd false 0).toArray 27)
              replace hb := hb.alloc hb.size (.cells (wd false 0).toArray 27)
              try simp only [Act.put, List.setIfInBounds_toArray, List.set_cons_zero, List.set_cons_succ]
              refine rg_two 4 11 rfl rfl (by kernel_rfl) (by rfl) (by rfl) (fun K hK => ?_) (fun K hK => ?_)
              · go_simp
                refine (HT3.out _).mono ?_
                rintro e w1 ⟨rfl, h1⟩
                refine hK _ _ (hS.call h1) (fun hS => ?_)
                clear hK K
                try replace a7 := a7.call h1
                try replace a8 := a8.call h1
                replace hb := bthen hb h1
                clear h1
                try simp only [Act.put, List.setIfInBounds_toArray, List.set_cons_zero, List.set_cons_succ]
                refine rg_two 5 11 rfl rfl (by kernel_rfl) (by rfl) (by rfl) (fun K hK => ?_) (fun K hK => ?_)
                · go_simp
                  refine (HDM.out _).mono ?_
                  rintro e w1 ⟨rfl, h1⟩
                  refine hK _ _ (hS.call h1) (fun hS => ?_)
                  clear hK K
                  try replace a7 := a7.call h1
                  try replace a8 := a8.call h1
                  replace hb := bthen hb h1
                  clear h1
                  try simp only [Act.put, List.setIfInBounds_toArray, List.set_cons_zero, List.set_cons_succ]
                  refine rg_take 6 rfl (by kernel_rfl) (by kernel_rfl) (by kernel_rfl) (by rfl) hS (v := ?_) ?_ ?_
                  rotate_left
                  · (intro w' hS'; go_simp <;> try with_reducible rfl)
                  try simp only [Act.put, List.setIfInBounds_toArray, List.set_cons_zero, List.set_cons_succ]
                  refine rg_take 7 rfl (by kernel_rfl) (by kernel_rfl) (by kernel_rfl) (by rfl) hS (v := ?_) ?_ ?_
                  rotate_left
                  · (intro w' hS'; go_simp <;> try with_reducible rfl)
                  try simp only [Act.put, List.setIfInBounds_toArray, List.set_cons_zero, List.set_cons_succ]
                  refine rg_take 8 rfl (by kernel_rfl) (by kernel_rfl) (by kernel_rfl) (by rfl) hS (v := ?_) ?_ ?_
                  rotate_left
                  · (intro w' hS'; go_simp <;> try with_reducible rfl)
                  try simp only [Act.put, List.setIfInBounds_toArray, List.set_cons_zero, List.set_cons_succ]
                  refine rg_take 9 rfl (by kernel_rfl) (by kernel_rfl) (by kernel_rfl) (by rfl) hS (v := ?_) ?_ ?_
                  rotate_left
                  · (intro w' hS'; go_simp <;> try with_reducible rfl)
                  try simp only [Act.put, List.setIfInBounds_toArray, List.set_cons_zero, List.set_cons_succ]
                  refine rg_eff 11 rfl (by kernel_rfl) (by rfl) (fun K hK => ?_)
                  refine wp_alB (zs := wd false 0) rfl (by kernel_rfl) (fun p8 q8 a8 => ?_)
                  try (have hnp : p7 ≠ p8 := by have := a7.lt; omega)
                  replace q8 := Nat.le_trans hS.1 q8
                  refine hK _ _ (hS.alloc _) (fun hS => ?_)
                  clear hK K
                  try replace a7 := a7.old (.cells (wd false 0).toArray 27)
                  replace hb := hb.alloc hb.size (.cells (wd false 0).toArray 27)
                  try simp only [Act.put, List.setIfInBounds_toArray, List.set_cons_zero, List.set_cons_succ]
                  refine rg_eff 12 rfl (by kernel_rfl) (by rfl) (fun K hK => ?_)
                  refine wp_st (vs := mk q) rfl rfl rfl a7 (by rw [wd_length, mk_length]) (wholeM _) (mk_one _) ?_
                  refine hK _ _ (hS.row (.inr q7) _) (fun hS => ?_)
                  clear hK K
                  replace a7 := a7.row (mk q)
                  replace a8 := a8.rowOther (g := p7) (mk q).toArray (by omega)
                  replace hb := below_row hb (g := p7) (by omega) (mk q).toArray
                  try simp only [Act.put, List.setIfInBounds_toArray, List.set_cons_zero, List.set_cons_succ]
                  refine rg_eff 13 rfl (by kernel_rfl) (by rfl) (fun K hK => ?_)
                  refine wp_st (vs := mk t) rfl rfl rfl a8 (by rw [wd_length, mk_length]) (wholeM _) (mk_one _) ?_
                  refine hK _ _ (hS.row (.inr q8) _) (fun hS => ?_)
                  clear hK K
                  replace a8 := a8.row (mk t)
                  replace a7 := a7.rowOther (g := p8) (mk t).toArray (by omega)
                  replace hb := below_row hb (g := p8) (by omega) (mk t).toArray
                  try simp only [Act.put, List.setIfInBounds_toArray, List.set_cons_zero, List.set_cons_succ]
                  refine rg_take 14 rfl (by kernel_rfl) (by kernel_rfl) (by kernel_rfl) (by rfl) hS (v := ?_) ?_ ?_
                  rotate_left
                  · (intro w' hS'; go_simp <;> try with_reducible rfl)
                  try simp only [Act.put, List.setIfInBounds_toArray, List.set_cons_zero, List.set_cons_succ]
                  refine rg_done (by kernel_rfl) ?_
                  go_wp2_with fail
                  go_meet
                  case rel => exact ⟨p7, rfl, hb, a7, b4.keep hS (by simp)⟩
                · refine wp_alB (zs := wd false 0) rfl (by kernel_rfl) (fun p8 q8 a8 => ?_)
                  try (have hnp : p7 ≠ p8 := by have := a7.lt; omega)
                  replace q8 := Nat.le_trans hS.1 q8
                  refine hK _ _ (hS.alloc _) (fun hS => ?_)
                  clear hK K
                  try replace a7 := a7.old (.cells (wd false 0).toArray 27)
                  replace hb := hb.alloc hb.size (.cells (wd false 0).toArray 27)
                  try simp only [Act.put, List.setIfInBounds_toArray, List.set_cons_zero, List.set_cons_succ]
                  refine rg_eff 5 rfl (by kernel_rfl) (by rfl) (fun K hK => ?_)
                  go_simp
                  refine (HDM.out _).mono ?_
                  rintro e w1 ⟨rfl, h1⟩
                  refine hK _ _ (hS.call h1) (fun hS => ?_)
                  clear hK K
                  try replace a7 := a7.call h1
                  try replace a8 := a8.call h1
                  replace hb := bthen hb h1
                  clear h1
                  try simp only [Act.put, List.setIfInBounds_toArray, List.set_cons_zero, List.set_cons_succ]
                  refine rg_take 6 rfl (by kernel_rfl) (by kernel_rfl) (by kernel_rfl) (by rfl) hS (v := ?_) ?_ ?_
                  rotate_left
                  · (intro w' hS'; go_simp <;> try with_reducible rfl)
                  try simp only [Act.put, List.setIfInBounds_toArray, List.set_cons_zero, List.set_cons_succ]
                  refine rg_take 7 rfl (by kernel_rfl) (by kernel_rfl) (by kernel_rfl) (by rfl) hS (v := ?_) ?_ ?_
                  rotate_left
                  · (intro w' hS'; go_simp <;> try with_reducible rfl)
                  try simp only [Act.put, List.setIfInBounds_toArray, List.set_cons_zero, List.set_cons_succ]
                  refine rg_take 8 rfl (by kernel_rfl) (by kernel_rfl) (by kernel_rfl) (by rfl) hS (v := ?_) ?_ ?_
                  rotate_left
                  · (intro w' hS'; go_simp <;> try with_reducible rfl)
                  try simp only [Act.put, List.setIfInBounds_toArray, List.set_cons_zero, List.set_cons_succ]
                  refine rg_take 9 rfl (by kernel_rfl) (by kernel_rfl) (by kernel_rfl) (by rfl) hS (v := ?_) ?_ ?_
                  rotate_left
                  · (intro w' hS'; go_simp <;> try with_reducible rfl)
                  try simp only [Act.put, List.setIfInBounds_toArray, List.set_cons_zero, List.set_cons_succ]
                  refine rg_eff 12 rfl (by kernel_rfl) (by rfl) (fun K hK => ?_)
                  refine wp_st (vs := mk q) rfl rfl rfl a7 (by rw [wd_length, mk_length]) (wholeM _) (mk_one _) ?_
                  refine hK _ _ (hS.row (.inr q7) _) (fun hS => ?_)
                  clear hK K
                  replace a7 := a7.row (mk q)
                  replace a8 := a8.rowOther (g := p7) (mk q).toArray (by omega)
                  replace hb := below_row hb (g := p7) (by omega) (mk q).toArray
                  try simp only [Act.put, List.setIfInBounds_toArray, List.set_cons_zero, List.set_cons_succ]
                  refine rg_eff 13 rfl (by kernel_rfl) (by rfl) (fun K hK => ?_)
                  refine wp_st (vs := mk t) rfl rfl rfl a8 (by rw [wd_length, mk_length]) (wholeM _) (mk_one _) ?_
                  refine hK _ _ (hS.row (.inr q8) _) (fun hS => ?_)
                  clear hK K
                  replace a8 := a8.row (mk t)
                  replace a7 := a7.rowOther (g := p8) (mk t).toArray (by omega)
                  replace hb := below_row hb (g := p8) (by omega) (mk t).toArray
                  try simp only [Act.put, List.setIfInBounds_toArray, List.set_cons_zero, List.set_cons_succ]
                  refine rg_take 14 rfl (by kernel_rfl) (by kernel_rfl) (by kernel_rfl) (by rfl) hS (v := ?_) ?_ ?_
                  rotate_left
                  · (intro w' hS'; go_simp <;> try with_reducible rfl)
                  try simp only [Act.put, List.setIfInBounds_toArray, List.set_cons_zero, List.set_cons_succ]
                  refine rg_done (by kernel_rfl) ?_
                  go_wp2_with fail
                  go_meet
                  case rel => exact ⟨p7, rfl, hb, a7, b4.keep hS (by simp)⟩
              · refine wp_alB (zs := wd false 0) rfl (by kernel_rfl) (fun p8 q8 a8 => ?_)
                try (have hnp : p7 ≠ p8 := by have := a7.lt; omega)
                replace q8 := Nat.le_trans hS.1 q8
                refine hK _ _ (hS.alloc _) (fun hS => ?_)
                clear hK K
                try replace a7 := a7.old (.cells (wd false 0).toArray 27)
                replace hb := hb.alloc hb.size (.cells (wd false 0).toArray 27)
                try simp only [Act.put, List.setIfInBounds_toArray, List.set_cons_zero, List.set_cons_succ]
                refine rg_eff 4 rfl (by kernel_rfl) (by rfl) (fun K hK => ?_)
                go_simp
                refine (HT3.out _).mono ?_
                rintro e w1 ⟨rfl, h1⟩
                refine hK _ _ (hS.call h1) (fun hS => ?_)
                clear hK K
                try replace a7 := a7.call h1
                try replace a8 := a8.call h1
                replace hb := bthen hb h1
                clear h1
                try simp only [Act.put, List.setIfInBounds_toArray, List.set_cons_zero, List.set_cons_succ]
                refine rg_eff 5 rfl (by kernel_rfl) (by rfl) (fun K hK => ?_)
                go_simp
                refine (HDM.out _).mono ?_
                rintro e w1 ⟨rfl, h1⟩
                refine hK _ _ (hS.call h1) (fun hS => ?_)
                clear hK K
                try replace a7 := a7.call h1
                try replace a8 := a8.call h1
                replace hb := bthen hb h1
                clear h1
                try simp only [Act.put, List.setIfInBounds_toArray, List.set_cons_zero, List.set_cons_succ]
                refine rg_take 6 rfl (by kernel_rfl) (by kernel_rfl) (by kernel_rfl) (by rfl) hS (v := ?_) ?_ ?_
                rotate_left
                · (intro w' hS'; go_simp <;> try with_reducible rfl)
                try simp only [Act.put, List.setIfInBounds_toArray, List.set_cons_zero, List.set_cons_succ]
                refine rg_take 7 rfl (by kernel_rfl) (by kernel_rfl) (by kernel_rfl) (by rfl) hS (v := ?_) ?_ ?_
                rotate_left
                · (intro w' hS'; go_simp <;> try with_reducible rfl)
                try simp only [Act.put, List.setIfInBounds_toArray, List.set_cons_zero, List.set_cons_succ]
                refine rg_take 8 rfl (by kernel_rfl) (by kernel_rfl) (by kernel_rfl) (by rfl) hS (v := ?_) ?_ ?_
                rotate_left
                · (intro w' hS'; go_simp <;> try with_reducible rfl)
                try simp only [Act.put, List.setIfInBounds_toArray, List.set_cons_zero, List.set_cons_succ]
                refine rg_take 9 rfl (by kernel_rfl) (by kernel_rfl) (by kernel_rfl) (by rfl) hS (v := ?_) ?_ ?_
                rotate_left
                · (intro w' hS'; go_simp <;> try with_reducible rfl)
                try simp only [Act.put, List.setIfInBounds_toArray, List.set_cons_zero, List.set_cons_succ]
                refine rg_eff 12 rfl (by kernel_rfl) (by rfl) (fun K hK => ?_)
                refine wp_st (vs := mk q) rfl rfl rfl a7 (by rw [wd_length, mk_length]) (wholeM _) (mk_one _) ?_
                refine hK _ _ (hS.row (.inr q7) _) (fun hS => ?_)
                clear hK K
                replace a7 := a7.row (mk q)
                replace a8 := a8.rowOther (g := p7) (mk q).toArray (by omega)
                replace hb := below_row hb (g := p7) (by omega) (mk q).toArray
                try simp only [Act.put, List.setIfInBounds_toArray, List.set_cons_zero, List.set_cons_succ]
                refine rg_eff 13 rfl (by kernel_rfl) (by rfl) (fun K hK => ?_)
                refine wp_st (vs := mk t) rfl rfl rfl a8 (by rw [wd_length, mk_length]) (wholeM _) (mk_one _) ?_
                refine hK _ _ (hS.row (.inr q8) _) (fun hS => ?_)
                clear hK K
                replace a8 := a8.row (mk t)
                replace a7 := a7.rowOther (g := p8) (mk t).toArray (by omega)
                replace hb := below_row hb (g := p8) (by omega) (mk t).toArray
                try simp only [Act.put, List.setIfInBounds_toArray, List.set_cons_zero, List.set_cons_succ]
                refine rg_take 14 rfl (by kernel_rfl) (by kernel_rfl) (by kernel_rfl) (by rfl) hS (v := ?_) ?_ ?_
                rotate_left
                · (intro w' hS'; go_simp <;> try with_reducible rfl)
                try simp only [Act.put, List.setIfInBounds_toArray, List.set_cons_zero, List.set_cons_succ]
                refine rg_done (by kernel_rfl) ?_
                go_wp2_with fail
                go_meet
                case rel => exact ⟨p7, rfl, hb, a7, b4.keep hS (by simp)⟩
            · refine wp_alB (zs := wd false 0) rfl (by kernel_rfl) (fun p8 q8 a8 => ?_)
              try (have hnp : p7 ≠ p8 := by have := a7.lt; omega)
              replace q8 := Nat.le_trans hS.1 q8
              refine hK _ _ (hS.alloc _) (fun hS => ?_)
              clear hK K
              try replace a7 := a7.old (.cells (wd false 0).toArray 27)
              replace hb := hb.alloc hb.size (.cells (wd false 0).toArray 27)
              try simp only [Act.put, List.setIfInBounds_toArray, List.set_cons_zero, List.set_cons_succ]
              refine rg_two 4 10 rfl rfl (by kernel_rfl) (by rfl) (by rfl) (fun K hK => ?_) (fun K hK => ?_)
              · go_simp
                refine (HT3.out _).mono ?_
                rintro e w1 ⟨rfl, h1⟩
                refine hK _ _ (hS.call h1) (fun hS => ?_)
                clear hK K
                try replace a7 := a7.call h1
                try replace a8 := a8.call h1
                replace hb := bthen hb h1
                clear h1
                try simp only [Act.put, List.setIfInBounds_toArray, List.set_cons_zero, List.set_cons_succ]
                refine rg_two 5 10 rfl rfl (by kernel_rfl) (by rfl) (by rfl) (fun K hK => ?_) (fun K hK => ?_)
                · go_simp
                  refine (HDM.out _).mono ?_
                  rintro e w1 ⟨rfl, h1⟩
                  refine hK _ _ (hS.call h1) (fun hS => ?_)
                  clear hK K
                  try replace a7 := a7.call h1
                  try replace a8 := a8.call h1
                  replace hb := bthen hb h1
                  clear h1
                  try simp only [Act.put, List.setIfInBounds_toArray, List.set_cons_zero, List.set_cons_succ]
                  refine rg_take 6 rfl (by kernel_rfl) (by kernel_rfl) (by kernel_rfl) (by rfl) hS (v := ?_) ?_ ?_
                  rotate_left
                  · (intro w' hS'; go_simp <;> try with_reducible rfl)
                  try simp only [Act.put, List.setIfInBounds_toArray, List.set_cons_zero, List.set_cons_succ]
                  refine rg_take 7 rfl (by kernel_rfl) (by kernel_rfl) (by kernel_rfl) (by rfl) hS (v := ?_) ?_ ?_
                  rotate_left
                  · (intro w' hS'; go_simp <;> try with_reducible rfl)
                  try simp only [Act.put, List.setIfInBounds_toArray, List.set_cons_zero, List.set_cons_succ]
                  refine rg_take 8 rfl (by kernel_rfl) (by kernel_rfl) (by kernel_rfl) (by rfl) hS (v := ?_) ?_ ?_
                  rotate_left
                  · (intro w' hS'; go_simp <;> try with_reducible rfl)
                  try simp only [Act.put, List.setIfInBounds_toArray, List.set_cons_zero, List.set_cons_succ]
                  refine rg_take 9 rfl (by kernel_rfl) (by kernel_rfl) (by kernel_rfl) (by rfl) hS (v := ?_) ?_ ?_
                  rotate_left
                  · (intro w' hS'; go_simp <;> try with_reducible rfl)
                  try simp only [Act.put, List.setIfInBounds_toArray, List.set_cons_zero, List.set_cons_succ]
                  refine rg_eff 10 rfl (by kernel_rfl) (by rfl) (fun K hK => ?_)
                  refine wp_alB (zs := wd false 0) rfl (by kernel_rfl) (fun p7 q7 a7 => ?_)
                  try (have hnp : p7 ≠ p8 := by have := a8.lt; omega)
                  replace q7 := Nat.le_trans hS.1 q7
                  refine hK _ _ (hS.alloc _) (fun hS => ?_)
                  clear hK K
                  try replace a8 := a8.old (.cells (wd false 0).toArray 27)
                  replace hb := hb.alloc hb.size (.cells (wd false 0).toArray 27)
                  try simp only [Act.put, List.setIfInBounds_toArray, List.set_cons_zero, List.set_cons_succ]
                  refine rg_eff 12 rfl (by kernel_rfl) (by rfl) (fun K hK => ?_)
                  refine wp_st (vs := mk q) rfl rfl rfl a7 (by rw [wd_length, mk_length]) (wholeM _) (mk_one _) ?_
                  refine hK _ _ (hS.row (.inr q7) _) (fun hS => ?_)
                  clear hK K
                  replace a7 := a7.row (mk q)
                  replace a8 := a8.rowOther (g := p7) (mk q).toArray (by omega)
                  replace hb := below_row hb (g := p7) (by omega) (mk q).toArray
                  try simp only [Act.put, List.setIfInBounds_toArray, List.set_cons_zero, List.set_cons_succ]
                  refine rg_eff 13 rfl (by kernel_rfl) (by rfl) (fun K hK => ?_)
                  refine wp_st (vs := mk t) rfl rfl rfl a8 (by rw [wd_length, mk_length]) (wholeM _) (mk_one _) ?_
                  refine hK _ _ (hS.row (.inr q8) _) (fun hS => ?_)
                  clear hK K
                  replace a8 := a8.row (mk t)
                  replace a7 := a7.rowOther (g := p8) (mk t).toArray (by omega)
                  replace hb := below_row hb (g := p8) (by omega) (mk t).toArray
                  try simp only [Act.put, List.setIfInBounds_toArray, List.set_cons_zero, List.set_cons_succ]
                  refine rg_take 14 rfl (by kernel_rfl) (by kernel_rfl) (by kernel_rfl) (by rfl) hS (v := ?_) ?_ ?_
                  rotate_left
                  · (intro w' hS'; go_simp <;> try with_reducible rfl)
                  try simp only [Act.put, List.setIfInBounds_toArray, List.set_cons_zero, List.set_cons_succ]
                  refine rg_done (by kernel_rfl) ?_
                  go_wp2_with fail
                  go_meet
                  case rel => exact ⟨p7, rfl, hb, a7, b4.keep hS (by simp)⟩
                · refine wp_alB (zs := wd false 0) rfl (by kernel_rfl) (fun p7 q7 a7 => ?_)
                  try (have hnp : p7 ≠ p8 := by have := a8.lt; omega)
                  replace q7 := Nat.le_trans hS.1 q7
                  refine hK _ _ (hS.alloc _) (fun hS => ?_)
                  clear hK K
                  try replace a8 := a8.old (.cells (wd false 0).toArray 27)
                  replace hb := hb.alloc hb.size (.cells (wd false 0).toArray 27)
                  try simp only [Act.put, List.setIfInBounds_toArray, List.set_cons_zero, List.set_cons_succ]
                  refine rg_eff 5 rfl (by kernel_rfl) (by rfl) (fun K hK => ?_)
                  go_simp
                  refine (HDM.out _).mono ?_
                  rintro e w1 ⟨rfl, h1⟩
                  refine hK _ _ (hS.call h1) (fun hS => ?_)
                  clear hK K
                  try replace a7 := a7.call h1
                  try replace a8 := a8.call h1
                  replace hb := bthen hb h1
                  clear h1
                  try simp only [Act.put, List.setIfInBounds_toArray, List.set_cons_zero, List.set_cons_succ]
                  refine rg_take 6 rfl (by kernel_rfl) (by kernel_rfl) (by kernel_rfl) (by rfl) hS (v := ?_) ?_ ?_
                  rotate_left
                  · (intro w' hS'; go_simp <;> try with_reducible rfl)
                  try simp only [Act.put, List.setIfInBounds_toArray, List.set_cons_zero, List.set_cons_succ]
                  refine rg_take 7 rfl (by kernel_rfl) (by kernel_rfl) (by kernel_rfl) (by rfl) hS (v := ?_) ?_ ?_
                  rotate_left
                  · (intro w' hS'; go_simp <;> try with_reducible rfl)
                  try simp only [Act.put, List.setIfInBounds_toArray, List.set_cons_zero, List.set_cons_succ]
                  refine rg_take 8 rfl (by kernel_rfl) (by kernel_rfl) (by kernel_rfl) (by rfl) hS (v := ?_) ?_ ?_
                  rotate_left
                  · (intro w' hS'; go_simp <;> try with_reducible rfl)
                  try simp only [Act.put, List.setIfInBounds_toArray, List.set_cons_zero, List.set_cons_succ]
                  refine rg_take 9 rfl (by kernel_rfl) (by kernel_rfl) (by kernel_rfl) (by rfl) hS (v := ?_) ?_ ?_
                  rotate_left
                  · (intro w' hS'; go_simp <;> try with_reducible rfl)
                  try simp only [Act.put, List.setIfInBounds_toArray, List.set_cons_zero, List.set_cons_succ]
                  refine rg_eff 12 rfl (by kernel_rfl) (by rfl) (fun K hK => ?_)
                  refine wp_st (vs := mk q) rfl rfl rfl a7 (by rw [wd_length, mk_length]) (wholeM _) (mk_one _) ?_
                  refine hK _ _ (hS.row (.inr q7) _) (fun hS => ?_)
                  clear hK K
                  replace a7 := a7.row (mk q)
                  replace a8 := a8.rowOther (g := p7) (mk q).toArray (by omega)
                  replace hb := below_row hb (g := p7) (by omega) (mk q).toArray
                  try simp only [Act.put, List.setIfInBounds_toArray, List.set_cons_zero, List.set_cons_succ]
                  refine rg_eff 13 rfl (by kernel_rfl) (by rfl) (fun K hK => ?_)
                  refine wp_st (vs := mk t) rfl rfl rfl a8 (by rw [wd_length, mk_length]) (wholeM _) (mk_one _) ?_
                  refine hK _ _ (hS.row (.inr q8) _) (fun hS => ?_)
                  clear hK K
                  replace a8 := a8.row (mk t)
                  replace a7 := a7.rowOther (g := p8) (mk t).toArray (by omega)
                  replace hb := below_row hb (g := p8) (by omega) (mk t).toArray
                  try simp only [Act.put, List.setIfInBounds_toArray, List.set_cons_zero, List.set_cons_succ]
                  refine rg_take 14 rfl (by kernel_rfl) (by kernel_rfl) (by kernel_rfl) (by rfl) hS (v := ?_) ?_ ?_
                  rotate_left
                  · (intro w' hS'; go_simp <;> try with_reducible rfl)
                  try simp only [Act.put, List.setIfInBounds_toArray, List.set_cons_zero, List.set_cons_succ]
                  refine rg_done (by kernel_rfl) ?_
                  go_wp2_with fail
                  go_meet
                  case rel => exact ⟨p7, rfl, hb, a7, b4.keep hS (by simp)⟩
              · refine wp_alB (zs := wd false 0) rfl (by kernel_rfl) (fun p7 q7 a7 => ?_)
                try (have hnp : p7 ≠ p8 := by have := a8.lt; omega)
                replace q7 := Nat.le_trans hS.1 q7
                refine hK _ _ (hS.alloc _) (fun hS => ?_)
                clear hK K
                try replace a8 := a8.old (.cells (wd false 0).toArray 27)
                replace hb := hb.alloc hb.size (.cells (wd false 0).toArray 27)
                try simp only [Act.put, List.setIfInBounds_toArray, List.set_cons_zero, List.set_cons_succ]
                refine rg_eff 4 rfl (by kernel_rfl) (by rfl) (fun K hK => ?_)
                go_simp
                refine (HT3.out _).mono ?_
                rintro e w1 ⟨rfl, h1⟩
                refine hK _ _ (hS.call h1) (fun hS => ?_)
                clear hK K
                try replace a7 := a7.call h1
                try replace a8 := a8.call h1
                replace hb := bthen hb h1
                clear h1
                try simp only [Act.put, List.setIfInBounds_toArray, List.set_cons_zero, List.set_cons_succ]
                refine rg_eff 5 rfl (by kernel_rfl) (by rfl) (fun K hK => ?_)
                go_simp
                refine (HDM.out _).mono ?_
                rintro e w1 ⟨rfl, h1⟩
                refine hK _ _ (hS.call h1) (fun hS => ?_)
                clear hK K
                try replace a7 := a7.call h1
                try replace a8 := a8.call h1
                replace hb := bthen hb h1
                clear h1
                try simp only [Act.put, List.setIfInBounds_toArray, List.set_cons_zero, List.set_cons_succ]
                refine rg_take 6 rfl (by kernel_rfl) (by kernel_rfl) (by kernel_rfl) (by rfl) hS (v := ?_) ?_ ?_
                rotate_left
                · (intro w' hS'; go_simp <;> try with_reducible rfl)
                try simp only [Act.put, List.setIfInBounds_toArray, List.set_cons_zero, List.set_cons_succ]
                refine rg_take 7 rfl (by kernel_rfl) (by kernel_rfl) (by kernel_rfl) (by rfl) hS (v := ?_) ?_ ?_
                rotate_left
                · (intro w' hS'; go_simp <;> try with_reducible rfl)
                try simp only [Act.put, List.setIfInBounds_toArray, List.set_cons_zero, List.set_cons_succ]
                refine rg_take 8 rfl (by kernel_rfl) (by kernel_rfl) (by kernel_rfl) (by rfl) hS (v := ?_) ?_ ?_
                rotate_left
                · (intro w' hS'; go_simp <;> try with_reducible rfl)
                try simp only [Act.put, List.setIfInBounds_toArray, List.set_cons_zero, List.set_cons_succ]
                refine rg_take 9 rfl (by kernel_rfl) (by kernel_rfl) (by kernel_rfl) (by rfl) hS (v := ?_) ?_ ?_
                rotate_left
                · (intro w' hS'; go_simp <;> try with_reducible rfl)
                try simp only [Act.put, List.setIfInBounds_toArray, List.set_cons_zero, List.set_cons_succ]
                refine rg_eff 12 rfl (by kernel_rfl) (by rfl) (fun K hK => ?_)
                refine wp_st (vs := mk q) rfl rfl rfl a7 (by rw [wd_length, mk_length]) (wholeM _) (mk_one _) ?_
                refine hK _ _ (hS.row (.inr q7) _) (fun hS => ?_)
                clear hK K
                replace a7 := a7.row (mk q)
                replace a8 := a8.rowOther (g := p7) (mk q).toArray (by omega)
                replace hb := below_row hb (g := p7) (by omega) (mk q).toArray
                try simp only [Act.put, List.setIfInBounds_toArray, List.set_cons_zero, List.set_cons_succ]
                refine rg_eff 13 rfl (by kernel_rfl) (by rfl) (fun K hK => ?_)
                refine wp_st (vs := mk t) rfl rfl rfl a8 (by rw [wd_length, mk_length]) (wholeM _) (mk_one _) ?_
                refine hK _ _ (hS.row (.inr q8) _) (fun hS => ?_)
                clear hK K
                replace a8 := a8.row (mk t)
                replace a7 := a7.rowOther (g := p8) (mk t).toArray (by omega)
                replace hb := below_row hb (g := p8) (by omega) (mk t).toArray
                try simp only [Act.put, List.setIfInBounds_toArray, List.set_cons_zero, List.set_cons_succ]
                refine rg_take 14 rfl (by kernel_rfl) (by kernel_rfl) (by kernel_rfl) (by rfl) hS (v := ?_) ?_ ?_
                rotate_left
                · (intro w' hS'; go_simp <;> try with_reducible rfl)
                try simp only [Act.put, List.setIfInBounds_toArray, List.set_cons_zero, List.set_cons_succ]
                refine rg_done (by kernel_rfl) ?_
                go_wp2_with fail
                go_meet
                case rel => exact ⟨p7, rfl, hb, a7, b4.keep hS (by simp)⟩
          case rest =>
            clear hb b2 b4 b5 b6 hsz l4
            obtain ⟨g7, rfl, hb, b7, b4⟩ := hcut
            go_wp2_with (first | (with_reducible refine ldM rfl rfl rfl b7 ?_) | (with_reducible refine stM rfl rfl rfl rfl b4 (wd_length _ _) ?_))
            exact ret_c (cs := mk q) rfl rfl rfl (wholeM _) (b4.row _) ⟨rfl, below_row hb (by omega) _⟩
end Go.Proofs.Ytcbhmmeobkhomaa

/- Package ratio: Decimal. -/
namespace Go.Proofs.Ytcbhmmeobkhomaa
set_option linter.unusedSimpArgs false
set_option linter.unusedVariables false
open Go.RowKit
set_option maxRecDepth 100000
theorem sz_ten : Sz 4 10 := by unfold Sz; decide
theorem sz_two : Sz 2 2 := by unfold Sz; decide
theorem sz_pow10 {s : Nat} {A : Int} (hA : Sz s A) : ∀ j : Nat, Sz (s + 4 * j) (A * 10 ^ j)
  | 0 => by rw [Int.pow_zero, Int.mul_one]; exact hA
  | j + 1 => by
    rw [Int.pow_succ, ← Int.mul_assoc]
    have := sz_mul (sz_pow10 hA j) sz_ten
    exact sz_mono this (by omega)
/-- The amount, times 10 to the power of k, rounded. -/
theorem nearest_any {n d : Int} (h : Sf n d) {k : Nat} (hk : k ≤ 20) : Tl 24 #[vf n d, .int .i64 (k : Int)] (vw (((n.natAbs : Int) * 10 ^ k * 2 + d) / (d * 2))) := by
  have sA : Sz 500 (n.natAbs : Int) := sz_le h.2.1 (by rw [Int.natAbs_natCast]; exact Nat.le_refl _)
  have sX := fun j => sz_pow10 sA j
  have fX : ∀ j, j ≤ 20 → fits ((n.natAbs : Int) * 10 ^ j) := fun j hj => sz_fits (sX j) (by omega)
  have sY := sz_mul (sX k) sz_two
  have fY := sz_fits sY (by omega)
  have sZ := sz_add (k := 500 + 4 * k + 2) sY (sz_mono h.2.2 (by omega))
  have fZ := sz_fits sZ (by omega)
  have sR := sz_mul h.2.2 sz_two
  have fR := sz_fits sR (by omega)
  have d0 : d * 2 ≠ 0 := by have := h.1.1; omega
  have z0 : 0 ≤ (n.natAbs : Int) * 10 ^ k * 2 + d := by
    have h1 := h.1.1
    have : 0 ≤ (n.natAbs : Int) * 10 ^ k := Int.mul_nonneg (by omega) (Int.pow_nonneg (by decide))
    omega
  have DM := fun w => DivMod_z (wd_of fZ) (wd_of fR) d0 w
  rw [Int.tdiv_eq_ediv_of_nonneg z0] at DM
  refine nearest_walk k (fun j => (n.natAbs : Int) * 10 ^ j) _ _ _ _ hk h.fn ?_ ?_ (fun j hj w => ?_) (fun w => rtimes_any (fX k hk) (sz_fits sz_two (by omega)) fY w) (fun w => Add_w (wd_of fY) (wd_of h.fd) w fZ) (fun w => rtimes_any h.fd (sz_fits sz_two (by omega)) fR w) ⟨_, DM⟩ (A := (n.natAbs : Int))
  · by_cases hn : n < 0
    · exact .inl ⟨hn, by omega⟩
    · exact .inr ⟨hn, by omega⟩
  · show (n.natAbs : Int) * 10 ^ 0 = _
    rw [Int.pow_zero, Int.mul_one]
  · have e : (n.natAbs : Int) * 10 ^ (j + 1) = (n.natAbs : Int) * 10 ^ j * 10 := by rw [Int.pow_succ, Int.mul_assoc]
    show Calls Try.prog 31 #[vw ((n.natAbs : Int) * 10 ^ j), vw 10] w fun e w' => e = .returned (vw ((n.natAbs : Int) * 10 ^ (j + 1))) ∧ Below w.heap.size w w'
    rw [e]
    exact rtimes_any (fX j (by omega)) (sz_fits sz_ten (by omega)) (by rw [← e]; exact fX (j + 1) (by omega)) w
set_option maxHeartbeats 1000000 in
theorem Repeat_zero (s : ByteArray) : Tl 49 #[.string s, .int .i64 0] (.string ⟨#[]⟩) := fun w => by
  go_enter Try.func49, Try.ntmps49
  go_wp2_with fail
  go_ret
  exact ⟨rfl, Below.refl _ _⟩
set_option maxHeartbeats 1000000 in
theorem Repeat_one (s : ByteArray) : Tl 49 #[.string s, .int .i64 1] (.string s) := fun w => by
  go_enter Try.func49, Try.ntmps49
  go_wp2_with fail
  go_ret
  exact ⟨rfl, Below.refl _ _⟩
set_option maxHeartbeats 1000000 in
theorem pointed_walk {s R : ByteArray} {k m a : Nat} (hk : 1 ≤ k) (hk2 : k ≤ 20) (hs : s.size ≤ 1000) (hR : R.size ≤ 1000) (hm : max ((k : Int) + 1 - s.size) 0 = (m : Int)) (ha : (R ++ s).size = a + k) (T : Tl 49 #[.string ⟨#[48]⟩, .int .i64 (m : Int)] (.string R)) :
    Tl 25 #[.string s, .int .i64 (k : Int)] (.string ((R ++ s).extract 0 a ++ ⟨#[46]⟩ ++ (R ++ s).extract a (R ++ s).size)) := fun w => by
  unfold Tl at T
  have HT := Lib.hid T
  clear T
  have k0 : ¬ (k : Int) = 0 := by omega
  have e1 : IntKind.i64.wrap ((k : Int) + 1) = (k : Int) + 1 := by rw [IntKind.wrap_i64]; omega
  have hsum := ByteArray.size_append (a := R) (b := s)
  have hs2 : (R ++ s).size ≤ 2000 := by omega
  have HA := Lib.hid ha
  have ea : (R.size : Int) + (s.size : Int) - (k : Int) = (a : Int) := by omega
  have EA2 : Hid ((a : Int) ≤ ((R ++ s).size : Int)) := by
    show (a : Int) ≤ ((R ++ s).size : Int)
    omega
  have ea3 : (0 : Int) ≤ (a : Int) := by omega
  have HS := Lib.hid hs2
  clear hs2
  have hR' : ¬ 9223372036854775807 < R.size + s.size := by omega
  obtain ⟨t, ht⟩ : ∃ t, R ++ s = t := ⟨_, rfl⟩
  have ea' : (t.size : Int) - (k : Int) = (a : Int) := by rw [← ht]; omega
  rw [ht] at EA2 HS ⊢
  clear ha hsum HA
  rcases Int.lt_trichotomy 0 ((k : Int) + 1 - s.size) with h | h | h
  · have e : (m : Int) = (k : Int) + 1 - s.size := by omega
    rw [e] at HT
    clear hm e
    go_enter Try.func25, Try.ntmps25
    go_wp2_with fail
    refine (HT.out _).mono ?_
    rintro e w1 ⟨rfl, h1⟩
    go_wp2_with fail
    try rw [ht]
    clear hR' hR hs h ea ea' ht
    have ea2 := EA2.out
    have hs2 := HS.out
    have c1 : (t.extract 0 a).size ≤ t.size := by rw [ByteArray.size_extract]; omega
    have c2 : (t.extract a t.size).size ≤ t.size := by rw [ByteArray.size_extract]; omega
    have c3 : ¬ 9223372036854775807 < (t.extract 0 a).size + 1 := by omega
    have c4 : ¬ 9223372036854775807 < (t.extract 0 a ++ (⟨#[46]⟩ : ByteArray)).size + (t.extract a t.size).size := by
      have := ByteArray.size_append (a := t.extract 0 a) (b := (⟨#[46]⟩ : ByteArray))
      have e : (⟨#[46]⟩ : ByteArray).size = 1 := rfl
      omega
    clear c1 c2 hs2
    refine rg_start [] (by kernel_rfl) (fun hS => ?_)
    replace h1 := h1.drew
    refine rg_take 0 rfl (by kernel_rfl) (by kernel_rfl) (by kernel_rfl) (by rfl) hS (v := ?_) ?_ ?_
    rotate_left
    · (intro w' hS'; go_simp <;> try with_reducible rfl)
    try simp only [Act.put, List.setIfInBounds_toArray, List.set_cons_zero, List.set_cons_succ]
    refine rg_take 1 rfl (by kernel_rfl) (by kernel_rfl) (by kernel_rfl) (by rfl) hS (v := ?_) ?_ ?_
    rotate_left
    · (intro w' hS'; go_simp <;> try with_reducible rfl)
    try simp only [Act.put, List.setIfInBounds_toArray, List.set_cons_zero, List.set_cons_succ]
    refine rg_take 2 rfl (by kernel_rfl) (by kernel_rfl) (by kernel_rfl) (by rfl) hS (v := ?_) ?_ ?_
    rotate_left
    · (intro w' hS'; go_simp <;> try with_reducible rfl)
    try simp only [Act.put, List.setIfInBounds_toArray, List.set_cons_zero, List.set_cons_succ]
    refine rg_take 3 rfl (by kernel_rfl) (by kernel_rfl) (by kernel_rfl) (by rfl) hS (v := .string (t.extract 0 a ++ ⟨#[46]⟩)) (fun w' _ => op_cat (by show (t.extract 0 a).size + 1 ≤ _; omega) rfl rfl rfl w') ?_
    try simp only [Act.put, List.setIfInBounds_toArray, List.set_cons_zero, List.set_cons_succ]
    refine rg_take 4 rfl (by kernel_rfl) (by kernel_rfl) (by kernel_rfl) (by rfl) hS (v := ?_) ?_ ?_
    rotate_left
    · (intro w' hS'; go_simp <;> try with_reducible rfl)
    try simp only [Act.put, List.setIfInBounds_toArray, List.set_cons_zero, List.set_cons_succ]
    refine rg_take 5 rfl (by kernel_rfl) (by kernel_rfl) (by kernel_rfl) (by rfl) hS (v := ?_) ?_ ?_
    rotate_left
    · (intro w' hS'; go_simp <;> try with_reducible rfl)
    try simp only [Act.put, List.setIfInBounds_toArray, List.set_cons_zero, List.set_cons_succ]
    refine rg_take 6 rfl (by kernel_rfl) (by kernel_rfl) (by kernel_rfl) (by rfl) hS (v := ?_) ?_ ?_
    rotate_left
    · (intro w' hS'; go_simp <;> try with_reducible rfl)
    try simp only [Act.put, List.setIfInBounds_toArray, List.set_cons_zero, List.set_cons_succ]
    refine rg_take 7 rfl (by kernel_rfl) (by kernel_rfl) (by kernel_rfl) (by rfl) hS (v := .string (t.extract 0 a ++ ⟨#[46]⟩ ++ t.extract a t.size)) (fun w' _ => op_cat (by omega) rfl rfl rfl w') ?_
    try simp only [Act.put, List.setIfInBounds_toArray, List.set_cons_zero, List.set_cons_succ]
    refine rg_take 8 rfl (by kernel_rfl) (by kernel_rfl) (by kernel_rfl) (by rfl) hS (v := ?_) ?_ ?_
    rotate_left
    · (intro w' hS'; go_simp <;> try with_reducible rfl)
    try simp only [Act.put, List.setIfInBounds_toArray, List.set_cons_zero, List.set_cons_succ]
    refine rg_done (by kernel_rfl) ?_
    go_wp2
    go_ret
    exact ⟨rfl, h1⟩
  · obtain rfl : m = 0 := by omega
    rw [show ((0 : Nat) : Int) = 0 from rfl] at HT
    have hz : (s.size : Int) = (k : Int) + 1 := by omega
    have ea3' : (R.size : Int) + ((k : Int) + 1) - (k : Int) = (a : Int) := by omega
    clear hm
    replace h := trivial
    go_enter Try.func25, Try.ntmps25
    go_wp2_with fail
    refine (HT.out _).mono ?_
    rintro e w1 ⟨rfl, h1⟩
    go_wp2_with fail
    try rw [ht]
    clear hR' hR hs h ea ea' ht
    have ea2 := EA2.out
    have hs2 := HS.out
    have c1 : (t.extract 0 a).size ≤ t.size := by rw [ByteArray.size_extract]; omega
    have c2 : (t.extract a t.size).size ≤ t.size := by rw [ByteArray.size_extract]; omega
    have c3 : ¬ 9223372036854775807 < (t.extract 0 a).size + 1 := by omega
    have c4 : ¬ 9223372036854775807 < (t.extract 0 a ++ (⟨#[46]⟩ : ByteArray)).size + (t.extract a t.size).size := by
      have := ByteArray.size_append (a := t.extract 0 a) (b := (⟨#[46]⟩ : ByteArray))
      have e : (⟨#[46]⟩ : ByteArray).size = 1 := rfl
      omega
    clear c1 c2 hs2
    refine rg_start [] (by kernel_rfl) (fun hS => ?_)
    replace h1 := h1.drew
    refine rg_take 0 rfl (by kernel_rfl) (by kernel_rfl) (by kernel_rfl) (by rfl) hS (v := ?_) ?_ ?_
    rotate_left
    · (intro w' hS'; go_simp <;> try with_reducible rfl)
    try simp only [Act.put, List.setIfInBounds_toArray, List.set_cons_zero, List.set_cons_succ]
    refine rg_take 1 rfl (by kernel_rfl) (by kernel_rfl) (by kernel_rfl) (by rfl) hS (v := ?_) ?_ ?_
    rotate_left
    · (intro w' hS'; go_simp <;> try with_reducible rfl)
    try simp only [Act.put, List.setIfInBounds_toArray, List.set_cons_zero, List.set_cons_succ]
    refine rg_take 2 rfl (by kernel_rfl) (by kernel_rfl) (by kernel_rfl) (by rfl) hS (v := ?_) ?_ ?_
    rotate_left
    · (intro w' hS'; go_simp <;> try with_reducible rfl)
    try simp only [Act.put, List.setIfInBounds_toArray, List.set_cons_zero, List.set_cons_succ]
    refine rg_take 3 rfl (by kernel_rfl) (by kernel_rfl) (by kernel_rfl) (by rfl) hS (v := .string (t.extract 0 a ++ ⟨#[46]⟩)) (fun w' _ => op_cat (by show (t.extract 0 a).size + 1 ≤ _; omega) rfl rfl rfl w') ?_
    try simp only [Act.put, List.setIfInBounds_toArray, List.set_cons_zero, List.set_cons_succ]
    refine rg_take 4 rfl (by kernel_rfl) (by kernel_rfl) (by kernel_rfl) (by rfl) hS (v := ?_) ?_ ?_
    rotate_left
    · (intro w' hS'; go_simp <;> try with_reducible rfl)
    try simp only [Act.put, List.setIfInBounds_toArray, List.set_cons_zero, List.set_cons_succ]
    refine rg_take 5 rfl (by kernel_rfl) (by kernel_rfl) (by kernel_rfl) (by rfl) hS (v := ?_) ?_ ?_
    rotate_left
    · (intro w' hS'; go_simp <;> try with_reducible rfl)
    try simp only [Act.put, List.setIfInBounds_toArray, List.set_cons_zero, List.set_cons_succ]
    refine rg_take 6 rfl (by kernel_rfl) (by kernel_rfl) (by kernel_rfl) (by rfl) hS (v := ?_) ?_ ?_
    rotate_left
    · (intro w' hS'; go_simp <;> try with_reducible rfl)
    try simp only [Act.put, List.setIfInBounds_toArray, List.set_cons_zero, List.set_cons_succ]
    refine rg_take 7 rfl (by kernel_rfl) (by kernel_rfl) (by kernel_rfl) (by rfl) hS (v := .string (t.extract 0 a ++ ⟨#[46]⟩ ++ t.extract a t.size)) (fun w' _ => op_cat (by omega) rfl rfl rfl w') ?_
    try simp only [Act.put, List.setIfInBounds_toArray, List.set_cons_zero, List.set_cons_succ]
    refine rg_take 8 rfl (by kernel_rfl) (by kernel_rfl) (by kernel_rfl) (by rfl) hS (v := ?_) ?_ ?_
    rotate_left
    · (intro w' hS'; go_simp <;> try with_reducible rfl)
    try simp only [Act.put, List.setIfInBounds_toArray, List.set_cons_zero, List.set_cons_succ]
    refine rg_done (by kernel_rfl) ?_
    go_wp2
    go_ret
    exact ⟨rfl, h1⟩
  · obtain rfl : m = 0 := by omega
    rw [show ((0 : Nat) : Int) = 0 from rfl] at HT
    clear hm
    go_enter Try.func25, Try.ntmps25
    go_wp2_with fail
    refine (HT.out _).mono ?_
    rintro e w1 ⟨rfl, h1⟩
    go_wp2_with fail
    try rw [ht]
    clear hR' hR hs h ea ea' ht
    have ea2 := EA2.out
    have hs2 := HS.out
    have c1 : (t.extract 0 a).size ≤ t.size := by rw [ByteArray.size_extract]; omega
    have c2 : (t.extract a t.size).size ≤ t.size := by rw [ByteArray.size_extract]; omega
    have c3 : ¬ 9223372036854775807 < (t.extract 0 a).size + 1 := by omega
    have c4 : ¬ 9223372036854775807 < (t.extract 0 a ++ (⟨#[46]⟩ : ByteArray)).size + (t.extract a t.size).size := by
      have := ByteArray.size_append (a := t.extract 0 a) (b := (⟨#[46]⟩ : ByteArray))
      have e : (⟨#[46]⟩ : ByteArray).size = 1 := rfl
      omega
    clear c1 c2 hs2
    refine rg_start [] (by kernel_rfl) (fun hS => ?_)
    replace h1 := h1.drew
    refine rg_take 0 rfl (by kernel_rfl) (by kernel_rfl) (by kernel_rfl) (by rfl) hS (v := ?_) ?_ ?_
    rotate_left
    · (intro w' hS'; go_simp <;> try with_reducible rfl)
    try simp only [Act.put, List.setIfInBounds_toArray, List.set_cons_zero, List.set_cons_succ]
    refine rg_take 1 rfl (by kernel_rfl) (by kernel_rfl) (by kernel_rfl) (by rfl) hS (v := ?_) ?_ ?_
    rotate_left
    · (intro w' hS'; go_simp <;> try with_reducible rfl)
    try simp only [Act.put, List.setIfInBounds_toArray, List.set_cons_zero, List.set_cons_succ]
    refine rg_take 2 rfl (by kernel_rfl) (by kernel_rfl) (by kernel_rfl) (by rfl) hS (v := ?_) ?_ ?_
    rotate_left
    · (intro w' hS'; go_simp <;> try with_reducible rfl)
    try simp only [Act.put, List.setIfInBounds_toArray, List.set_cons_zero, List.set_cons_succ]
    refine rg_take 3 rfl (by kernel_rfl) (by kernel_rfl) (by kernel_rfl) (by rfl) hS (v := .string (t.extract 0 a ++ ⟨#[46]⟩)) (fun w' _ => op_cat (by show (t.extract 0 a).size + 1 ≤ _; omega) rfl rfl rfl w') ?_
    try simp only [Act.put, List.setIfInBounds_toArray, List.set_cons_zero, List.set_cons_succ]
    refine rg_take 4 rfl (by kernel_rfl) (by kernel_rfl) (by kernel_rfl) (by rfl) hS (v := ?_) ?_ ?_
    rotate_left
    · (intro w' hS'; go_simp <;> try with_reducible rfl)
    try simp only [Act.put, List.setIfInBounds_toArray, List.set_cons_zero, List.set_cons_succ]
    refine rg_take 5 rfl (by kernel_rfl) (by kernel_rfl) (by kernel_rfl) (by rfl) hS (v := ?_) ?_ ?_
    rotate_left
    · (intro w' hS'; go_simp <;> try with_reducible rfl)
    try simp only [Act.put, List.setIfInBounds_toArray, List.set_cons_zero, List.set_cons_succ]
    refine rg_take 6 rfl (by kernel_rfl) (by kernel_rfl) (by kernel_rfl) (by rfl) hS (v := ?_) ?_ ?_
    rotate_left
    · (intro w' hS'; go_simp <;> try with_reducible rfl)
    try simp only [Act.put, List.setIfInBounds_toArray, List.set_cons_zero, List.set_cons_succ]
    refine rg_take 7 rfl (by kernel_rfl) (by kernel_rfl) (by kernel_rfl) (by rfl) hS (v := .string (t.extract 0 a ++ ⟨#[46]⟩ ++ t.extract a t.size)) (fun w' _ => op_cat (by omega) rfl rfl rfl w') ?_
    try simp only [Act.put, List.setIfInBounds_toArray, List.set_cons_zero, List.set_cons_succ]
    refine rg_take 8 rfl (by kernel_rfl) (by kernel_rfl) (by kernel_rfl) (by rfl) hS (v := ?_) ?_ ?_
    rotate_left
    · (intro w' hS'; go_simp <;> try with_reducible rfl)
    try simp only [Act.put, List.setIfInBounds_toArray, List.set_cons_zero, List.set_cons_succ]
    refine rg_done (by kernel_rfl) ?_
    go_wp2
    go_ret
    exact ⟨rfl, h1⟩
end Go.Proofs.Ytcbhmmeobkhomaa

/- Package ratio: Decimal. -/
namespace Go.Proofs.Ytcbhmmeobkhomaa
set_option linter.unusedSimpArgs false
set_option linter.unusedVariables false
open Go.RowKit
set_option maxRecDepth 100000
set_option maxHeartbeats 2000000 in
theorem Decimal_walk {n d g q : Int} {k : Nat} {P R : ByteArray} (h : Sf n d) (hg : -9223372036854775808 ≤ g ∧ g ≤ 9223372036854775807) (hk : min (max g 0) 20 = (k : Int)) (fq : fits q) (hP : P.size ≤ 1000) (T1 : Tl 24 #[vf n d, .int .i64 (k : Int)] (vw q)) (T2 : Tl 25 #[.string (tz q), .int .i64 (k : Int)] (.string P))
    (hR : n < 0 ∧ ¬ q = 0 ∧ R = (⟨#[45]⟩ : ByteArray) ++ P ∨ (¬ n < 0 ∨ q = 0) ∧ R = P) : Tl 6 #[vf n d, .int .i64 g] (.tuple #[.string R, .bool true]) := fun w => by
  unfold Tl vf vw at T1
  unfold Tl at T2
  unfold vf
  have HB := Lib.hid h
  have H1 := Lib.hid T1
  have H2 := Lib.hid T2
  have HTx := Lib.hid (fun w => text_mk fq w)
  have HS := Lib.hid (fun w => Sign_any d h.fn w)
  have HQ := Lib.hid (fun w => rsign_any fq w)
  have SN := Lib.hid (sn_neg n)
  have SQ := Lib.hid (sn_zero q)
  have HR := Lib.hid hR
  generalize sn n = c at *
  generalize sn q = c2 at *
  generalize tz q = x at *
  clear h T1 T2 fq hR
  have b2 := Blk.new w (fr n d) 29 rfl
  have hb : Below w.heap.size w (w.alloc (.cells (fr n d).toArray 29)) := (Below.refl _ _).alloc (Nat.le_refl _) _
  have sl := Blk.new (w.alloc (.cells (fr n d).toArray 29)) (fr n d) 29 (b := w.heap.size + 1) (by simp)
  go_enter Try.func6, Try.ntmps6
  go_wp2_with (first | (with_reducible refine ldFr rfl rfl rfl b2 ?_) | (with_reducible refine bs1 rfl rfl rfl ?_))
  replace b2 := b2.old (.cells (fr n d).toArray 29)
  replace hb := hb.alloc hb.size (.cells (fr n d).toArray 29)
  generalize (w.alloc (.cells (fr n d).toArray 29)).alloc (.cells (fr n d).toArray 29) = W at *
  refine (safe_one sl HB.out).mono ?_
  rintro e w1 ⟨rfl, h1⟩
  replace b2 := b2.call h1
  replace hb := bthen hb h1
  clear h1
  clear sl
  go_upto_region 4 with (first | (with_reducible refine ldFr rfl rfl rfl b2 ?_))
  obtain ⟨gg, hgg⟩ : ∃ x : Int, (if g < 0 then 0 else g) = x := ⟨_, rfl⟩
  have E : (if 20 < gg then 20 else gg : Int) = (k : Int) := by
    rw [← hgg]
    by_cases h1 : g < 0
    · simp only [if_pos h1]; rw [if_neg (by decide)]; omega
    · simp only [if_neg h1]
      by_cases h2 : 20 < g
      · rw [if_pos h2]; omega
      · rw [if_neg h2]; omega
  rw [hgg, E]
  clear hgg
  clear E hk hg
  go_wp2_with (first | (with_reducible refine ldFr rfl rfl rfl b2 ?_))
  refine (H1.out _).mono ?_
  rintro e w1 ⟨rfl, h1⟩
  replace b2 := b2.call h1
  replace hb := bthen hb h1
  clear h1
  have f := Blk.new w1 (wd false 0) 27 rfl
  have b6 := laid_new w1 (q)
  replace b2 := laid_old b2 (q)
  replace hb := laid_below hb (q)
  go_wp2_with (first | (with_reducible refine alW rfl rfl ?_) | (with_reducible refine stM rfl rfl rfl rfl f (wd_length _ _) ?_) | (with_reducible refine ldM rfl rfl rfl b6 ?_))
  clear f
  generalize (w1.alloc (.cells (wd false 0).toArray 27)).setRow w1.heap.size (mk (q)).toArray = W at *
  generalize w1.heap.size = pl_b6 at *
  refine (HTx.out _).mono ?_
  rintro e w1 ⟨rfl, h1⟩
  replace b2 := b2.call h1
  replace b6 := b6.call h1
  replace hb := bthen hb h1
  clear h1
  go_wp2_with fail
  refine (H2.out _).mono ?_
  rintro e w1 ⟨rfl, h1⟩
  replace b2 := b2.call h1
  replace b6 := b6.call h1
  replace hb := bthen hb h1
  clear h1
  go_wp2_with (first | (with_reducible refine ldFr rfl rfl rfl b2 ?_))
  refine (HS.out _).mono ?_
  rintro e w1 ⟨rfl, h1⟩
  replace b2 := b2.call h1
  replace b6 := b6.call h1
  replace hb := bthen hb h1
  clear h1
  clear H1 HTx H2 HS
  by_cases hn : n < 0
  · have hc : c < 0 := SN.out.2 hn
    go_wp2_with (first | (refine ldMg (by rfl) rfl rfl b6 ?_))
    refine (HQ.out _).mono ?_
    rintro e w1 ⟨rfl, h1⟩
    replace b6 := b6.call h1
    replace hb := bthen hb h1
    clear h1
    by_cases hq : q = 0
    · obtain rfl : c2 = 0 := SQ.out.2 hq
      obtain rfl : R = P := by
        rcases HR.out with h1 | h1
        · exact absurd hq h1.2.1
        · exact h1.2
      go_wp2
      go_ret2
      exact ⟨rfl, hb⟩
    · have hc2 : ¬ c2 = 0 := fun h1 => hq (SQ.out.1 h1)
      have hc3 : decide (c2 = 0) = false := decide_eq_false hc2
      obtain rfl : R = (⟨#[45]⟩ : ByteArray) ++ P := by
        rcases HR.out with h1 | h1
        · exact h1.2.2
        · rcases h1.1 with h2 | h2
          · omega
          · exact absurd h2 hq
      have hsz : ¬ 9223372036854775807 < 1 + P.size := by omega
      go_wp2
      go_ret2
      exact ⟨rfl, hb⟩
  · have hc : ¬ c < 0 := fun h1 => hn (SN.out.1 h1)
    have hc' : decide (c < 0) = false := decide_eq_false hc
    obtain rfl : R = P := by
      rcases HR.out with h1 | h1
      · have := h1.1; omega
      · exact h1.2
    go_wp2
    go_ret2
    exact ⟨rfl, hb⟩
end Go.Proofs.Ytcbhmmeobkhomaa
