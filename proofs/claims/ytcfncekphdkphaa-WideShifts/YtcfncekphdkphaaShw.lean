/- What WideShifts answers. -/
import Derived.Test.YtcfncekphdkphaaGcw
namespace Go.Proofs.Ytcfncekphdkphaa
set_option linter.unusedSimpArgs false
set_option linter.unusedVariables false
open Go.RowKit
set_option maxRecDepth 100000
theorem fits_shift {z : Int} {L i E : Nat} (hE : E = 32 * 32) (hL : bitLen z.natAbs ≤ L) (hi : L + i ≤ E) : fits (z * 2 ^ i) := by
  have h1 := (bitLen_spec z.natAbs).1
  rw [fits, Int.natAbs_mul, Int.natAbs_pow, bp_two, ← hE]
  refine Nat.lt_of_lt_of_le (Nat.mul_lt_mul_of_pos_right h1 (Nat.two_pow_pos i)) ?_
  rw [show (Int.natAbs 2) = 2 from rfl, ← Nat.pow_add]
  exact Nat.pow_le_pow_right (by decide) (by omega)
theorem pow_ne (k : Nat) : (1 : Int) * 2 ^ k ≠ 0 := by
  rw [Int.one_mul]
  exact Int.ne_of_gt (Int.pow_pos (by decide))
set_option maxHeartbeats 1000000 in
theorem shifts_na (known : ∀ w, Calls Try.prog 12 #[] w fun e w' => e = .returned (.bool true) ∧ Below w.heap.size w w') (n : Int) (w : World) :
    Calls Try.prog 5 #[.agg (wd true 0).toArray, .int .u8 n] w fun e w' => e = .returned (.bool true) ∧ Below w.heap.size w w' := by
  have b0 := Blk.new w (wd true 0) 25 rfl
  have hb : Below w.heap.size w (w.alloc (.cells (wd true 0).toArray 25)) := (Below.refl _ _).alloc (Nat.le_refl _) _
  go_enter Try.func5, Try.ntmps5
  go_wp2_with fail
  refine (known _).mono ?_
  rintro e w1 ⟨rfl, h1⟩
  replace b0 := b0.call h1
  replace hb := bthen hb h1
  clear h1
  go_wp2_with (first | (with_reducible refine ldW rfl rfl rfl b0 ?_))
  refine (k_isn _).mono ?_
  rintro e w1 ⟨rfl, h1⟩
  replace hb := bthen hb h1
  clear h1
  go_wp2
  go_ret
  exact ⟨rfl, hb⟩
set_option maxHeartbeats 1000000 in
theorem shifts_great (known : ∀ w, Calls Try.prog 12 #[] w fun e w' => e = .returned (.bool true) ∧ Below w.heap.size w w') {z : Int} (hz : fits z) (hl : 700 < bitLen z.natAbs) (n : Int) (w : World) :
    Calls Try.prog 5 #[.agg (mk z).toArray, .int .u8 n] w fun e w' => e = .returned (.bool true) ∧ Below w.heap.size w w' := by
  have HZ := Lib.hid hz
  have hl' : (700 : Int) < (bitLen z.natAbs : Int) := by omega
  clear hz
  have b0 := Blk.new w (mk z) 25 rfl
  have hb : Below w.heap.size w (w.alloc (.cells (mk z).toArray 25)) := (Below.refl _ _).alloc (Nat.le_refl _) _
  go_enter Try.func5, Try.ntmps5
  go_wp2_with fail
  refine (known _).mono ?_
  rintro e w1 ⟨rfl, h1⟩
  replace b0 := b0.call h1
  replace hb := bthen hb h1
  clear h1
  go_wp2_with (first | (with_reducible refine ldM rfl rfl rfl b0 ?_))
  refine (is_mk HZ.out _).mono ?_
  rintro e w1 ⟨rfl, h1⟩
  replace b0 := b0.call h1
  replace hb := bthen hb h1
  clear h1
  go_wp2_with (first | (refine ldMg (by rfl) rfl rfl b0 ?_))
  refine (Bits_w (wd_of HZ.out) _).mono ?_
  rintro e w1 ⟨rfl, h1⟩
  replace b0 := b0.call h1
  replace hb := bthen hb h1
  clear h1
  generalize (bitLen z.natAbs : Int) = l at *
  go_wp2
  go_ret
  exact ⟨rfl, hb⟩
set_option maxHeartbeats 1000000 in
theorem shifts_yes (known : ∀ w, Calls Try.prog 12 #[] w fun e w' => e = .returned (.bool true) ∧ Below w.heap.size w w') {z : Int} (hz : fits z) (hl : bitLen z.natAbs ≤ 700) (k : Nat) (hk : k ≤ 255) (w : World) :
    Calls Try.prog 5 #[.agg (mk z).toArray, .int .u8 (k : Int)] w fun e w' => e = .returned (.bool true) ∧ Below w.heap.size w w' := by
  have HZ := Lib.hid hz
  have hl' : ¬ (700 : Int) < (bitLen z.natAbs : Int) := by omega
  have HF : Hid (∀ i, i ≤ 256 → fits (z * 2 ^ i)) := fun i hi => fits_shift (E := 1024) rfl hl (by omega)
  have hh : held (k : Int) = k := by have := held_of (n := (k : Int)) (by omega) (by omega); omega
  have F1 : Hid (fits (1 * 2 ^ k)) := fits_shift (E := 1024) (z := 1) (L := 1) rfl (by decide) (by omega)
  have S1 := fun w => Shl_w (wd_of HZ.out) (k : Int) w (by omega) (by omega) (by rw [hh]; exact HF.out k (by omega))
  have S2 := fun w => Shl_w (wd_of fits1) (k : Int) w (by omega) (by omega) (by rw [hh]; exact F1.out)
  rw [hh] at S1 S2
  have D := fun w => DivMod_z (wd_of (HF.out k (by omega))) (wd_of F1.out) (pow_ne k) w
  have e1 : (z * 2 ^ k).tdiv (1 * 2 ^ k) = z := by
    rw [Int.one_mul]
    exact Int.mul_tdiv_cancel _ (by have := pow_ne k; rwa [Int.one_mul] at this)
  have e2 : (z * 2 ^ k).tmod (1 * 2 ^ k) = 0 := by
    rw [Int.one_mul]
    exact Int.mul_tmod_left _ _
  rw [e1, e2] at D
  have HS1 := Lib.hid S1
  have HS2 := Lib.hid S2
  have HD := Lib.hid D
  obtain ⟨P, hP⟩ : ∃ P : Int, 1 * 2 ^ k = P := ⟨_, rfl⟩
  rw [hP] at HS2 HD F1
  clear hz hl S1 S2 D e1 e2 hh hP
  have b0 := Blk.new w (mk z) 25 rfl
  have hb : Below w.heap.size w (w.alloc (.cells (mk z).toArray 25)) := (Below.refl _ _).alloc (Nat.le_refl _) _
  go_enter Try.func5, Try.ntmps5
  go_wp2_with fail
  refine (known _).mono ?_
  rintro e w1 ⟨rfl, h1⟩
  replace b0 := b0.call h1
  replace hb := bthen hb h1
  clear h1
  go_wp2_with (first | (with_reducible refine ldM rfl rfl rfl b0 ?_))
  refine (is_mk HZ.out _).mono ?_
  rintro e w1 ⟨rfl, h1⟩
  replace b0 := b0.call h1
  replace hb := bthen hb h1
  clear h1
  go_wp2_with (first | (refine ldMg (by rfl) rfl rfl b0 ?_))
  refine (Bits_w (wd_of HZ.out) _).mono ?_
  rintro e w1 ⟨rfl, h1⟩
  replace b0 := b0.call h1
  replace hb := bthen hb h1
  clear h1
  generalize (bitLen z.natAbs : Int) = l at *
  go_wp2_with (first | (with_reducible refine ldM rfl rfl rfl b0 ?_))
  refine (HS1.out _).mono ?_
  rintro e w1 ⟨rfl, h1⟩
  replace b0 := b0.call h1
  replace hb := bthen hb h1
  clear h1
  clear HS1
  have f := Blk.new w1 (wd false 0) 25 rfl
  have b6 := laid_new w1 (z * 2 ^ k)
  have l0 := b0.lt
  replace b0 := laid_old b0 (z * 2 ^ k)
  replace hb := laid_below hb (z * 2 ^ k)
  have f8 := Blk.new ((w1.alloc (.cells (wd false 0).toArray 25)).setRow w1.heap.size (mk (z * 2 ^ k)).toArray) (wd false 0) 25 (b := w1.heap.size + 1) (by simp)
  have f9 := Blk.new ((w1.alloc (.cells (wd false 0).toArray 25)).setRow w1.heap.size (mk (z * 2 ^ k)).toArray) (wd false 0) 25 rfl
  have b8 := f8.row (mk z)
  have c0 := (b0.old (.cells (wd false 0).toArray 25)).rowOther (g := w1.heap.size + 1) (mk z).toArray (by omega)
  have c6 := (b6.old (.cells (wd false 0).toArray 25)).rowOther (g := w1.heap.size + 1) (mk z).toArray (by omega)
  have hs := hb.size
  have hc := below_row (hb.alloc hs (.cells (wd false 0).toArray 25)) (g := w1.heap.size + 1) (by omega) (mk z).toArray
  go_wp2_with (first | (with_reducible refine alW rfl rfl ?_) | (with_reducible refine stM rfl rfl rfl rfl f (wd_length _ _) ?_) | (with_reducible refine ldM rfl rfl rfl b0 ?_) | (with_reducible refine stM rfl rfl rfl rfl f8 (wd_length _ _) ?_) | (with_reducible refine stM rfl rfl rfl rfl f9 (wd_length _ _) ?_))
  clear f f8 f9 b0 b6 hb hs
  generalize (((w1.alloc (.cells (wd false 0).toArray 25)).setRow w1.heap.size (mk (z * 2 ^ k)).toArray).alloc (.cells (wd false 0).toArray 25)).setRow (w1.heap.size + 1) (mk z).toArray = W at *
  obtain ⟨p8, hp8⟩ : ∃ p, w1.heap.size + 1 = p := ⟨_, rfl⟩
  rw [hp8] at b8
  rw [hp8]
  have hlt8 : w.heap.size < p8 := by omega
  obtain ⟨p6, hp6⟩ : ∃ p, w1.heap.size = p := ⟨_, rfl⟩
  have hlt6 : p6 ≠ p8 := by omega
  rw [hp6] at c6
  rw [hp6]
  clear hp8 hp6 l0
  go_loopw [9] (fun i wr => ∃ j : Nat, j ≤ k ∧ i = .int .i64 j ∧ Below w.heap.size w wr ∧ Blk wr w.heap.size (mk z) 25 ∧ Blk wr p6 (mk (z * 2 ^ k)) 25 ∧ Blk wr p8 (mk (z * 2 ^ j)) 25) (fun i _ => k - (intOf i).toNat)
  case atStart => exact ⟨0, Nat.zero_le _, rfl, hc, c0, c6, by rw [Int.pow_zero, Int.mul_one]; exact b8⟩
  case round =>
    clear hc c0 c6 b8
    obtain ⟨j, hj, rfl, hb, b0, b6, b8⟩ := hrel
    by_cases hlt : j < k
    · have hlt' : (j : Int) < (k : Int) := by omega
      have fj := HF.out j (by omega)
      have A := fun w => Add_w (wd_of fj) (wd_of fj) w (by
        rw [show z * 2 ^ j + z * 2 ^ j = z * 2 ^ (j + 1) by rw [Int.pow_succ, ← Int.mul_assoc]; omega]; exact HF.out (j + 1) (by omega))
      rw [show z * 2 ^ j + z * 2 ^ j = z * 2 ^ (j + 1) by rw [Int.pow_succ, ← Int.mul_assoc]; omega] at A
      have HA := Lib.hid A
      clear A fj
      go_wp2_with (first | (with_reducible refine ldM rfl rfl rfl b8 ?_))
      refine (HA.out _).mono ?_
      rintro e w1 ⟨rfl, h1⟩
      replace b0 := b0.call h1
      replace b6 := b6.call h1
      replace b8 := b8.call h1
      replace hb := bthen hb h1
      clear h1
      have l8 := b8.lt
      have f := Blk.new w1 (wd false 0) 25 rfl
      have b10 := laid_new w1 (z * 2 ^ (j + 1))
      replace b0 := laid_old b0 (z * 2 ^ (j + 1))
      replace b6 := laid_old b6 (z * 2 ^ (j + 1))
      replace b8 := laid_old b8 (z * 2 ^ (j + 1))
      replace hb := laid_below hb (z * 2 ^ (j + 1))
      go_wp2_with (first | (with_reducible refine alW rfl rfl ?_) | (with_reducible refine stM rfl rfl rfl rfl f (wd_length _ _) ?_) | (with_reducible refine ldM rfl rfl rfl b10 ?_) | (with_reducible refine stM rfl rfl rfl rfl b8 (mk_length _) ?_))
      go_roundw
      case rel => exact ⟨j + 1, by omega, by go_num, below_row hb (by omega) _, b0.rowOther _ (by omega), b6.rowOther _ (by omega), b8.row _⟩
      case measure => simp [intOf]; omega
    · obtain rfl : j = k := by omega
      go_wp2_with fail
      refine (k_from 1 (by decide) (by decide) _).mono ?_
      rintro e w1 ⟨rfl, h1⟩
      replace b0 := b0.call h1
      replace b6 := b6.call h1
      replace b8 := b8.call h1
      replace hb := bthen hb h1
      clear h1
      go_wp2_with fail
      refine (HS2.out _).mono ?_
      rintro e w1 ⟨rfl, h1⟩
      replace b0 := b0.call h1
      replace b6 := b6.call h1
      replace b8 := b8.call h1
      replace hb := bthen hb h1
      clear h1
      have f := Blk.new w1 (wd false 0) 25 rfl
      have b12 := laid_new w1 (P)
      replace b0 := laid_old b0 (P)
      replace b6 := laid_old b6 (P)
      replace b8 := laid_old b8 (P)
      replace hb := laid_below hb (P)
      go_wp2_with (first | (with_reducible refine alW rfl rfl ?_) | (with_reducible refine stM rfl rfl rfl rfl f (wd_length _ _) ?_) | (with_reducible refine ldM rfl rfl rfl b6 ?_) | (with_reducible refine ldM rfl rfl rfl b12 ?_))
      clear f
      generalize (w1.alloc (.cells (wd false 0).toArray 25)).setRow w1.heap.size (mk (P)).toArray = W at *
      generalize w1.heap.size = pl_b12 at *
      refine (HD.out _).mono ?_
      rintro e w1 ⟨rfl, h1⟩
      replace b0 := b0.call h1
      replace b6 := b6.call h1
      replace b8 := b8.call h1
      replace b12 := b12.call h1
      replace hb := bthen hb h1
      clear h1
      have f5 := (Blk.new w1 (wd false 0) 25 rfl).old (.cells (wd false 0).toArray 25)
      have f6 := (Blk.new (w1.alloc (.cells (wd false 0).toArray 25)) (wd false 0) 25 (b := w1.heap.size + 1) (by simp)).rowOther (g := w1.heap.size) (mk (z)).toArray (by omega)
      have b14 := (f5.row (mk (z))).rowOther (g := w1.heap.size + 1) (mk (0)).toArray (by omega)
      have b15 := f6.row (mk (0))
      replace b0 := laid_two b0 (z) (0)
      replace b6 := laid_two b6 (z) (0)
      replace b8 := laid_two b8 (z) (0)
      replace b12 := laid_two b12 (z) (0)
      replace hb := laid_below2 hb (z) (0)
      go_wp2_with (first | (with_reducible refine alW2 rfl rfl ?_) | (with_reducible refine alW rfl rfl ?_) | (with_reducible refine stM rfl rfl rfl rfl f5 (wd_length _ _) ?_) | (with_reducible refine stM rfl rfl rfl rfl f6 (wd_length _ _) ?_))
      clear f5 f6
      generalize (((w1.alloc (.cells (wd false 0).toArray 25)).alloc (.cells (wd false 0).toArray 25)).setRow w1.heap.size (mk (z)).toArray).setRow (w1.heap.size + 1) (mk (0)).toArray = W at *
      generalize w1.heap.size + 1 = pl_b15 at *
      generalize w1.heap.size = pl_b14 at *
      refine rg_start [] (by kernel_rfl) (fun hS => ?_)
      replace hb := hb.drew
      refine rg_take 0 rfl (by kernel_rfl) (by kernel_rfl) (by kernel_rfl) (by rfl) hS (v := ?_) ?_ ?_
      rotate_left
      · (intro w' hS'; go_simp <;> try with_reducible rfl)
      try simp only [Act.put, List.setIfInBounds_toArray, List.set_cons_zero, List.set_cons_succ]
      refine rg_take 1 rfl (by kernel_rfl) (by kernel_rfl) (by kernel_rfl) (by rfl) hS (v := ?_) ?_ ?_
      rotate_left
      · (intro w' hS'; go_simp <;> try with_reducible rfl)
      try simp only [Act.put, List.setIfInBounds_toArray, List.set_cons_zero, List.set_cons_succ]
      refine rg_ld 2 rfl (by kernel_rfl) (by kernel_rfl) (by kernel_rfl) (by rfl) hS rfl rfl b6 (by simp <;> omega) (wholeM _) ?_
      try simp only [Act.put, List.setIfInBounds_toArray, List.set_cons_zero, List.set_cons_succ]
      refine rg_ld 3 rfl (by kernel_rfl) (by kernel_rfl) (by kernel_rfl) (by rfl) hS rfl rfl b8 (by simp <;> omega) (wholeM _) ?_
      try simp only [Act.put, List.setIfInBounds_toArray, List.set_cons_zero, List.set_cons_succ]
      refine rg_take 4 rfl (by kernel_rfl) (by kernel_rfl) (by kernel_rfl) (by rfl) hS (v := .bool true) (fun w' _ => op_eqM (z := z * 2 ^ j) (HF.out j (by omega)) rfl rfl rfl w') ?_
      try simp only [Act.put, List.setIfInBounds_toArray, List.set_cons_zero, List.set_cons_succ]
      refine rg_take 5 rfl (by kernel_rfl) (by kernel_rfl) (by kernel_rfl) (by rfl) hS (v := ?_) ?_ ?_
      rotate_left
      · (intro w' hS'; go_simp <;> try with_reducible rfl)
      try simp only [Act.put, List.setIfInBounds_toArray, List.set_cons_zero, List.set_cons_succ]
      refine rg_take 6 rfl (by kernel_rfl) (by kernel_rfl) (by kernel_rfl) (by rfl) hS (v := ?_) ?_ ?_
      rotate_left
      · (intro w' hS'; go_simp <;> try with_reducible rfl)
      try simp only [Act.put, List.setIfInBounds_toArray, List.set_cons_zero, List.set_cons_succ]
      refine rg_take 7 rfl (by kernel_rfl) (by kernel_rfl) (by kernel_rfl) (by rfl) hS (v := ?_) ?_ ?_
      rotate_left
      · (intro w' hS'; go_simp <;> try with_reducible rfl)
      try simp only [Act.put, List.setIfInBounds_toArray, List.set_cons_zero, List.set_cons_succ]
      refine rg_take 8 rfl (by kernel_rfl) (by kernel_rfl) (by kernel_rfl) (by rfl) hS (v := ?_) ?_ ?_
      rotate_left
      · (intro w' hS'; go_simp <;> try with_reducible rfl)
      try simp only [Act.put, List.setIfInBounds_toArray, List.set_cons_zero, List.set_cons_succ]
      refine rg_take 9 rfl (by kernel_rfl) (by kernel_rfl) (by kernel_rfl) (by rfl) hS (v := ?_) ?_ ?_
      rotate_left
      · (intro w' hS'; go_simp <;> try with_reducible rfl)
      try simp only [Act.put, List.setIfInBounds_toArray, List.set_cons_zero, List.set_cons_succ]
      refine rg_take 10 rfl (by kernel_rfl) (by kernel_rfl) (by kernel_rfl) (by rfl) hS (v := ?_) ?_ ?_
      rotate_left
      · (intro w' hS'; go_simp <;> try with_reducible rfl)
      try simp only [Act.put, List.setIfInBounds_toArray, List.set_cons_zero, List.set_cons_succ]
      refine rg_take 11 rfl (by kernel_rfl) (by kernel_rfl) (by kernel_rfl) (by rfl) hS (v := ?_) ?_ ?_
      rotate_left
      · (intro w' hS'; go_simp <;> try with_reducible rfl)
      try simp only [Act.put, List.setIfInBounds_toArray, List.set_cons_zero, List.set_cons_succ]
      refine rg_take 12 rfl (by kernel_rfl) (by kernel_rfl) (by kernel_rfl) (by rfl) hS (v := ?_) ?_ ?_
      rotate_left
      · (intro w' hS'; go_simp <;> try with_reducible rfl)
      try simp only [Act.put, List.setIfInBounds_toArray, List.set_cons_zero, List.set_cons_succ]
      refine rg_ld 13 rfl (by kernel_rfl) (by kernel_rfl) (by kernel_rfl) (by rfl) hS rfl rfl b14 (by simp <;> omega) (wholeM _) ?_
      try simp only [Act.put, List.setIfInBounds_toArray, List.set_cons_zero, List.set_cons_succ]
      refine rg_ld 14 rfl (by kernel_rfl) (by kernel_rfl) (by kernel_rfl) (by rfl) hS rfl rfl b0 (by simp <;> omega) (wholeM _) ?_
      try simp only [Act.put, List.setIfInBounds_toArray, List.set_cons_zero, List.set_cons_succ]
      refine rg_take 15 rfl (by kernel_rfl) (by kernel_rfl) (by kernel_rfl) (by rfl) hS (v := .bool true) (fun w' _ => op_eqM (z := z) HZ.out rfl rfl rfl w') ?_
      try simp only [Act.put, List.setIfInBounds_toArray, List.set_cons_zero, List.set_cons_succ]
      refine rg_take 16 rfl (by kernel_rfl) (by kernel_rfl) (by kernel_rfl) (by rfl) hS (v := ?_) ?_ ?_
      rotate_left
      · (intro w' hS'; go_simp <;> try with_reducible rfl)
      try simp only [Act.put, List.setIfInBounds_toArray, List.set_cons_zero, List.set_cons_succ]
      refine rg_take 17 rfl (by kernel_rfl) (by kernel_rfl) (by kernel_rfl) (by rfl) hS (v := ?_) ?_ ?_
      rotate_left
      · (intro w' hS'; go_simp <;> try with_reducible rfl)
      try simp only [Act.put, List.setIfInBounds_toArray, List.set_cons_zero, List.set_cons_succ]
      refine rg_ld 18 rfl (by kernel_rfl) (by kernel_rfl) (by kernel_rfl) (by rfl) hS rfl rfl b15 (by simp <;> omega) (wholeM _) ?_
      try simp only [Act.put, List.setIfInBounds_toArray, List.set_cons_zero, List.set_cons_succ]
      refine rg_eff 19 rfl (by kernel_rfl) (by rfl) (fun K hK => ?_)
      go_simp
      refine (k_from 0 (by decide) (by decide) _).mono ?_
      rintro e w1 ⟨rfl, h1⟩
      refine hK _ _ (hS.call h1) (fun hS => ?_)
      clear hK K
      replace hb := bthen hb h1
      clear h1
      try simp only [Act.put, List.setIfInBounds_toArray, List.set_cons_zero, List.set_cons_succ]
      refine rg_take 20 rfl (by kernel_rfl) (by kernel_rfl) (by kernel_rfl) (by rfl) hS (v := .bool true) (fun w' _ => op_eqM (z := 0) fits0 rfl rfl rfl w') ?_
      try simp only [Act.put, List.setIfInBounds_toArray, List.set_cons_zero, List.set_cons_succ]
      refine rg_take 21 rfl (by kernel_rfl) (by kernel_rfl) (by kernel_rfl) (by rfl) hS (v := ?_) ?_ ?_
      rotate_left
      · (intro w' hS'; go_simp <;> try with_reducible rfl)
      try simp only [Act.put, List.setIfInBounds_toArray, List.set_cons_zero, List.set_cons_succ]
      refine rg_take 22 rfl (by kernel_rfl) (by kernel_rfl) (by kernel_rfl) (by rfl) hS (v := ?_) ?_ ?_
      rotate_left
      · (intro w' hS'; go_simp <;> try with_reducible rfl)
      try simp only [Act.put, List.setIfInBounds_toArray, List.set_cons_zero, List.set_cons_succ]
      refine rg_done (by kernel_rfl) ?_
      go_wp2
      go_ret
      exact ⟨rfl, hb⟩
end Go.Proofs.Ytcfncekphdkphaa
