/- The laws' own examples: what known answers. -/
import Derived.Test.YtcfncekphdkphaaEql
namespace Go.Proofs.Ytcfncekphdkphaa
open Go.RowKit
set_option maxRecDepth 100000
theorem divOk_small {B : Nat} (h : B < bb ^ 2) : DivOk B := fun N M w hN hM h0 => by
  have hN2 : N < bb ^ 2 := by omega
  have hM2 : M < bb ^ 2 := by omega
  have hN' := Nat.lt_of_lt_of_le hN2 (bp_mono (show 2 ≤ 32 by omega))
  have hM' := Nat.lt_of_lt_of_le hM2 (bp_mono (show 2 ≤ 32 by omega))
  rcases Nat.lt_or_ge (nw N) (nw M) with h1 | h1
  · exact divide_less N M w hN' hM' h1
  · exact divide_two N M w hN' hM' h0 h1 (nw_le_of hN2)
theorem small_fits {n : Int} (h1 : -1000 ≤ n) (h2 : n ≤ 1000) : fits n := fits_of (by omega) (by omega)
theorem small_w {n : Int} (h1 : -1000 ≤ n) (h2 : n ≤ 1000) : Wd (mk n) n := wd_of (small_fits h1 h2)
theorem k_mul (w : World) : Calls Try.prog 17 #[.agg (mk (-3)).toArray, .agg (mk 4).toArray] w fun e w' => e = .returned (.tuple #[.agg (mk (-12)).toArray, .bool true]) ∧ Below w.heap.size w w' :=
  Mul_w (x := -3) (y := 4) (small_w (by decide) (by decide)) (small_w (by decide) (by decide)) w (small_fits (by decide) (by decide))
theorem k_int (w : World) : Calls Try.prog 23 #[.agg (mk (-12)).toArray] w fun e w' => e = .returned (.tuple #[.int .i64 (-12), .bool true]) ∧ Below w.heap.size w w' :=
  Int_yes true 12 w (by decide) (by decide)
theorem k_div (w : World) : Calls Try.prog 19 #[.agg (mk (-7)).toArray, .agg (mk 2).toArray] w fun e w' => e = .returned (.tuple #[.agg (mk (-3)).toArray, .agg (mk (-1)).toArray, .bool true]) ∧ Below w.heap.size w w' :=
  DivMod_w (x := -7) (y := 2) (small_w (by decide) (by decide)) (small_w (by decide) (by decide)) (by decide) 7 (by decide) (by decide) (divOk_small (by rw [bb_eq]; decide)) w
theorem k_divz (w : World) : Calls Try.prog 19 #[.agg (mk (-12)).toArray, .agg (mk 0).toArray] w fun e w' => e = .returned (.tuple #[.agg (mk 0).toArray, .agg (mk 0).toArray, .bool false]) ∧ Below w.heap.size w w' :=
  DivMod_wz (x := -12) (small_w (by decide) (by decide)) (small_w (by decide) (by decide)) w
def t12 : ByteArray := ⟨#[45, 49, 50]⟩
def d12 : ByteArray := ⟨#[49, 50]⟩
theorem d12_digits : Digits d12 := fun i h => by
  have h2 : i < 2 := h
  rcases i with _ | _ | i
  · exact (show 48 ≤ (49 : UInt8).toNat ∧ (49 : UInt8).toNat ≤ 57 by decide)
  · exact (show 48 ≤ (50 : UInt8).toNat ∧ (50 : UInt8).toNat ≤ 57 by decide)
  · omega
theorem k_parse (w : World) : Calls Try.prog 55 #[.string t12] w fun e w' => e = .returned (.tuple #[.agg (mk (-12)).toArray, .bool true]) ∧ Below w.heap.size w w' :=
  Parse_neg t12 d12 w (by decide) (by decide) (by decide) (by decide) (by decide) d12_digits (by decide) (Nat.lt_of_lt_of_le (show val (dg d12) < bb ^ 1 by decide) (bp_mono (by omega)))
theorem k_sum (w : World) (b : Nat) (h : Blk w b (mk 1 ++ (mk 2 ++ mk 3)) 25) : Calls Try.prog 56 #[.slice (some ⟨b, 0, none⟩) 3 3] w fun e w' => e = .returned (.tuple #[.agg (mk 6).toArray, .bool true]) ∧ Below w.heap.size w w' :=
  Sum_any 3 b (fun k => (k : Int) + 1) (fun k => (((k * (k + 1) / 2 : Nat)) : Int)) w (by omega) rfl (fun k hk => by
      rcases k with _ | _ | _ | k
      · rfl
      · rfl
      · rfl
      · omega) (fun k hk => by
      have : k * (k + 1) ≤ 3 * 4 := Nat.mul_le_mul hk (by omega)
      exact small_fits (by omega) (by omega)) (fun k hk => small_fits (by omega) (by omega)) h.lt (fun k hk => by
      rcases k with _ | _ | _ | k
      · intro j v hv
        have := h.cell (i := 0 * 33 + j) (v := v) (by rw [List.getElem?_append_left (by rw [mk_length]; have := (List.getElem?_eq_some_iff.1 hv).1; rw [mk_length] at this; omega)]; simpa using hv)
        exact this
      · intro j v hv
        have hl := (List.getElem?_eq_some_iff.1 hv).1
        rw [mk_length] at hl
        exact h.cell (by rw [List.getElem?_append_right (by rw [mk_length]; omega), List.getElem?_append_left (by rw [mk_length, mk_length]; omega), mk_length]; simpa using hv)
      · intro j v hv
        exact h.cell (by rw [List.getElem?_append_right (by rw [mk_length]; omega), List.getElem?_append_right (by rw [mk_length, mk_length]; omega), mk_length, mk_length, show (0 + 1 + 1) * 33 + j - 33 - 33 = j by omega]; simpa using hv)
      · omega)
theorem held_of {n : Int} (h0 : 0 ≤ n) (h1 : n ≤ 1024) : (held n : Int) = n := by rw [← held_eq]; omega
/-- 2 to the power of 1023. -/
def big : Int := 1 * 2 ^ held 1023
theorem two_abs (k : Nat) : ((2 : Int) ^ k).natAbs = 2 ^ k := by rw [Int.natAbs_pow]; rfl
theorem bitLen_pow (k : Nat) : bitLen (2 ^ k) = k + 1 := by rw [bitLen, if_neg (Nat.ne_of_gt (Nat.two_pow_pos k)), Nat.log2_two_pow]
theorem not_dbl {A k : Nat} (h : A = 2 ^ (k + 1)) : ¬ 2 ^ k * 2 < A := by rw [h, Nat.pow_succ]; exact Nat.lt_irrefl _
theorem big_abs : big.natAbs = 2 ^ 1023 := by
  have h : held 1023 = 1023 := by have := held_of (n := 1023) (by decide) (by decide); omega
  rw [big, h, Int.one_mul, two_abs]
theorem big_fits : fits big := by
  rw [fits, big_abs, bb_pow 1024 rfl]
  exact two_lt (a := 1023) (b := 1024) (by decide)
theorem big_pos : 0 < big := by
  rw [big, Int.one_mul]; exact Int.pow_pos (by decide)
theorem big_over : ¬ fits (big + big) := by
  intro h
  rw [fits, show (big + big).natAbs = big.natAbs * 2 by have := big_pos; omega, big_abs] at h
  exact not_dbl (bb_pow (1023 + 1) rfl) h
theorem k_shl (w : World) : Calls Try.prog 21 #[.agg (mk 1).toArray, .int .i64 1023] w fun e w' => e = .returned (.tuple #[.agg (mk big).toArray, .bool true]) ∧ Below w.heap.size w w' :=
  Shl_w (x := 1) (small_w (by decide) (by decide)) 1023 w (by decide) (by decide) big_fits
theorem k_over (w : World) : Calls Try.prog 13 #[.agg (mk big).toArray, .agg (mk big).toArray] w fun e w' => e = .returned (.tuple #[.agg (mk 0).toArray, .bool false]) ∧ Below w.heap.size w w' :=
  Add_wn (wd_of big_fits) (wd_of big_fits) w big_over
theorem k_text (w : World) : Calls Try.prog 37 #[.agg (mk (-12)).toArray] w fun e w' => e = .returned (.string t12) ∧ Below w.heap.size w w' :=
  (Text_any true 12 w (Nat.lt_of_lt_of_le (show 12 < bb ^ 1 by decide) (bp_mono (by omega)))).mono fun _ _ ⟨he, hb⟩ => ⟨he.trans (by kernel_rfl), hb⟩
theorem k_bits (w : World) : Calls Try.prog 33 #[.agg (mk big).toArray] w fun e w' => e = .returned (.int .i64 1024) ∧ Below w.heap.size w w' :=
  (Bits_w (wd_of big_fits) w).mono fun _ _ ⟨he, hb⟩ => ⟨he.trans (by
    rw [big_abs, bitLen_pow 1023]; rfl), hb⟩
theorem k_gcd (w : World) : Calls Try.prog 35 #[.agg (mk (-12)).toArray, .agg (mk 18).toArray] w fun e w' => e = .returned (.agg (mk 6).toArray) ∧ Below w.heap.size w w' :=
  Gcd_w (x := -12) (y := 18) (small_w (by decide) (by decide)) (small_w (by decide) (by decide)) 18 (Nat.lt_of_lt_of_le (show 18 < bb ^ 1 by decide) (bp_mono (by omega))) (by decide) (by decide) (divOk_small (by rw [bb_eq]; decide)) w
theorem k_cmp (w : World) : Calls Try.prog 27 #[.agg (mk (-12)).toArray, .agg (mk 6).toArray] w fun e w' => e = .returned (.int .i64 (-1)) ∧ Below w.heap.size w w' :=
  Cmp_w (x := -12) (y := 6) (small_w (by decide) (by decide)) (small_w (by decide) (by decide)) w
theorem k_neg (w : World) : Calls Try.prog 29 #[.agg (mk (-12)).toArray] w fun e w' => e = .returned (.agg (mk 12).toArray) ∧ Below w.heap.size w w' :=
  Neg_w (x := -12) (small_w (by decide) (by decide)) w
theorem k_is (w : World) : Calls Try.prog 31 #[.agg (mk (-12)).toArray] w fun e w' => e = .returned (.bool true) ∧ Below w.heap.size w w' :=
  Is_any true 12 w (Nat.lt_of_lt_of_le (show 12 < bb ^ 1 by decide) (bp_mono (by omega)))
theorem k_isn (w : World) : Calls Try.prog 31 #[.agg (wd true 0).toArray] w fun e w' => e = .returned (.bool false) ∧ Below w.heap.size w w' :=
  Is_any true 0 w (bp_pos 32)
theorem k_from (n : Int) (h1 : -1000 ≤ n) (h2 : n ≤ 1000) (w : World) : Calls Try.prog 25 #[.int .i64 n] w fun e w' => e = .returned (.agg (mk n).toArray) ∧ Below w.heap.size w w' :=
  From_any n w (by omega) (by omega)
theorem k_build (w : World) : (Instr.buildSlice 112 3 #[(0, .agg (mk 1).toArray), (1, .agg (mk 2).toArray), (2, .agg (mk 3).toArray)]).run Try.prog w = .ok (.slice (some ⟨w.heap.size, 0, none⟩) 3 3) (w.alloc (.cells (mk 1 ++ (mk 2 ++ mk 3)).toArray 25)) := by kernel_rfl
end Go.Proofs.Ytcfncekphdkphaa
