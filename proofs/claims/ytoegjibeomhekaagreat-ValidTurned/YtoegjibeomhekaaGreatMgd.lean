/- The reference's amounts: divmod, gcd. -/
import Derived.Test.YtoegjibeomhekaaGreatMgh
namespace Go.Proofs.YtoegjibeomhekaaGreat
set_option linter.unusedSimpArgs false
set_option linter.unusedVariables false
open Go.RowKit
set_option maxRecDepth 100000
theorem Mv.setOther {w : World} {v : Value} {M g : Nat} (h : Mv w v M) (hne : v.ownBlock ≠ some g) (i : Nat) (x : Value) : Mv (w.setCell ⟨g, i, none⟩ x) v M := by
  rcases h with h | ⟨b, c, rfl, hc, hl, hx⟩
  · exact .inl h
  · have hn : b ≠ g := fun e => hne (by rw [e]; rfl)
    exact .inr ⟨b, c, rfl, hc, by simp; exact hl, fun j hj => (World.cell?_setCell_other _ _ _ _ (by simp <;> (intro e; exact absurd e hn))).trans (hx j hj)⟩
/-- One bit more of a quotient. -/
theorem div_bit {A s : Nat} (hs : 0 < s) : A % s = (if s ≤ A % (2 * s) then A % (2 * s) - s else A % (2 * s)) ∧ A / s = 2 * (A / (2 * s)) + (if s ≤ A % (2 * s) then 1 else 0) := by
  have h1 := Nat.mod_add_div A (2 * s)
  have h2 := Nat.mod_lt A (show 0 < 2 * s by omega)
  generalize A % (2 * s) = R at *
  generalize A / (2 * s) = Q at *
  have e : A = R + s * (2 * Q) := by rw [← h1, Nat.mul_comm 2 s, Nat.mul_assoc]
  subst e
  rw [Nat.add_mul_mod_self_left, Nat.add_mul_div_left _ _ hs]
  split
  · rename_i h
    have e1 : R % s = R - s := by rw [Nat.mod_eq_sub_mod h, Nat.mod_eq_of_lt (by omega)]
    have e2 : R / s = 1 := by rw [Nat.div_eq_iff (by omega)]; omega
    exact ⟨e1, by omega⟩
  · rename_i h
    exact ⟨Nat.mod_eq_of_lt (by omega), by rw [Nat.div_eq_of_lt (by omega)]; omega⟩
theorem put_add {Y K v : Nat} : put Y K (dig Y K + v) = Y + bb ^ K * v := by
  unfold put
  have h1 := Nat.mod_add_div Y (bb ^ K)
  rw [div_split Y K] at h1
  rw [Nat.add_right_comm, Nat.mul_add]
  omega
/-- The lowest bit that isn't set is set. -/
theorem bit_in {T j : Nat} : dig (T * 2 ^ (j + 1)) (j / 32) + 2 ^ (j % 32) < bb ∧ bits .or .u32 ((dig (T * 2 ^ (j + 1)) (j / 32) : Nat) : Int) ((2 ^ (j % 32) : Nat) : Int) = ((dig (T * 2 ^ (j + 1)) (j / 32) + 2 ^ (j % 32) : Nat) : Int) ∧ put (T * 2 ^ (j + 1)) (j / 32) (dig (T * 2 ^ (j + 1)) (j / 32) + 2 ^ (j % 32)) = T * 2 ^ (j + 1) + 2 ^ j := by
  obtain ⟨q, hq⟩ : ∃ q, j / 32 = q := ⟨_, rfl⟩
  obtain ⟨r, hr⟩ : ∃ r, j % 32 = r := ⟨_, rfl⟩
  have hj : j = 32 * q + r := by omega
  have hr2 : r < 32 := by omega
  rw [hq, hr]
  have e1 : T * 2 ^ (j + 1) = T * 2 ^ (r + 1) * bb ^ q := by rw [hj, Nat.add_assoc, shift_words]
  have e2 : dig (T * 2 ^ (j + 1)) q = T * 2 ^ (r + 1) % bb := by
    rw [e1]
    have h3 : dig (T * 2 ^ (r + 1) * bb ^ q) q = dig (T * 2 ^ (r + 1)) 0 := dig_shift (T * 2 ^ (r + 1)) q 0
    rw [h3]
    simp [dig]
  have hb2 : bb = 2 ^ (r + 1) * 2 ^ (31 - r) := by rw [← Nat.pow_add, show r + 1 + (31 - r) = 32 by omega]; rfl
  have e3 : T * 2 ^ (r + 1) % bb = 2 ^ (r + 1) * (T % 2 ^ (31 - r)) := by rw [hb2, Nat.mul_comm T, Nat.mul_mod_mul_left]
  have ht : T % 2 ^ (31 - r) + 1 ≤ 2 ^ (31 - r) := Nat.mod_lt _ (Nat.two_pow_pos _)
  have hp : 2 ^ r < 2 ^ (r + 1) := Nat.pow_lt_pow_right (by decide) (by omega)
  have hlt : 2 ^ (r + 1) * (T % 2 ^ (31 - r)) + 2 ^ (r + 1) ≤ bb := by
    rw [hb2, ← Nat.mul_succ]; exact Nat.mul_le_mul_left _ ht
  have hbb := bb_eq
  refine ⟨by rw [e2, e3]; omega, ?_, ?_⟩
  · rw [e2, e3]
    rw [u32_or_nat _ _ (by omega) (by omega), ← Nat.two_pow_add_eq_or_of_lt hp]
  · rw [put_add, hj, Nat.pow_add 2 (32 * q) r, ← bp_two]
theorem bits_order {A B n : Nat} (hB : B ≠ 0) (h : bitLen A = bitLen B + n) : A < B * 2 ^ (n + 1) ∧ ∀ j, j ≤ n → B * 2 ^ j < 2 ^ bitLen A := by
  have h1 := (bitLen_spec A).1
  have h2 := (bitLen_spec B).1
  have h3 := (bitLen_spec B).2 hB
  have h4 : 0 < bitLen B := by
    rcases Nat.eq_zero_or_pos (bitLen B) with e | e
    · rw [e] at h2; omega
    · exact e
  refine ⟨?_, fun j hj => ?_⟩
  · rw [h] at h1
    refine Nat.lt_of_lt_of_le h1 ?_
    calc 2 ^ (bitLen B + n) = 2 ^ (bitLen B - 1) * 2 ^ (n + 1) := by rw [← Nat.pow_add]; congr 1; omega
      _ ≤ B * 2 ^ (n + 1) := Nat.mul_le_mul_right _ h3
  · rw [h, Nat.pow_add]
    exact Nat.lt_of_lt_of_le (Nat.mul_lt_mul_of_pos_right h2 (Nat.two_pow_pos j)) (Nat.mul_le_mul_left _ (Nat.pow_le_pow_right (by decide) hj))
theorem bits_less {A B : Nat} (h : bitLen A < bitLen B) : A < B := by
  have h1 := (bitLen_spec A).1
  have hB : B ≠ 0 := fun e => by rw [e, show bitLen 0 = 0 from rfl] at h; omega
  have h3 := (bitLen_spec B).2 hB
  exact Nat.lt_of_lt_of_le h1 (Nat.le_trans (Nat.pow_le_pow_right (by decide) (by omega)) h3)
theorem bits_words (A : Nat) : bitLen A ≤ 32 * nw A := by
  have := (sz_bits (k := 32 * nw A) (x := (A : Int))).2 (by unfold Sz; rw [← bp_two]; exact nw_lt A)
  exact this
theorem div_bit2 {A B j : Nat} (hB : B ≠ 0) : (B * 2 ^ j ≤ A % (B * 2 ^ (j + 1)) → A % (B * 2 ^ j) = A % (B * 2 ^ (j + 1)) - B * 2 ^ j ∧ A / (B * 2 ^ j) * 2 ^ j = A / (B * 2 ^ (j + 1)) * 2 ^ (j + 1) + 2 ^ j) ∧ (¬ B * 2 ^ j ≤ A % (B * 2 ^ (j + 1)) → A % (B * 2 ^ j) = A % (B * 2 ^ (j + 1)) ∧ A / (B * 2 ^ j) * 2 ^ j = A / (B * 2 ^ (j + 1)) * 2 ^ (j + 1)) := by
  have e : B * 2 ^ (j + 1) = 2 * (B * 2 ^ j) := by rw [Nat.pow_succ, ← Nat.mul_assoc, Nat.mul_comm]
  obtain ⟨h1, h2⟩ := div_bit (A := A) (s := B * 2 ^ j) (Nat.mul_pos (by omega) (Nat.two_pow_pos j))
  rw [← e] at h1 h2
  constructor
  · intro h
    rw [if_pos h] at h1 h2
    refine ⟨h1, ?_⟩
    rw [h2, Nat.add_mul, Nat.one_mul, Nat.pow_succ]
    congr 1
    simp only [Nat.mul_assoc, Nat.mul_comm, Nat.mul_left_comm]
  · intro h
    rw [if_neg h] at h1 h2
    refine ⟨h1, ?_⟩
    rw [h2, Nat.add_zero, Nat.pow_succ]
    simp only [Nat.mul_assoc, Nat.mul_comm, Nat.mul_left_comm]
end Go.Proofs.YtoegjibeomhekaaGreat
