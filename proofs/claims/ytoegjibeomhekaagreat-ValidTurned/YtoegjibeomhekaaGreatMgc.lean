/- The reference's amounts: bits, cmp, neg, Is, Bits. -/
import Derived.Test.YtoegjibeomhekaaGreatMgv
import Derived.BigQuiet
import Derived.Deep.QuietTactic
namespace Go.Proofs.YtoegjibeomhekaaGreat
set_option linter.unusedSimpArgs false
set_option linter.unusedVariables false
open Go.RowKit
set_option maxRecDepth 100000
theorem bitLen_half {x : Nat} (h : x ≠ 0) : bitLen x = bitLen (x / 2) + 1 := by
  by_cases h1 : x / 2 = 0
  · obtain rfl : x = 1 := by omega
    decide
  · have := bitLen_shift x 1 (by rwa [Nat.pow_one])
    rw [Nat.pow_one] at this
    omega
theorem bitLen_le32 {x : Nat} (h : x ≤ 4294967295) : bitLen x ≤ 32 := by
  have := (sz_bits (k := 32) (x := (x : Int))).2 (by unfold Sz; omega)
  exact this
theorem top_dig {M k : Nat} (h : M < bb ^ (k + 1)) : M / bb ^ k = dig M k := by
  unfold dig
  rw [Nat.mod_eq_of_lt]
  rw [Nat.div_lt_iff_lt_mul (Nat.pow_pos bb_pos), Nat.mul_comm, ← Nat.pow_succ]
  exact h
theorem bits_top {M k : Nat} (h : nw M = k + 1) : dig M k ≠ 0 ∧ bitLen M = 32 * k + bitLen (dig M k) := by
  have hlt : M < bb ^ (k + 1) := h ▸ nw_lt M
  have h0 : M ≠ 0 := fun e => by have := nw_zero.2 e; omega
  have hge := nw_le M h0
  rw [h] at hge
  have e := top_dig hlt
  have hne : M / bb ^ k ≠ 0 := by
    rw [Nat.add_sub_cancel] at hge
    exact Nat.ne_of_gt (Nat.div_pos hge (Nat.pow_pos bb_pos))
  exact ⟨by rw [← e]; exact hne, by rw [bitLen_words hne, e]⟩
end Go.Proofs.YtoegjibeomhekaaGreat
