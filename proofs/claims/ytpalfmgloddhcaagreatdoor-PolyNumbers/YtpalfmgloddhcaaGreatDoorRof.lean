/- Joined of: Rnw Rof Rfl. -/
import Derived.Test.YtpalfmgloddhcaaGreatDoorRcm
/- Package ratio: lowest, New, Of, Floor, whole. -/
namespace Go.Proofs.YtpalfmgloddhcaaGreatDoor
set_option linter.unusedSimpArgs false
set_option linter.unusedVariables false
open Go.RowKit
set_option maxRecDepth 100000
end Go.Proofs.YtpalfmgloddhcaaGreatDoor

/- Package ratio: New, Of, Floor, whole. -/
namespace Go.Proofs.YtpalfmgloddhcaaGreatDoor
set_option linter.unusedSimpArgs false
set_option linter.unusedVariables false
open Go.RowKit
set_option maxRecDepth 100000
theorem sz_zero (k : Nat) : Sz k 0 := Nat.two_pow_pos k
theorem sz_i64 {n : Int} (h : -9223372036854775808 ≤ n ∧ n ≤ 9223372036854775807) : Sz 64 n := by
  unfold Sz
  have : (2 : Nat) ^ 64 = 18446744073709551616 := by decide
  rw [this]; omega
end Go.Proofs.YtpalfmgloddhcaaGreatDoor

/- Package ratio: Floor; parquetref1's From, Whole. -/
namespace Go.Proofs.YtpalfmgloddhcaaGreatDoor
set_option linter.unusedSimpArgs false
set_option linter.unusedVariables false
open Go.RowKit
set_option maxRecDepth 100000
theorem floor_of {n d : Int} (hd : 0 < d) : (n.tmod d < 0 → n.tdiv d - 1 = n / d) ∧ (¬ n.tmod d < 0 → n.tdiv d = n / d) := by
  have h1 := Int.mul_tdiv_add_tmod n d
  have h2 := Int.natAbs_tmod n d
  have h3 : (n.tmod d).natAbs < d.natAbs := by rw [h2]; exact Nat.mod_lt _ (by omega)
  constructor
  · intro h
    refine ((Int.ediv_eq_iff_of_pos hd).2 ?_).symm
    rw [Int.sub_mul, Int.one_mul, Int.mul_comm]
    omega
  · intro h
    refine ((Int.ediv_eq_iff_of_pos hd).2 ?_).symm
    rw [Int.mul_comm]
    omega
end Go.Proofs.YtpalfmgloddhcaaGreatDoor
