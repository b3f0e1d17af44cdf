/- The long division, as numbers. -/
import Derived.Test.YtcfncekphdkphaaNum
namespace Go.Proofs.Ytcfncekphdkphaa
/-- What goes in goes in among the highest words. -/
theorem guess_low {u v P : Nat} (hv : 0 < v / P) : u / v ≤ u / P / (v / P) := by
  have hP : 0 < P := by
    rcases Nat.eq_zero_or_pos P with h | h
    · subst h; simp at hv
    · exact h
  rw [Nat.le_div_iff_mul_le hv, Nat.le_div_iff_mul_le hP, Nat.mul_assoc]
  exact Nat.le_trans (Nat.mul_le_mul_left _ (Nat.div_mul_le_self v P)) (Nat.div_mul_le_self u v)
/-- What goes in among the highest words is one too great at most. -/
theorem guess_high {u v P g : Nat} (hP : 0 < P) (hv : 0 < v) (h1 : g * (v / P) ≤ u / P) (h2 : g ≤ v / P + 1) : g ≤ u / v + 1 := by
  rcases Nat.eq_zero_or_pos g with h0 | h0
  · rw [h0]; exact Nat.zero_le _
  obtain ⟨k, rfl⟩ : ∃ k, g = k + 1 := ⟨g - 1, by omega⟩
  have h3 : k * v ≤ u := by
    have a : (k + 1) * (v / P) * P ≤ u := Nat.le_trans (Nat.mul_le_mul_right P h1) (Nat.div_mul_le_self u P)
    have b : v < (v / P + 1) * P := by rw [Nat.mul_comm]; exact Nat.lt_mul_div_succ v hP
    have c : k * v ≤ k * ((v / P + 1) * P) := Nat.mul_le_mul_left k (Nat.le_of_lt b)
    have d : k * ((v / P + 1) * P) ≤ (k + 1) * (v / P) * P := by
      rw [← Nat.mul_assoc]
      apply Nat.mul_le_mul_right
      rw [Nat.mul_add, Nat.mul_one, Nat.add_mul, Nat.one_mul]
      omega
    omega
  have := (Nat.le_div_iff_mul_le hv).2 h3
  omega
/-- The word that guessWord tells: U the three highest words of u, V the two highest of v. -/
def gw (U V : Nat) : Nat := min (bb - 1) (U / V)
theorem gw_ok {u v P : Nat} (hP : 0 < P) (hV : bb - 1 ≤ v / P) (hq : u / v < bb) : u / v ≤ gw (u / P) (v / P) ∧ gw (u / P) (v / P) ≤ u / v + 1 := by
  have hb := bb_eq
  have hV0 : 0 < v / P := by omega
  have hv : 0 < v := by
    rcases Nat.eq_zero_or_pos v with h | h
    · subst h; simp at hV0
    · exact h
  have a := guess_low (u := u) hV0
  unfold gw
  refine ⟨by omega, ?_⟩
  apply guess_high hP hv
  · exact Nat.le_trans (Nat.mul_le_mul_right _ (Nat.min_le_right _ _)) (Nat.div_mul_le_self _ _)
  · omega
/-- guessWord's test, over the word guessed and what it leaves. -/
theorem gw_test {high v1 v2 u2 g r : Nat} (h : g * v1 + r = high) : g * v2 > r * bb + u2 ↔ high * bb + u2 < g * (v1 * bb + v2) := by
  have : high * bb = g * v1 * bb + r * bb := by rw [← h, Nat.add_mul]
  rw [Nat.mul_add, ← Nat.mul_assoc]
  omega
theorem gw_le_of {U V g : Nat} (h1 : g < bb) (h2 : g * V ≤ U) (hV : 0 < V) : g ≤ gw U V := by
  have := (Nat.le_div_iff_mul_le hV).2 h2
  unfold gw
  omega
theorem gw_lt_of {U V g : Nat} (h : bb ≤ g ∨ U < g * V) (hV : 0 < V) : gw U V < g := by
  have hb := bb_pos
  unfold gw
  rcases h with h | h
  · omega
  · have := (Nat.div_lt_iff_lt_mul hV).2 h
    omega
/-- One step of the division: the rest U below V * X * bb, X = bb ^ j. -/
theorem step_rest {U V X : Nat} (hX : 0 < X) (hV : 0 < V) : U - U / X / V * V * X < V * X ∧ U / X / V * V * X ≤ U := by
  have h1 : U / X / V * V * X ≤ U := Nat.le_trans (Nat.mul_le_mul_right X (Nat.div_mul_le_self _ _)) (Nat.div_mul_le_self U X)
  have h2 : U / X < (U / X / V + 1) * V := by rw [Nat.mul_comm]; exact Nat.lt_mul_div_succ _ hV
  have h3 : U < (U / X / V + 1) * V * X := (Nat.div_lt_iff_lt_mul hX).1 h2
  rw [Nat.add_mul, Nat.one_mul, Nat.add_mul] at h3
  omega
theorem step_word {U V X : Nat} (hX : 0 < X) (hV : 0 < V) (h : U < V * X * bb) : U / X / V < bb := by
  rw [Nat.div_lt_iff_lt_mul hV, Nat.div_lt_iff_lt_mul hX]
  rw [show bb * V * X = V * X * bb by rw [Nat.mul_comm bb V, Nat.mul_right_comm]]
  exact h
/-- What was shifted is shifted back. -/
theorem shifted {d e s Q R : Nat} (he : 0 < e) (h : d * 2 ^ s = Q * (e * 2 ^ s) + R) (hR : R < e * 2 ^ s) : Q = d / e ∧ R = d % e * 2 ^ s := by
  have hp := Nat.two_pow_pos s
  have h1 : d * 2 ^ s / (e * 2 ^ s) = Q := by
    rw [h, Nat.mul_comm Q, Nat.mul_add_div (Nat.mul_pos he hp), Nat.div_eq_of_lt hR, Nat.add_zero]
  have h2 : d * 2 ^ s % (e * 2 ^ s) = R := by
    rw [h, Nat.mul_comm Q, Nat.mul_add_mod, Nat.mod_eq_of_lt hR]
  rw [Nat.mul_div_mul_right _ _ hp] at h1
  rw [Nat.mul_mod_mul_right] at h2
  exact ⟨h1.symm, h2.symm⟩
end Go.Proofs.Ytcfncekphdkphaa
