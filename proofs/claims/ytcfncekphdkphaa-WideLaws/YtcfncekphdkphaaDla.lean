/- The long division's steps, as numbers. -/
import Derived.Test.YtcfncekphdkphaaKnu
import Derived.Test.YtcfncekphdkphaaBit
namespace Go.Proofs.Ytcfncekphdkphaa
set_option linter.unusedVariables false
theorem top_div {M k : Nat} (h : M < bb ^ (k + 1)) : M / bb ^ k = dig M k := by
  unfold dig
  rw [Nat.mod_eq_of_lt]
  rw [Nat.div_lt_iff_lt_mul (bp_pos k), Nat.mul_comm, ← bp_succ]; exact h
/-- How far the divisor is shifted. -/
theorem dl_shift {M k : Nat} (hM : M < bb ^ (k + 1)) (h1 : bb ^ k ≤ M) : 1 ≤ bitLen (dig M k) ∧ bitLen (dig M k) ≤ 32 ∧ M * 2 ^ (32 - bitLen (dig M k)) < bb ^ (k + 1) ∧ 2147483648 ≤ dig (M * 2 ^ (32 - bitLen (dig M k))) k := by
  have e := top_div hM
  have hx : dig M k ≠ 0 := by
    rw [← e]
    have := (Nat.le_div_iff_mul_le (bp_pos k)).2 (show 1 * bb ^ k ≤ M by rw [Nat.one_mul]; exact h1)
    omega
  have hlt := dig_lt M k
  have s1 := (bitLen_spec (dig M k)).1
  have s2 := (bitLen_spec (dig M k)).2 hx
  have hM2 : M < (dig M k + 1) * bb ^ k := by rw [← e, Nat.mul_comm]; exact Nat.lt_mul_div_succ M (bp_pos k)
  generalize dig M k = x at *
  have hb1 : 1 ≤ bitLen x := by
    rcases Nat.eq_zero_or_pos (bitLen x) with h | h
    · rw [h] at s1; simp at s1; omega
    · exact h
  have hb2 : bitLen x ≤ 32 := by
    rcases Nat.lt_or_ge 32 (bitLen x) with h | h
    · have := Nat.pow_le_pow_right (n := 2) (by decide) (show 32 ≤ bitLen x - 1 by omega)
      rw [bb_eq] at hlt; omega
    · exact h
  generalize bitLen x = l at *
  obtain ⟨s, hs⟩ : ∃ s, 32 - l = s := ⟨_, rfl⟩
  rw [hs]
  have h32 : bb = 2 ^ l * 2 ^ s := by rw [← Nat.pow_add, show l + s = 32 by omega, bb_eq]
  have h31 : (2147483648 : Nat) = 2 ^ (l - 1) * 2 ^ s := by rw [← Nat.pow_add, show l - 1 + s = 31 by omega]
  have hp := Nat.two_pow_pos s
  have hlim : M * 2 ^ s < bb ^ (k + 1) := by
    have : M < 2 ^ l * bb ^ k := Nat.lt_of_lt_of_le hM2 (Nat.mul_le_mul_right _ s1)
    rw [bp_succ, show bb ^ k * bb = 2 ^ l * bb ^ k * 2 ^ s by rw [Nat.mul_comm (2 ^ l), Nat.mul_assoc, ← h32]]
    exact Nat.mul_lt_mul_of_pos_right this hp
  refine ⟨hb1, hb2, hlim, ?_⟩
  rw [← top_div hlim, Nat.le_div_iff_mul_le (bp_pos k), h31]
  have : 2 ^ (l - 1) * bb ^ k ≤ M := Nat.le_trans (Nat.mul_le_mul_right _ s2) (by rw [← e]; exact Nat.div_mul_le_self M (bb ^ k))
  rw [Nat.mul_right_comm]
  exact Nat.mul_le_mul_right _ this
theorem words3 {U j i : Nat} (h : U < bb ^ (j + (i + 2) + 1)) : U / bb ^ j / bb ^ i = (dig U (j + (i + 2)) * bb + dig U (j + (i + 1))) * bb + dig U (j + i) := by
  rw [Nat.div_div_eq_div_mul, ← Nat.pow_add]
  have a := top_div h
  have e1 : U / bb ^ (j + (i + 1)) = U / bb ^ (j + (i + 2)) * bb + dig U (j + (i + 1)) := by
    unfold dig
    rw [show j + (i + 2) = j + (i + 1) + 1 by omega, bp_succ, ← Nat.div_div_eq_div_mul]
    exact (Nat.div_add_mod' _ _).symm
  have e2 : U / bb ^ (j + i) = U / bb ^ (j + (i + 1)) * bb + dig U (j + i) := by
    unfold dig
    rw [show j + (i + 1) = j + i + 1 by omega, bp_succ, ← Nat.div_div_eq_div_mul]
    exact (Nat.div_add_mod' _ _).symm
  rw [e2, e1, a]
theorem words2 {V i : Nat} (h : V < bb ^ (i + 2)) : V / bb ^ i = dig V (i + 1) * bb + dig V i := by
  have a := top_div h
  have e2 : V / bb ^ i = V / bb ^ (i + 1) * bb + dig V i := by
    unfold dig
    rw [bp_succ, ← Nat.div_div_eq_div_mul]
    exact (Nat.div_add_mod' _ _).symm
  rw [e2, a]
/-- What a step of the long division knows. -/
theorem dl_know {U V j i : Nat} (hV : V < bb ^ (i + 2)) (hn : 2147483648 ≤ dig V (i + 1)) (hU : U < V * bb ^ (j + 1)) :
    0 < V ∧ U < bb ^ (j + (i + 2) + 1) ∧ dig U (j + (i + 2)) ≤ dig V (i + 1) ∧ U / bb ^ j / V < bb ∧
    U / bb ^ j / V ≤ gw ((dig U (j + (i + 2)) * bb + dig U (j + (i + 1))) * bb + dig U (j + i)) (dig V (i + 1) * bb + dig V i) ∧
    gw ((dig U (j + (i + 2)) * bb + dig U (j + (i + 1))) * bb + dig U (j + i)) (dig V (i + 1) * bb + dig V i) ≤ U / bb ^ j / V + 1 := by
  have hV0 : 0 < V := by
    rcases Nat.eq_zero_or_pos V with h | h
    · rw [h] at hn; unfold dig at hn; simp at hn
    · exact h
  have h1 : U < bb ^ (j + (i + 2) + 1) := by
    refine Nat.lt_trans hU ?_
    rw [show j + (i + 2) + 1 = (i + 2) + (j + 1) by omega, Nat.pow_add bb (i + 2)]
    exact Nat.mul_lt_mul_of_pos_right hV (bp_pos _)
  have hq : U / bb ^ j / V < bb := by
    refine step_word (bp_pos j) hV0 ?_
    rw [bp_succ, ← Nat.mul_assoc] at hU
    exact hU
  refine ⟨hV0, h1, ?_, hq, ?_⟩
  · rw [← top_div h1, ← top_div hV]
    have : U / bb ^ (j + 1) ≤ V := Nat.le_of_lt ((Nat.div_lt_iff_lt_mul (bp_pos _)).2 hU)
    rw [show j + (i + 2) = (j + 1) + (i + 1) by omega, Nat.pow_add, ← Nat.div_div_eq_div_mul]
    exact Nat.div_le_div_right this
  · have := gw_ok (u := U / bb ^ j) (v := V) (P := bb ^ i) (bp_pos i) (by
      rw [words2 hV, bb_eq]; omega) hq
    rw [words3 h1, words2 hV] at this
    exact this
/-- The guess was right. -/
theorem dl_right {U V Y X T q b : Nat} (hX : 0 < X) (hV : 0 < V) (hq : U / X / V = q) (hY : Y < T) (h : Y + X * (q * V) = U + T * b) (hU : U < T) : b = 0 ∧ Y + X * (q * V) = U ∧ Y < V * X := by
  have s := step_rest (U := U) hX hV
  rw [hq] at s
  have e : q * V * X = X * (q * V) := Nat.mul_comm _ _
  rw [e] at s
  have hb : b = 0 := by
    rcases Nat.eq_zero_or_pos b with h0 | h0
    · exact h0
    · have := Nat.mul_le_mul_left T h0
      omega
  subst hb
  simp only [Nat.mul_zero, Nat.add_zero] at h
  exact ⟨rfl, h, by omega⟩
/-- The guess was one too great: given back, it is right. -/
theorem dl_over {U V Y Z X T q b c : Nat} (hX : 0 < X) (hV : 0 < V) (hq : U / X / V = q) (hY : Y < T) (h : Y + X * ((q + 1) * V) = U + T * b) (hU : U < T) (hT : V * X ≤ T) (hb : b ≤ 1)
    (hZ : Z < T) (h2 : Z + T * c = Y + X * V) : b = 1 ∧ Z + X * (q * V) = U ∧ Z < V * X := by
  have s := step_rest (U := U) hX hV
  rw [hq] at s
  have e : q * V * X = X * (q * V) := Nat.mul_comm _ _
  have e2 : X * ((q + 1) * V) = X * (q * V) + X * V := by rw [Nat.add_mul, Nat.one_mul, Nat.mul_add]
  have e3 : V * X = X * V := Nat.mul_comm _ _
  rw [e] at s
  rw [e2] at h
  rw [e3] at s hT ⊢
  have hb1 : b = 1 := by
    rcases Nat.eq_zero_or_pos b with h0 | h0
    · subst h0; simp only [Nat.mul_zero, Nat.add_zero] at h; omega
    · omega
  subst hb1
  rw [Nat.mul_one] at h
  have hc : c = 1 := by
    rcases Nat.eq_zero_or_pos c with h0 | h0
    · subst h0; simp only [Nat.mul_zero, Nat.add_zero] at h2; omega
    · rcases Nat.lt_or_ge c 2 with h3 | h3
      · omega
      · have := Nat.mul_le_mul_left T h3
        omega
  subst hc
  rw [Nat.mul_one] at h2
  exact ⟨rfl, by omega, by omega⟩
theorem dl_over_b {U V Y X T q b : Nat} (hX : 0 < X) (hV : 0 < V) (hq : U / X / V = q) (h : Y + X * ((q + 1) * V) = U + T * b) (hb : b ≤ 1) : b = 1 := by
  have s := step_rest (U := U) hX hV
  rw [hq] at s
  have e : q * V * X = X * (q * V) := Nat.mul_comm _ _
  have e2 : X * ((q + 1) * V) = X * (q * V) + X * V := by rw [Nat.add_mul, Nat.one_mul, Nat.mul_add]
  have e3 : V * X = X * V := Nat.mul_comm _ _
  rw [e] at s
  rw [e2] at h
  rw [e3] at s
  rcases Nat.eq_zero_or_pos b with h0 | h0
  · subst h0; simp only [Nat.mul_zero, Nat.add_zero] at h; omega
  · omega
end Go.Proofs.Ytcfncekphdkphaa
