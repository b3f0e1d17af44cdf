/- Geometry of segments over the rational numbers. -/
import Derived.Test.YtoegjibeomhekaaGreatLnh
namespace Go.Proofs.YtoegjibeomhekaaGreat
set_option linter.unusedSimpArgs false
set_option linter.unusedVariables false
open Go.RowKit
theorem cq_sp (x u : Rat) : (x < u ∧ cq x u = -1) ∨ (x = u ∧ cq x u = 0) ∨ (u < x ∧ cq x u = 1) := by
  unfold cq
  by_cases h : x < u
  · exact .inl ⟨h, by rw [if_pos h]⟩
  · by_cases h' : u < x
    · exact .inr (.inr ⟨h', by rw [if_neg h, if_pos h']⟩)
    · exact .inr (.inl ⟨by grind, by rw [if_neg h, if_neg h']⟩)
theorem hq_iff (a b x : Rat) : hq a b x = true ↔ (a ≤ x ∧ x ≤ b) ∨ (b ≤ x ∧ x ≤ a) := by
  unfold hq
  rw [decide_eq_true_eq]
  rcases cq_sp a x with ⟨h, e⟩ | ⟨h, e⟩ | ⟨h, e⟩ <;> rcases cq_sp x b with ⟨h', e'⟩ | ⟨h', e'⟩ | ⟨h', e'⟩ <;> rw [e, e'] <;> constructor <;> intro h0 <;> first | decide | grind
theorem hq_sym (a b x : Rat) : hq a b x = hq b a x := by
  rw [Bool.eq_iff_iff, hq_iff, hq_iff]; grind
theorem sd_iff (ax ay ex ey x y : Rat) : sd ax ay ex ey x y = 0 ↔ crs ax ay ex ey x y = 0 := by
  unfold sd
  rcases cq_sp (crs ax ay ex ey x y) 0 with ⟨h, e⟩ | ⟨h, e⟩ | ⟨h, e⟩ <;> rw [e] <;> constructor <;> intro h0 <;> first | rfl | exact h | grind
theorem sd_neg (ax ay ex ey x y : Rat) : (sd ax ay ex ey x y = -1 ∧ crs ax ay ex ey x y < 0) ∨ (sd ax ay ex ey x y = 0 ∧ crs ax ay ex ey x y = 0) ∨ (sd ax ay ex ey x y = 1 ∧ 0 < crs ax ay ex ey x y) := by
  unfold sd
  rcases cq_sp (crs ax ay ex ey x y) 0 with ⟨h, e⟩ | ⟨h, e⟩ | ⟨h, e⟩
  · exact .inl ⟨e, h⟩
  · exact .inr (.inl ⟨e, h⟩)
  · exact .inr (.inr ⟨e, h⟩)
theorem crs_back (ax ay ex ey x y : Rat) : crs ex ey ax ay x y = - crs ax ay ex ey x y := by unfold crs; grind
theorem onq_iff (ax ay ex ey x y : Rat) : onq ax ay ex ey x y = true ↔ ((ax ≤ x ∧ x ≤ ex) ∨ (ex ≤ x ∧ x ≤ ax)) ∧ ((ay ≤ y ∧ y ≤ ey) ∨ (ey ≤ y ∧ y ≤ ay)) ∧ crs ax ay ex ey x y = 0 := by
  unfold onq
  rw [Bool.and_eq_true, Bool.and_eq_true, hq_iff, hq_iff, decide_eq_true_eq, sd_iff, and_assoc]
theorem onq_sym (ax ay ex ey x y : Rat) : onq ax ay ex ey x y = onq ex ey ax ay x y := by
  rw [Bool.eq_iff_iff, onq_iff, onq_iff, crs_back ax ay ex ey]; grind
theorem onq_a (ax ay ex ey : Rat) : onq ax ay ex ey ax ay = true := by
  rw [onq_iff]
  refine ⟨by grind, by grind, by unfold crs; grind⟩
theorem onq_b (ax ay ex ey : Rat) : onq ax ay ex ey ex ey = true := by rw [onq_sym]; exact onq_a _ _ _ _
theorem oq_sym (a b c d : Rat) : oq a b c d = oq d c a b := by
  unfold oq
  rw [Bool.eq_iff_iff]
  simp only [Bool.or_eq_true, hq_iff]
  grind
theorem crs_sum (ax ay ex ey cx cy dx dy : Rat) : crs cx cy dx dy ax ay - crs cx cy dx dy ex ey = crs ax ay ex ey dx dy - crs ax ay ex ey cx cy := by unfold crs; grind
theorem crs_x (ax ay ex ey cx cy dx dy : Rat) : ex * crs cx cy dx dy ax ay - ax * crs cx cy dx dy ex ey = cx * crs ax ay ex ey dx dy - dx * crs ax ay ex ey cx cy := by unfold crs; grind
theorem crs_y (ax ay ex ey cx cy dx dy : Rat) : ey * crs cx cy dx dy ax ay - ay * crs cx cy dx dy ex ey = cy * crs ax ay ex ey dx dy - dy * crs ax ay ex ey cx cy := by unfold crs; grind
theorem avg_lt {a b c d R S P Q : Rat} (hR : 0 < R) (hS : S < 0) (hQ : 0 < Q) (hP : P < 0) (hD : R - S = Q - P) (h : b * R - a * S = c * Q - d * P) (h1 : c < a) (h2 : c < b) (h3 : d < a) (h4 : d < b) : False := by
  have m1 : 0 < (b - c) * R := Rat.mul_pos (by grind) hR
  have m2 : 0 < (a - c) * (-S) := Rat.mul_pos (by grind) (by grind)
  have m3 : 0 < (b - d) * R := Rat.mul_pos (by grind) hR
  have m4 : 0 < (a - d) * (-S) := Rat.mul_pos (by grind) (by grind)
  have e1 : c * (R - S) = c * (Q - P) := by rw [hD]
  have e2 : d * (R - S) = d * (Q - P) := by rw [hD]
  have k1 : 0 < (c - d) * P := by grind
  have k2 : 0 < (c - d) * Q := by grind
  rcases Rat.le_total (a := c) (b := d) with h5 | h5
  · have : 0 ≤ (d - c) * Q := Rat.mul_nonneg (by grind) (by grind)
    grind
  · have : 0 ≤ (c - d) * (-P) := Rat.mul_nonneg (by grind) (by grind)
    grind
theorem oq_no {a b c d : Rat} (h : oq a b c d = false) : (c < a ∧ c < b ∧ d < a ∧ d < b) ∨ (a < c ∧ b < c ∧ a < d ∧ b < d) := by
  have h' : ¬ oq a b c d = true := by rw [h]; decide
  unfold oq at h'
  simp only [Bool.or_eq_true, hq_iff] at h'
  grind
/-- Where each parts the other's ends, what they cover in one direction overlaps. -/
theorem cross_over {a b c d R S P Q : Rat} (hD : R - S = Q - P) (h : b * R - a * S = c * Q - d * P) (hp : (0 < P ∧ Q < 0) ∨ (P < 0 ∧ 0 < Q)) (hr : (0 < R ∧ S < 0) ∨ (R < 0 ∧ 0 < S)) : oq a b c d = true := by
  cases ho : oq a b c d with
  | true => rfl
  | false =>
    exfalso
    rcases hr with ⟨r1, r2⟩ | ⟨r1, r2⟩
    · have hq : P < 0 ∧ 0 < Q := by grind
      rcases oq_no ho with ⟨h1, h2, h3, h4⟩ | ⟨h1, h2, h3, h4⟩
      · exact avg_lt r1 r2 hq.2 hq.1 hD h h1 h2 h3 h4
      · exact avg_lt (a := d) (b := c) (c := b) (d := a) hq.2 hq.1 r1 r2 hD.symm h.symm h4 h2 h3 h1
    · have hq : 0 < P ∧ Q < 0 := by grind
      rcases oq_no ho with ⟨h1, h2, h3, h4⟩ | ⟨h1, h2, h3, h4⟩
      · exact avg_lt (R := -R) (S := -S) (P := -P) (Q := -Q) (by grind) (by grind) (by grind) (by grind) (by grind) (by grind) h1 h2 h3 h4
      · exact avg_lt (a := d) (b := c) (c := b) (d := a) (R := -Q) (S := -P) (P := -S) (Q := -R) (by grind) (by grind) (by grind) (by grind) (by grind) (by grind) h4 h2 h3 h1
/-- What lies on a segment has its ends on both sides of every line through it, or on that line. -/
theorem on_sides {ax ay ex ey cx cy dx dy : Rat} (h : onq cx cy dx dy ax ay = true) : crs ax ay ex ey cx cy * crs ax ay ex ey dx dy ≤ 0 := by
  obtain ⟨hx, hy, h0⟩ := (onq_iff _ _ _ _ _ _).1 h
  obtain ⟨u, hu⟩ : ∃ u, cx - ax = u := ⟨_, rfl⟩
  obtain ⟨v, hv⟩ : ∃ v, dx - ax = v := ⟨_, rfl⟩
  obtain ⟨s, hs⟩ : ∃ s, cy - ay = s := ⟨_, rfl⟩
  obtain ⟨t, ht⟩ : ∃ t, dy - ay = t := ⟨_, rfl⟩
  obtain ⟨p, hp⟩ : ∃ p, ex - ax = p := ⟨_, rfl⟩
  obtain ⟨q, hq⟩ : ∃ q, ey - ay = q := ⟨_, rfl⟩
  have X : 0 ≤ u * (-v) := by
    rcases hx with ⟨h1, h2⟩ | ⟨h1, h2⟩
    · have := Rat.mul_nonneg (a := -u) (b := v) (by grind) (by grind)
      grind
    · exact Rat.mul_nonneg (by grind) (by grind)
  have Y : 0 ≤ s * (-t) := by
    rcases hy with ⟨h1, h2⟩ | ⟨h1, h2⟩
    · have := Rat.mul_nonneg (a := -s) (b := t) (by grind) (by grind)
      grind
    · exact Rat.mul_nonneg (by grind) (by grind)
  have k : u * t = s * v := by unfold crs at h0; grind
  have e1 : crs ax ay ex ey cx cy = p * s - q * u := by unfold crs; grind
  have e2 : crs ax ay ex ey dx dy = p * t - q * v := by unfold crs; grind
  rw [e1, e2]
  clear e1 e2 h0 hx hy h hu hv hs ht hp hq
  by_cases hY : s * t = 0
  · have hk : (u * t) * (u * t) = 0 := by
      have : (u * t) * (s * v) = (s * t) * (u * v) := by grind
      rw [← k, hY] at this
      grind
    have hk0 : u * t = 0 := by rcases Rat.mul_eq_zero.1 hk with h | h <;> exact h
    have e : (p * s - q * u) * (p * t - q * v) = (q * q) * (u * v) := by
      have : (p * s - q * u) * (p * t - q * v) = p * p * (s * t) - p * q * (s * v) - p * q * (u * t) + q * q * (u * v) := by grind
      rw [this, hY, ← k, hk0]; grind
    have sq : 0 ≤ q * q := by
      rcases Rat.le_total (a := 0) (b := q) with h | h
      · exact Rat.mul_nonneg h h
      · have := Rat.mul_nonneg (a := -q) (b := -q) (by grind) (by grind)
        grind
    have := Rat.mul_nonneg sq X
    rw [e]; grind
  · have hY2 : 0 < -(s * t) := by grind
    obtain ⟨z, hz⟩ : ∃ z, p * (s * t) - q * (u * t) = z := ⟨_, rfl⟩
    have sq : 0 ≤ z * z := by
      rcases Rat.le_total (a := 0) (b := z) with h | h
      · exact Rat.mul_nonneg h h
      · have := Rat.mul_nonneg (a := -z) (b := -z) (by grind) (by grind)
        grind
    have e : (s * t) * ((p * s - q * u) * (p * t - q * v)) = z * z := by
      have k2 : (u * t) * (s * v) = (s * t) * (u * v) := by grind
      rw [← hz]
      have : (s * t) * ((p * s - q * u) * (p * t - q * v)) = (s * t) * (p * p * (s * t)) - (s * t) * (p * q * (s * v)) - (s * t) * (p * q * (u * t)) + q * q * ((s * t) * (u * v)) := by grind
      rw [this, ← k2, ← k]; grind
    rcases Rat.le_total (a := (p * s - q * u) * (p * t - q * v)) (b := 0) with h | h
    · exact h
    · by_cases h0 : (p * s - q * u) * (p * t - q * v) = 0
      · rw [h0]; exact Rat.le_refl
      · have : 0 < -(s * t) * ((p * s - q * u) * (p * t - q * v)) := Rat.mul_pos hY2 (by grind)
        grind
end Go.Proofs.YtoegjibeomhekaaGreat
