/- Points of one line: what lies between what; parts of a segment. -/
import Derived.Test.YtnaljheelmmcdaaGreatLgq
namespace Go.Proofs.YtnaljheelmmcdaaGreat
set_option linter.unusedSimpArgs false
set_option linter.unusedVariables false
open Go.RowKit
theorem bet_iff (a b x : Rat) : ((a ≤ x ∧ x ≤ b) ∨ (b ≤ x ∧ x ≤ a)) ↔ 0 ≤ (x - a) * (b - x) := by
  constructor
  · rintro (⟨h1, h2⟩ | ⟨h1, h2⟩)
    · exact Rat.mul_nonneg (by grind) (by grind)
    · have := Rat.mul_nonneg (a := a - x) (b := x - b) (by grind) (by grind)
      grind
  · intro h
    by_cases h1 : x < a
    · by_cases h2 : x < b
      · exfalso
        have := Rat.mul_pos (a := a - x) (b := b - x) (by grind) (by grind)
        grind
      · exact .inr ⟨by grind, by grind⟩
    · by_cases h2 : b < x
      · by_cases h3 : a < x
        · exfalso
          have := Rat.mul_pos (a := x - a) (b := x - b) (by grind) (by grind)
          grind
        · exact .inr ⟨by grind, by grind⟩
      · exact .inl ⟨by grind, by grind⟩
theorem sq_pos' {d : Rat} (h : d ≠ 0) : 0 < d * d := by
  rcases Rat.le_total (a := 0) (b := d) with h1 | h1
  · exact Rat.mul_pos (by grind) (by grind)
  · have := Rat.mul_pos (a := -d) (b := -d) (by grind) (by grind)
    grind
theorem bet_line (a d s t r : Rat) : (0 ≤ (r - s) * (t - r) → 0 ≤ ((a + r * d) - (a + s * d)) * ((a + t * d) - (a + r * d))) ∧ (d ≠ 0 → 0 ≤ ((a + r * d) - (a + s * d)) * ((a + t * d) - (a + r * d)) → 0 ≤ (r - s) * (t - r)) := by
  have e : ((a + r * d) - (a + s * d)) * ((a + t * d) - (a + r * d)) = ((r - s) * (t - r)) * (d * d) := by grind
  rw [e]
  obtain ⟨z, hz⟩ : ∃ z, (r - s) * (t - r) = z := ⟨_, rfl⟩
  rw [hz]
  constructor
  · intro h
    by_cases hd : d = 0
    · rw [hd]; grind
    · exact Rat.mul_nonneg h (by have := sq_pos' hd; grind)
  · intro hd h
    by_cases h0 : z < 0
    · exfalso
      have := Rat.mul_pos (a := -z) (b := d * d) (by grind) (sq_pos' hd)
      grind
    · grind
theorem onq_line (ax ay dx dy s t r : Rat) (hd : dx ≠ 0 ∨ dy ≠ 0) : onq (ax + s * dx) (ay + s * dy) (ax + t * dx) (ay + t * dy) (ax + r * dx) (ay + r * dy) = true ↔ 0 ≤ (r - s) * (t - r) := by
  rw [onq_iff, bet_iff, bet_iff]
  constructor
  · rintro ⟨h1, h2, _⟩
    rcases hd with hd | hd
    · exact (bet_line ax dx s t r).2 hd h1
    · exact (bet_line ay dy s t r).2 hd h2
  · intro h
    exact ⟨(bet_line ax dx s t r).1 h, (bet_line ay dy s t r).1 h, by unfold crs; grind⟩
theorem onq_int (a b X Y s t r : Int) (hd : X ≠ 0 ∨ Y ≠ 0) : onq ((a + s * X : Int) : Rat) ((b + s * Y : Int) : Rat) ((a + t * X : Int) : Rat) ((b + t * Y : Int) : Rat) ((a + r * X : Int) : Rat) ((b + r * Y : Int) : Rat) = decide (0 ≤ (r - s) * (t - r)) := by
  rw [Bool.eq_iff_iff, decide_eq_true_eq]
  simp only [Rat.intCast_add, Rat.intCast_mul]
  have h0 : ∀ z : Int, z ≠ 0 → (z : Rat) ≠ 0 := fun z hz h => hz (by have := Rat.intCast_inj.1 (h.trans Rat.intCast_zero.symm); exact this)
  rw [onq_line (a : Rat) (b : Rat) (X : Rat) (Y : Rat) (s : Rat) (t : Rat) (r : Rat) (hd.imp (h0 X) (h0 Y)), ← Rat.intCast_sub, ← Rat.intCast_sub, ← Rat.intCast_mul]
  have := Rat.intCast_le_intCast (a := 0) (b := (r - s) * (t - r))
  rwa [Rat.intCast_zero] at this
theorem mq_one {ax ay cx cy ex ey : Rat} (h1 : onq ax ay cx cy ex ey = false) (h2 : onq cx cy ex ey ax ay = false) : mq ax ay cx cy cx cy ex ey = 1 := by
  have m1 : (cx, cy) ∈ lq ax ay cx cy cx cy ex ey := (mem_lq _).2 (.inl ⟨rfl, onq_b _ _ _ _⟩)
  have hm : ∀ q ∈ lq ax ay cx cy cx cy ex ey, q = (cx, cy) := fun q hq => by
    rcases (mem_lq q).1 hq with ⟨e, _⟩ | ⟨_, e⟩ | ⟨_, e⟩ | ⟨e, _⟩
    · exact e
    · rw [h1] at e; cases e
    · rw [h2] at e; cases e
    · exact e
  unfold mq
  rw [if_neg (mq_ne m1), if_pos]
  rw [okq_iff]
  refine ⟨fun q hq q' hq' => (hm q hq).trans (hm q' hq').symm, fun q hq => ?_⟩
  rw [hm q hq]
  unfold enq
  simp
theorem mq_part {ax ay ex ey cx cy : Rat} (h1 : onq ax ay ex ey cx cy = true) (h2 : ¬ (cx = ex ∧ cy = ey)) : mq ax ay ex ey cx cy ex ey = 2 := by
  have m1 : (cx, cy) ∈ lq ax ay ex ey cx cy ex ey := (mem_lq _).2 (.inl ⟨rfl, h1⟩)
  have m2 : (ex, ey) ∈ lq ax ay ex ey cx cy ex ey := (mem_lq _).2 (.inr (.inl ⟨rfl, onq_b _ _ _ _⟩))
  unfold mq
  rw [if_neg (mq_ne m1), if_neg]
  rw [okq_iff]
  rintro ⟨h, _⟩
  have := h _ m1 _ m2
  injection this with e1 e2
  exact h2 ⟨e1, e2⟩
end Go.Proofs.YtnaljheelmmcdaaGreat
