/- How two segments meet: what follows from turns, whichever is first, with a common end. -/
import Derived.Test.YtoegjibeomhekaaGreatLgm
namespace Go.Proofs.YtoegjibeomhekaaGreat
set_option linter.unusedSimpArgs false
set_option linter.unusedVariables false
open Go.RowKit
theorem lq_nil {ax ay ex ey cx cy dx dy : Rat} (h1 : onq ax ay ex ey cx cy = false) (h2 : onq ax ay ex ey dx dy = false) (h3 : onq cx cy dx dy ax ay = false) (h4 : onq cx cy dx dy ex ey = false) : lq ax ay ex ey cx cy dx dy = [] := by
  unfold lq ls fl
  rw [h1, h2, h3, h4]; rfl
theorem onq_off {ax ay ex ey x y : Rat} (h : sd ax ay ex ey x y ≠ 0) : onq ax ay ex ey x y = false := by
  unfold onq
  rw [decide_eq_false h, Bool.and_false]
theorem mq_two {ax ay ex ey cx cy dx dy : Rat} (h : sd ax ay ex ey cx cy * sd ax ay ex ey dx dy < 0) (h' : sd cx cy dx dy ax ay * sd cx cy dx dy ex ey < 0) : mq ax ay ex ey cx cy dx dy = 2 := by
  have hx := crs_x ax ay ex ey cx cy dx dy
  have hy := crs_y ax ay ex ey cx cy dx dy
  have hs := crs_sum ax ay ex ey cx cy dx dy
  have s1 := sd_neg ax ay ex ey cx cy
  have s2 := sd_neg ax ay ex ey dx dy
  have s3 := sd_neg cx cy dx dy ax ay
  have s4 := sd_neg cx cy dx dy ex ey
  have hp : (0 < crs ax ay ex ey cx cy ∧ crs ax ay ex ey dx dy < 0) ∨ (crs ax ay ex ey cx cy < 0 ∧ 0 < crs ax ay ex ey dx dy) := by
    rcases s1 with ⟨e, g⟩ | ⟨e, g⟩ | ⟨e, g⟩ <;> rcases s2 with ⟨e', g'⟩ | ⟨e', g'⟩ | ⟨e', g'⟩ <;> rw [e, e'] at h <;> first | exact .inl ⟨g, g'⟩ | exact .inr ⟨g, g'⟩ | (exfalso; revert h; decide)
  have hr : (0 < crs cx cy dx dy ax ay ∧ crs cx cy dx dy ex ey < 0) ∨ (crs cx cy dx dy ax ay < 0 ∧ 0 < crs cx cy dx dy ex ey) := by
    rcases s3 with ⟨e, g⟩ | ⟨e, g⟩ | ⟨e, g⟩ <;> rcases s4 with ⟨e', g'⟩ | ⟨e', g'⟩ | ⟨e', g'⟩ <;> rw [e, e'] at h' <;> first | exact .inl ⟨g, g'⟩ | exact .inr ⟨g, g'⟩ | (exfalso; revert h'; decide)
  have n1 : sd ax ay ex ey cx cy ≠ 0 := fun e => by rw [e, Int.zero_mul] at h; omega
  have n2 : sd ax ay ex ey dx dy ≠ 0 := fun e => by rw [e, Int.mul_zero] at h; omega
  have n3 : sd cx cy dx dy ax ay ≠ 0 := fun e => by rw [e, Int.zero_mul] at h'; omega
  have n4 : sd cx cy dx dy ex ey ≠ 0 := fun e => by rw [e, Int.mul_zero] at h'; omega
  unfold mq
  rw [if_pos (lq_nil (onq_off n1) (onq_off n2) (onq_off n3) (onq_off n4)), if_pos]
  unfold xq spq
  rw [decide_eq_true h, decide_eq_true h', cross_over hs hx hp hr, cross_over hs hy hp hr]; rfl
theorem same_pos {ax ay ex ey cx cy dx dy : Rat} (h : 0 < sd ax ay ex ey cx cy * sd ax ay ex ey dx dy) : 0 < crs ax ay ex ey cx cy * crs ax ay ex ey dx dy := by
  rcases sd_neg ax ay ex ey cx cy with ⟨e, g⟩ | ⟨e, g⟩ | ⟨e, g⟩ <;> rcases sd_neg ax ay ex ey dx dy with ⟨e', g'⟩ | ⟨e', g'⟩ | ⟨e', g'⟩ <;> rw [e, e'] at h
  all_goals first | (exfalso; revert h; decide) | skip
  · have := Rat.mul_pos (a := - crs ax ay ex ey cx cy) (b := - crs ax ay ex ey dx dy) (by grind) (by grind)
    grind
  · exact Rat.mul_pos g g'
theorem same_off {ax ay ex ey cx cy dx dy : Rat} (h : 0 < sd ax ay ex ey cx cy * sd ax ay ex ey dx dy) : onq ax ay ex ey cx cy = false ∧ onq ax ay ex ey dx dy = false ∧ onq cx cy dx dy ax ay = false ∧ onq cx cy dx dy ex ey = false := by
  have hp := same_pos h
  have n1 : sd ax ay ex ey cx cy ≠ 0 := fun e => by rw [e, Int.zero_mul] at h; omega
  have n2 : sd ax ay ex ey dx dy ≠ 0 := fun e => by rw [e, Int.mul_zero] at h; omega
  refine ⟨onq_off n1, onq_off n2, ?_, ?_⟩
  · cases hc : onq cx cy dx dy ax ay with
    | false => rfl
    | true => have := on_sides (ex := ex) (ey := ey) hc; grind
  · cases hc : onq cx cy dx dy ex ey with
    | false => rfl
    | true =>
      have := on_sides (ex := ax) (ey := ay) hc
      rw [crs_back ax ay ex ey, crs_back ax ay ex ey] at this
      grind
theorem mq_zero_a {ax ay ex ey cx cy dx dy : Rat} (h : 0 < sd ax ay ex ey cx cy * sd ax ay ex ey dx dy) : mq ax ay ex ey cx cy dx dy = 0 := by
  obtain ⟨h1, h2, h3, h4⟩ := same_off h
  unfold mq
  rw [if_pos (lq_nil h1 h2 h3 h4), if_neg]
  unfold xq spq
  rw [decide_eq_false (by omega), Bool.false_and, Bool.and_false]; decide
theorem mq_zero_b {ax ay ex ey cx cy dx dy : Rat} (h : 0 < sd cx cy dx dy ax ay * sd cx cy dx dy ex ey) : mq ax ay ex ey cx cy dx dy = 0 := by
  obtain ⟨h1, h2, h3, h4⟩ := same_off h
  unfold mq
  rw [if_pos (lq_nil h3 h4 h1 h2), if_neg]
  unfold xq
  have : spq cx cy dx dy ax ay ex ey = false := by unfold spq; exact decide_eq_false (by omega)
  rw [this, Bool.and_false, Bool.and_false]; decide
theorem mem_lq {ax ay ex ey cx cy dx dy : Rat} (q : Rat × Rat) : q ∈ lq ax ay ex ey cx cy dx dy ↔ (q = (cx, cy) ∧ onq ax ay ex ey cx cy = true) ∨ (q = (dx, dy) ∧ onq ax ay ex ey dx dy = true) ∨ (q = (ax, ay) ∧ onq cx cy dx dy ax ay = true) ∨ (q = (ex, ey) ∧ onq cx cy dx dy ex ey = true) := by
  have fm : ∀ (b : Bool) (p : Rat × Rat), q ∈ fl b p ↔ (q = p ∧ b = true) := fun b p => by
    unfold fl
    cases b <;> simp
  unfold lq ls
  simp only [List.mem_append, fm]
  grind
/-- By what is in the row alone. -/
theorem okq_iff {ax ay ex ey cx cy dx dy : Rat} : okq ax ay ex ey cx cy dx dy ↔ (∀ q ∈ lq ax ay ex ey cx cy dx dy, ∀ q' ∈ lq ax ay ex ey cx cy dx dy, q = q') ∧ ∀ q ∈ lq ax ay ex ey cx cy dx dy, enq ax ay ex ey q = true ∧ enq cx cy dx dy q = true := by
  unfold okq
  constructor
  · intro h
    exact ⟨fun q hq q' hq' => (h q hq).1.trans (h q' hq').1.symm, fun q hq => (h q hq).2⟩
  · rintro ⟨h1, h2⟩ q hq
    refine ⟨?_, h2 q hq⟩
    cases hl : lq ax ay ex ey cx cy dx dy with
    | nil => rw [hl] at hq; simp at hq
    | cons p l => exact h1 q hq p (by rw [hl]; simp)
theorem enq_sym (ax ay ex ey : Rat) (q : Rat × Rat) : enq ax ay ex ey q = enq ex ey ax ay q := by unfold enq; rw [Bool.or_comm]
theorem sd_back (ax ay ex ey x y : Rat) : sd ex ey ax ay x y = - sd ax ay ex ey x y := by
  rcases sd_neg ax ay ex ey x y with ⟨e, g⟩ | ⟨e, g⟩ | ⟨e, g⟩ <;> rcases sd_neg ex ey ax ay x y with ⟨e', g'⟩ | ⟨e', g'⟩ | ⟨e', g'⟩ <;> rw [crs_back ax ay ex ey] at g' <;> first | (rw [e, e'] <;> decide) | (exfalso; grind)
theorem xq_sym (ax ay ex ey cx cy dx dy : Rat) : xq ax ay ex ey cx cy dx dy = xq dx dy cx cy ax ay ex ey := by
  unfold xq spq
  rw [oq_sym ax ex cx dx, oq_sym ay ey cy dy, sd_back cx cy dx dy, sd_back cx cy dx dy, Int.neg_mul_neg, Int.mul_comm (sd ax ay ex ey cx cy), Bool.and_comm (decide _) (decide _)]
theorem mq_sym (ax ay ex ey cx cy dx dy : Rat) : mq ax ay ex ey cx cy dx dy = mq dx dy cx cy ax ay ex ey := by
  have hm : ∀ q, q ∈ lq ax ay ex ey cx cy dx dy ↔ q ∈ lq dx dy cx cy ax ay ex ey := fun q => by
    rw [mem_lq, mem_lq, onq_sym dx dy cx cy ax ay, onq_sym dx dy cx cy ex ey]
    grind
  have hn : lq ax ay ex ey cx cy dx dy = [] ↔ lq dx dy cx cy ax ay ex ey = [] := by
    rw [List.eq_nil_iff_forall_not_mem, List.eq_nil_iff_forall_not_mem]
    exact ⟨fun h q hq => h q ((hm q).2 hq), fun h q hq => h q ((hm q).1 hq)⟩
  have ho : okq ax ay ex ey cx cy dx dy ↔ okq dx dy cx cy ax ay ex ey := by
    rw [okq_iff, okq_iff]
    constructor
    · rintro ⟨h1, h2⟩
      exact ⟨fun q hq q' hq' => h1 q ((hm q).2 hq) q' ((hm q').2 hq'), fun q hq => ⟨by rw [enq_sym]; exact (h2 q ((hm q).2 hq)).2, (h2 q ((hm q).2 hq)).1⟩⟩
    · rintro ⟨h1, h2⟩
      exact ⟨fun q hq q' hq' => h1 q ((hm q).1 hq) q' ((hm q').1 hq'), fun q hq => ⟨(h2 q ((hm q).1 hq)).2, by rw [enq_sym]; exact (h2 q ((hm q).1 hq)).1⟩⟩
  unfold mq
  rw [xq_sym]
  simp only [hn, ho]
theorem mq_ne {ax ay ex ey cx cy dx dy : Rat} {q : Rat × Rat} (h : q ∈ lq ax ay ex ey cx cy dx dy) : lq ax ay ex ey cx cy dx dy ≠ [] := fun e => by rw [e] at h; simp at h
theorem mq_some {ax ay ex ey cx cy dx dy : Rat} {q : Rat × Rat} (h : q ∈ lq ax ay ex ey cx cy dx dy) : 0 < mq ax ay ex ey cx cy dx dy := by
  unfold mq
  rw [if_neg (mq_ne h)]
  split <;> decide
theorem mq_same (ax ay ex ey : Rat) : mq ax ay ex ey ax ay ex ey = if ax = ex ∧ ay = ey then 1 else 2 := by
  have ha := onq_a ax ay ex ey
  have hb := onq_b ax ay ex ey
  have m1 : (ax, ay) ∈ lq ax ay ex ey ax ay ex ey := (mem_lq _).2 (.inl ⟨rfl, ha⟩)
  have m2 : (ex, ey) ∈ lq ax ay ex ey ax ay ex ey := (mem_lq _).2 (.inr (.inl ⟨rfl, hb⟩))
  have hm : ∀ q ∈ lq ax ay ex ey ax ay ex ey, q = (ax, ay) ∨ q = (ex, ey) := fun q hq => by
    rcases (mem_lq q).1 hq with ⟨e, _⟩ | ⟨e, _⟩ | ⟨e, _⟩ | ⟨e, _⟩
    · exact .inl e
    · exact .inr e
    · exact .inl e
    · exact .inr e
  unfold mq
  rw [if_neg (mq_ne m1)]
  by_cases h : ax = ex ∧ ay = ey
  · rw [if_pos h, if_pos]
    obtain ⟨rfl, rfl⟩ := h
    rw [okq_iff]
    have hm' : ∀ q ∈ lq ax ay ax ay ax ay ax ay, q = (ax, ay) := fun q hq => by rcases hm q hq with e | e <;> exact e
    refine ⟨fun q hq q' hq' => (hm' q hq).trans (hm' q' hq').symm, fun q hq => ?_⟩
    rw [hm' q hq]
    unfold enq
    simp
  · rw [if_neg h, if_neg]
    rw [okq_iff]
    rintro ⟨h1, _⟩
    have := h1 _ m1 _ m2
    injection this with e1 e2
    exact h ⟨e1, e2⟩
end Go.Proofs.YtoegjibeomhekaaGreat
