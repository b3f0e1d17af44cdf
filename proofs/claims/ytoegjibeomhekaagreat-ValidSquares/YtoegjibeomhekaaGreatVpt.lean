/- Joined of: Vpg Vpt. -/
import Derived.Test.YtoegjibeomhekaaGreatVkn
/- Two squares: whether their sides meet. Without walks. -/
namespace Go.Proofs.YtoegjibeomhekaaGreat
set_option linter.unusedSimpArgs false
set_option linter.unusedVariables false
open Go.RowKit
set_option maxRecDepth 100000
theorem ci_le {a b : Int} : (a : Rat) ≤ (b : Rat) ↔ a ≤ b := Rat.intCast_le_intCast
theorem hq_i (a b x : Int) : hq (a : Rat) (b : Rat) (x : Rat) = true ↔ (a ≤ x ∧ x ≤ b) ∨ (b ≤ x ∧ x ≤ a) := by
  rw [hq_iff]; simp only [ci_le]
theorem onq_i (f t v : I3) : onq (f.1 : Rat) (f.2.1 : Rat) (t.1 : Rat) (t.2.1 : Rat) (v.1 : Rat) (v.2.1 : Rat) = true ↔ ((f.1 ≤ v.1 ∧ v.1 ≤ t.1) ∨ (t.1 ≤ v.1 ∧ v.1 ≤ f.1)) ∧ ((f.2.1 ≤ v.2.1 ∧ v.2.1 ≤ t.2.1) ∨ (t.2.1 ≤ v.2.1 ∧ v.2.1 ≤ f.2.1)) ∧ tnI f t v = 0 := by
  rw [onq_iff, crs_int]
  simp only [ci_le]
  have : ((tnI f t v : Int) : Rat) = 0 ↔ tnI f t v = 0 := ⟨fun h => by have := Rat.intCast_inj.1 (h.trans Rat.intCast_zero.symm); exact this, fun h => by rw [h, Rat.intCast_zero]⟩
  rw [this]
/-- Numbers apart: each of both ahead of each of the others, or behind. -/
def ApI (a b c d : Int) : Prop := (a < c ∧ a < d ∧ b < c ∧ b < d) ∨ (c < a ∧ c < b ∧ d < a ∧ d < b)
def Dj (s t : Sd) : Prop := ApI s.2.1.1 s.2.2.1 t.2.1.1 t.2.2.1 ∨ ApI s.2.1.2.1 s.2.2.2.1 t.2.1.2.1 t.2.2.2.1
theorem hq_ap {a b c d : Int} (h : ApI a b c d) : hq (a : Rat) (b : Rat) (c : Rat) = false ∧ hq (a : Rat) (b : Rat) (d : Rat) = false ∧ hq (c : Rat) (d : Rat) (a : Rat) = false ∧ hq (c : Rat) (d : Rat) (b : Rat) = false := by
  unfold ApI at h
  refine ⟨?_, ?_, ?_, ?_⟩ <;> (rw [Bool.eq_false_iff]; intro h2; rw [hq_i] at h2; omega)
theorem mq_dj {s t : Sd} (h : Dj s t) : vMq s t = 0 := by
  have key : ∀ {ax ay ex ey cx cy dx dy : Rat}, (hq ax ex cx = false ∧ hq ax ex dx = false ∧ hq cx dx ax = false ∧ hq cx dx ex = false) ∨ (hq ay ey cy = false ∧ hq ay ey dy = false ∧ hq cy dy ay = false ∧ hq cy dy ey = false) → mq ax ay ex ey cx cy dx dy = 0 := by
    intro ax ay ex ey cx cy dx dy h
    have hl : lq ax ay ex ey cx cy dx dy = [] := by
      apply lq_nil <;> (unfold onq; rcases h with ⟨h1, h2, h3, h4⟩ | ⟨h1, h2, h3, h4⟩ <;> simp [h1, h2, h3, h4])
    unfold mq
    rw [if_pos hl, if_neg]
    unfold xq oq
    rcases h with ⟨h1, h2, h3, h4⟩ | ⟨h1, h2, h3, h4⟩ <;> simp [h1, h2, h3, h4]
  unfold vMq
  rcases h with h | h
  · exact key (.inl (hq_ap h))
  · exact key (.inr (hq_ap h))
theorem xng_dj {s t : Sd} (hj : vJoin s t = false) (h : Dj s t) : vXng s t = false := by
  unfold vXng vMay
  rw [mq_dj h, hj]; simp
/-- What has a point of the other at one end meets it. -/
theorem mq_on {s t : Sd} (h : onq (s.2.1.1 : Rat) (s.2.1.2.1 : Rat) (s.2.2.1 : Rat) (s.2.2.2.1 : Rat) (t.2.1.1 : Rat) (t.2.1.2.1 : Rat) = true ∨ onq (s.2.1.1 : Rat) (s.2.1.2.1 : Rat) (s.2.2.1 : Rat) (s.2.2.2.1 : Rat) (t.2.2.1 : Rat) (t.2.2.2.1 : Rat) = true ∨ onq (t.2.1.1 : Rat) (t.2.1.2.1 : Rat) (t.2.2.1 : Rat) (t.2.2.2.1 : Rat) (s.2.1.1 : Rat) (s.2.1.2.1 : Rat) = true ∨ onq (t.2.1.1 : Rat) (t.2.1.2.1 : Rat) (t.2.2.1 : Rat) (t.2.2.2.1 : Rat) (s.2.2.1 : Rat) (s.2.2.2.1 : Rat) = true) : vMq s t ≠ 0 := by
  unfold vMq
  have : 0 < mq (s.2.1.1 : Rat) (s.2.1.2.1 : Rat) (s.2.2.1 : Rat) (s.2.2.2.1 : Rat) (t.2.1.1 : Rat) (t.2.1.2.1 : Rat) (t.2.2.1 : Rat) (t.2.2.2.1 : Rat) := by
    rcases h with h | h | h | h
    · exact mq_some ((mem_lq _).2 (.inl ⟨rfl, h⟩))
    · exact mq_some ((mem_lq _).2 (.inr (.inl ⟨rfl, h⟩)))
    · exact mq_some ((mem_lq _).2 (.inr (.inr (.inl ⟨rfl, h⟩))))
    · exact mq_some ((mem_lq _).2 (.inr (.inr (.inr ⟨rfl, h⟩))))
  omega
def Bt (a b x : Int) : Prop := (a ≤ x ∧ x ≤ b) ∨ (b ≤ x ∧ x ≤ a)
theorem opp_mul {d v u : Int} (hd : d ≠ 0) (h : (v < 0 ∧ 0 < u) ∨ (0 < v ∧ u < 0)) : (0 < d * v ∧ d * u < 0) ∨ (d * v < 0 ∧ 0 < d * u) := by
  rcases Int.lt_or_gt_of_ne hd with hn | hp
  · rcases h with ⟨h1, h2⟩ | ⟨h1, h2⟩
    · exact .inl ⟨Int.mul_pos_of_neg_of_neg hn h1, Int.mul_neg_of_neg_of_pos hn h2⟩
    · exact .inr ⟨Int.mul_neg_of_neg_of_pos hn h1, Int.mul_pos_of_neg_of_neg hn h2⟩
  · rcases h with ⟨h1, h2⟩ | ⟨h1, h2⟩
    · exact .inr ⟨Int.mul_neg_of_pos_of_neg hp h1, Int.mul_pos hp h2⟩
    · exact .inl ⟨Int.mul_pos hp h1, Int.mul_neg_of_pos_of_neg hp h2⟩
theorem tn_lev {f t v : I3} (h : f.2.1 = t.2.1) : tnI f t v = (t.1 - f.1) * (v.2.1 - f.2.1) := by
  unfold tnI; rw [h]; simp
theorem tn_up {f t v : I3} (h : f.1 = t.1) : tnI f t v = (t.2.1 - f.2.1) * (f.1 - v.1) := by
  unfold tnI; rw [h, Int.sub_self, Int.zero_mul, Int.zero_sub, ← Int.mul_neg, Int.neg_sub]
/-- A level one and an upright one that reach each other meet. -/
theorem mq_hv {s t : Sd} (hs : s.2.1.2.1 = s.2.2.2.1) (ht : t.2.1.1 = t.2.2.1) (h1 : Bt s.2.1.1 s.2.2.1 t.2.1.1) (h2 : Bt t.2.1.2.1 t.2.2.2.1 s.2.1.2.1) : vMq s t ≠ 0 := by
  unfold Bt at h1 h2
  by_cases e1 : t.2.1.2.1 = s.2.1.2.1
  · exact mq_on (.inl ((onq_i _ _ _).2 ⟨by omega, by omega, by rw [tn_lev hs, e1, Int.sub_self, Int.mul_zero]⟩))
  by_cases e2 : t.2.2.2.1 = s.2.1.2.1
  · exact mq_on (.inr (.inl ((onq_i _ _ _).2 ⟨by omega, by omega, by rw [tn_lev hs, e2, Int.sub_self, Int.mul_zero]⟩)))
  by_cases e3 : s.2.1.1 = t.2.1.1
  · exact mq_on (.inr (.inr (.inl ((onq_i _ _ _).2 ⟨by omega, by omega, by rw [tn_up ht, e3, Int.sub_self, Int.mul_zero]⟩))))
  by_cases e4 : s.2.2.1 = t.2.1.1
  · exact mq_on (.inr (.inr (.inr ((onq_i _ _ _).2 ⟨by omega, by omega, by rw [tn_up ht, e4, Int.sub_self, Int.mul_zero]⟩))))
  have : vMq s t = 2 := by
    apply mq_opp
    · unfold Opp
      rw [tn_lev hs, tn_lev hs]
      exact opp_mul (by omega) (by omega)
    · unfold Opp
      rw [tn_up ht, tn_up ht]
      exact opp_mul (by omega) (by omega)
  omega
theorem mq_vh {s t : Sd} (hs : s.2.1.1 = s.2.2.1) (ht : t.2.1.2.1 = t.2.2.2.1) (h1 : Bt t.2.1.1 t.2.2.1 s.2.1.1) (h2 : Bt s.2.1.2.1 s.2.2.2.1 t.2.1.2.1) : vMq s t ≠ 0 := by
  have := mq_hv (s := (t.1, t.2.2, t.2.1)) (t := s) (by simp only; omega) hs (by unfold Bt at *; simp only; omega) (by unfold Bt at *; simp only; omega)
  have e : vMq (t.1, t.2.2, t.2.1) s = vMq s t := by
    unfold vMq
    rw [mq_sym (s.2.1.1 : Rat)]
  rwa [e] at this
/-- Unjoined ones cross just where they have something in common. -/
theorem lv_zero {s t : Sd} (hj : vJoin s t = false) (h : vLvs s t = true) : vMq s t = 0 := by
  unfold vLvs at h
  rw [hj] at h
  simp only [Bool.false_eq_true, if_false, Bool.or_eq_true, Bool.and_eq_true, decide_eq_true_eq] at h
  unfold vMq
  apply mq_zero_a
  rcases h with ⟨h1, h2⟩ | ⟨h1, h2⟩
  · rw [sd_i_pos h1, sd_i_pos h2]; decide
  · rw [sd_i_neg h1, sd_i_neg h2]; decide
theorem lv_zero' {s t : Sd} (hj : vJoin t s = false) (h : vLvs t s = true) : vMq s t = 0 := by
  unfold vLvs at h
  rw [hj] at h
  simp only [Bool.false_eq_true, if_false, Bool.or_eq_true, Bool.and_eq_true, decide_eq_true_eq] at h
  unfold vMq
  apply mq_zero_b
  rcases h with ⟨h1, h2⟩ | ⟨h1, h2⟩
  · rw [sd_i_pos h1, sd_i_pos h2]; decide
  · rw [sd_i_neg h1, sd_i_neg h2]; decide
theorem xng_mq {s t : Sd} (hj : vJoin s t = false) (hj' : vJoin t s = false) (h : vMq s t ≠ 0) : vXng s t = true := by
  have e1 : vLvs s t = false := by
    cases hh : vLvs s t
    · rfl
    · exact absurd (lv_zero hj hh) h
  have e2 : vLvs t s = false := by
    cases hh : vLvs t s
    · rfl
    · exact absurd (lv_zero' hj' hh) h
  unfold vXng vMay
  rw [e1, e2, hj]
  simp [h]
end Go.Proofs.YtoegjibeomhekaaGreat

/- Two squares: whether the drawing may be. Without walks. -/
namespace Go.Proofs.YtoegjibeomhekaaGreat
set_option linter.unusedSimpArgs false
set_option linter.unusedVariables false
open Go.RowKit
set_option maxRecDepth 100000
/-- The ends of a second square's sides. -/
def up4 (p : I3) : I3 := (p.1 + 4, p.2.1 + 4, 0)
def v2q (a b c p q r : Int) : List I3 := sqV a b c ++ sqV p q r
def s2q : List I3 := sqS ++ sqS.map up4
theorem any8 {α : Type} (X : α → α → Bool) (d a b c e f g h i : α) : (List.range 8).any (earlier X d [a, b, c, e, f, g, h, i]) = ([a].any (X b) || ([a, b].any (X c) || ([a, b, c].any (X e) || ([a, b, c, e].any (X f) || ([a, b, c, e, f].any (X g) || ([a, b, c, e, f, g].any (X h) || [a, b, c, e, f, g, h].any (X i))))))) := by
  show (([] : List α).any (X a) || ([a].any (X b) || ([a, b].any (X c) || ([a, b, c].any (X e) || ([a, b, c, e].any (X f) || ([a, b, c, e, f].any (X g) || ([a, b, c, e, f, g].any (X h) || ([a, b, c, e, f, g, h].any (X i) || false)))))))) = _
  simp only [List.any_nil, Bool.false_or, Bool.or_false]
def sA (k : Int) (m1 m2 m3 m4 x y n : Int) : List Sd := [((k, k + 1, m1), (x, y, 0), (x + n, y, 0)), ((k + 1, k + 2, m2), (x + n, y, 0), (x + n, y + n, 0)), ((k + 2, k + 3, m3), (x + n, y + n, 0), (x, y + n, 0)), ((k + 3, k, m4), (x, y + n, 0), (x, y, 0))]
def Apart (a b c p q r : Int) : Prop := a + c < p ∨ p + r < a ∨ b + c < q ∨ q + r < b
def Inside (a b c p q r : Int) : Prop := (a < p ∧ b < q ∧ p + r < a + c ∧ q + r < b + c) ∨ (p < a ∧ q < b ∧ a + c < p + r ∧ b + c < q + r)
theorem sides8 (a b c p q r : Int) : s2q.map (sdOf (v2q a b c p q r)) = [((0, 1, 1), (a, b, 0), (a + c, b, 0)), ((1, 2, 2), (a + c, b, 0), (a + c, b + c, 0)), ((2, 3, 3), (a + c, b + c, 0), (a, b + c, 0)), ((3, 0, 4), (a, b + c, 0), (a, b, 0)), ((4, 5, 0), (p, q, 0), (p + r, q, 0)), ((5, 6, 0), (p + r, q, 0), (p + r, q + r, 0)), ((6, 7, 0), (p + r, q + r, 0), (p, q + r, 0)), ((7, 4, 0), (p, q + r, 0), (p, q, 0))] := rfl
set_option maxHeartbeats 4000000 in
theorem two_no {a b c p q r : Int} (hc : 1 ≤ c) (hr : 1 ≤ r) (h : Apart a b c p q r ∨ Inside a b c p q r) : vCrs (v2q a b c p q r) s2q = false := by
  have hp := nn_pos hc
  have hq := nn_pos hr
  show (List.range 8).any (earlier vXng sd0 (s2q.map (sdOf (v2q a b c p q r)))) = false
  rw [sides8, any8]
  simp only [List.any_cons, List.any_nil, Bool.or_false]
  rw [xng_lv (s := ((1, 2, 2), (a + c, b, 0), (a + c, b + c, 0))) (lvs_join (by rfl) (by unfold tnI; simp only; grind)),
    xng_lv (s := ((2, 3, 3), (a + c, b + c, 0), (a, b + c, 0))) (t := ((0, 1, 1), (a, b, 0), (a + c, b, 0))) (lvs_pos (by rfl) (by unfold tnI; simp only; grind) (by unfold tnI; simp only; grind)),
    xng_lv (s := ((2, 3, 3), (a + c, b + c, 0), (a, b + c, 0))) (t := ((1, 2, 2), (a + c, b, 0), (a + c, b + c, 0))) (lvs_join (by rfl) (by unfold tnI; simp only; grind)),
    xng_lv (s := ((3, 0, 4), (a, b + c, 0), (a, b, 0))) (t := ((0, 1, 1), (a, b, 0), (a + c, b, 0))) (lvs_join (by rfl) (by unfold tnI; simp only; grind)),
    xng_lv (s := ((3, 0, 4), (a, b + c, 0), (a, b, 0))) (t := ((1, 2, 2), (a + c, b, 0), (a + c, b + c, 0))) (lvs_pos (by rfl) (by unfold tnI; simp only; grind) (by unfold tnI; simp only; grind)),
    xng_lv (s := ((3, 0, 4), (a, b + c, 0), (a, b, 0))) (t := ((2, 3, 3), (a + c, b + c, 0), (a, b + c, 0))) (lvs_join (by rfl) (by unfold tnI; simp only; grind)),
    xng_lv (s := ((5, 6, 0), (p + r, q, 0), (p + r, q + r, 0))) (t := ((4, 5, 0), (p, q, 0), (p + r, q, 0))) (lvs_join (by rfl) (by unfold tnI; simp only; grind)),
    xng_lv (s := ((6, 7, 0), (p + r, q + r, 0), (p, q + r, 0))) (t := ((4, 5, 0), (p, q, 0), (p + r, q, 0))) (lvs_pos (by rfl) (by unfold tnI; simp only; grind) (by unfold tnI; simp only; grind)),
    xng_lv (s := ((6, 7, 0), (p + r, q + r, 0), (p, q + r, 0))) (t := ((5, 6, 0), (p + r, q, 0), (p + r, q + r, 0))) (lvs_join (by rfl) (by unfold tnI; simp only; grind)),
    xng_lv (s := ((7, 4, 0), (p, q + r, 0), (p, q, 0))) (t := ((4, 5, 0), (p, q, 0), (p + r, q, 0))) (lvs_join (by rfl) (by unfold tnI; simp only; grind)),
    xng_lv (s := ((7, 4, 0), (p, q + r, 0), (p, q, 0))) (t := ((5, 6, 0), (p + r, q, 0), (p + r, q + r, 0))) (lvs_pos (by rfl) (by unfold tnI; simp only; grind) (by unfold tnI; simp only; grind)),
    xng_lv (s := ((7, 4, 0), (p, q + r, 0), (p, q, 0))) (t := ((6, 7, 0), (p + r, q + r, 0), (p, q + r, 0))) (lvs_join (by rfl) (by unfold tnI; simp only; grind))]
  simp only [Bool.false_or, Bool.or_eq_false_iff]
  unfold Apart Inside at h
  repeat' apply And.intro
  all_goals first | rfl | (refine xng_dj (by rfl) ?_; unfold Dj ApI; simp only; omega) | trivial
set_option maxHeartbeats 4000000 in
theorem two_twin_no {a b c p q r : Int} (hc : 1 ≤ c) (hr : 1 ≤ r) (h : Apart a b c p q r ∨ Inside a b c p q r) : vTwin (v2q a b c p q r) = false := by
  show (List.range 8).any (earlier vSame i30 [(a, b, 0), (a + c, b, 0), (a + c, b + c, 0), (a, b + c, 0), (p, q, 0), (p + r, q, 0), (p + r, q + r, 0), (p, q + r, 0)]) = false
  rw [any8]
  unfold Apart Inside at h
  simp only [List.any_cons, List.any_nil, Bool.or_false, vSame, Bool.or_eq_false_iff, Bool.and_eq_false_iff, decide_eq_false_iff_not]
  omega
set_option maxHeartbeats 4000000 in
theorem two_yes {a b c p q r : Int} (hc : 1 ≤ c) (hr : 1 ≤ r) (h : ¬ (Apart a b c p q r ∨ Inside a b c p q r)) : vCrs (v2q a b c p q r) s2q = true := by
  show (List.range 8).any (earlier vXng sd0 (s2q.map (sdOf (v2q a b c p q r)))) = true
  rw [sides8, any8]
  unfold Apart Inside at h
  have key : (∃ s ∈ ([((0, 1, 1), (a, b, 0), (a + c, b, 0)), ((2, 3, 3), (a + c, b + c, 0), (a, b + c, 0))] : List Sd), ∃ t ∈ ([((5, 6, 0), (p + r, q, 0), (p + r, q + r, 0)), ((7, 4, 0), (p, q + r, 0), (p, q, 0))] : List Sd), vXng t s = true) ∨ (∃ s ∈ ([((1, 2, 2), (a + c, b, 0), (a + c, b + c, 0)), ((3, 0, 4), (a, b + c, 0), (a, b, 0))] : List Sd), ∃ t ∈ ([((4, 5, 0), (p, q, 0), (p + r, q, 0)), ((6, 7, 0), (p + r, q + r, 0), (p, q + r, 0))] : List Sd), vXng t s = true) := by
    have hv : ∀ (k l : Int) (m m' : Int × Int), True := fun _ _ _ _ => trivial
    by_cases c1 : (a ≤ p ∧ p ≤ a + c) ∧ (q ≤ b ∧ b ≤ q + r)
    · exact .inl ⟨_, List.mem_cons_self .., _, List.mem_cons_of_mem _ (List.mem_cons_self ..), xng_mq (by rfl) (by rfl) (mq_vh rfl rfl (by unfold Bt; simp only; omega) (by unfold Bt; simp only; omega))⟩
    by_cases c2 : (a ≤ p ∧ p ≤ a + c) ∧ (q ≤ b + c ∧ b + c ≤ q + r)
    · exact .inl ⟨_, List.mem_cons_of_mem _ (List.mem_cons_self ..), _, List.mem_cons_of_mem _ (List.mem_cons_self ..), xng_mq (by rfl) (by rfl) (mq_vh rfl rfl (by unfold Bt; simp only; omega) (by unfold Bt; simp only; omega))⟩
    by_cases c3 : (a ≤ p + r ∧ p + r ≤ a + c) ∧ (q ≤ b ∧ b ≤ q + r)
    · exact .inl ⟨_, List.mem_cons_self .., _, List.mem_cons_self .., xng_mq (by rfl) (by rfl) (mq_vh rfl rfl (by unfold Bt; simp only; omega) (by unfold Bt; simp only; omega))⟩
    by_cases c4 : (a ≤ p + r ∧ p + r ≤ a + c) ∧ (q ≤ b + c ∧ b + c ≤ q + r)
    · exact .inl ⟨_, List.mem_cons_of_mem _ (List.mem_cons_self ..), _, List.mem_cons_self .., xng_mq (by rfl) (by rfl) (mq_vh rfl rfl (by unfold Bt; simp only; omega) (by unfold Bt; simp only; omega))⟩
    by_cases c5 : (b ≤ q ∧ q ≤ b + c) ∧ (p ≤ a ∧ a ≤ p + r)
    · exact .inr ⟨_, List.mem_cons_of_mem _ (List.mem_cons_self ..), _, List.mem_cons_self .., xng_mq (by rfl) (by rfl) (mq_hv rfl rfl (by unfold Bt; simp only; omega) (by unfold Bt; simp only; omega))⟩
    by_cases c6 : (b ≤ q ∧ q ≤ b + c) ∧ (p ≤ a + c ∧ a + c ≤ p + r)
    · exact .inr ⟨_, List.mem_cons_self .., _, List.mem_cons_self .., xng_mq (by rfl) (by rfl) (mq_hv rfl rfl (by unfold Bt; simp only; omega) (by unfold Bt; simp only; omega))⟩
    by_cases c7 : (b ≤ q + r ∧ q + r ≤ b + c) ∧ (p ≤ a ∧ a ≤ p + r)
    · exact .inr ⟨_, List.mem_cons_of_mem _ (List.mem_cons_self ..), _, List.mem_cons_of_mem _ (List.mem_cons_self ..), xng_mq (by rfl) (by rfl) (mq_hv rfl rfl (by unfold Bt; simp only; omega) (by unfold Bt; simp only; omega))⟩
    by_cases c8 : (b ≤ q + r ∧ q + r ≤ b + c) ∧ (p ≤ a + c ∧ a + c ≤ p + r)
    · exact .inr ⟨_, List.mem_cons_self .., _, List.mem_cons_of_mem _ (List.mem_cons_self ..), xng_mq (by rfl) (by rfl) (mq_hv rfl rfl (by unfold Bt; simp only; omega) (by unfold Bt; simp only; omega))⟩
    exfalso
    omega
  rcases key with ⟨s, hs, t, ht, h⟩ | ⟨s, hs, t, ht, h⟩ <;>
    (simp only [List.mem_cons, List.not_mem_nil, or_false] at hs ht
     rcases hs with rfl | rfl <;> rcases ht with rfl | rfl <;> simp [h])
theorem two_chk {a b c p q r : Int} (ha : 0 ≤ a ∧ a ≤ 29) (hb : 0 ≤ b ∧ b ≤ 29) (hc : 1 ≤ c ∧ c ≤ 30) (hp : 0 ≤ p ∧ p ≤ 29) (hq : 0 ≤ q ∧ q ≤ 29) (hr : 1 ≤ r ∧ r ≤ 30) :
    (Apart a b c p q r ∨ Inside a b c p q r → chk (v2q a b c p q r) s2q [] = 0) ∧ (¬ (Apart a b c p q r ∨ Inside a b c p q r) → chk (v2q a b c p q r) s2q [] = 14 ∨ chk (v2q a b c p q r) s2q [] = 16) := by
  have hf : vForm (v2q a b c p q r) s2q [] = true := by kernel_rfl
  have hbd : vBnd (v2q a b c p q r) = true := by
    unfold v2q sqV vBnd
    simp only [List.cons_append, List.nil_append, List.all_cons, List.all_nil, vIn, vin]
    simp; omega
  have hl : vLoop (v2q a b c p q r) s2q = true := by kernel_rfl
  constructor
  · intro h
    exact chk_0 hf hbd (two_twin_no hc.1 hr.1 h) hl (two_no hc.1 hr.1 h) (by unfold vFree; simp)
  · intro h
    cases ht : vTwin (v2q a b c p q r)
    · exact .inr (chk_16 hf hbd ht hl (two_yes hc.1 hr.1 h))
    · exact .inl (chk_14 hf hbd ht)
end Go.Proofs.YtoegjibeomhekaaGreat
