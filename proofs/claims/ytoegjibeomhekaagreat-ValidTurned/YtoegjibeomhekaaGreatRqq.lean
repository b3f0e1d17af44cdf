/- Package ratio, told over the rational numbers. -/
import Derived.Test.YtoegjibeomhekaaGreatRle
import Derived.Test.YtoegjibeomhekaaGreatRof
import Derived.Test.YtoegjibeomhekaaGreatReq
namespace Go.Proofs.YtoegjibeomhekaaGreat
set_option linter.unusedSimpArgs false
set_option linter.unusedVariables false
/-- A fraction, as the rational number that it is. -/
def vq (q : Rat) : Value := vf q.num q.den
/-- Both its numbers have k bits at most. -/
def Bq (k : Nat) (q : Rat) : Prop := Sz k q.num ∧ Sz k q.den
theorem rt_q (q : Rat) : Rt q.num q.den := by
  refine ⟨?_, ?_⟩
  · have := q.den_nz; omega
  · have := q.reduced
    unfold Cop
    exact this
theorem q_rt {n d : Int} (h : Rt n d) : ∃ q : Rat, q.num = n ∧ (q.den : Int) = d := by
  have hd := h.1
  refine ⟨⟨n, d.natAbs, by omega, ?_⟩, rfl, by show ((d.natAbs : Nat) : Int) = d; omega⟩
  have := h.2
  unfold Cop at this
  exact this
theorem q_den (q : Rat) : (q.den : Int) ≠ 0 := by have := q.den_nz; omega
theorem q_pos (q : Rat) : 0 < (q.den : Int) := by have := q.den_nz; omega
theorem q_of {N D x y : Int} (h : Rt N D) (hy : y ≠ 0) (e : N * y = x * D) : N = (Rat.divInt x y).num ∧ D = (Rat.divInt x y).den := by
  obtain ⟨q, rfl, rfl⟩ := q_rt h
  have : q = Rat.divInt x y := by
    rw [← Rat.num_divInt_den q]
    exact (Rat.divInt_eq_divInt_iff (q_den q) hy).2 e
  rw [← this]; exact ⟨rfl, rfl⟩
theorem div_eq {x y : Int} (hy : y ≠ 0) : (Rat.divInt x y).num * y = x * (Rat.divInt x y).den :=
  (Rat.divInt_eq_divInt_iff (q_den _) hy).1 (Rat.num_divInt_den (Rat.divInt x y))
theorem bq_div {j k : Nat} {x y : Int} (hy : y ≠ 0) (hx : Sz j x) (h : Sz k y) (i : Nat) (hj : j ≤ i) (hk : k ≤ i) : Bq i (Rat.divInt x y) := by
  have hd := rt_dvd (rt_q (Rat.divInt x y)) (div_eq hy)
  refine ⟨?_, sz_mono (sz_dvd h hy hd.2) hk⟩
  by_cases h0 : x = 0
  · subst h0
    rw [Rat.zero_divInt]; exact Nat.two_pow_pos _
  · exact sz_mono (sz_dvd hx h0 hd.1) hj
theorem add_q (q r : Rat) : q + r = Rat.divInt (q.num * r.den + r.num * q.den) (q.den * r.den) := by
  rw [Rat.add_def', ← Rat.divInt_ofNat]; rfl
theorem sub_q (q r : Rat) : q - r = Rat.divInt (q.num * r.den - r.num * q.den) (q.den * r.den) := by
  rw [Rat.sub_def', ← Rat.divInt_ofNat]; rfl
theorem mul_q (q r : Rat) : q * r = Rat.divInt (q.num * r.num) (q.den * r.den) := by
  rw [Rat.mul_def', ← Rat.divInt_ofNat]; rfl
theorem dens {q r : Rat} : (q.den : Int) * r.den ≠ 0 := Int.mul_ne_zero (q_den q) (q_den r)
theorem bq_mono {j k : Nat} {q : Rat} (h : Bq j q) (hk : j ≤ k) : Bq k q := ⟨sz_mono h.1 hk, sz_mono h.2 hk⟩
theorem bq_add {j k : Nat} {q r : Rat} (h : Bq j q) (h' : Bq k r) : Bq (j + k + 1) (q + r) := by
  rw [add_q]
  have s := sz_mul h'.1 h.2
  rw [Nat.add_comm] at s
  exact bq_div dens (sz_add (sz_mul h.1 h'.2) s) (sz_mul h.2 h'.2) _ (by omega) (by omega)
theorem bq_sub {j k : Nat} {q r : Rat} (h : Bq j q) (h' : Bq k r) : Bq (j + k + 1) (q - r) := by
  rw [sub_q, Int.sub_eq_add_neg]
  have s := sz_neg (sz_mul h'.1 h.2)
  rw [Nat.add_comm] at s
  exact bq_div dens (sz_add (sz_mul h.1 h'.2) s) (sz_mul h.2 h'.2) _ (by omega) (by omega)
theorem bq_mul {j k : Nat} {q r : Rat} (h : Bq j q) (h' : Bq k r) : Bq (j + k) (q * r) := by
  rw [mul_q]
  exact bq_div dens (sz_mul h.1 h'.1) (sz_mul h.2 h'.2) _ (by omega) (by omega)
theorem Bq.sf {k : Nat} {q : Rat} (h : Bq k q) (hk : k ≤ 500) : Sf q.num q.den := ⟨rt_q q, sz_mono h.1 hk, sz_mono h.2 hk⟩
theorem Bq.fn {k : Nat} {q : Rat} (h : Bq k q) (hk : k ≤ 1024) : fits q.num := sz_fits h.1 hk
theorem Bq.fd {k : Nat} {q : Rat} (h : Bq k q) (hk : k ≤ 1024) : fits q.den := sz_fits h.2 hk
theorem Sub_q {j k : Nat} {q r : Rat} (h : Bq j q) (hj : j ≤ 500) (h' : Bq k r) (hk : k ≤ 500) : Tl 99 #[vq q, vq r] (.tuple #[vq (q - r), .bool true]) := by
  obtain ⟨N, D, h1, h2, _, _, h5⟩ := Sub_rany (h.sf hj) (h'.sf hk)
  obtain ⟨e1, e2⟩ := q_of h1 dens h2
  rw [← sub_q] at e1 e2
  subst e1; subst e2; exact h5
theorem Mul_q {j k : Nat} {q r : Rat} (h : Bq j q) (hj : j ≤ 500) (h' : Bq k r) (hk : k ≤ 500) : Tl 106 #[vq q, vq r] (.tuple #[vq (q * r), .bool true]) := by
  obtain ⟨N, D, h1, h2, _, _, h5⟩ := Mul_rany (h.sf hj) (h'.sf hk)
  obtain ⟨e1, e2⟩ := q_of h1 dens h2
  rw [← mul_q] at e1 e2
  subst e1; subst e2; exact h5
theorem num_ne {r : Rat} (h0 : r ≠ 0) : r.num ≠ 0 := fun h => h0 (Rat.num_eq_zero.1 h)
theorem div_q (q : Rat) {r : Rat} : q / r = Rat.divInt (q.num * r.den) (q.den * r.num) := by
  rw [Rat.div_def, Rat.inv_def]
  conv => lhs; rw [← Rat.num_divInt_den q]
  rw [Rat.divInt_mul_divInt]
theorem bq_quo {j k : Nat} {q r : Rat} (h : Bq j q) (h' : Bq k r) (h0 : r ≠ 0) : Bq (j + k) (q / r) := by
  rw [div_q]
  exact bq_div (Int.mul_ne_zero (q_den q) (num_ne h0)) (sz_mul h.1 h'.2) (sz_mul h.2 h'.1) _ (by omega) (by omega)
/-- -1, 0 or 1: the order of two. -/
def cq (q r : Rat) : Int := if q < r then -1 else if r < q then 1 else 0
theorem cm_q (q r : Rat) : cm (q.num * r.den) (r.num * q.den) = cq q r := by
  unfold cm cq
  simp only [Rat.lt_iff]
theorem Cmp_q {j k : Nat} {q r : Rat} (h : Bq j q) (hj : j ≤ 500) (h' : Bq k r) (hk : k ≤ 500) : Tl 58 #[vq q, vq r] (.tuple #[.int .i64 (cq q r), .bool true]) := by
  rw [← cm_q]; exact Cmp_rany (h.sf hj) (h'.sf hk)
theorem sn_q (q : Rat) : sn q.num = cq q 0 := by
  unfold sn cq
  have h1 : q < 0 ↔ q.num < 0 := by rw [Rat.lt_iff]; simp
  have h2 : 0 < q ↔ 0 < q.num := by rw [Rat.lt_iff]; simp
  simp only [h1, h2]
theorem Sign_q {k : Nat} {q : Rat} (h : Bq k q) (hk : k ≤ 1024) : Tl 89 #[vq q] (.int .i64 (cq q 0)) := by
  rw [← sn_q]; exact fun w => Sign_any _ (h.fn hk) w
theorem Is_q {k : Nat} {q : Rat} (h : Bq k q) (hk : k ≤ 1024) : Tl 55 #[vq q] (.bool true) := fun w => isr_yes (h.fn hk) (h.fd hk) (rt_q q) w
theorem Safe_q {k j : Nat} {q : Rat} (h : Bq k q) (hk : k ≤ 1024) (hj : k ≤ j) : Tl 43 #[vq q, .int .i64 (j : Int)] (.bool true) := fun w => safe_fr (rt_q q) hk h.1 h.2 hj w
theorem Of_q {n d : Int} (hn : -9223372036854775808 ≤ n ∧ n ≤ 9223372036854775807) (hd : -9223372036854775808 ≤ d ∧ d ≤ 9223372036854775807) (h0 : d ≠ 0) : Tl 42 #[.int .i64 n, .int .i64 d] (.tuple #[vq (Rat.divInt n d), .bool true]) := by
  obtain ⟨N, D, h1, h2, h5⟩ := Of_any hn hd h0
  obtain ⟨e1, e2⟩ := q_of h1 h0 h2
  subst e1; subst e2; exact h5
theorem New_q {n d : Int} (hn : Sz 1023 n) (hd : Sz 1023 d) (h0 : d ≠ 0) : Tl 52 #[vw n, vw d] (.tuple #[vq (Rat.divInt n d), .bool true]) := by
  obtain ⟨N, D, h1, h2, h5⟩ := New_any hn hd h0
  obtain ⟨e1, e2⟩ := q_of h1 h0 h2
  subst e1; subst e2; exact h5
theorem Whole_q {n : Int} (hn : -9223372036854775808 ≤ n ∧ n ≤ 9223372036854775807) : Tl 18 #[.int .i64 n] (vq (n : Rat)) := Whole_ref hn
/-- What may be, safe with so many bits, or isn't. -/
theorem safe_q (s : Bool) {N : Nat} (t : Bool) {M : Nat} (hN : N < bb ^ 32) (hM : M < bb ^ 32) (k : Nat) : Tl 43 #[.agg (rr s N t M).toArray, .int .i64 (k : Int)] (.bool false) ∨
    ∃ q : Rat, rr s N t M = fr q.num q.den ∧ Bq k q ∧ fits q.num ∧ fits q.den ∧ Tl 43 #[vq q, .int .i64 (k : Int)] (.bool true) := by
  rcases safe_cases s t hN hM k with h | ⟨n, d, e, hn, hd, hr, h1, h2, h⟩
  · exact .inl h
  · obtain ⟨q, rfl, rfl⟩ := q_rt hr
    rw [e] at h
    exact .inr ⟨q, e, ⟨h1, h2⟩, hn, hd, h⟩
theorem int_rt (n : Int) : (n : Rat).num = n ∧ ((n : Rat).den : Int) = 1 := ⟨rfl, rfl⟩
theorem bq_int {k : Nat} {n : Int} (h : Sz k n) (hk : 0 < k) : Bq k (n : Rat) := ⟨h, by
  show (1 : Int).natAbs < 2 ^ k
  have := Nat.pow_le_pow_right (n := 2) (by decide) hk
  omega⟩
theorem divInt_one (n : Int) : Rat.divInt n 1 = (n : Rat) := by
  rw [Rat.divInt_eq_div]
  show (n : Rat) / ((1 : Int) : Rat) = _
  rw [Rat.div_def]
  show (n : Rat) * (1 : Rat)⁻¹ = _
  grind
end Go.Proofs.YtoegjibeomhekaaGreat
