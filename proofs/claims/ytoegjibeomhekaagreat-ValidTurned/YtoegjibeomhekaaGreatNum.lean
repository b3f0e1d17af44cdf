/- Joined of: Num Dec Knu Frm. -/
/- Plain arithmetic: a number below 2^1024 in 32 words of 32 bits. -/
namespace Go.Proofs.YtoegjibeomhekaaGreat

/-- What a word has above it: 2 to the power of 32. -/
def bb : Nat := 4294967296
theorem bb_pos : 0 < bb := by decide
theorem bb_eq : bb = 4294967296 := rfl
theorem bp_pos (n : Nat) : 0 < bb ^ n := Nat.pow_pos bb_pos
theorem bp_succ (n : Nat) : bb ^ (n + 1) = bb ^ n * bb := Nat.pow_succ ..
/-- 2 to the power of 1024. -/
def lim : Nat := bb ^ 32
/-- Word i of N. -/
def dig (N i : Nat) : Nat := N / bb ^ i % bb
theorem dig_lt (N i : Nat) : dig N i < bb := Nat.mod_lt _ bb_pos
theorem dig_le (N i : Nat) : dig N i ≤ 4294967295 := by have := dig_lt N i; rw [bb_eq] at this; omega
/-- N's lowest i words and its word i are its lowest i + 1 words. -/
theorem mod_succ (N i : Nat) : N % bb ^ (i + 1) = N % bb ^ i + bb ^ i * dig N i := by
  unfold dig; rw [bp_succ, Nat.mod_mul]
theorem dig_of_lt {N i : Nat} (h : N < bb ^ i) : dig N i = 0 := by
  unfold dig; rw [Nat.div_eq_of_lt h]; rfl
theorem lt_of_dig {N i : Nat} (h : N < bb ^ (i + 1)) (h0 : dig N i = 0) : N < bb ^ i := by
  have := mod_succ N i
  rw [Nat.mod_eq_of_lt h, h0, Nat.mul_zero, Nat.add_zero] at this
  rw [this]; exact Nat.mod_lt _ (bp_pos i)
theorem le_of_dig {N i : Nat} (h0 : dig N i ≠ 0) : bb ^ i ≤ N := by
  rcases Nat.lt_or_ge N (bb ^ i) with h | h
  · exact absurd (dig_of_lt h) h0
  · exact h
/-- How many words N has. -/
def nw (N : Nat) : Nat := if N = 0 then 0 else N.log2 / 32 + 1
theorem bp_two (n : Nat) : bb ^ n = 2 ^ (32 * n) := by rw [bb_eq, Nat.pow_mul]
theorem nw_lt (N : Nat) : N < bb ^ nw N := by
  unfold nw
  split
  · rename_i h; rw [h]; exact bp_pos _
  · rename_i h
    rw [bp_two]
    have h1 : N < 2 ^ (N.log2 + 1) := Nat.lt_log2_self
    exact Nat.lt_of_lt_of_le h1 (Nat.pow_le_pow_right (by decide) (by omega))
theorem nw_le (N : Nat) (h : N ≠ 0) : bb ^ (nw N - 1) ≤ N := by
  unfold nw
  rw [if_neg h, bp_two]
  exact Nat.le_trans (Nat.pow_le_pow_right (by decide) (by omega)) (Nat.log2_self_le h)
theorem bp_mono {a b : Nat} (h : a ≤ b) : bb ^ a ≤ bb ^ b := Nat.pow_le_pow_right bb_pos h
theorem bp_lt {a b : Nat} (h : bb ^ a < bb ^ b) : a < b := by
  rcases Nat.lt_or_ge a b with h1 | h1
  · exact h1
  · have := bp_mono h1; omega
theorem nw_of {N n : Nat} (h : N < bb ^ n) (h1 : 0 < n → bb ^ (n - 1) ≤ N) : nw N = n := by
  by_cases h0 : N = 0
  · have : n = 0 := by
      rcases Nat.eq_zero_or_pos n with h2 | h2
      · exact h2
      · have := h1 h2; have := bp_pos (n - 1); omega
    rw [this, h0]; rfl
  · have a := nw_lt N
    have b := nw_le N h0
    have hn : 0 < n := by
      rcases Nat.eq_zero_or_pos n with h2 | h2
      · rw [h2] at h; simp at h; omega
      · exact h2
    have hp : 0 < nw N := by unfold nw; rw [if_neg h0]; omega
    have c := bp_lt (Nat.lt_of_le_of_lt b h)
    have d := bp_lt (Nat.lt_of_le_of_lt (h1 hn) a)
    omega
theorem nw_le_of {N n : Nat} (h : N < bb ^ n) : nw N ≤ n := by
  by_cases h0 : N = 0
  · rw [h0]; exact Nat.zero_le _
  · have b := nw_le N h0
    have c := bp_lt (Nat.lt_of_le_of_lt b h)
    omega
theorem nw_zero {N : Nat} : nw N = 0 ↔ N = 0 := by
  unfold nw; split <;> simp_all
/-- Word k of a number that has none from k on is set. -/
theorem dig_add_same {X k v : Nat} (hX : X < bb ^ k) (hv : v < bb) : dig (X + bb ^ k * v) k = v := by
  unfold dig
  rw [Nat.add_mul_div_left _ _ (bp_pos k), Nat.div_eq_of_lt hX, Nat.zero_add, Nat.mod_eq_of_lt hv]
theorem dig_add_low {X k v i : Nat} (hi : i < k) : dig (X + bb ^ k * v) i = dig X i := by
  unfold dig
  obtain ⟨j, rfl⟩ : ∃ j, k = i + (j + 1) := ⟨k - i - 1, by omega⟩
  rw [Nat.pow_add, Nat.mul_assoc, Nat.add_mul_div_left _ _ (bp_pos i), bp_succ, Nat.mul_comm (bb ^ j) bb, Nat.mul_assoc, Nat.add_mul_mod_self_left]
theorem dig_add_high {X k v i : Nat} (hX : X < bb ^ k) (hv : v < bb) (hi : k < i) : dig (X + bb ^ k * v) i = 0 := by
  refine dig_of_lt (Nat.lt_of_lt_of_le ?_ (bp_mono hi))
  rw [bp_succ]
  calc X + bb ^ k * v < bb ^ k + bb ^ k * v := by omega
    _ = bb ^ k * (v + 1) := by rw [Nat.mul_add, Nat.mul_one, Nat.add_comm]
    _ ≤ bb ^ k * bb := Nat.mul_le_mul_left _ hv
theorem split_mod {r p s B : Nat} (hr : r < p) : (r + p * s) % (p * B) = r + p * (s % B) := by
  rw [Nat.mod_mul, Nat.add_mul_mod_self_left, Nat.mod_eq_of_lt hr, Nat.add_mul_div_left _ _ (by omega), Nat.div_eq_of_lt hr, Nat.zero_add]
theorem split_div {r p s B : Nat} (hr : r < p) : (r + p * s) / (p * B) = s / B := by
  rw [← Nat.div_div_eq_div_mul, Nat.add_mul_div_left _ _ (by omega), Nat.div_eq_of_lt hr, Nat.zero_add]
/-- The lowest k words' sum, and what it carries. -/
def sm (N M k : Nat) : Nat := (N % bb ^ k + M % bb ^ k) % bb ^ k
def cy (N M k : Nat) : Nat := (N % bb ^ k + M % bb ^ k) / bb ^ k
theorem sm_lt (N M k : Nat) : sm N M k < bb ^ k := Nat.mod_lt _ (bp_pos k)
theorem cy_le (N M k : Nat) : cy N M k ≤ 1 := by
  unfold cy
  have h1 := Nat.mod_lt N (bp_pos k); have h2 := Nat.mod_lt M (bp_pos k)
  have : (N % bb ^ k + M % bb ^ k) / bb ^ k < 2 := Nat.div_lt_of_lt_mul (by omega)
  omega
theorem sum_split (N M k : Nat) : N % bb ^ (k + 1) + M % bb ^ (k + 1) = sm N M k + bb ^ k * (dig N k + dig M k + cy N M k) := by
  have h := Nat.mod_add_div (N % bb ^ k + M % bb ^ k) (bb ^ k)
  unfold sm cy
  rw [mod_succ, mod_succ, Nat.mul_add, Nat.mul_add]
  omega
theorem sm_succ (N M k : Nat) : sm N M (k + 1) = sm N M k + bb ^ k * ((dig N k + dig M k + cy N M k) % bb) := by
  rw [sm, sum_split, bp_succ, split_mod (sm_lt N M k)]
theorem cy_succ (N M k : Nat) : cy N M (k + 1) = (dig N k + dig M k + cy N M k) / bb := by
  rw [cy, sum_split, bp_succ, split_div (sm_lt N M k)]
theorem sm_zero (N M : Nat) : sm N M 0 = 0 := by simp [sm, Nat.mod_one]
theorem cy_zero (N M : Nat) : cy N M 0 = 0 := by simp [cy, Nat.mod_one]
theorem sm_all {N M k : Nat} (hN : N < bb ^ k) (hM : M < bb ^ k) : sm N M k = (N + M) % bb ^ k := by rw [sm, Nat.mod_eq_of_lt hN, Nat.mod_eq_of_lt hM]
theorem cy_all {N M k : Nat} (hN : N < bb ^ k) (hM : M < bb ^ k) : cy N M k = 0 ↔ N + M < bb ^ k := by
  rw [cy, Nat.mod_eq_of_lt hN, Nat.mod_eq_of_lt hM, Nat.div_eq_zero_iff]
  have := bp_pos k
  omega
/-- The lowest k words' difference, and what it borrows. -/
def df (N M k : Nat) : Nat := (N % bb ^ k + bb ^ k - M % bb ^ k) % bb ^ k
def br (N M k : Nat) : Nat := if N % bb ^ k < M % bb ^ k then 1 else 0
theorem df_lt (N M k : Nat) : df N M k < bb ^ k := Nat.mod_lt _ (bp_pos k)
theorem br_le (N M k : Nat) : br N M k ≤ 1 := by unfold br; split <;> omega
/-- N's lowest words and what was borrowed are M's and the difference. -/
theorem df_eq (N M k : Nat) : N % bb ^ k + bb ^ k * br N M k = M % bb ^ k + df N M k := by
  have h1 := Nat.mod_lt N (bp_pos k); have h2 := Nat.mod_lt M (bp_pos k)
  unfold df br
  have hp := bp_pos k
  generalize N % bb ^ k = a at *
  generalize M % bb ^ k = b at *
  generalize bb ^ k = p at *
  split
  · rw [Nat.mod_eq_of_lt (by omega)]; omega
  · rw [show a + p - b = (a - b) + p by omega, Nat.add_mod_right, Nat.mod_eq_of_lt (by omega)]; omega
theorem df_uniq {N M k d c : Nat} (hd : d < bb ^ k) (h : N % bb ^ k + bb ^ k * c = M % bb ^ k + d) : df N M k = d ∧ br N M k = c := by
  have h0 := df_eq N M k
  have h1 := df_lt N M k
  have hp := bp_pos k
  have h2 := Nat.mod_lt N hp
  have h3 := Nat.mod_lt M hp
  have hb := br_le N M k
  generalize df N M k = x at *
  generalize br N M k = y at *
  generalize N % bb ^ k = a at *
  generalize M % bb ^ k = b at *
  generalize bb ^ k = p at *
  have hc : c ≤ 1 := by
    rcases Nat.lt_or_ge 1 c with h4 | h4
    · have := Nat.mul_le_mul_left p h4; omega
    · exact h4
  rcases Nat.le_one_iff_eq_zero_or_eq_one.1 hc with rfl | rfl <;> rcases Nat.le_one_iff_eq_zero_or_eq_one.1 hb with rfl | rfl <;> omega
/-- One word more: d and c are what a word's difference leaves and borrows. -/
theorem df_step {N M k d c : Nat} (hd : d < bb) (h : dig N k + bb * c = dig M k + br N M k + d) : df N M (k + 1) = df N M k + bb ^ k * d ∧ br N M (k + 1) = c := by
  have h0 := df_eq N M k
  have h1 := df_lt N M k
  refine df_uniq ?_ ?_
  · rw [bp_succ]
    calc df N M k + bb ^ k * d < bb ^ k + bb ^ k * d := by omega
      _ = bb ^ k * (d + 1) := by rw [Nat.mul_add, Nat.mul_one, Nat.add_comm]
      _ ≤ bb ^ k * bb := Nat.mul_le_mul_left _ hd
  · have h2 : bb ^ k * dig N k + bb ^ k * (bb * c) = bb ^ k * dig M k + bb ^ k * br N M k + bb ^ k * d := by
      rw [← Nat.mul_add, ← Nat.mul_add, ← Nat.mul_add, h]
    rw [mod_succ, mod_succ, bp_succ, Nat.mul_assoc]
    omega
theorem df_zero (N M : Nat) : df N M 0 = 0 := by simp [df, Nat.mod_one]
theorem br_zero (N M : Nat) : br N M 0 = 0 := by simp [br, Nat.mod_one]
theorem df_all {N M k : Nat} (hN : N < bb ^ k) (hM : M < bb ^ k) (h : M ≤ N) : df N M k = N - M ∧ br N M k = 0 := by
  refine df_uniq (by omega) ?_
  rw [Nat.mod_eq_of_lt hN, Nat.mod_eq_of_lt hM]; omega
/-- Order of numbers: -1, 0, 1. -/
def cmpv (N M : Nat) : Int := if N < M then -1 else if M < N then 1 else 0
theorem div_split (N k : Nat) : N / bb ^ k = dig N k + bb * (N / bb ^ (k + 1)) := by
  unfold dig
  rw [bp_succ, ← Nat.div_div_eq_div_mul]
  exact (Nat.mod_add_div _ _).symm
theorem lt_of_word {N M k : Nat} (h : N / bb ^ (k + 1) = M / bb ^ (k + 1)) (hd : dig N k < dig M k) : N < M := by
  have h1 : N / bb ^ k < M / bb ^ k := by rw [div_split N, div_split M, h]; omega
  rcases Nat.lt_or_ge N M with h2 | h2
  · exact h2
  · have := Nat.div_le_div_right (c := bb ^ k) h2; omega
theorem eq_of_word {N M k : Nat} (h : N / bb ^ (k + 1) = M / bb ^ (k + 1)) (hd : dig N k = dig M k) : N / bb ^ k = M / bb ^ k := by
  rw [div_split N, div_split M, h, hd]
/-- Word k of Y is set to v. -/
def put (Y k v : Nat) : Nat := Y % bb ^ k + bb ^ k * (v + bb * (Y / bb ^ (k + 1)))
theorem dig_mod_low {Y k i : Nat} (hi : i < k) : dig (Y % bb ^ k) i = dig Y i := by
  have h := dig_add_low (X := Y % bb ^ k) (v := Y / bb ^ k) hi
  rw [Nat.mod_add_div] at h
  exact h.symm
theorem low_lt {X k v : Nat} (hX : X < bb ^ k) (hv : v < bb) : X + bb ^ k * v < bb ^ (k + 1) := by
  rw [bp_succ]
  calc X + bb ^ k * v < bb ^ k + bb ^ k * v := by omega
    _ = bb ^ k * (v + 1) := by rw [Nat.mul_add, Nat.mul_one, Nat.add_comm]
    _ ≤ bb ^ k * bb := Nat.mul_le_mul_left _ hv
theorem put_high {Y k v : Nat} (hv : v < bb) : put Y k v / bb ^ (k + 1) = Y / bb ^ (k + 1) := by
  have h := low_lt (Nat.mod_lt Y (bp_pos k)) hv
  rw [put, Nat.mul_add, ← Nat.add_assoc, ← Nat.mul_assoc, ← bp_succ, Nat.add_mul_div_left _ _ (bp_pos (k + 1)), Nat.div_eq_of_lt h, Nat.zero_add]
theorem dig_put_same {Y k v : Nat} (hv : v < bb) : dig (put Y k v) k = v := by
  unfold dig put
  rw [Nat.add_mul_div_left _ _ (bp_pos k), Nat.div_eq_of_lt (Nat.mod_lt _ (bp_pos k)), Nat.zero_add, Nat.add_mul_mod_self_left, Nat.mod_eq_of_lt hv]
theorem dig_put_low {Y k v i : Nat} (hi : i < k) : dig (put Y k v) i = dig Y i := by
  rw [put, dig_add_low hi, dig_mod_low hi]
theorem dig_put_high {Y k v i : Nat} (hv : v < bb) (hi : k < i) : dig (put Y k v) i = dig Y i := by
  obtain ⟨j, rfl⟩ : ∃ j, i = (k + 1) + j := ⟨i - (k + 1), by omega⟩
  unfold dig
  rw [Nat.pow_add, ← Nat.div_div_eq_div_mul, ← Nat.div_div_eq_div_mul, put_high hv]
/-- One word more of a product: what stands in the row, what is carried. -/
def pq (X a M i j : Nat) : Nat := X % bb ^ (i + j) + bb ^ i * (a * (M % bb ^ j))
def pl (X a M i j : Nat) : Nat := pq X a M i j % bb ^ (i + j) + bb ^ (i + j) * (X / bb ^ (i + j))
def pc (X a M i j : Nat) : Nat := pq X a M i j / bb ^ (i + j)
theorem pq_zero (X a M i : Nat) : pq X a M i 0 = X % bb ^ i := by simp [pq, Nat.mod_one]
theorem pl_zero (X a M i : Nat) : pl X a M i 0 = X := by
  rw [pl, pq_zero, Nat.add_zero, Nat.mod_mod, Nat.mod_add_div]
theorem pc_zero (X a M i : Nat) : pc X a M i 0 = 0 := by
  rw [pc, pq_zero, Nat.add_zero, Nat.div_eq_of_lt (Nat.mod_lt _ (bp_pos i))]
theorem pq_lt {X a M i j : Nat} (ha : a < bb) : pq X a M i j < bb ^ (i + j + 1) := by
  have h1 := Nat.mod_lt X (bp_pos (i + j))
  have h2 := Nat.mod_lt M (bp_pos j)
  have h3 : a * (M % bb ^ j) ≤ (bb - 1) * bb ^ j := Nat.mul_le_mul (by omega) (by omega)
  have h4 := Nat.mul_le_mul_left (bb ^ i) h3
  have h5 : bb ^ i * ((bb - 1) * bb ^ j) = (bb - 1) * bb ^ (i + j) := by
    rw [Nat.pow_add, ← Nat.mul_assoc, Nat.mul_comm (bb ^ i), Nat.mul_assoc]
  have h6 : (bb - 1) * bb ^ (i + j) + bb ^ (i + j) = bb ^ (i + j + 1) := by
    rw [bp_succ, Nat.sub_mul, Nat.one_mul, Nat.mul_comm (bb ^ (i + j)) bb]
    have := Nat.mul_le_mul_right (bb ^ (i + j)) (show 1 ≤ bb by decide)
    omega
  unfold pq
  omega
theorem pc_lt {X a M i j : Nat} (ha : a < bb) : pc X a M i j < bb := by
  have := pq_lt (X := X) (M := M) (i := i) (j := j) ha
  rw [bp_succ] at this
  exact Nat.div_lt_of_lt_mul this
theorem dig_pl (X a M i j : Nat) : dig (pl X a M i j) (i + j) = dig X (i + j) := by
  unfold dig pl
  rw [Nat.add_mul_div_left _ _ (bp_pos _), Nat.div_eq_of_lt (Nat.mod_lt _ (bp_pos _)), Nat.zero_add]
theorem pq_succ (X a M i j : Nat) : pq X a M i (j + 1) = pq X a M i j % bb ^ (i + j) + bb ^ (i + j) * (a * dig M j + dig X (i + j) + pc X a M i j) := by
  have h := Nat.mod_add_div (pq X a M i j) (bb ^ (i + j))
  have h1 : pq X a M i (j + 1) = pq X a M i j + bb ^ (i + j) * (a * dig M j + dig X (i + j)) := by
    unfold pq
    rw [← Nat.add_assoc i j 1, mod_succ X (i + j), mod_succ M j, Nat.mul_add a, Nat.mul_add (bb ^ i), Nat.mul_add (bb ^ (i + j)), Nat.pow_add]
    have : bb ^ i * (a * (bb ^ j * dig M j)) = bb ^ i * bb ^ j * (a * dig M j) := by
      rw [Nat.mul_assoc (bb ^ i), ← Nat.mul_assoc a, Nat.mul_comm a, Nat.mul_assoc (bb ^ j)]
    omega
  have h2 : bb ^ (i + j) * (a * dig M j + dig X (i + j) + pc X a M i j) = bb ^ (i + j) * (a * dig M j + dig X (i + j)) + bb ^ (i + j) * (pq X a M i j / bb ^ (i + j)) := by
    rw [← Nat.mul_add]; rfl
  omega
theorem pc_succ (X a M i j : Nat) : pc X a M i (j + 1) = (a * dig M j + dig X (i + j) + pc X a M i j) / bb := by
  rw [pc, pq_succ, ← Nat.add_assoc i j 1, bp_succ, split_div (Nat.mod_lt _ (bp_pos _))]
theorem pl_succ (X a M i j : Nat) : pl X a M i (j + 1) = put (pl X a M i j) (i + j) ((a * dig M j + dig X (i + j) + pc X a M i j) % bb) := by
  have hp := bp_pos (i + j)
  have hl := Nat.mod_lt (pq X a M i j) hp
  have e1 : pl X a M i j % bb ^ (i + j) = pq X a M i j % bb ^ (i + j) := by
    rw [pl, Nat.add_mul_mod_self_left, Nat.mod_mod]
  have e2 : pl X a M i j / bb ^ (i + j + 1) = X / bb ^ (i + j + 1) := by
    rw [bp_succ, ← Nat.div_div_eq_div_mul, ← Nat.div_div_eq_div_mul, pl, Nat.add_mul_div_left _ _ hp, Nat.div_eq_of_lt hl, Nat.zero_add]
  rw [put, e1, e2, pl, pq_succ, ← Nat.add_assoc i j 1, bp_succ, split_mod hl, Nat.mul_add (bb ^ (i + j)), Nat.mul_assoc, Nat.add_assoc]
/-- The row behind i words. -/
def px (N M i : Nat) : Nat := N % bb ^ i * M
theorem px_zero (N M : Nat) : px N M 0 = 0 := by simp [px, Nat.mod_one]
theorem px_lt {N M i m : Nat} (hM : M < bb ^ m) : px N M i < bb ^ (i + m) := by
  unfold px
  rw [Nat.pow_add]
  rcases Nat.eq_zero_or_pos M with h | h
  · subst h; rw [Nat.mul_zero]; exact Nat.mul_pos (bp_pos i) (bp_pos m)
  · exact Nat.lt_of_lt_of_le (Nat.mul_lt_mul_of_pos_right (Nat.mod_lt N (bp_pos i)) h) (Nat.mul_le_mul_left _ (Nat.le_of_lt hM))
theorem pq_all {N M i m : Nat} (hM : M < bb ^ m) : pq (px N M i) (dig N i) M i m = px N M (i + 1) := by
  rw [pq, Nat.mod_eq_of_lt (px_lt hM), Nat.mod_eq_of_lt hM, px, px, mod_succ, Nat.add_mul, Nat.mul_assoc]
theorem pl_all {N M i m : Nat} (hM : M < bb ^ m) : pl (px N M i) (dig N i) M i m = px N M (i + 1) % bb ^ (i + m) := by
  rw [pl, pq_all hM, Nat.div_eq_of_lt (px_lt hM), Nat.mul_zero, Nat.add_zero]
theorem pc_all {N M i m : Nat} (hM : M < bb ^ m) : pc (px N M i) (dig N i) M i m = px N M (i + 1) / bb ^ (i + m) := by
  rw [pc, pq_all hM]
theorem px_all {N M i : Nat} (h : N < bb ^ i) : px N M i = N * M := by rw [px, Nat.mod_eq_of_lt h]
theorem px_le (N M i : Nat) : px N M i ≤ N * M := Nat.mul_le_mul_right M (Nat.mod_le _ _)
theorem mul_over {N M : Nat} (h : 33 < nw N + nw M) (hN : nw N ≤ 32) (hM : nw M ≤ 32) : ¬ N * M < bb ^ 32 := by
  have hN0 : N ≠ 0 := by intro e; subst e; have : nw 0 = 0 := rfl; omega
  have hM0 : M ≠ 0 := by intro e; subst e; have : nw 0 = 0 := rfl; omega
  have h1 := Nat.mul_le_mul (nw_le N hN0) (nw_le M hM0)
  rw [← Nat.pow_add] at h1
  have h2 := bp_mono (show 32 ≤ nw N - 1 + (nw M - 1) by omega)
  omega
theorem dig_shift (Y q i : Nat) : dig (Y * bb ^ q) (q + i) = dig Y i := by
  unfold dig
  rw [Nat.pow_add, Nat.mul_comm (bb ^ q), Nat.mul_div_mul_right _ _ (bp_pos q)]
theorem shift_words (N q r : Nat) : N * 2 ^ (32 * q + r) = N * 2 ^ r * bb ^ q := by
  rw [bp_two, Nat.pow_add, Nat.mul_assoc, Nat.mul_comm (2 ^ r)]
theorem bb_split {r : Nat} (h : r < 32) : bb = 2 ^ r * 2 ^ (32 - r) := by
  rw [← Nat.pow_add, show r + (32 - r) = 32 by omega]; rfl
theorem dig_pow_zero (N r : Nat) : dig (N * 2 ^ r) 0 = dig N 0 * 2 ^ r % bb := by
  simp [dig]
/-- Word j + 1 of a number that is shifted by r bits. -/
theorem dig_pow_succ (N j : Nat) {r : Nat} (h : r < 32) : dig (N * 2 ^ r) (j + 1) = (dig N (j + 1) * 2 ^ r + dig N j * 2 ^ r / bb) % bb := by
  have hp := bp_pos j
  have hr : 0 < 2 ^ r := Nat.two_pow_pos r
  have hN := Nat.mod_add_div N (bb ^ j)
  have e1 : N * 2 ^ r / bb ^ j = N / bb ^ j * 2 ^ r + N % bb ^ j * 2 ^ r / bb ^ j := by
    conv => lhs; rw [← hN, Nat.add_mul, Nat.mul_assoc, Nat.add_mul_div_left _ _ hp]
    rw [Nat.add_comm]
  have he : N % bb ^ j * 2 ^ r / bb ^ j < 2 ^ r := by
    rw [Nat.div_lt_iff_lt_mul hp, Nat.mul_comm]
    exact Nat.mul_lt_mul_of_pos_left (Nat.mod_lt _ hp) hr
  generalize N % bb ^ j * 2 ^ r / bb ^ j = e at *
  have e2 : N * 2 ^ r / bb ^ (j + 1) = N / bb ^ (j + 1) * 2 ^ r + dig N j * 2 ^ r / bb := by
    rw [bp_succ, ← Nat.div_div_eq_div_mul, e1, div_split N j, Nat.add_mul, Nat.mul_assoc, Nat.add_right_comm, Nat.add_mul_div_left _ _ bb_pos, Nat.add_comm, bp_succ]
    congr 1
    rw [bb_split h, ← Nat.div_div_eq_div_mul, ← Nat.div_div_eq_div_mul, Nat.mul_comm (dig N j), Nat.mul_add_div hr, Nat.div_eq_of_lt he, Nat.add_zero, Nat.mul_div_cancel_left _ hr]
  unfold dig at *
  rw [e2, Nat.add_mod, Nat.mul_mod, ← Nat.mod_mod (N / bb ^ (j + 1)) bb]
  rw [← Nat.mul_mod, ← Nat.add_mod, Nat.mod_mod]
/-- One word more of a quotient by m. -/
def wquo (N m k : Nat) : Nat := N / bb ^ k / m * bb ^ k
def wrem (N m k : Nat) : Nat := N / bb ^ k % m
theorem wr_lt {N m k : Nat} (hm : 0 < m) : wrem N m k < m := Nat.mod_lt _ hm
theorem w_split (N m k : Nat) : N / bb ^ k = m * (N / bb ^ (k + 1) / m) * bb + (dig N k + bb * wrem N m (k + 1)) := by
  have h := Nat.mod_add_div (N / bb ^ (k + 1)) m
  rw [div_split N k]
  unfold wrem
  conv => lhs; rw [← h, Nat.mul_add]
  rw [Nat.mul_comm bb (m * _)]
  omega
theorem wr_step {N m k : Nat} : wrem N m k = (dig N k + bb * wrem N m (k + 1)) % m := by
  conv => lhs; rw [wrem, w_split N m k, Nat.mul_assoc, Nat.mul_add_mod]
theorem wq_step {N m k : Nat} (hm : 0 < m) : N / bb ^ k / m = N / bb ^ (k + 1) / m * bb + (dig N k + bb * wrem N m (k + 1)) / m := by
  conv => lhs; rw [w_split N m k, Nat.mul_assoc, Nat.mul_add_div hm]
theorem w_lt {N m k : Nat} (hm : 0 < m) : (dig N k + bb * wrem N m (k + 1)) / m < bb := by
  have h1 := wr_lt (N := N) (k := k + 1) hm
  have h2 := dig_lt N k
  rw [Nat.div_lt_iff_lt_mul hm]
  have h3 := Nat.mul_le_mul_left bb (Nat.succ_le_of_lt h1)
  rw [Nat.mul_succ] at h3
  omega
theorem wq_put {N m k : Nat} (hm : 0 < m) : wquo N m k = put (wquo N m (k + 1)) k ((dig N k + bb * wrem N m (k + 1)) / m) := by
  have h1 : wquo N m (k + 1) % bb ^ k = 0 := by rw [wquo, bp_succ, Nat.mul_comm (bb ^ k), ← Nat.mul_assoc, Nat.mul_mod_left]
  have h2 : wquo N m (k + 1) / bb ^ (k + 1) = N / bb ^ (k + 1) / m := by rw [wquo, Nat.mul_div_cancel _ (bp_pos _)]
  rw [put, h1, h2, Nat.zero_add, wquo, wq_step hm, Nat.mul_comm (bb ^ k), Nat.mul_comm bb (N / bb ^ (k + 1) / m), Nat.add_comm]
theorem wq_zero (N m : Nat) : wquo N m 0 = N / m := by simp [wquo]
theorem wr_zero (N m : Nat) : wrem N m 0 = N % m := by simp [wrem]
theorem wq_top {N m k : Nat} (h : N < bb ^ k) : wquo N m k = 0 := by rw [wquo, Nat.div_eq_of_lt h, Nat.zero_div, Nat.zero_mul]
theorem wr_top {N m k : Nat} (h : N < bb ^ k) : wrem N m k = 0 := by rw [wrem, Nat.div_eq_of_lt h, Nat.zero_mod]
/-- The lowest k words of a number times m and c. -/
def tq (N m c k : Nat) : Nat := N % bb ^ k * m + c
def tl (N m c k : Nat) : Nat := tq N m c k % bb ^ k + bb ^ k * (N / bb ^ k)
def tc (N m c k : Nat) : Nat := tq N m c k / bb ^ k
theorem tl_zero (N m c : Nat) : tl N m c 0 = N := by simp [tl, Nat.mod_one]
theorem tc_zero (N m c : Nat) : tc N m c 0 = c := by simp [tc, tq, Nat.mod_one]
theorem tc_lt {N m c k : Nat} (hm : m < bb) (hc : c < bb) : tc N m c k < bb := by
  have h1 := Nat.mod_lt N (bp_pos k)
  have h2 : N % bb ^ k * m ≤ (bb ^ k - 1) * (bb - 1) := Nat.mul_le_mul (by omega) (by omega)
  have h3 : (bb ^ k - 1) * (bb - 1) + (bb - 1) = bb ^ k * (bb - 1) := by
    rw [Nat.sub_mul, Nat.one_mul]
    have := Nat.mul_le_mul_right (bb - 1) (bp_pos k)
    omega
  have h4 : bb ^ k * (bb - 1) + bb ^ k = bb ^ k * bb := by
    rw [Nat.mul_sub, Nat.mul_one]
    have := Nat.mul_le_mul_left (bb ^ k) (show 1 ≤ bb by decide)
    omega
  have hp := bp_pos k
  unfold tc tq
  exact Nat.div_lt_of_lt_mul (by omega)
theorem tq_succ (N m c k : Nat) : tq N m c (k + 1) = tq N m c k % bb ^ k + bb ^ k * (dig N k * m + tc N m c k) := by
  have h := Nat.mod_add_div (tq N m c k) (bb ^ k)
  have h1 : tq N m c (k + 1) = tq N m c k + bb ^ k * (dig N k * m) := by
    unfold tq
    rw [mod_succ, Nat.add_mul, Nat.mul_assoc]; omega
  rw [Nat.mul_add]
  unfold tc
  omega
theorem tc_succ (N m c k : Nat) : tc N m c (k + 1) = (dig N k * m + tc N m c k) / bb := by
  rw [tc, tq_succ, bp_succ, split_div (Nat.mod_lt _ (bp_pos _))]
theorem tl_succ (N m c k : Nat) : tl N m c (k + 1) = put (tl N m c k) k ((dig N k * m + tc N m c k) % bb) := by
  have hl := Nat.mod_lt (tq N m c k) (bp_pos k)
  have e1 : tl N m c k % bb ^ k = tq N m c k % bb ^ k := by rw [tl, Nat.add_mul_mod_self_left, Nat.mod_mod]
  have e2 : tl N m c k / bb ^ (k + 1) = N / bb ^ (k + 1) := by
    rw [bp_succ, ← Nat.div_div_eq_div_mul, ← Nat.div_div_eq_div_mul, tl, Nat.add_mul_div_left _ _ (bp_pos k), Nat.div_eq_of_lt hl, Nat.zero_add]
  rw [put, e1, e2, tl, tq_succ, bp_succ, split_mod hl, Nat.mul_add (bb ^ k), Nat.mul_assoc, Nat.add_assoc]
theorem dig_tl (N m c k : Nat) : dig (tl N m c k) k = dig N k := by
  unfold dig tl
  rw [Nat.add_mul_div_left _ _ (bp_pos _), Nat.div_eq_of_lt (Nat.mod_lt _ (bp_pos _)), Nat.zero_add]
theorem tl_all {N m c k : Nat} (hN : N < bb ^ k) : tl N m c k = (N * m + c) % bb ^ k := by
  rw [tl, tq, Nat.mod_eq_of_lt hN, Nat.div_eq_of_lt hN, Nat.mul_zero, Nat.add_zero]
theorem tc_all {N m c k : Nat} (hN : N < bb ^ k) : tc N m c k = 0 ↔ N * m + c < bb ^ k := by
  rw [tc, tq, Nat.mod_eq_of_lt hN, Nat.div_eq_zero_iff]
  have := bp_pos k
  omega
end Go.Proofs.YtoegjibeomhekaaGreat

/- Decimal digits. -/
namespace Go.Proofs.YtoegjibeomhekaaGreat
set_option linter.unusedSimpArgs false
set_option linter.unusedVariables false
/-- The lowest c digits of N, the highest ahead. -/
def low : Nat → Nat → List Nat
  | 0, _ => []
  | c + 1, N => N / 10 ^ c % 10 :: low c N
theorem low_length (c N : Nat) : (low c N).length = c := by induction c with | zero => rfl | succ c ih => simp [low, ih]
theorem low_le (c N : Nat) : ∀ d ∈ low c N, d ≤ 9 := by
  induction c with
  | zero => intro d hd; cases hd
  | succ c ih =>
    intro d hd
    rcases List.mem_cons.1 hd with rfl | h
    · omega
    · exact ih d h
/-- How many digits N has (0 has none). -/
def ndF : Nat → Nat → Nat
  | 0, _ => 0
  | f + 1, N => if N = 0 then 0 else ndF f (N / 10) + 1
def ndig (N : Nat) : Nat := ndF 400 N
theorem ndF_of : ∀ (f N c : Nat), c ≤ f → N < 10 ^ c → (0 < c → 10 ^ (c - 1) ≤ N) → ndF f N = c
  | 0, N, c, hc, _, _ => by have : c = 0 := by omega
                            subst this; rfl
  | f + 1, N, 0, _, h, _ => by
    have : N = 0 := by simpa using h
    subst this; rfl
  | f + 1, N, c + 1, hc, h1, h2 => by
    have h3 := h2 (by omega)
    rw [Nat.add_sub_cancel] at h3
    have hp : 0 < 10 ^ c := Nat.pow_pos (by decide)
    have hN : N ≠ 0 := by omega
    rw [ndF, if_neg hN, ndF_of f (N / 10) c (by omega) (by rw [Nat.div_lt_iff_lt_mul (by decide), ← Nat.pow_succ]; exact h1) (fun hc0 => by
      obtain ⟨k, rfl⟩ : ∃ k, c = k + 1 := ⟨c - 1, by omega⟩
      rw [Nat.le_div_iff_mul_le (by decide), Nat.add_sub_cancel, ← Nat.pow_succ]; exact h3)]
theorem ndig_of {N c : Nat} (hc : c ≤ 400) (h1 : N < 10 ^ c) (h2 : 0 < c → 10 ^ (c - 1) ≤ N) : ndig N = c := ndF_of 400 N c hc h1 h2
theorem lim_dec : bb ^ 32 ≤ 10 ^ 309 := by decide +kernel
theorem ten_mono {a b : Nat} (h : a ≤ b) : 10 ^ a ≤ 10 ^ b := Nat.pow_le_pow_right (by decide) h
theorem nd_bound {N c : Nat} (hN : N < bb ^ 32) (h : 0 < N / 10 ^ c) : c < 309 := by
  rcases Nat.lt_or_ge c 309 with h1 | h1
  · exact h1
  · have h2 := ten_mono h1
    have h3 := lim_dec
    rw [Nat.div_eq_of_lt (by omega)] at h
    omega
/-- What is left behind c digits more. -/
theorem dec_step (N c : Nat) : N / 10 ^ (c + 1) = N / 10 ^ c / 10 := by rw [Nat.pow_succ, Nat.div_div_eq_div_mul]
theorem dec_nine (N c : Nat) : N / 10 ^ (c + 9) = N / 10 ^ c / 1000000000 := by rw [Nat.pow_add, Nat.div_div_eq_div_mul]
/-- A group's digit i: R is what was left ahead of the group. -/
theorem grp (R i : Nat) (hi : i ≤ 9) : R / 10 ^ i = R / 1000000000 * 10 ^ (9 - i) + R % 1000000000 / 10 ^ i := by
  have h : R = R % 1000000000 + 10 ^ i * (R / 1000000000 * 10 ^ (9 - i)) := by
    have h1 := Nat.mod_add_div R 1000000000
    have h2 : 10 ^ i * (R / 1000000000 * 10 ^ (9 - i)) = 1000000000 * (R / 1000000000) := by
      rw [Nat.mul_comm (R / _), ← Nat.mul_assoc, ← Nat.pow_add, show i + (9 - i) = 9 by omega]
    omega
  conv => lhs; rw [h, Nat.add_mul_div_left _ _ (Nat.pow_pos (by decide))]
  rw [Nat.add_comm]
theorem grp_mod (R i : Nat) (hi : i < 9) : R / 10 ^ i % 10 = R % 1000000000 / 10 ^ i % 10 := by
  rw [grp R i (by omega), show 9 - i = 8 - i + 1 by omega, Nat.pow_succ, ← Nat.mul_assoc, Nat.add_comm, Nat.add_mul_mod_self_right]
theorem grp_zero (R i : Nat) (hi : i ≤ 9) : R / 10 ^ i = 0 ↔ R / 1000000000 = 0 ∧ R % 1000000000 / 10 ^ i = 0 := by
  rw [grp R i hi, Nat.add_eq_zero_iff, Nat.mul_eq_zero]
  have : (10 : Nat) ^ (9 - i) ≠ 0 := Nat.ne_of_gt (Nat.pow_pos (by decide))
  simp [this]
/-- The number that digits stand for. -/
def val (l : List Nat) : Nat := l.foldl (fun a d => a * 10 + d) 0
theorem foldl_val : ∀ (l : List Nat) (a : Nat), l.foldl (fun a d => a * 10 + d) a = a * 10 ^ l.length + val l
  | [], a => by simp [val]
  | d :: l, a => by
    have e : val (d :: l) = (0 * 10 + d) * 10 ^ l.length + val l := foldl_val l _
    rw [List.foldl_cons, foldl_val l, e, List.length_cons, Nat.pow_succ, Nat.add_mul, Nat.mul_assoc, Nat.mul_comm 10, Nat.zero_mul, Nat.zero_add, Nat.add_assoc]
theorem val_append (l m : List Nat) : val (l ++ m) = val l * 10 ^ m.length + val m := by
  rw [val, List.foldl_append, foldl_val m]; rfl
theorem val_snoc (l : List Nat) (d : Nat) : val (l ++ [d]) = val l * 10 + d := by rw [val_append]; simp [val]
theorem val_nil : val [] = 0 := rfl
theorem val_lt : ∀ (l : List Nat), (∀ d ∈ l, d ≤ 9) → val l < 10 ^ l.length
  | [], _ => by decide
  | d :: l, h => by
    have h1 := val_lt l fun x hx => h x (List.mem_cons_of_mem _ hx)
    have h2 := h d (List.mem_cons_self ..)
    have h3 := val_append [d] l
    rw [List.singleton_append, show val [d] = d by simp [val]] at h3
    rw [h3, List.length_cons, Nat.pow_succ]
    have := Nat.mul_le_mul_right (10 ^ l.length) h2
    omega
theorem val_low : ∀ (c N : Nat), val (low c N) = N % 10 ^ c
  | 0, N => by simp [low, val, Nat.mod_one]
  | c + 1, N => by
    have h3 := val_append [N / 10 ^ c % 10] (low c N)
    rw [List.singleton_append, show val [N / 10 ^ c % 10] = N / 10 ^ c % 10 by simp [val], low_length, val_low c N] at h3
    rw [low, h3, Nat.pow_succ, Nat.mod_mul, Nat.mul_comm, Nat.add_comm]
end Go.Proofs.YtoegjibeomhekaaGreat

/- The long division, as numbers. -/
namespace Go.Proofs.YtoegjibeomhekaaGreat
/-- What goes in goes in among the highest words. -/
theorem guess_low {u v P : Nat} (hv : 0 < v / P) : u / v ≤ u / P / (v / P) := by
  have hP : 0 < P := by
    rcases Nat.eq_zero_or_pos P with h | h
    · subst h; simp at hv
    · exact h
  rw [Nat.le_div_iff_mul_le hv, Nat.le_div_iff_mul_le hP, Nat.mul_assoc]
  exact Nat.le_trans (Nat.mul_le_mul_left _ (Nat.div_mul_le_self v P)) (Nat.div_mul_le_self u v)
/-- What goes in among the highest words is one too great at most. -/
theorem guess_high {u v P g : Nat} (hP : 0 < P) (hv : 0 < v) (h1 : g * (v / P) ≤ u / P) (h2 : g ≤ v / P + 1) : g ≤ u / v + 1 := by
  rcases Nat.eq_zero_or_pos g with h0 | h0
  · rw [h0]; exact Nat.zero_le _
  obtain ⟨k, rfl⟩ : ∃ k, g = k + 1 := ⟨g - 1, by omega⟩
  have h3 : k * v ≤ u := by
    have a : (k + 1) * (v / P) * P ≤ u := Nat.le_trans (Nat.mul_le_mul_right P h1) (Nat.div_mul_le_self u P)
    have b : v < (v / P + 1) * P := by rw [Nat.mul_comm]; exact Nat.lt_mul_div_succ v hP
    have c : k * v ≤ k * ((v / P + 1) * P) := Nat.mul_le_mul_left k (Nat.le_of_lt b)
    have d : k * ((v / P + 1) * P) ≤ (k + 1) * (v / P) * P := by
      rw [← Nat.mul_assoc]
      apply Nat.mul_le_mul_right
      rw [Nat.mul_add, Nat.mul_one, Nat.add_mul, Nat.one_mul]
      omega
    omega
  have := (Nat.le_div_iff_mul_le hv).2 h3
  omega
/-- The word that guessWord tells: U the three highest words of u, V the two highest of v. -/
def gw (U V : Nat) : Nat := min (bb - 1) (U / V)
theorem gw_ok {u v P : Nat} (hP : 0 < P) (hV : bb - 1 ≤ v / P) (hq : u / v < bb) : u / v ≤ gw (u / P) (v / P) ∧ gw (u / P) (v / P) ≤ u / v + 1 := by
  have hb := bb_eq
  have hV0 : 0 < v / P := by omega
  have hv : 0 < v := by
    rcases Nat.eq_zero_or_pos v with h | h
    · subst h; simp at hV0
    · exact h
  have a := guess_low (u := u) hV0
  unfold gw
  refine ⟨by omega, ?_⟩
  apply guess_high hP hv
  · exact Nat.le_trans (Nat.mul_le_mul_right _ (Nat.min_le_right _ _)) (Nat.div_mul_le_self _ _)
  · omega
/-- guessWord's test, over the word guessed and what it leaves. -/
theorem gw_test {high v1 v2 u2 g r : Nat} (h : g * v1 + r = high) : g * v2 > r * bb + u2 ↔ high * bb + u2 < g * (v1 * bb + v2) := by
  have : high * bb = g * v1 * bb + r * bb := by rw [← h, Nat.add_mul]
  rw [Nat.mul_add, ← Nat.mul_assoc]
  omega
theorem gw_le_of {U V g : Nat} (h1 : g < bb) (h2 : g * V ≤ U) (hV : 0 < V) : g ≤ gw U V := by
  have := (Nat.le_div_iff_mul_le hV).2 h2
  unfold gw
  omega
theorem gw_lt_of {U V g : Nat} (h : bb ≤ g ∨ U < g * V) (hV : 0 < V) : gw U V < g := by
  have hb := bb_pos
  unfold gw
  rcases h with h | h
  · omega
  · have := (Nat.div_lt_iff_lt_mul hV).2 h
    omega
/-- One step of the division: the rest U below V * X * bb, X = bb ^ j. -/
theorem step_rest {U V X : Nat} (hX : 0 < X) (hV : 0 < V) : U - U / X / V * V * X < V * X ∧ U / X / V * V * X ≤ U := by
  have h1 : U / X / V * V * X ≤ U := Nat.le_trans (Nat.mul_le_mul_right X (Nat.div_mul_le_self _ _)) (Nat.div_mul_le_self U X)
  have h2 : U / X < (U / X / V + 1) * V := by rw [Nat.mul_comm]; exact Nat.lt_mul_div_succ _ hV
  have h3 : U < (U / X / V + 1) * V * X := (Nat.div_lt_iff_lt_mul hX).1 h2
  rw [Nat.add_mul, Nat.one_mul, Nat.add_mul] at h3
  omega
theorem step_word {U V X : Nat} (hX : 0 < X) (hV : 0 < V) (h : U < V * X * bb) : U / X / V < bb := by
  rw [Nat.div_lt_iff_lt_mul hV, Nat.div_lt_iff_lt_mul hX]
  rw [show bb * V * X = V * X * bb by rw [Nat.mul_comm bb V, Nat.mul_right_comm]]
  exact h
/-- What was shifted is shifted back. -/
theorem shifted {d e s Q R : Nat} (he : 0 < e) (h : d * 2 ^ s = Q * (e * 2 ^ s) + R) (hR : R < e * 2 ^ s) : Q = d / e ∧ R = d % e * 2 ^ s := by
  have hp := Nat.two_pow_pos s
  have h1 : d * 2 ^ s / (e * 2 ^ s) = Q := by
    rw [h, Nat.mul_comm Q, Nat.mul_add_div (Nat.mul_pos he hp), Nat.div_eq_of_lt hR, Nat.add_zero]
  have h2 : d * 2 ^ s % (e * 2 ^ s) = R := by
    rw [h, Nat.mul_comm Q, Nat.mul_add_mod, Nat.mod_eq_of_lt hR]
  rw [Nat.mul_div_mul_right _ _ hp] at h1
  rw [Nat.mul_mod_mul_right] at h2
  exact ⟨h1.symm, h2.symm⟩
end Go.Proofs.YtoegjibeomhekaaGreat

/- Fractions in lowest terms, as numbers. -/
namespace Go.Proofs.YtoegjibeomhekaaGreat
set_option linter.unusedVariables false
/-- Nothing divides both. -/
def Cop (a b : Int) : Prop := Int.gcd a b = 1
theorem cop_comm {a b : Int} (h : Cop a b) : Cop b a := by unfold Cop at *; rw [Int.gcd_comm]; exact h
theorem cop_mul {a b c : Int} (h : Cop a b) (h' : Cop a c) : Cop a (b * c) := by
  unfold Cop at *
  rw [Int.gcd_eq_natAbs_gcd_natAbs] at *
  rw [Int.natAbs_mul]
  exact Nat.Coprime.mul_right h h'
theorem cop_left {a b c : Int} (h : Cop a b) (hd : c ∣ a) : Cop c b := by
  unfold Cop at *
  rw [Int.gcd_eq_natAbs_gcd_natAbs] at *
  exact Nat.Coprime.coprime_dvd_left (Int.natAbs_dvd_natAbs.2 hd) h
theorem cop_right {a b c : Int} (h : Cop a b) (hd : c ∣ b) : Cop a c := cop_comm (cop_left (cop_comm h) hd)
theorem cop_dvd {a b c : Int} (h : Cop a b) (hd : a ∣ b * c) : a ∣ c := by
  unfold Cop at h
  rw [Int.gcd_eq_natAbs_gcd_natAbs] at h
  have := Int.natAbs_dvd_natAbs.2 hd
  rw [Int.natAbs_mul] at this
  exact Int.natAbs_dvd_natAbs.1 (Nat.Coprime.dvd_of_dvd_mul_left h this)
theorem cop_add {a b c : Int} (h : Cop a b) : Cop (a + c * b) b := by
  unfold Cop at *
  rw [Int.gcd_add_mul_right_left]; exact h
theorem cop_parts {a b : Int} (h : Int.gcd a b ≠ 0) : Cop (a / (Int.gcd a b : Int)) (b / (Int.gcd a b : Int)) := Int.gcd_ediv_gcd_ediv_gcd (by omega)
/-- n by d is in lowest terms. -/
def Rt (n d : Int) : Prop := 0 < d ∧ Cop n d
theorem pos_dvd_eq {a b : Int} (ha : 0 < a) (hb : 0 < b) (h1 : a ∣ b) (h2 : b ∣ a) : a = b := Int.le_antisymm (Int.le_of_dvd hb h1) (Int.le_of_dvd ha h2)
/-- A fraction is written in one way. -/
theorem rt_uniq {n d m e : Int} (h : Rt n d) (h' : Rt m e) (hx : n * e = m * d) : n = m ∧ d = e := by
  have h1 : d ∣ e := cop_dvd (cop_comm h.2) ⟨m, by rw [hx, Int.mul_comm]⟩
  have h2 : e ∣ d := cop_dvd (cop_comm h'.2) ⟨n, by rw [← hx, Int.mul_comm]⟩
  have e1 := pos_dvd_eq h.1 h'.1 h1 h2
  subst e1
  exact ⟨Int.eq_of_mul_eq_mul_right (by have := h.1; omega) hx, rfl⟩
/-- In lowest terms both numbers are the least. -/
theorem rt_dvd {n d m e : Int} (h : Rt n d) (hx : n * e = m * d) : n ∣ m ∧ d ∣ e := by
  refine ⟨cop_dvd h.2 ⟨e, by rw [← Int.mul_comm m, ← hx]⟩, cop_dvd (cop_comm h.2) ⟨m, by rw [hx, Int.mul_comm]⟩⟩
theorem ediv_dvd {a g : Int} (h : g ∣ a) : a / g ∣ a := ⟨g, (Int.ediv_mul_cancel h).symm⟩
theorem gcd_ne_right {a b : Int} (h : b ≠ 0) : ((Int.gcd a b : Nat) : Int) ≠ 0 := by
  have : Int.gcd a b ≠ 0 := fun e => h (Int.gcd_eq_zero_iff.1 e).2
  omega
theorem gcd_pos_right {a b : Int} (h : b ≠ 0) : 0 < ((Int.gcd a b : Nat) : Int) := by
  have := gcd_ne_right (a := a) h
  omega
theorem ediv_pos {a g : Int} (ha : 0 < a) (hg : 0 < g) (h : g ∣ a) : 0 < a / g := by
  obtain ⟨k, rfl⟩ := h
  rw [Int.mul_ediv_cancel_left _ (by omega)]
  exact Int.pos_of_mul_pos_right ha (by omega)
/-- lowest: n by d. -/
theorem low_rt {n d : Int} (hd : 0 < d) : Rt (n / (Int.gcd n d : Nat)) (d / (Int.gcd n d : Nat)) ∧ n / (Int.gcd n d : Nat) * d = n * (d / (Int.gcd n d : Nat)) := by
  have d1 : ((Int.gcd n d : Nat) : Int) ∣ n := Int.gcd_dvd_left ..
  have d2 : ((Int.gcd n d : Nat) : Int) ∣ d := Int.gcd_dvd_right ..
  have g0 := gcd_pos_right (a := n) (b := d) (by omega)
  refine ⟨⟨ediv_pos hd g0 d2, cop_parts (by omega)⟩, ?_⟩
  generalize ((Int.gcd n d : Nat) : Int) = g at *
  obtain ⟨a, rfl⟩ := d1
  obtain ⟨b, rfl⟩ := d2
  rw [Int.mul_ediv_cancel_left _ (by omega), Int.mul_ediv_cancel_left _ (by omega), Int.mul_left_comm, Int.mul_assoc]
/-- plus: the sum. -/
theorem plus_rt {n d m e g b c n' h : Int} (hn : Rt n d) (hm : Rt m e) (hg : ((Int.gcd d e : Nat) : Int) = g) (hb : d / g = b) (hc : e / g = c) (hn' : n * c + m * b = n') (hh : ((Int.gcd n' g : Nat) : Int) = h) :
    Rt (n' / h) (b * (e / h)) ∧ n' / h * (d * e) = (n * e + m * d) * (b * (e / h)) ∧ g ≠ 0 ∧ h ≠ 0 ∧ h ∣ n' ∧ h ∣ e ∧ g ∣ d ∧ g ∣ e := by
  have e0 : e ≠ 0 := by have := hm.1; omega
  have g0 : 0 < g := by rw [← hg]; exact gcd_pos_right e0
  have gd : g ∣ d := by rw [← hg]; exact Int.gcd_dvd_left ..
  have ge : g ∣ e := by rw [← hg]; exact Int.gcd_dvd_right ..
  have h0 : 0 < h := by rw [← hh]; exact gcd_pos_right (by omega)
  have hn1 : h ∣ n' := by rw [← hh]; exact Int.gcd_dvd_left ..
  have hg1 : h ∣ g := by rw [← hh]; exact Int.gcd_dvd_right ..
  have he1 : h ∣ e := Int.dvd_trans hg1 ge
  have cbc : Cop b c := by
    rw [← hb, ← hc, ← hg]; exact cop_parts (by omega)
  have ed : d = g * b := by rw [← hb, Int.mul_ediv_cancel' gd]
  have ee : e = g * c := by rw [← hc, Int.mul_ediv_cancel' ge]
  have bd : b ∣ d := ⟨g, by rw [ed, Int.mul_comm]⟩
  have cd : c ∣ e := ⟨g, by rw [ee, Int.mul_comm]⟩
  have c1 : Cop n' b := by
    rw [← hn']
    refine cop_add ?_
    exact cop_comm (cop_mul (cop_comm (cop_right hn.2 bd)) cbc)
  have c2 : Cop n' c := by
    rw [← hn', Int.add_comm]
    refine cop_add ?_
    exact cop_comm (cop_mul (cop_comm (cop_right hm.2 cd)) (cop_comm cbc))
  have c3 : Cop (n' / h) (g / h) := by rw [← hh]; exact cop_parts (by omega)
  have nd : n' / h ∣ n' := ediv_dvd hn1
  obtain ⟨k, hk⟩ := hg1
  have egh : g / h = k := by rw [hk, Int.mul_ediv_cancel_left _ (by omega)]
  have eeh : e / h = k * c := by rw [ee, hk, Int.mul_assoc, Int.mul_ediv_cancel_left _ (by omega)]
  have b0 : 0 < b := by rw [← hb]; exact ediv_pos hn.1 g0 gd
  have p0 : 0 < e / h := ediv_pos hm.1 h0 he1
  refine ⟨⟨Int.mul_pos b0 p0, ?_⟩, ?_, by omega, by omega, hn1, he1, gd, ge⟩
  · rw [eeh]
    rw [egh] at c3
    exact cop_mul (cop_left c1 nd) (cop_mul c3 (cop_left c2 nd))
  · rw [eeh]
    obtain ⟨j, hj⟩ := hn1
    have ej : n' / h = j := by rw [hj, Int.mul_ediv_cancel_left _ (by omega)]
    rw [ej]
    have e3 : n * e + m * d = g * n' := by rw [← hn', ee, ed, Int.mul_add, Int.mul_left_comm n, Int.mul_left_comm m]
    rw [e3, hj, ed, ee, hk]
    simp only [Int.mul_left_comm, Int.mul_comm]
/-- product. -/
theorem mul_rt {n d m e g h : Int} (hn : Rt n d) (hm : Rt m e) (hg : ((Int.gcd n e : Nat) : Int) = g) (hh : ((Int.gcd m d : Nat) : Int) = h) :
    Rt (n / g * (m / h)) (d / h * (e / g)) ∧ n / g * (m / h) * (d * e) = n * m * (d / h * (e / g)) ∧ g ≠ 0 ∧ h ≠ 0 ∧ g ∣ n ∧ g ∣ e ∧ h ∣ m ∧ h ∣ d := by
  have e0 : e ≠ 0 := by have := hm.1; omega
  have d0 : d ≠ 0 := by have := hn.1; omega
  have g0 : 0 < g := by rw [← hg]; exact gcd_pos_right e0
  have h0 : 0 < h := by rw [← hh]; exact gcd_pos_right d0
  have gn : g ∣ n := by rw [← hg]; exact Int.gcd_dvd_left ..
  have ge : g ∣ e := by rw [← hg]; exact Int.gcd_dvd_right ..
  have hm1 : h ∣ m := by rw [← hh]; exact Int.gcd_dvd_left ..
  have hd1 : h ∣ d := by rw [← hh]; exact Int.gcd_dvd_right ..
  have c1 : Cop (n / g) (e / g) := by rw [← hg]; exact cop_parts (by omega)
  have c2 : Cop (m / h) (d / h) := by rw [← hh]; exact cop_parts (by omega)
  have c3 : Cop (n / g) (d / h) := cop_right (cop_left hn.2 (ediv_dvd gn)) (ediv_dvd hd1)
  have c4 : Cop (m / h) (e / g) := cop_right (cop_left hm.2 (ediv_dvd hm1)) (ediv_dvd ge)
  refine ⟨⟨Int.mul_pos (ediv_pos hn.1 h0 hd1) (ediv_pos hm.1 g0 ge), ?_⟩, ?_, by omega, by omega, gn, ge, hm1, hd1⟩
  · exact cop_comm (cop_mul (cop_comm (cop_mul c3 c1)) (cop_comm (cop_mul c2 c4)))
  · obtain ⟨a, rfl⟩ := gn
    obtain ⟨b, rfl⟩ := ge
    obtain ⟨c, rfl⟩ := hm1
    obtain ⟨k, rfl⟩ := hd1
    rw [Int.mul_ediv_cancel_left _ (by omega), Int.mul_ediv_cancel_left _ (by omega), Int.mul_ediv_cancel_left _ (by omega), Int.mul_ediv_cancel_left _ (by omega)]
    simp only [Int.mul_left_comm, Int.mul_comm]
end Go.Proofs.YtoegjibeomhekaaGreat
