/- Plain arithmetic: a number below 2^1024 in 32 words of 32 bits. -/
namespace Go.Proofs.Ytcfncekphdkphaa

/-- What a word has above it: 2 to the power of 32. -/
def bb : Nat := 4294967296
theorem bb_pos : 0 < bb := by decide
theorem bb_eq : bb = 4294967296 := rfl
theorem bp_pos (n : Nat) : 0 < bb ^ n := Nat.pow_pos bb_pos
theorem bp_succ (n : Nat) : bb ^ (n + 1) = bb ^ n * bb := Nat.pow_succ ..
/-- 2 to the power of 1024. -/
def lim : Nat := bb ^ 32
/-- Word i of N. -/
def dig (N i : Nat) : Nat := N / bb ^ i % bb
theorem dig_lt (N i : Nat) : dig N i < bb := Nat.mod_lt _ bb_pos
theorem dig_le (N i : Nat) : dig N i ≤ 4294967295 := by have := dig_lt N i; rw [bb_eq] at this; omega
/-- N's lowest i words and its word i are its lowest i + 1 words. -/
theorem mod_succ (N i : Nat) : N % bb ^ (i + 1) = N % bb ^ i + bb ^ i * dig N i := by
  unfold dig; rw [bp_succ, Nat.mod_mul]
theorem dig_of_lt {N i : Nat} (h : N < bb ^ i) : dig N i = 0 := by
  unfold dig; rw [Nat.div_eq_of_lt h]; rfl
theorem lt_of_dig {N i : Nat} (h : N < bb ^ (i + 1)) (h0 : dig N i = 0) : N < bb ^ i := by
  have := mod_succ N i
  rw [Nat.mod_eq_of_lt h, h0, Nat.mul_zero, Nat.add_zero] at this
  rw [this]; exact Nat.mod_lt _ (bp_pos i)
theorem le_of_dig {N i : Nat} (h0 : dig N i ≠ 0) : bb ^ i ≤ N := by
  rcases Nat.lt_or_ge N (bb ^ i) with h | h
  · exact absurd (dig_of_lt h) h0
  · exact h
/-- How many words N has. -/
def nw (N : Nat) : Nat := if N = 0 then 0 else N.log2 / 32 + 1
theorem bp_two (n : Nat) : bb ^ n = 2 ^ (32 * n) := by rw [bb_eq, Nat.pow_mul]
theorem nw_lt (N : Nat) : N < bb ^ nw N := by
  unfold nw
  split
  · rename_i h; rw [h]; exact bp_pos _
  · rename_i h
    rw [bp_two]
    have h1 : N < 2 ^ (N.log2 + 1) := Nat.lt_log2_self
    exact Nat.lt_of_lt_of_le h1 (Nat.pow_le_pow_right (by decide) (by omega))
theorem nw_le (N : Nat) (h : N ≠ 0) : bb ^ (nw N - 1) ≤ N := by
  unfold nw
  rw [if_neg h, bp_two]
  exact Nat.le_trans (Nat.pow_le_pow_right (by decide) (by omega)) (Nat.log2_self_le h)
theorem bp_mono {a b : Nat} (h : a ≤ b) : bb ^ a ≤ bb ^ b := Nat.pow_le_pow_right bb_pos h
theorem bp_lt {a b : Nat} (h : bb ^ a < bb ^ b) : a < b := by
  rcases Nat.lt_or_ge a b with h1 | h1
  · exact h1
  · have := bp_mono h1; omega
theorem nw_of {N n : Nat} (h : N < bb ^ n) (h1 : 0 < n → bb ^ (n - 1) ≤ N) : nw N = n := by
  by_cases h0 : N = 0
  · have : n = 0 := by
      rcases Nat.eq_zero_or_pos n with h2 | h2
      · exact h2
      · have := h1 h2; have := bp_pos (n - 1); omega
    rw [this, h0]; rfl
  · have a := nw_lt N
    have b := nw_le N h0
    have hn : 0 < n := by
      rcases Nat.eq_zero_or_pos n with h2 | h2
      · rw [h2] at h; simp at h; omega
      · exact h2
    have hp : 0 < nw N := by unfold nw; rw [if_neg h0]; omega
    have c := bp_lt (Nat.lt_of_le_of_lt b h)
    have d := bp_lt (Nat.lt_of_le_of_lt (h1 hn) a)
    omega
theorem nw_le_of {N n : Nat} (h : N < bb ^ n) : nw N ≤ n := by
  by_cases h0 : N = 0
  · rw [h0]; exact Nat.zero_le _
  · have b := nw_le N h0
    have c := bp_lt (Nat.lt_of_le_of_lt b h)
    omega
theorem nw_zero {N : Nat} : nw N = 0 ↔ N = 0 := by
  unfold nw; split <;> simp_all
/-- Word k of a number that has none from k on is set. -/
theorem dig_add_same {X k v : Nat} (hX : X < bb ^ k) (hv : v < bb) : dig (X + bb ^ k * v) k = v := by
  unfold dig
  rw [Nat.add_mul_div_left _ _ (bp_pos k), Nat.div_eq_of_lt hX, Nat.zero_add, Nat.mod_eq_of_lt hv]
theorem dig_add_low {X k v i : Nat} (hi : i < k) : dig (X + bb ^ k * v) i = dig X i := by
  unfold dig
  obtain ⟨j, rfl⟩ : ∃ j, k = i + (j + 1) := ⟨k - i - 1, by omega⟩
  rw [Nat.pow_add, Nat.mul_assoc, Nat.add_mul_div_left _ _ (bp_pos i), bp_succ, Nat.mul_comm (bb ^ j) bb, Nat.mul_assoc, Nat.add_mul_mod_self_left]
theorem dig_add_high {X k v i : Nat} (hX : X < bb ^ k) (hv : v < bb) (hi : k < i) : dig (X + bb ^ k * v) i = 0 := by
  refine dig_of_lt (Nat.lt_of_lt_of_le ?_ (bp_mono hi))
  rw [bp_succ]
  calc X + bb ^ k * v < bb ^ k + bb ^ k * v := by omega
    _ = bb ^ k * (v + 1) := by rw [Nat.mul_add, Nat.mul_one, Nat.add_comm]
    _ ≤ bb ^ k * bb := Nat.mul_le_mul_left _ hv
theorem split_mod {r p s B : Nat} (hr : r < p) : (r + p * s) % (p * B) = r + p * (s % B) := by
  rw [Nat.mod_mul, Nat.add_mul_mod_self_left, Nat.mod_eq_of_lt hr, Nat.add_mul_div_left _ _ (by omega), Nat.div_eq_of_lt hr, Nat.zero_add]
theorem split_div {r p s B : Nat} (hr : r < p) : (r + p * s) / (p * B) = s / B := by
  rw [← Nat.div_div_eq_div_mul, Nat.add_mul_div_left _ _ (by omega), Nat.div_eq_of_lt hr, Nat.zero_add]
/-- The lowest k words' sum, and what it carries. -/
def sm (N M k : Nat) : Nat := (N % bb ^ k + M % bb ^ k) % bb ^ k
def cy (N M k : Nat) : Nat := (N % bb ^ k + M % bb ^ k) / bb ^ k
theorem sm_lt (N M k : Nat) : sm N M k < bb ^ k := Nat.mod_lt _ (bp_pos k)
theorem cy_le (N M k : Nat) : cy N M k ≤ 1 := by
  unfold cy
  have h1 := Nat.mod_lt N (bp_pos k); have h2 := Nat.mod_lt M (bp_pos k)
  have : (N % bb ^ k + M % bb ^ k) / bb ^ k < 2 := Nat.div_lt_of_lt_mul (by omega)
  omega
theorem sum_split (N M k : Nat) : N % bb ^ (k + 1) + M % bb ^ (k + 1) = sm N M k + bb ^ k * (dig N k + dig M k + cy N M k) := by
  have h := Nat.mod_add_div (N % bb ^ k + M % bb ^ k) (bb ^ k)
  unfold sm cy
  rw [mod_succ, mod_succ, Nat.mul_add, Nat.mul_add]
  omega
theorem sm_succ (N M k : Nat) : sm N M (k + 1) = sm N M k + bb ^ k * ((dig N k + dig M k + cy N M k) % bb) := by
  rw [sm, sum_split, bp_succ, split_mod (sm_lt N M k)]
theorem cy_succ (N M k : Nat) : cy N M (k + 1) = (dig N k + dig M k + cy N M k) / bb := by
  rw [cy, sum_split, bp_succ, split_div (sm_lt N M k)]
theorem sm_zero (N M : Nat) : sm N M 0 = 0 := by simp [sm, Nat.mod_one]
theorem cy_zero (N M : Nat) : cy N M 0 = 0 := by simp [cy, Nat.mod_one]
theorem sm_all {N M k : Nat} (hN : N < bb ^ k) (hM : M < bb ^ k) : sm N M k = (N + M) % bb ^ k := by rw [sm, Nat.mod_eq_of_lt hN, Nat.mod_eq_of_lt hM]
theorem cy_all {N M k : Nat} (hN : N < bb ^ k) (hM : M < bb ^ k) : cy N M k = 0 ↔ N + M < bb ^ k := by
  rw [cy, Nat.mod_eq_of_lt hN, Nat.mod_eq_of_lt hM, Nat.div_eq_zero_iff]
  have := bp_pos k
  omega
/-- The lowest k words' difference, and what it borrows. -/
def df (N M k : Nat) : Nat := (N % bb ^ k + bb ^ k - M % bb ^ k) % bb ^ k
def br (N M k : Nat) : Nat := if N % bb ^ k < M % bb ^ k then 1 else 0
theorem df_lt (N M k : Nat) : df N M k < bb ^ k := Nat.mod_lt _ (bp_pos k)
theorem br_le (N M k : Nat) : br N M k ≤ 1 := by unfold br; split <;> omega
/-- N's lowest words and what was borrowed are M's and the difference. -/
theorem df_eq (N M k : Nat) : N % bb ^ k + bb ^ k * br N M k = M % bb ^ k + df N M k := by
  have h1 := Nat.mod_lt N (bp_pos k); have h2 := Nat.mod_lt M (bp_pos k)
  unfold df br
  have hp := bp_pos k
  generalize N % bb ^ k = a at *
  generalize M % bb ^ k = b at *
  generalize bb ^ k = p at *
  split
  · rw [Nat.mod_eq_of_lt (by omega)]; omega
  · rw [show a + p - b = (a - b) + p by omega, Nat.add_mod_right, Nat.mod_eq_of_lt (by omega)]; omega
theorem df_uniq {N M k d c : Nat} (hd : d < bb ^ k) (h : N % bb ^ k + bb ^ k * c = M % bb ^ k + d) : df N M k = d ∧ br N M k = c := by
  have h0 := df_eq N M k
  have h1 := df_lt N M k
  have hp := bp_pos k
  have h2 := Nat.mod_lt N hp
  have h3 := Nat.mod_lt M hp
  have hb := br_le N M k
  generalize df N M k = x at *
  generalize br N M k = y at *
  generalize N % bb ^ k = a at *
  generalize M % bb ^ k = b at *
  generalize bb ^ k = p at *
  have hc : c ≤ 1 := by
    rcases Nat.lt_or_ge 1 c with h4 | h4
    · have := Nat.mul_le_mul_left p h4; omega
    · exact h4
  rcases Nat.le_one_iff_eq_zero_or_eq_one.1 hc with rfl | rfl <;> rcases Nat.le_one_iff_eq_zero_or_eq_one.1 hb with rfl | rfl <;> omega
/-- One word more: d and c are what a word's difference leaves and borrows. -/
theorem df_step {N M k d c : Nat} (hd : d < bb) (h : dig N k + bb * c = dig M k + br N M k + d) : df N M (k + 1) = df N M k + bb ^ k * d ∧ br N M (k + 1) = c := by
  have h0 := df_eq N M k
  have h1 := df_lt N M k
  refine df_uniq ?_ ?_
  · rw [bp_succ]
    calc df N M k + bb ^ k * d < bb ^ k + bb ^ k * d := by omega
      _ = bb ^ k * (d + 1) := by rw [Nat.mul_add, Nat.mul_one, Nat.add_comm]
      _ ≤ bb ^ k * bb := Nat.mul_le_mul_left _ hd
  · have h2 : bb ^ k * dig N k + bb ^ k * (bb * c) = bb ^ k * dig M k + bb ^ k * br N M k + bb ^ k * d := by
      rw [← Nat.mul_add, ← Nat.mul_add, ← Nat.mul_add, h]
    rw [mod_succ, mod_succ, bp_succ, Nat.mul_assoc]
    omega
theorem df_zero (N M : Nat) : df N M 0 = 0 := by simp [df, Nat.mod_one]
theorem br_zero (N M : Nat) : br N M 0 = 0 := by simp [br, Nat.mod_one]
theorem df_all {N M k : Nat} (hN : N < bb ^ k) (hM : M < bb ^ k) (h : M ≤ N) : df N M k = N - M ∧ br N M k = 0 := by
  refine df_uniq (by omega) ?_
  rw [Nat.mod_eq_of_lt hN, Nat.mod_eq_of_lt hM]; omega
/-- Order of numbers: -1, 0, 1. -/
def cmpv (N M : Nat) : Int := if N < M then -1 else if M < N then 1 else 0
theorem div_split (N k : Nat) : N / bb ^ k = dig N k + bb * (N / bb ^ (k + 1)) := by
  unfold dig
  rw [bp_succ, ← Nat.div_div_eq_div_mul]
  exact (Nat.mod_add_div _ _).symm
theorem lt_of_word {N M k : Nat} (h : N / bb ^ (k + 1) = M / bb ^ (k + 1)) (hd : dig N k < dig M k) : N < M := by
  have h1 : N / bb ^ k < M / bb ^ k := by rw [div_split N, div_split M, h]; omega
  rcases Nat.lt_or_ge N M with h2 | h2
  · exact h2
  · have := Nat.div_le_div_right (c := bb ^ k) h2; omega
theorem eq_of_word {N M k : Nat} (h : N / bb ^ (k + 1) = M / bb ^ (k + 1)) (hd : dig N k = dig M k) : N / bb ^ k = M / bb ^ k := by
  rw [div_split N, div_split M, h, hd]
/-- Word k of Y is set to v. -/
def put (Y k v : Nat) : Nat := Y % bb ^ k + bb ^ k * (v + bb * (Y / bb ^ (k + 1)))
theorem dig_mod_low {Y k i : Nat} (hi : i < k) : dig (Y % bb ^ k) i = dig Y i := by
  have h := dig_add_low (X := Y % bb ^ k) (v := Y / bb ^ k) hi
  rw [Nat.mod_add_div] at h
  exact h.symm
theorem low_lt {X k v : Nat} (hX : X < bb ^ k) (hv : v < bb) : X + bb ^ k * v < bb ^ (k + 1) := by
  rw [bp_succ]
  calc X + bb ^ k * v < bb ^ k + bb ^ k * v := by omega
    _ = bb ^ k * (v + 1) := by rw [Nat.mul_add, Nat.mul_one, Nat.add_comm]
    _ ≤ bb ^ k * bb := Nat.mul_le_mul_left _ hv
theorem put_high {Y k v : Nat} (hv : v < bb) : put Y k v / bb ^ (k + 1) = Y / bb ^ (k + 1) := by
  have h := low_lt (Nat.mod_lt Y (bp_pos k)) hv
  rw [put, Nat.mul_add, ← Nat.add_assoc, ← Nat.mul_assoc, ← bp_succ, Nat.add_mul_div_left _ _ (bp_pos (k + 1)), Nat.div_eq_of_lt h, Nat.zero_add]
theorem dig_put_same {Y k v : Nat} (hv : v < bb) : dig (put Y k v) k = v := by
  unfold dig put
  rw [Nat.add_mul_div_left _ _ (bp_pos k), Nat.div_eq_of_lt (Nat.mod_lt _ (bp_pos k)), Nat.zero_add, Nat.add_mul_mod_self_left, Nat.mod_eq_of_lt hv]
theorem dig_put_low {Y k v i : Nat} (hi : i < k) : dig (put Y k v) i = dig Y i := by
  rw [put, dig_add_low hi, dig_mod_low hi]
theorem dig_put_high {Y k v i : Nat} (hv : v < bb) (hi : k < i) : dig (put Y k v) i = dig Y i := by
  obtain ⟨j, rfl⟩ : ∃ j, i = (k + 1) + j := ⟨i - (k + 1), by omega⟩
  unfold dig
  rw [Nat.pow_add, ← Nat.div_div_eq_div_mul, ← Nat.div_div_eq_div_mul, put_high hv]
/-- One word more of a product: what stands in the row, what is carried. -/
def pq (X a M i j : Nat) : Nat := X % bb ^ (i + j) + bb ^ i * (a * (M % bb ^ j))
def pl (X a M i j : Nat) : Nat := pq X a M i j % bb ^ (i + j) + bb ^ (i + j) * (X / bb ^ (i + j))
def pc (X a M i j : Nat) : Nat := pq X a M i j / bb ^ (i + j)
theorem pq_zero (X a M i : Nat) : pq X a M i 0 = X % bb ^ i := by simp [pq, Nat.mod_one]
theorem pl_zero (X a M i : Nat) : pl X a M i 0 = X := by
  rw [pl, pq_zero, Nat.add_zero, Nat.mod_mod, Nat.mod_add_div]
theorem pc_zero (X a M i : Nat) : pc X a M i 0 = 0 := by
  rw [pc, pq_zero, Nat.add_zero, Nat.div_eq_of_lt (Nat.mod_lt _ (bp_pos i))]
theorem pq_lt {X a M i j : Nat} (ha : a < bb) : pq X a M i j < bb ^ (i + j + 1) := by
  have h1 := Nat.mod_lt X (bp_pos (i + j))
  have h2 := Nat.mod_lt M (bp_pos j)
  have h3 : a * (M % bb ^ j) ≤ (bb - 1) * bb ^ j := Nat.mul_le_mul (by omega) (by omega)
  have h4 := Nat.mul_le_mul_left (bb ^ i) h3
  have h5 : bb ^ i * ((bb - 1) * bb ^ j) = (bb - 1) * bb ^ (i + j) := by
    rw [Nat.pow_add, ← Nat.mul_assoc, Nat.mul_comm (bb ^ i), Nat.mul_assoc]
  have h6 : (bb - 1) * bb ^ (i + j) + bb ^ (i + j) = bb ^ (i + j + 1) := by
    rw [bp_succ, Nat.sub_mul, Nat.one_mul, Nat.mul_comm (bb ^ (i + j)) bb]
    have := Nat.mul_le_mul_right (bb ^ (i + j)) (show 1 ≤ bb by decide)
    omega
  unfold pq
  omega
theorem pc_lt {X a M i j : Nat} (ha : a < bb) : pc X a M i j < bb := by
  have := pq_lt (X := X) (M := M) (i := i) (j := j) ha
  rw [bp_succ] at this
  exact Nat.div_lt_of_lt_mul this
theorem dig_pl (X a M i j : Nat) : dig (pl X a M i j) (i + j) = dig X (i + j) := by
  unfold dig pl
  rw [Nat.add_mul_div_left _ _ (bp_pos _), Nat.div_eq_of_lt (Nat.mod_lt _ (bp_pos _)), Nat.zero_add]
theorem pq_succ (X a M i j : Nat) : pq X a M i (j + 1) = pq X a M i j % bb ^ (i + j) + bb ^ (i + j) * (a * dig M j + dig X (i + j) + pc X a M i j) := by
  have h := Nat.mod_add_div (pq X a M i j) (bb ^ (i + j))
  have h1 : pq X a M i (j + 1) = pq X a M i j + bb ^ (i + j) * (a * dig M j + dig X (i + j)) := by
    unfold pq
    rw [← Nat.add_assoc i j 1, mod_succ X (i + j), mod_succ M j, Nat.mul_add a, Nat.mul_add (bb ^ i), Nat.mul_add (bb ^ (i + j)), Nat.pow_add]
    have : bb ^ i * (a * (bb ^ j * dig M j)) = bb ^ i * bb ^ j * (a * dig M j) := by
      rw [Nat.mul_assoc (bb ^ i), ← Nat.mul_assoc a, Nat.mul_comm a, Nat.mul_assoc (bb ^ j)]
    omega
  have h2 : bb ^ (i + j) * (a * dig M j + dig X (i + j) + pc X a M i j) = bb ^ (i + j) * (a * dig M j + dig X (i + j)) + bb ^ (i + j) * (pq X a M i j / bb ^ (i + j)) := by
    rw [← Nat.mul_add]; rfl
  omega
theorem pc_succ (X a M i j : Nat) : pc X a M i (j + 1) = (a * dig M j + dig X (i + j) + pc X a M i j) / bb := by
  rw [pc, pq_succ, ← Nat.add_assoc i j 1, bp_succ, split_div (Nat.mod_lt _ (bp_pos _))]
theorem pl_succ (X a M i j : Nat) : pl X a M i (j + 1) = put (pl X a M i j) (i + j) ((a * dig M j + dig X (i + j) + pc X a M i j) % bb) := by
  have hp := bp_pos (i + j)
  have hl := Nat.mod_lt (pq X a M i j) hp
  have e1 : pl X a M i j % bb ^ (i + j) = pq X a M i j % bb ^ (i + j) := by
    rw [pl, Nat.add_mul_mod_self_left, Nat.mod_mod]
  have e2 : pl X a M i j / bb ^ (i + j + 1) = X / bb ^ (i + j + 1) := by
    rw [bp_succ, ← Nat.div_div_eq_div_mul, ← Nat.div_div_eq_div_mul, pl, Nat.add_mul_div_left _ _ hp, Nat.div_eq_of_lt hl, Nat.zero_add]
  rw [put, e1, e2, pl, pq_succ, ← Nat.add_assoc i j 1, bp_succ, split_mod hl, Nat.mul_add (bb ^ (i + j)), Nat.mul_assoc, Nat.add_assoc]
/-- The row behind i words. -/
def px (N M i : Nat) : Nat := N % bb ^ i * M
theorem px_zero (N M : Nat) : px N M 0 = 0 := by simp [px, Nat.mod_one]
theorem px_lt {N M i m : Nat} (hM : M < bb ^ m) : px N M i < bb ^ (i + m) := by
  unfold px
  rw [Nat.pow_add]
  rcases Nat.eq_zero_or_pos M with h | h
  · subst h; rw [Nat.mul_zero]; exact Nat.mul_pos (bp_pos i) (bp_pos m)
  · exact Nat.lt_of_lt_of_le (Nat.mul_lt_mul_of_pos_right (Nat.mod_lt N (bp_pos i)) h) (Nat.mul_le_mul_left _ (Nat.le_of_lt hM))
theorem pq_all {N M i m : Nat} (hM : M < bb ^ m) : pq (px N M i) (dig N i) M i m = px N M (i + 1) := by
  rw [pq, Nat.mod_eq_of_lt (px_lt hM), Nat.mod_eq_of_lt hM, px, px, mod_succ, Nat.add_mul, Nat.mul_assoc]
theorem pl_all {N M i m : Nat} (hM : M < bb ^ m) : pl (px N M i) (dig N i) M i m = px N M (i + 1) % bb ^ (i + m) := by
  rw [pl, pq_all hM, Nat.div_eq_of_lt (px_lt hM), Nat.mul_zero, Nat.add_zero]
theorem pc_all {N M i m : Nat} (hM : M < bb ^ m) : pc (px N M i) (dig N i) M i m = px N M (i + 1) / bb ^ (i + m) := by
  rw [pc, pq_all hM]
theorem px_all {N M i : Nat} (h : N < bb ^ i) : px N M i = N * M := by rw [px, Nat.mod_eq_of_lt h]
theorem px_le (N M i : Nat) : px N M i ≤ N * M := Nat.mul_le_mul_right M (Nat.mod_le _ _)
theorem mul_over {N M : Nat} (h : 33 < nw N + nw M) (hN : nw N ≤ 32) (hM : nw M ≤ 32) : ¬ N * M < bb ^ 32 := by
  have hN0 : N ≠ 0 := by intro e; subst e; have : nw 0 = 0 := rfl; omega
  have hM0 : M ≠ 0 := by intro e; subst e; have : nw 0 = 0 := rfl; omega
  have h1 := Nat.mul_le_mul (nw_le N hN0) (nw_le M hM0)
  rw [← Nat.pow_add] at h1
  have h2 := bp_mono (show 32 ≤ nw N - 1 + (nw M - 1) by omega)
  omega
theorem dig_shift (Y q i : Nat) : dig (Y * bb ^ q) (q + i) = dig Y i := by
  unfold dig
  rw [Nat.pow_add, Nat.mul_comm (bb ^ q), Nat.mul_div_mul_right _ _ (bp_pos q)]
theorem shift_words (N q r : Nat) : N * 2 ^ (32 * q + r) = N * 2 ^ r * bb ^ q := by
  rw [bp_two, Nat.pow_add, Nat.mul_assoc, Nat.mul_comm (2 ^ r)]
theorem bb_split {r : Nat} (h : r < 32) : bb = 2 ^ r * 2 ^ (32 - r) := by
  rw [← Nat.pow_add, show r + (32 - r) = 32 by omega]; rfl
theorem dig_pow_zero (N r : Nat) : dig (N * 2 ^ r) 0 = dig N 0 * 2 ^ r % bb := by
  simp [dig]
/-- Word j + 1 of a number that is shifted by r bits. -/
theorem dig_pow_succ (N j : Nat) {r : Nat} (h : r < 32) : dig (N * 2 ^ r) (j + 1) = (dig N (j + 1) * 2 ^ r + dig N j * 2 ^ r / bb) % bb := by
  have hp := bp_pos j
  have hr : 0 < 2 ^ r := Nat.two_pow_pos r
  have hN := Nat.mod_add_div N (bb ^ j)
  have e1 : N * 2 ^ r / bb ^ j = N / bb ^ j * 2 ^ r + N % bb ^ j * 2 ^ r / bb ^ j := by
    conv => lhs; rw [← hN, Nat.add_mul, Nat.mul_assoc, Nat.add_mul_div_left _ _ hp]
    rw [Nat.add_comm]
  have he : N % bb ^ j * 2 ^ r / bb ^ j < 2 ^ r := by
    rw [Nat.div_lt_iff_lt_mul hp, Nat.mul_comm]
    exact Nat.mul_lt_mul_of_pos_left (Nat.mod_lt _ hp) hr
  generalize N % bb ^ j * 2 ^ r / bb ^ j = e at *
  have e2 : N * 2 ^ r / bb ^ (j + 1) = N / bb ^ (j + 1) * 2 ^ r + dig N j * 2 ^ r / bb := by
    rw [bp_succ, ← Nat.div_div_eq_div_mul, e1, div_split N j, Nat.add_mul, Nat.mul_assoc, Nat.add_right_comm, Nat.add_mul_div_left _ _ bb_pos, Nat.add_comm, bp_succ]
    congr 1
    rw [bb_split h, ← Nat.div_div_eq_div_mul, ← Nat.div_div_eq_div_mul, Nat.mul_comm (dig N j), Nat.mul_add_div hr, Nat.div_eq_of_lt he, Nat.add_zero, Nat.mul_div_cancel_left _ hr]
  unfold dig at *
  rw [e2, Nat.add_mod, Nat.mul_mod, ← Nat.mod_mod (N / bb ^ (j + 1)) bb]
  rw [← Nat.mul_mod, ← Nat.add_mod, Nat.mod_mod]
/-- One word more of a quotient by m. -/
def wquo (N m k : Nat) : Nat := N / bb ^ k / m * bb ^ k
def wrem (N m k : Nat) : Nat := N / bb ^ k % m
theorem wr_lt {N m k : Nat} (hm : 0 < m) : wrem N m k < m := Nat.mod_lt _ hm
theorem w_split (N m k : Nat) : N / bb ^ k = m * (N / bb ^ (k + 1) / m) * bb + (dig N k + bb * wrem N m (k + 1)) := by
  have h := Nat.mod_add_div (N / bb ^ (k + 1)) m
  rw [div_split N k]
  unfold wrem
  conv => lhs; rw [← h, Nat.mul_add]
  rw [Nat.mul_comm bb (m * _)]
  omega
theorem wr_step {N m k : Nat} : wrem N m k = (dig N k + bb * wrem N m (k + 1)) % m := by
  conv => lhs; rw [wrem, w_split N m k, Nat.mul_assoc, Nat.mul_add_mod]
theorem wq_step {N m k : Nat} (hm : 0 < m) : N / bb ^ k / m = N / bb ^ (k + 1) / m * bb + (dig N k + bb * wrem N m (k + 1)) / m := by
  conv => lhs; rw [w_split N m k, Nat.mul_assoc, Nat.mul_add_div hm]
theorem w_lt {N m k : Nat} (hm : 0 < m) : (dig N k + bb * wrem N m (k + 1)) / m < bb := by
  have h1 := wr_lt (N := N) (k := k + 1) hm
  have h2 := dig_lt N k
  rw [Nat.div_lt_iff_lt_mul hm]
  have h3 := Nat.mul_le_mul_left bb (Nat.succ_le_of_lt h1)
  rw [Nat.mul_succ] at h3
  omega
theorem wq_put {N m k : Nat} (hm : 0 < m) : wquo N m k = put (wquo N m (k + 1)) k ((dig N k + bb * wrem N m (k + 1)) / m) := by
  have h1 : wquo N m (k + 1) % bb ^ k = 0 := by rw [wquo, bp_succ, Nat.mul_comm (bb ^ k), ← Nat.mul_assoc, Nat.mul_mod_left]
  have h2 : wquo N m (k + 1) / bb ^ (k + 1) = N / bb ^ (k + 1) / m := by rw [wquo, Nat.mul_div_cancel _ (bp_pos _)]
  rw [put, h1, h2, Nat.zero_add, wquo, wq_step hm, Nat.mul_comm (bb ^ k), Nat.mul_comm bb (N / bb ^ (k + 1) / m), Nat.add_comm]
theorem wq_zero (N m : Nat) : wquo N m 0 = N / m := by simp [wquo]
theorem wr_zero (N m : Nat) : wrem N m 0 = N % m := by simp [wrem]
theorem wq_top {N m k : Nat} (h : N < bb ^ k) : wquo N m k = 0 := by rw [wquo, Nat.div_eq_of_lt h, Nat.zero_div, Nat.zero_mul]
theorem wr_top {N m k : Nat} (h : N < bb ^ k) : wrem N m k = 0 := by rw [wrem, Nat.div_eq_of_lt h, Nat.zero_mod]
/-- The lowest k words of a number times m and c. -/
def tq (N m c k : Nat) : Nat := N % bb ^ k * m + c
def tl (N m c k : Nat) : Nat := tq N m c k % bb ^ k + bb ^ k * (N / bb ^ k)
def tc (N m c k : Nat) : Nat := tq N m c k / bb ^ k
theorem tl_zero (N m c : Nat) : tl N m c 0 = N := by simp [tl, Nat.mod_one]
theorem tc_zero (N m c : Nat) : tc N m c 0 = c := by simp [tc, tq, Nat.mod_one]
theorem tc_lt {N m c k : Nat} (hm : m < bb) (hc : c < bb) : tc N m c k < bb := by
  have h1 := Nat.mod_lt N (bp_pos k)
  have h2 : N % bb ^ k * m ≤ (bb ^ k - 1) * (bb - 1) := Nat.mul_le_mul (by omega) (by omega)
  have h3 : (bb ^ k - 1) * (bb - 1) + (bb - 1) = bb ^ k * (bb - 1) := by
    rw [Nat.sub_mul, Nat.one_mul]
    have := Nat.mul_le_mul_right (bb - 1) (bp_pos k)
    omega
  have h4 : bb ^ k * (bb - 1) + bb ^ k = bb ^ k * bb := by
    rw [Nat.mul_sub, Nat.mul_one]
    have := Nat.mul_le_mul_left (bb ^ k) (show 1 ≤ bb by decide)
    omega
  have hp := bp_pos k
  unfold tc tq
  exact Nat.div_lt_of_lt_mul (by omega)
theorem tq_succ (N m c k : Nat) : tq N m c (k + 1) = tq N m c k % bb ^ k + bb ^ k * (dig N k * m + tc N m c k) := by
  have h := Nat.mod_add_div (tq N m c k) (bb ^ k)
  have h1 : tq N m c (k + 1) = tq N m c k + bb ^ k * (dig N k * m) := by
    unfold tq
    rw [mod_succ, Nat.add_mul, Nat.mul_assoc]; omega
  rw [Nat.mul_add]
  unfold tc
  omega
theorem tc_succ (N m c k : Nat) : tc N m c (k + 1) = (dig N k * m + tc N m c k) / bb := by
  rw [tc, tq_succ, bp_succ, split_div (Nat.mod_lt _ (bp_pos _))]
theorem tl_succ (N m c k : Nat) : tl N m c (k + 1) = put (tl N m c k) k ((dig N k * m + tc N m c k) % bb) := by
  have hl := Nat.mod_lt (tq N m c k) (bp_pos k)
  have e1 : tl N m c k % bb ^ k = tq N m c k % bb ^ k := by rw [tl, Nat.add_mul_mod_self_left, Nat.mod_mod]
  have e2 : tl N m c k / bb ^ (k + 1) = N / bb ^ (k + 1) := by
    rw [bp_succ, ← Nat.div_div_eq_div_mul, ← Nat.div_div_eq_div_mul, tl, Nat.add_mul_div_left _ _ (bp_pos k), Nat.div_eq_of_lt hl, Nat.zero_add]
  rw [put, e1, e2, tl, tq_succ, bp_succ, split_mod hl, Nat.mul_add (bb ^ k), Nat.mul_assoc, Nat.add_assoc]
theorem dig_tl (N m c k : Nat) : dig (tl N m c k) k = dig N k := by
  unfold dig tl
  rw [Nat.add_mul_div_left _ _ (bp_pos _), Nat.div_eq_of_lt (Nat.mod_lt _ (bp_pos _)), Nat.zero_add]
theorem tl_all {N m c k : Nat} (hN : N < bb ^ k) : tl N m c k = (N * m + c) % bb ^ k := by
  rw [tl, tq, Nat.mod_eq_of_lt hN, Nat.div_eq_of_lt hN, Nat.mul_zero, Nat.add_zero]
theorem tc_all {N m c k : Nat} (hN : N < bb ^ k) : tc N m c k = 0 ↔ N * m + c < bb ^ k := by
  rw [tc, tq, Nat.mod_eq_of_lt hN, Nat.div_eq_zero_iff]
  have := bp_pos k
  omega
end Go.Proofs.Ytcfncekphdkphaa
