/- Decimal digits. -/
import Derived.Test.YtcfncekphdkphaaNum
namespace Go.Proofs.Ytcfncekphdkphaa
set_option linter.unusedSimpArgs false
set_option linter.unusedVariables false
/-- The lowest c digits of N, the highest ahead. -/
def low : Nat → Nat → List Nat
  | 0, _ => []
  | c + 1, N => N / 10 ^ c % 10 :: low c N
theorem low_length (c N : Nat) : (low c N).length = c := by induction c with | zero => rfl | succ c ih => simp [low, ih]
theorem low_le (c N : Nat) : ∀ d ∈ low c N, d ≤ 9 := by
  induction c with
  | zero => intro d hd; cases hd
  | succ c ih =>
    intro d hd
    rcases List.mem_cons.1 hd with rfl | h
    · omega
    · exact ih d h
/-- How many digits N has (0 has none). -/
def ndF : Nat → Nat → Nat
  | 0, _ => 0
  | f + 1, N => if N = 0 then 0 else ndF f (N / 10) + 1
def ndig (N : Nat) : Nat := ndF 400 N
theorem ndF_of : ∀ (f N c : Nat), c ≤ f → N < 10 ^ c → (0 < c → 10 ^ (c - 1) ≤ N) → ndF f N = c
  | 0, N, c, hc, _, _ => by have : c = 0 := by omega
                            subst this; rfl
  | f + 1, N, 0, _, h, _ => by
    have : N = 0 := by simpa using h
    subst this; rfl
  | f + 1, N, c + 1, hc, h1, h2 => by
    have h3 := h2 (by omega)
    rw [Nat.add_sub_cancel] at h3
    have hp : 0 < 10 ^ c := Nat.pow_pos (by decide)
    have hN : N ≠ 0 := by omega
    rw [ndF, if_neg hN, ndF_of f (N / 10) c (by omega) (by rw [Nat.div_lt_iff_lt_mul (by decide), ← Nat.pow_succ]; exact h1) (fun hc0 => by
      obtain ⟨k, rfl⟩ : ∃ k, c = k + 1 := ⟨c - 1, by omega⟩
      rw [Nat.le_div_iff_mul_le (by decide), Nat.add_sub_cancel, ← Nat.pow_succ]; exact h3)]
theorem ndig_of {N c : Nat} (hc : c ≤ 400) (h1 : N < 10 ^ c) (h2 : 0 < c → 10 ^ (c - 1) ≤ N) : ndig N = c := ndF_of 400 N c hc h1 h2
theorem lim_dec : bb ^ 32 ≤ 10 ^ 309 := by decide +kernel
theorem ten_mono {a b : Nat} (h : a ≤ b) : 10 ^ a ≤ 10 ^ b := Nat.pow_le_pow_right (by decide) h
theorem nd_bound {N c : Nat} (hN : N < bb ^ 32) (h : 0 < N / 10 ^ c) : c < 309 := by
  rcases Nat.lt_or_ge c 309 with h1 | h1
  · exact h1
  · have h2 := ten_mono h1
    have h3 := lim_dec
    rw [Nat.div_eq_of_lt (by omega)] at h
    omega
/-- What is left behind c digits more. -/
theorem dec_step (N c : Nat) : N / 10 ^ (c + 1) = N / 10 ^ c / 10 := by rw [Nat.pow_succ, Nat.div_div_eq_div_mul]
theorem dec_nine (N c : Nat) : N / 10 ^ (c + 9) = N / 10 ^ c / 1000000000 := by rw [Nat.pow_add, Nat.div_div_eq_div_mul]
/-- A group's digit i: R is what was left ahead of the group. -/
theorem grp (R i : Nat) (hi : i ≤ 9) : R / 10 ^ i = R / 1000000000 * 10 ^ (9 - i) + R % 1000000000 / 10 ^ i := by
  have h : R = R % 1000000000 + 10 ^ i * (R / 1000000000 * 10 ^ (9 - i)) := by
    have h1 := Nat.mod_add_div R 1000000000
    have h2 : 10 ^ i * (R / 1000000000 * 10 ^ (9 - i)) = 1000000000 * (R / 1000000000) := by
      rw [Nat.mul_comm (R / _), ← Nat.mul_assoc, ← Nat.pow_add, show i + (9 - i) = 9 by omega]
    omega
  conv => lhs; rw [h, Nat.add_mul_div_left _ _ (Nat.pow_pos (by decide))]
  rw [Nat.add_comm]
theorem grp_mod (R i : Nat) (hi : i < 9) : R / 10 ^ i % 10 = R % 1000000000 / 10 ^ i % 10 := by
  rw [grp R i (by omega), show 9 - i = 8 - i + 1 by omega, Nat.pow_succ, ← Nat.mul_assoc, Nat.add_comm, Nat.add_mul_mod_self_right]
theorem grp_zero (R i : Nat) (hi : i ≤ 9) : R / 10 ^ i = 0 ↔ R / 1000000000 = 0 ∧ R % 1000000000 / 10 ^ i = 0 := by
  rw [grp R i hi, Nat.add_eq_zero_iff, Nat.mul_eq_zero]
  have : (10 : Nat) ^ (9 - i) ≠ 0 := Nat.ne_of_gt (Nat.pow_pos (by decide))
  simp [this]
/-- The number that digits stand for. -/
def val (l : List Nat) : Nat := l.foldl (fun a d => a * 10 + d) 0
theorem foldl_val : ∀ (l : List Nat) (a : Nat), l.foldl (fun a d => a * 10 + d) a = a * 10 ^ l.length + val l
  | [], a => by simp [val]
  | d :: l, a => by
    have e : val (d :: l) = (0 * 10 + d) * 10 ^ l.length + val l := foldl_val l _
    rw [List.foldl_cons, foldl_val l, e, List.length_cons, Nat.pow_succ, Nat.add_mul, Nat.mul_assoc, Nat.mul_comm 10, Nat.zero_mul, Nat.zero_add, Nat.add_assoc]
theorem val_append (l m : List Nat) : val (l ++ m) = val l * 10 ^ m.length + val m := by
  rw [val, List.foldl_append, foldl_val m]; rfl
theorem val_snoc (l : List Nat) (d : Nat) : val (l ++ [d]) = val l * 10 + d := by rw [val_append]; simp [val]
theorem val_nil : val [] = 0 := rfl
theorem val_lt : ∀ (l : List Nat), (∀ d ∈ l, d ≤ 9) → val l < 10 ^ l.length
  | [], _ => by decide
  | d :: l, h => by
    have h1 := val_lt l fun x hx => h x (List.mem_cons_of_mem _ hx)
    have h2 := h d (List.mem_cons_self ..)
    have h3 := val_append [d] l
    rw [List.singleton_append, show val [d] = d by simp [val]] at h3
    rw [h3, List.length_cons, Nat.pow_succ]
    have := Nat.mul_le_mul_right (10 ^ l.length) h2
    omega
theorem val_low : ∀ (c N : Nat), val (low c N) = N % 10 ^ c
  | 0, N => by simp [low, val, Nat.mod_one]
  | c + 1, N => by
    have h3 := val_append [N / 10 ^ c % 10] (low c N)
    rw [List.singleton_append, show val [N / 10 ^ c % 10] = N / 10 ^ c % 10 by simp [val], low_length, val_low c N] at h3
    rw [low, h3, Nat.pow_succ, Nat.mod_mul, Nat.mul_comm, Nat.add_comm]
end Go.Proofs.Ytcfncekphdkphaa
