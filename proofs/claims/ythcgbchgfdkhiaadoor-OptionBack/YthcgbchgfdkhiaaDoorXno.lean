/- What is read out of a number's text is the number. -/
import Derived.Test.YthcgbchgfdkhiaaDoorXnm
namespace Go.Proofs.YthcgbchgfdkhiaaDoor
set_option linter.unusedSimpArgs false
set_option linter.unusedVariables false
open Go.RowKit
set_option maxRecDepth 100000
theorem digs_head (k n : Nat) (hn : n < 10 ^ k) (hk : 0 < k) : (digs k n).head? ≠ some 45 := by
  obtain ⟨_, h2, h3, _, _⟩ := digs_val k n hn hk
  cases e : digs k n with
  | nil => exact absurd e h3
  | cons c r =>
    intro h
    simp only [List.head?_cons, Option.some.injEq] at h
    have := h2 c (by rw [e]; exact List.mem_cons_self ..)
    rw [h] at this
    exact absurd this (by decide)
theorem digs_more : ∀ (k n : Nat), n < 10 ^ k → 0 < k → digs (k + 1) n = digs k n
  | 0, _, _, h => absurd h (by decide)
  | k + 1, n, hn, _ => by
    by_cases h : n < 10
    · rw [digs, if_pos h, digs, if_pos h]
    · have hk : 0 < k := by
        apply Classical.byContradiction; intro hh
        have : k = 0 := by omega
        subst this
        omega
      rw [digs, if_neg h, digs_more k (n / 10) (by rw [Nat.pow_succ] at hn; omega) hk]
      conv => rhs; rw [digs, if_neg h]
theorem numT_ne (a : Int) : numT a ≠ [] := by
  unfold numT
  split
  · simp
  · unfold digs; split <;> simp
theorem int_numT {a : Int} (h : -1000000000 < a ∧ a < 1000000000) : intA (numT a) = .tuple #[.int .i64 a, .bool true] := by
  by_cases h0 : a < 0
  · have hn : a.natAbs < 10 ^ 9 := by omega
    have e : numT a = 45 :: digs 9 a.natAbs := by unfold numT; rw [if_pos h0, digs_more 9 _ hn (by decide)]
    have h1 := natOk_digs hn (by decide) (by decide)
    obtain ⟨h2, _⟩ := digs_val 9 _ hn (by decide)
    have k1 : intOk (numT a) = true := by
      rw [e]; unfold intOk; rw [if_pos List.head?_cons]
      show (natOk (digs 9 a.natAbs) && numv (digs 9 a.natAbs) != 0) = true
      rw [h1, h2]; simp; omega
    have k2 : intV (numT a) = a := by
      rw [e]; unfold intV; rw [if_pos List.head?_cons]
      show -(numv (digs 9 a.natAbs) : Int) = a
      rw [h2]; omega
    unfold intA
    rw [if_pos k1, k2]
  · have hn : a.toNat < 10 ^ 9 := by omega
    have e : numT a = digs 9 a.toNat := by unfold numT; rw [if_neg h0, digs_more 9 _ hn (by decide)]
    have h1 := natOk_digs hn (by decide) (by decide)
    obtain ⟨h2, _⟩ := digs_val 9 _ hn (by decide)
    have h3 := digs_head 9 _ hn (by decide)
    unfold intA intOk intV
    rw [e, if_neg h3, if_neg h3, if_pos h1, h2]
    rw [show ((a.toNat : Nat) : Int) = a by omega]
theorem intOk_num {a : Int} (h : -1000000000 < a ∧ a < 1000000000) : intOk (numT a) = true ∧ intV (numT a) = a := by
  have e := int_numT h
  unfold intA at e
  cases hk : intOk (numT a)
  · rw [hk] at e
    simp at e
  · rw [hk] at e
    simp at e
    exact ⟨rfl, e⟩
end Go.Proofs.YthcgbchgfdkhiaaDoor
