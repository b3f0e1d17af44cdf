/- The text of a decimal number: what its bytes are, what is read out of it. -/
import Derived.Test.YtcbhmmeobkhomaaRps
namespace Go.Proofs.Ytcbhmmeobkhomaa
set_option linter.unusedSimpArgs false
set_option linter.unusedVariables false
open Go.RowKit
set_option maxRecDepth 100000
def isD (c : UInt8) : Bool := decide (48 ≤ c.toNat) && decide (c.toNat ≤ 57)
theorem isD_iff (c : UInt8) : isD c = true ↔ 48 ≤ c.toNat ∧ c.toNat ≤ 57 := by unfold isD; simp
def dv (l : List UInt8) : List Nat := l.map fun c => c.toNat - 48
theorem txt_dig {N : Nat} : ∀ c ∈ txt false N, isD c = true := by
  intro c hc
  rw [txt_of] at hc
  by_cases h0 : N = 0
  · rw [if_pos h0] at hc
    simp at hc; subst hc; decide
  · rw [if_neg h0] at hc
    simp only [Bool.false_eq_true, if_false, List.nil_append] at hc
    exact (isD_iff c).2 (dd_digit hc)
theorem txt_val {N : Nat} (hN : N < bb ^ 32) : val (dv (txt false N)) = N := by
  rw [txt_of]
  by_cases h0 : N = 0
  · rw [if_pos h0, h0]; rfl
  · rw [if_neg h0]
    simp only [Bool.false_eq_true, if_false, List.nil_append]
    exact dd_val hN
theorem val_zeros (m : Nat) (l : List UInt8) : val (dv (List.replicate m 48 ++ l)) = val (dv l) := by
  induction m with
  | zero => rfl
  | succ m ih =>
    have : dv (List.replicate (m + 1) 48 ++ l) = [0] ++ dv (List.replicate m 48 ++ l) := by simp [dv, List.replicate_succ]
    rw [this, val_append, ih]
    simp [val]
def zs (k : Nat) (l : List UInt8) : List UInt8 := List.replicate (k + 1 - l.length) 48 ++ l
def ptx (k : Nat) (l : List UInt8) : List UInt8 := if k = 0 then l else (zs k l).take ((zs k l).length - k) ++ 46 :: (zs k l).drop ((zs k l).length - k)
def ntx (neg : Bool) (k : Nat) (l : List UInt8) : List UInt8 := (if neg then [45] else []) ++ ptx k l
/-- The parts of such a text. -/
structure Prt (B : List UInt8) (neg : Bool) (k D : Nat) (q : Nat) where
  X : List UInt8
  Y : List UInt8
  hX : ∀ c ∈ X, isD c = true
  hY : ∀ c ∈ Y, isD c = true
  hB : B = (if neg then [45] else []) ++ (X ++ ((if k = 0 then [] else [46]) ++ Y))
  hD : D = (if neg then 1 else 0) + X.length
  hk : Y.length = k
  hq : val (dv (X ++ Y)) = q
theorem zs_len (k : Nat) (l : List UInt8) : k + 1 ≤ (zs k l).length := by unfold zs; rw [List.length_append, List.length_replicate]; omega
theorem zs_dig {k : Nat} {l : List UInt8} (h : ∀ c ∈ l, isD c = true) : ∀ c ∈ zs k l, isD c = true := by
  intro c hc
  unfold zs at hc
  rcases List.mem_append.1 hc with hc | hc
  · rw [(List.mem_replicate.1 hc).2]; decide
  · exact h c hc
theorem prt_of (neg : Bool) (k N : Nat) (hN : N < bb ^ 32) : ∃ D, Nonempty (Prt (ntx neg k (txt false N)) neg k D N) := by
  by_cases h0 : k = 0
  · refine ⟨_, ⟨⟨txt false N, [], txt_dig, by simp, ?_, rfl, by rw [h0]; rfl, by rw [List.append_nil]; exact txt_val hN⟩⟩⟩
    unfold ntx ptx
    rw [if_pos h0, if_pos h0]; simp
  · have hl := zs_len k (txt false N)
    refine ⟨_, ⟨⟨(zs k (txt false N)).take ((zs k (txt false N)).length - k), (zs k (txt false N)).drop ((zs k (txt false N)).length - k), fun c hc => zs_dig txt_dig c (List.mem_of_mem_take hc), fun c hc => zs_dig txt_dig c (List.mem_of_mem_drop hc), ?_, rfl, ?_, ?_⟩⟩⟩
    · unfold ntx ptx
      rw [if_neg h0, if_neg h0]; rfl
    · rw [List.length_drop]; omega
    · rw [List.take_append_drop]
      unfold zs
      rw [val_zeros, txt_val hN]
/-- What was read of a beginning of it. -/
def stV (p : List UInt8) : Nat := val (dv (p.filter isD))
theorem stV_snoc_d (p : List UInt8) {c : UInt8} (h : isD c = true) : stV (p ++ [c]) = stV p * 10 + (c.toNat - 48) := by
  unfold stV
  rw [List.filter_append]
  have : [c].filter isD = [c] := by simp [h]
  rw [this]
  show val (dv (p.filter isD ++ [c])) = _
  unfold dv
  rw [List.map_append]
  exact val_snoc _ _
theorem stV_snoc_n (p : List UInt8) {c : UInt8} (h : isD c = false) : stV (p ++ [c]) = stV p := by
  unfold stV
  rw [List.filter_append]
  have : [c].filter isD = [] := by simp [h]
  rw [this, List.append_nil]
theorem stV_le (p r : List UInt8) : stV p ≤ stV (p ++ r) := by
  unfold stV dv
  rw [List.filter_append, List.map_append, val_append]
  exact Nat.le_trans (Nat.le_mul_of_pos_right _ (Nat.pow_pos (by decide))) (Nat.le_add_right _ _)
theorem filt_all {l : List UInt8} (h : ∀ c ∈ l, isD c = true) : l.filter isD = l := List.filter_eq_self.2 h
theorem Prt.all {B : List UInt8} {neg : Bool} {k D q : Nat} (h : Prt B neg k D q) : stV B = q := by
  unfold stV
  rw [h.hB, List.filter_append, List.filter_append, List.filter_append, filt_all h.hX, filt_all h.hY]
  have e1 : (if neg then [45] else [] : List UInt8).filter isD = [] := by cases neg <;> decide
  have e2 : (if k = 0 then [] else [46] : List UInt8).filter isD = [] := by split <;> decide
  rw [e1, e2, List.nil_append, List.nil_append]
  exact h.hq
theorem Prt.at {B : List UInt8} {neg : Bool} {k D q : Nat} (h : Prt B neg k D q) (i : Nat) (c : UInt8) (hc : B[i]? = some c) : (c = 45 ∧ neg = true ∧ i = 0) ∨ (c = 46 ∧ k ≠ 0 ∧ i = D) ∨ (isD c = true ∧ ¬ (neg = true ∧ i = 0) ∧ ¬ (k ≠ 0 ∧ i = D)) := by
  obtain ⟨X, Y, hX, hY, hB, hD, hk, hq⟩ := h
  subst hB
  cases neg
  · simp only [Bool.false_eq_true, if_false, List.nil_append, Nat.zero_add] at hc hD
    subst hD
    rcases Nat.lt_trichotomy i X.length with h1 | h1 | h1
    · rw [List.getElem?_append_left h1] at hc
      exact .inr (.inr ⟨hX c (List.mem_of_getElem? hc), by simp, by omega⟩)
    · rw [List.getElem?_append_right (by omega), h1, Nat.sub_self] at hc
      by_cases h0 : k = 0
      · rw [if_pos h0, List.nil_append] at hc
        exact .inr (.inr ⟨hY c (List.mem_of_getElem? hc), by simp, by omega⟩)
      · rw [if_neg h0] at hc
        have : c = 46 := by simpa using hc.symm
        exact .inr (.inl ⟨this, h0, h1⟩)
    · rw [List.getElem?_append_right (by omega)] at hc
      refine .inr (.inr ⟨?_, by simp, by omega⟩)
      by_cases h0 : k = 0
      · rw [if_pos h0, List.nil_append] at hc
        exact hY c (List.mem_of_getElem? hc)
      · rw [if_neg h0, List.getElem?_append_right (by simp; omega)] at hc
        exact hY c (List.mem_of_getElem? hc)
  · simp only [if_true] at hc hD
    cases i with
    | zero =>
      have : c = 45 := by simpa using hc.symm
      exact .inl ⟨this, rfl, rfl⟩
    | succ i =>
      rw [show ([45] : List UInt8) ++ (X ++ ((if k = 0 then [] else [46]) ++ Y)) = 45 :: (X ++ ((if k = 0 then [] else [46]) ++ Y)) from rfl, List.getElem?_cons_succ] at hc
      subst hD
      rcases Nat.lt_trichotomy i X.length with h1 | h1 | h1
      · rw [List.getElem?_append_left h1] at hc
        exact .inr (.inr ⟨hX c (List.mem_of_getElem? hc), by simp, by omega⟩)
      · rw [List.getElem?_append_right (by omega), h1, Nat.sub_self] at hc
        by_cases h0 : k = 0
        · rw [if_pos h0, List.nil_append] at hc
          exact .inr (.inr ⟨hY c (List.mem_of_getElem? hc), by simp, by omega⟩)
        · rw [if_neg h0] at hc
          have : c = 46 := by simpa using hc.symm
          exact .inr (.inl ⟨this, h0, by omega⟩)
      · rw [List.getElem?_append_right (by omega)] at hc
        refine .inr (.inr ⟨?_, by simp, by omega⟩)
        by_cases h0 : k = 0
        · rw [if_pos h0, List.nil_append] at hc
          exact hY c (List.mem_of_getElem? hc)
        · rw [if_neg h0, List.getElem?_append_right (by simp; omega)] at hc
          exact hY c (List.mem_of_getElem? hc)
theorem Prt.len {B : List UInt8} {neg : Bool} {k D q : Nat} (h : Prt B neg k D q) : B.length = D + (if k = 0 then 0 else k + 1) := by
  obtain ⟨X, Y, _, _, hB, hD, hk, _⟩ := h
  rw [hB, List.length_append, List.length_append, List.length_append, hk, hD]
  split <;> split <;> simp <;> omega
end Go.Proofs.Ytcbhmmeobkhomaa
