/- Texts and what Parse answers to them. -/
import Derived.Test.YtogblhedfkjheaaKex
namespace Go.Proofs.Ytogblhedfkjheaa
set_option linter.unusedSimpArgs false
set_option linter.unusedVariables false
open Go.RowKit
/-- The text of these bytes. -/
def bs (l : List UInt8) : ByteArray := ⟨l.toArray⟩
theorem bs_size (l : List UInt8) : (bs l).size = l.length := by simp [bs, ByteArray.size]
theorem bs_get (l : List UInt8) (i : Nat) (h : i < (bs l).size) : (bs l)[i] = l[i]'(by rw [bs_size] at h; exact h) := rfl
theorem bs_append (l m : List UInt8) : bs l ++ bs m = bs (l ++ m) := by
  apply ByteArray.ext
  simp [bs]
theorem bs_tail (c : UInt8) (l : List UInt8) : (bs (c :: l)).extract 1 (bs (c :: l)).size = bs l := by
  apply ByteArray.ext
  simp [bs, ByteArray.size]
theorem bs_toList (l : List UInt8) : (bs l).toList = l := by rw [ByteArray.toList_eq]; rfl
/-- The digits of N. -/
def dd (N : Nat) : List UInt8 := (low (ndig N) N).map (fun d => UInt8.ofNat (48 + d))
theorem dd_len (N : Nat) : (dd N).length = ndig N := by simp [dd, low_length]
theorem ndig_pos {N : Nat} (h : N ≠ 0) : 0 < ndig N := by
  show 0 < ndF (399 + 1) N
  rw [ndF, if_neg h]; omega
theorem log_ten (N : Nat) : ∀ f, N < 10 ^ f → ∃ c, c ≤ f ∧ N < 10 ^ c ∧ (0 < c → 10 ^ (c - 1) ≤ N)
  | 0, h => ⟨0, Nat.le_refl _, h, fun h => absurd h (by decide)⟩
  | f + 1, h => by
    rcases Nat.lt_or_ge N (10 ^ f) with h1 | h1
    · obtain ⟨c, a, b, d⟩ := log_ten N f h1
      exact ⟨c, by omega, b, d⟩
    · exact ⟨f + 1, Nat.le_refl _, h, fun _ => h1⟩
theorem ndig_spec {N : Nat} (hN : N < bb ^ 32) : ndig N ≤ 309 ∧ N < 10 ^ ndig N ∧ (0 < ndig N → 10 ^ (ndig N - 1) ≤ N) := by
  obtain ⟨c, a, b, d⟩ := log_ten N 309 (Nat.lt_of_lt_of_le hN lim_dec)
  rw [ndig_of (by omega) b d]
  exact ⟨a, b, d⟩
theorem dd_digit {N : Nat} {c : UInt8} (h : c ∈ dd N) : 48 ≤ c.toNat ∧ c.toNat ≤ 57 := by
  obtain ⟨d, hd, rfl⟩ := List.mem_map.1 h
  have := low_le _ _ d hd
  rw [UInt8.toNat_ofNat']
  omega
theorem dd_val {N : Nat} (hN : N < bb ^ 32) : val ((dd N).map fun c => c.toNat - 48) = N := by
  have e : (dd N).map (fun c => c.toNat - 48) = low (ndig N) N := by
    rw [dd, List.map_map]
    conv => rhs; rw [← List.map_id (low (ndig N) N)]
    apply List.map_congr_left
    intro d hd
    have := low_le _ _ d hd
    simp only [Function.comp, id, UInt8.toNat_ofNat']
    omega
  rw [e, val_low, Nat.mod_eq_of_lt (ndig_spec hN).2.1]
theorem dd_cons {N : Nat} (hN : N < bb ^ 32) (h0 : N ≠ 0) : ∃ c l, dd N = c :: l ∧ c.toNat ≠ 48 ∧ c.toNat ≠ 45 := by
  have hp := ndig_pos h0
  obtain ⟨h1, h2, h3⟩ := ndig_spec hN
  obtain ⟨k, hk⟩ : ∃ k, ndig N = k + 1 := ⟨ndig N - 1, by omega⟩
  rw [hk] at h2 h3
  have h4 := h3 (by omega)
  rw [Nat.add_sub_cancel] at h4
  have hq : N / 10 ^ k < 10 := by rw [Nat.div_lt_iff_lt_mul (Nat.pow_pos (by decide)), Nat.mul_comm, ← Nat.pow_succ]; exact h2
  have hq1 : 1 ≤ N / 10 ^ k := by rw [Nat.le_div_iff_mul_le (Nat.pow_pos (by decide)), Nat.one_mul]; exact h4
  refine ⟨UInt8.ofNat (48 + N / 10 ^ k % 10), (low k N).map (fun d => UInt8.ofNat (48 + d)), by rw [dd, hk]; rfl, ?_, ?_⟩
  · rw [UInt8.toNat_ofNat']; omega
  · rw [UInt8.toNat_ofNat']; omega
theorem txt_of (s : Bool) (N : Nat) : txt s N = if N = 0 then [48] else (if s then [45] else []) ++ dd N := rfl
theorem parse_bad (l : List UInt8) (w : World) (hl : l.length ≤ 400) (h1 : l ≠ [48]) (h45 : ∀ c r, l = c :: r → c.toNat ≠ 45) (hb : l = [] ∨ (∃ c r, l = c :: r ∧ c.toNat = 48) ∨ ∃ c ∈ l, c.toNat < 48 ∨ 57 < c.toNat) :
    Calls Try.prog 36 #[.string (bs l)] w fun e w' => e = .returned (.tuple #[.agg (mk 0).toArray, .bool false]) ∧ Below w.heap.size w w' := by
  refine Parse_bad (bs l) w (by rw [bs_size]; exact hl) ?_ ?_ ?_
  · rw [bs_toList, beq_eq_false_iff_ne]; exact h1
  · intro h
    rw [bs_get]
    cases l with
    | nil => simp [bs, ByteArray.size] at h
    | cons c r => exact h45 c r rfl
  · rcases hb with rfl | ⟨c, r, rfl, hc⟩ | ⟨c, hc, hd⟩
    · exact .inl rfl
    · exact .inr (.inl ⟨by rw [bs_size]; simp, by rw [bs_get]; exact hc⟩)
    · obtain ⟨i, hi, rfl⟩ := List.getElem_of_mem hc
      exact .inr (.inr ⟨i, by rw [bs_size]; exact hi, by rw [bs_get]; exact hd⟩)
theorem parse_badneg (l : List UInt8) (w : World) (hl : l.length < 400) (hb : ∃ c ∈ l, c.toNat < 48 ∨ 57 < c.toNat) :
    Calls Try.prog 36 #[.string (bs (45 :: l))] w fun e w' => e = .returned (.tuple #[.agg (mk 0).toArray, .bool false]) ∧ Below w.heap.size w w' := by
  obtain ⟨c, hc, hd⟩ := hb
  obtain ⟨i, hi, rfl⟩ := List.getElem_of_mem hc
  exact Parse_badneg (bs (45 :: l)) (bs l) w (by rw [bs_size, List.length_cons]; omega) (by rw [bs_size]; simp) (by rw [bs_get]; rfl) (bs_tail _ _)
    (.inr (.inr ⟨i, by rw [bs_size]; exact hi, by rw [bs_get]; exact hd⟩))
theorem dg_bs (l : List UInt8) : dg (bs l) = l.map fun c => c.toNat - 48 := rfl
theorem parse_txt (s : Bool) (N : Nat) (w : World) (hN : N < bb ^ 32) :
    Calls Try.prog 36 #[.string (bs (txt s N))] w fun e w' => e = .returned (.tuple #[.agg (mk (zn s N)).toArray, .bool true]) ∧ Below w.heap.size w w' := by
  by_cases h0 : N = 0
  · subst h0
    have : zn s 0 = 0 := by cases s <;> rfl
    rw [this]
    exact Parse_zero _ w (bs_toList _)
  · rw [txt_of, if_neg h0]
    obtain ⟨c, l, hc, h48, _⟩ := dd_cons hN h0
    have hlen : (dd N).length ≤ 309 := by rw [dd_len]; exact (ndig_spec hN).1
    have hpos : 0 < (dd N).length := by rw [hc]; simp
    have hdig : Digits (bs (dd N)) := fun i h => by
      rw [bs_get]
      exact dd_digit (List.getElem_mem _)
    have h1 : ∀ h : 0 < (bs (dd N)).size, (bs (dd N))[0].toNat ≠ 48 := fun h => by
      rw [bs_get]
      simp only [hc, List.getElem_cons_zero]
      exact h48
    have hv : val (dg (bs (dd N))) = N := by rw [dg_bs]; exact dd_val hN
    cases s
    · have := Parse_pos (bs (dd N)) w (by rw [bs_size]; omega) (by rw [bs_size]; exact hpos) hdig (h1 _) (by rw [hv]; exact hN)
      rw [hv] at this
      exact this
    · have := Parse_neg (bs (45 :: dd N)) (bs (dd N)) w (by rw [bs_size, List.length_cons]; omega) (by rw [bs_size]; simp) (by rw [bs_get]; rfl) (bs_tail _ _) (by rw [bs_size]; exact hpos) hdig (h1 _) (by rw [hv]; exact hN)
      rw [hv] at this
      exact this
end Go.Proofs.Ytogblhedfkjheaa
