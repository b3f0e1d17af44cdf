/- strings.SplitN at one byte, as the pieces between these bytes. -/
import Derived.Test.YthcgbchgfdkhiaaDoorZnv
namespace Go.Proofs.YthcgbchgfdkhiaaDoor
set_option linter.unusedSimpArgs false
set_option linter.unusedVariables false
open Go.RowKit
set_option maxRecDepth 100000
theorem ix_no (c : UInt8) : ∀ l : List UInt8, (∀ x ∈ l, x ∉ ([c] : List UInt8)) → Lib.index l [c] = -1
  | [], _ => rfl
  | b :: l, h => by
    have h1 := h b (List.mem_cons_self ..)
    have h2 := ix_no c l fun x hx => h x (List.mem_cons_of_mem _ hx)
    have h3 : (c == b) = false := by
      rw [beq_eq_false_iff_ne]; intro e; exact h1 (by simp [e])
    unfold Lib.index
    rw [h2]
    simp [List.isPrefixOf, h3]
theorem ix_at (c : UInt8) (r : List UInt8) : ∀ a : List UInt8, (∀ x ∈ a, x ∉ ([c] : List UInt8)) → Lib.index (a ++ c :: r) [c] = (a.length : Int)
  | [], _ => by unfold Lib.index; simp [List.isPrefixOf]
  | b :: l, h => by
    have h1 := h b (List.mem_cons_self ..)
    have h2 := ix_at c r l fun x hx => h x (List.mem_cons_of_mem _ hx)
    have h3 : (c == b) = false := by
      rw [beq_eq_false_iff_ne]; intro e; exact h1 (by simp [e])
    have h4 : ((l.length : Int) == -1) = false := by rw [beq_eq_false_iff_ne]; omega
    rw [List.cons_append]
    unfold Lib.index
    rw [h2, h4]
    simp [List.isPrefixOf, h3]
theorem splits_pos (p : List UInt8) (l : List UInt8) : 1 ≤ (splits p l).length := by
  cases l with
  | nil => exact Nat.le_refl _
  | cons c r =>
    unfold splits
    split
    · simp
    · split <;> simp
theorem splitK_eq (c : UInt8) : ∀ (m : Nat) (l : List UInt8), (splits [c] l).length ≤ m + 1 → Lib.splitK [c] 0 m l = splits [c] l
  | 0, l, h => by
    rcases parted [c] l with h1 | ⟨a, d, r, rfl, h1, hd⟩
    · rw [splits_all _ _ h1]; rfl
    · rw [splits_at _ _ hd _ h1] at h
      have := splits_pos [c] r
      rw [List.length_cons] at h; omega
  | m + 1, l, h => by
    rcases parted [c] l with h1 | ⟨a, d, r, rfl, h1, hd⟩
    · rw [splits_all _ _ h1]
      unfold Lib.splitK
      rw [ix_no c l h1]; rfl
    · obtain rfl : d = c := by simpa using hd
      rw [splits_at _ _ hd _ h1] at h ⊢
      unfold Lib.splitK
      have h4 : ((a.length : Int) == -1) = false := by rw [beq_eq_false_iff_ne]; omega
      rw [ix_at d r a h1, h4]
      simp only [Bool.false_eq_true, if_false, Int.toNat_natCast, List.length_singleton, Nat.add_zero]
      rw [List.take_left, show a ++ d :: r = (a ++ [d]) ++ r by simp, show a.length + 1 = (a ++ [d]).length by simp, List.drop_left, splitK_eq d m r (by simpa using h)]
theorem splitK_len (c : UInt8) : ∀ (m : Nat) (l : List UInt8), m + 1 ≤ (splits [c] l).length → (Lib.splitK [c] 0 m l).length = m + 1
  | 0, l, h => rfl
  | m + 1, l, h => by
    rcases parted [c] l with h1 | ⟨a, d, r, rfl, h1, hd⟩
    · rw [splits_all _ _ h1] at h; simp at h
    · obtain rfl : d = c := by simpa using hd
      rw [splits_at _ _ hd _ h1] at h
      unfold Lib.splitK
      have h4 : ((a.length : Int) == -1) = false := by rw [beq_eq_false_iff_ne]; omega
      rw [ix_at d r a h1, h4]
      simp only [Bool.false_eq_true, if_false, Int.toNat_natCast, List.length_singleton, Nat.add_zero]
      rw [show a ++ d :: r = (a ++ [d]) ++ r by simp, show a.length + 1 = (a ++ [d]).length by simp, List.drop_left, List.length_cons, splitK_len d m r (by simpa using h)]
/-- The pieces that SplitN tells, k + 1 at most. -/
def pcs (c : UInt8) (k : Nat) (l : List UInt8) : List (List UInt8) := Lib.splitK [c] 0 (min k l.length) l
theorem pcs_eq (c : UInt8) (k : Nat) (l : List UInt8) (h : (splits [c] l).length ≤ k) : pcs c k l = splits [c] l := by
  have := splits_len [c] l
  exact splitK_eq c _ l (by omega)
theorem pcs_no (c : UInt8) (k : Nat) (l : List UInt8) (h : k < (splits [c] l).length) : (pcs c k l).length = k + 1 := by
  have := splits_len [c] l
  have e : min k l.length = k := by omega
  unfold pcs
  rw [e]
  exact splitK_len c k l h
theorem SplitN_any (c : UInt8) (k : Nat) (l : List UInt8) (w : World) (hl : l.length ≤ 1000000) (hk : k ≤ 100) (hE : Env w) :
    Calls Tryd.prog 29 #[.string (tx l), .string ⟨#[c]⟩, .int .i64 ((k : Int) + 1)] w fun e w' => ∃ cap, e = .returned (.slice (some ⟨w.heap.size, 0, none⟩) (pcs c k l).length cap) ∧ (∀ (j : Nat) u, (pcs c k l)[j]? = some u → w'.cell? ⟨w.heap.size, j, none⟩ = some (.string (tx u))) ∧ Below w.heap.size w w' := by
  obtain ⟨m, hm⟩ := hE.mxl
  have e0 : ((k : Int) + 1) = ((k + 1 : Nat) : Int) := by omega
  rw [e0]
  refine (Tryd.strings_SplitN (tx l) ⟨#[c]⟩ (k + 1) m w (by rw [tx_size]; omega) hm (Nat.le_refl 1) (by omega) (by omega)).mono ?_
  rintro e w' ⟨rfl, rfl⟩
  have e1 : min (k + 1) ((tx l).size + 1) - 1 = min k l.length := by rw [tx_size]; omega
  rw [e1]
  have hd := Lib.splitB_data ⟨#[c]⟩ 0 (min k l.length) (tx l)
  generalize Lib.splitB ⟨#[c]⟩ 0 (min k l.length) (tx l) = P at hd ⊢
  have hd2 : P.map (·.data.toList) = pcs c k l := hd
  have hlen : P.length = (pcs c k l).length := by rw [← hd2, List.length_map]
  refine ⟨_, by rw [hlen], fun j u hj => ?_, (Below.refl _ _).alloc (Nat.le_refl _) _⟩
  rw [← hd2, List.getElem?_map, Option.map_eq_some_iff] at hj
  obtain ⟨x, hx, rfl⟩ := hj
  rw [World.cell?_alloc_at _ _ _ _ rfl]
  unfold Lib.cellsOf
  rw [List.getElem?_toArray, List.getElem?_append_left (by rw [List.length_map]; exact (List.getElem?_eq_some_iff.1 hx).1), List.getElem?_map, hx]
  rfl
end Go.Proofs.YthcgbchgfdkhiaaDoor
