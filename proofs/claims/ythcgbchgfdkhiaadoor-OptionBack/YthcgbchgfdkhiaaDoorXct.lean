/- lex.cut: parts a text at the first of some bytes. -/
import Derived.Test.YthcgbchgfdkhiaaDoorMem
import Derived.Test.YthcgbchgfdkhiaaDoorProg
import Derived.Lib.Strings
import Derived.Lib.Bytealg
import Derived.BigQuiet
import Derived.Deep.QuietTactic
namespace Go.Proofs.YthcgbchgfdkhiaaDoor
set_option linter.unusedSimpArgs false
set_option linter.unusedVariables false
open Go.RowKit
set_option maxRecDepth 100000
/-- The cells of some bytes. -/
def bys (l : List UInt8) : List Value := l.map fun c => Value.int .u8 (c.toNat : Int)
theorem bys_get (l : List UInt8) (j : Nat) (h : j < l.length) : (bys l)[j]? = some (.int .u8 (l[j].toNat : Int)) := by simp [bys, h]
/-- A text of these bytes. -/
def tx (l : List UInt8) : ByteArray := ⟨l.toArray⟩
theorem tx_size (l : List UInt8) : (tx l).size = l.length := by simp [tx, ByteArray.size]
theorem tx_list (s : ByteArray) : tx s.data.toList = s := rfl
theorem tx_toList (l : List UInt8) : (tx l).toList = l := by rw [Lib.toList_data]; rfl
theorem tx_empty (l : List UInt8) : (tx l).toList.isEmpty = l.isEmpty := by rw [tx_toList]
theorem tx_get (l : List UInt8) (j : Nat) (h : j < (tx l).size) : (tx l)[j] = l[j]'(by rwa [tx_size] at h) := by
  simp [tx]; rfl
theorem tx_app (a b : List UInt8) : tx a ++ tx b = tx (a ++ b) := by
  apply ByteArray.ext
  simp [tx]
theorem tx_extract (l : List UInt8) (a b : Nat) : (tx l).extract a b = tx ((l.take b).drop a) := by
  apply ByteArray.ext
  simp [tx, ByteArray.data_extract, List.extract_toArray, List.extract_eq_take_drop, List.drop_take]
/-- A text parted at the first of some bytes. -/
def ahead (p : List UInt8) : List UInt8 → List UInt8
  | [] => []
  | c :: r => if c ∈ p then [] else c :: ahead p r
def behind (p : List UInt8) : List UInt8 → List UInt8
  | [] => []
  | c :: r => if c ∈ p then r else behind p r
theorem ahead_all (p : List UInt8) : ∀ l : List UInt8, (∀ c ∈ l, c ∉ p) → ahead p l = l ∧ behind p l = []
  | [], _ => ⟨rfl, rfl⟩
  | c :: r, h => by
    have h1 := h c (List.mem_cons_self ..)
    have h2 := ahead_all p r fun x hx => h x (List.mem_cons_of_mem _ hx)
    simp [ahead, behind, h1, h2]
theorem ahead_at (p : List UInt8) {c : UInt8} (r : List UInt8) (hc : c ∈ p) : ∀ a : List UInt8, (∀ x ∈ a, x ∉ p) → ahead p (a ++ c :: r) = a ∧ behind p (a ++ c :: r) = r
  | [], _ => by simp [ahead, behind, hc]
  | x :: a, h => by
    have h1 := h x (List.mem_cons_self ..)
    have h2 := ahead_at p r hc a fun y hy => h y (List.mem_cons_of_mem _ hy)
    simp [ahead, behind, h1, h2]
theorem parted (p : List UInt8) : ∀ l : List UInt8, (∀ c ∈ l, c ∉ p) ∨ ∃ a c r, l = a ++ c :: r ∧ (∀ x ∈ a, x ∉ p) ∧ c ∈ p
  | [] => .inl fun _ h => absurd h (List.not_mem_nil)
  | c :: r => by
    by_cases hc : c ∈ p
    · exact .inr ⟨[], c, r, rfl, fun _ h => absurd h (List.not_mem_nil), hc⟩
    · rcases parted p r with h | ⟨a, d, r', rfl, h, hd⟩
      · refine .inl fun x hx => ?_
        rcases List.mem_cons.1 hx with rfl | hx
        · exact hc
        · exact h x hx
      · refine .inr ⟨c :: a, d, r', rfl, fun x hx => ?_, hd⟩
        rcases List.mem_cons.1 hx with rfl | hx
        · exact hc
        · exact h x hx
theorem behind_lt (p : List UInt8) : ∀ l : List UInt8, l ≠ [] → (behind p l).length < l.length
  | [], h => absurd rfl h
  | c :: r, _ => by
    unfold behind
    split
    · simp
    · by_cases hr : r = []
      · subst hr; simp [behind]
      · have := behind_lt p r hr
        simp; omega
theorem ahead_le (p : List UInt8) : ∀ l : List UInt8, (ahead p l).length ≤ l.length
  | [] => Nat.le_refl _
  | c :: r => by
    have := ahead_le p r
    unfold ahead
    split
    · simp
    · simp; omega
theorem behind_le (p l : List UInt8) : (behind p l).length ≤ l.length := by
  by_cases h : l = []
  · subst h; exact Nat.le_refl _
  · exact Nat.le_of_lt (behind_lt p l h)
end Go.Proofs.YthcgbchgfdkhiaaDoor
