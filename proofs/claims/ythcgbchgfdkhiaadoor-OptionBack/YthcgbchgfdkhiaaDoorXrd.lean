/- Rows of texts, as they are read. -/
import Derived.Test.YthcgbchgfdkhiaaDoorXwd
namespace Go.Proofs.YthcgbchgfdkhiaaDoor
set_option linter.unusedSimpArgs false
set_option linter.unusedVariables false
open Go.RowKit
set_option maxRecDepth 100000
/-- The slice v reads as these texts. -/
def RdS (w : World) (v : Value) (ws : List (List UInt8)) : Prop := (ws = [] ∧ ∃ a c, v = .slice a 0 c) ∨ ∃ b o c, v = .slice (some ⟨b, o, none⟩) ws.length c ∧ ws.length ≤ c ∧ ∀ (j : Nat) u, ws[j]? = some u → w.cell? ⟨b, o + j, none⟩ = some (.string (tx u))
theorem cell_below {w w' : World} (hb : Below w.heap.size w w') {p : Addr} {v : Value} (h : w.cell? p = some v) : w'.cell? p = some v :=
  (hb.cell (World.block_lt_of_cell? w p h)).trans h
theorem RdS.below {w w' : World} {v : Value} {ws : List (List UInt8)} (h : RdS w v ws) (hb : Below w.heap.size w w') : RdS w' v ws :=
  h.imp id fun ⟨b, o, c, e, hc, hh⟩ => ⟨b, o, c, e, hc, fun j u hu => cell_below hb (hh j u hu)⟩
theorem RdS.of_owns {w : World} {B : Nat} {v : Value} {ws : List (List UInt8)} (h : w.ownsRow B 9 1 v ws.length (strs ws)) : RdS w v ws := by
  rcases h.2 with ⟨rfl, h0⟩ | ⟨g, cap, cur, rfl, _, _, hcap, _⟩
  · exact .inl ⟨List.eq_nil_of_length_eq_zero h0, _, _, rfl⟩
  · refine .inr ⟨g, 0, cap, rfl, hcap, fun j u hu => ?_⟩
    have := h.cells (g := g) rfl j (.string (tx u)) (by simp [strs, hu])
    rw [Nat.zero_add]
    rw [show (⟨g, j, none⟩ : Addr) = (⟨g, 0, none⟩ : Addr).add j by cases j <;> simp [Addr.add]]
    exact this
theorem owns_cells {w : World} {B n size : Nat} {e : TypeId} {v : Value} {xs : List Value} (h : w.ownsRow B e size v n xs) (hn : n ≠ 0) : ∃ g cap, v = .slice (some ⟨g, 0, none⟩) n cap ∧ n ≤ cap ∧ B ≤ g ∧ g < w.heap.size ∧ ∀ (j : Nat) u, xs[j]? = some u → w.cell? ⟨g, j, none⟩ = some u := by
  rcases h.2 with ⟨_, rfl⟩ | ⟨g, cap, cur, rfl, hb, hc, hcap, _⟩
  · exact absurd rfl hn
  · refine ⟨g, cap, rfl, hcap, hb, (Array.getElem?_eq_some_iff.1 hc).1, fun j u hj => ?_⟩
    have := h.cells (g := g) rfl j u hj
    rw [show (⟨g, j, none⟩ : Addr) = (⟨g, 0, none⟩ : Addr).add j by
      cases j <;> simp [Addr.add]]
    exact this
end Go.Proofs.YthcgbchgfdkhiaaDoor
