/- same: two rows of lines that are alike. -/
import Derived.Test.YtpalfmgloddhcaaGreatDoorXln
import Derived.BigQuiet
import Derived.Deep.QuietTactic
namespace Go.Proofs.YtpalfmgloddhcaaGreatDoor
set_option linter.unusedSimpArgs false
set_option linter.unusedVariables false
open Go.RowKit
set_option maxRecDepth 100000
/-- The slice v reads as these texts. -/
def RdS (w : World) (v : Value) (ws : List (List UInt8)) : Prop := (ws = [] ∧ ∃ a c, v = .slice a 0 c) ∨ ∃ b o c, v = .slice (some ⟨b, o, none⟩) ws.length c ∧ ws.length ≤ c ∧ ∀ (j : Nat) u, ws[j]? = some u → w.cell? ⟨b, o + j, none⟩ = some (.string (tx u))
/-- The slice v reads as these lines. -/
def RdL (w : World) (v : Value) (L : List (Nat × List (List UInt8))) : Prop := (L = [] ∧ ∃ a c, v = .slice a 0 c) ∨ ∃ b c, v = .slice (some ⟨b, 0, none⟩) L.length c ∧ L.length ≤ c ∧ ∀ (i : Nat) n ws, L[i]? = some (n, ws) → w.cell? ⟨b, i * 2, none⟩ = some (.int .i64 (n : Int)) ∧ ∃ x, w.cell? ⟨b, i * 2 + 1, none⟩ = some x ∧ RdS w x ws
theorem cell_below {w w' : World} (hb : Below w.heap.size w w') {p : Addr} {v : Value} (h : w.cell? p = some v) : w'.cell? p = some v :=
  (hb.cell (World.block_lt_of_cell? w p h)).trans h
theorem RdS.below {w w' : World} {v : Value} {ws : List (List UInt8)} (h : RdS w v ws) (hb : Below w.heap.size w w') : RdS w' v ws :=
  h.imp id fun ⟨b, o, c, e, hc, hh⟩ => ⟨b, o, c, e, hc, fun j u hu => cell_below hb (hh j u hu)⟩
theorem RdL.below {w w' : World} {v : Value} {L : List (Nat × List (List UInt8))} (h : RdL w v L) (hb : Below w.heap.size w w') : RdL w' v L :=
  h.imp id fun ⟨b, c, e, hc, hh⟩ => ⟨b, c, e, hc, fun i n ws hi =>
    let ⟨h1, x, h2, h3⟩ := hh i n ws hi; ⟨cell_below hb h1, x, cell_below hb h2, h3.below hb⟩⟩
theorem RdS.of_owns {w : World} {B : Nat} {v : Value} {ws : List (List UInt8)} (h : w.ownsRow B 9 1 v ws.length (strs ws)) : RdS w v ws := by
  rcases h.2 with ⟨rfl, h0⟩ | ⟨g, cap, cur, rfl, _, _, hcap, _⟩
  · exact .inl ⟨List.eq_nil_of_length_eq_zero h0, _, _, rfl⟩
  · refine .inr ⟨g, 0, cap, rfl, hcap, fun j u hu => ?_⟩
    have := h.cells (g := g) rfl j (.string (tx u)) (by simp [strs, hu])
    rw [Nat.zero_add]
    rw [show (⟨g, j, none⟩ : Addr) = (⟨g, 0, none⟩ : Addr).add j by cases j <;> simp [Addr.add]]
    exact this
theorem Lws.get {w : World} {B : Nat} : ∀ {L : List (Nat × List (List UInt8))} {cs : List Value}, Lws w B L cs → ∀ (i : Nat) n ws, L[i]? = some (n, ws) → cs[i * 2]? = some (.int .i64 (n : Int)) ∧ ∃ x, cs[i * 2 + 1]? = some x ∧ w.ownsRow B 9 1 x ws.length (strs ws)
  | [], _, _, _, _, _, h => by simp at h
  | (m, us) :: t, _, ⟨x, r, e, ho, _⟩, 0, n, ws, h => by
    simp at h
    obtain ⟨rfl, rfl⟩ := h
    subst e
    exact ⟨rfl, x, rfl, ho⟩
  | (m, us) :: t, _, ⟨x, r, e, _, ht⟩, i + 1, n, ws, h => by
    subst e
    rw [show (i + 1) * 2 = i * 2 + 1 + 1 by omega]
    simp only [List.getElem?_cons_succ] at h ⊢
    exact Lws.get ht i n ws h
theorem Lnv.rd {w : World} {B : Nat} {v : Value} {L : List (Nat × List (List UInt8))} (h : Lnv w B v L) : RdL w v L := by
  obtain ⟨cs, h1, h2⟩ := h
  rcases h1.2 with ⟨rfl, h0⟩ | ⟨g, cap, cur, rfl, _, _, hcap, _⟩
  · exact .inl ⟨List.eq_nil_of_length_eq_zero h0, _, _, rfl⟩
  · refine .inr ⟨g, cap, rfl, hcap, fun i n ws hi => ?_⟩
    obtain ⟨k1, x, k2, k3⟩ := Lws.get h2 i n ws hi
    have e : ∀ j, (⟨g, j, none⟩ : Addr) = (⟨g, 0, none⟩ : Addr).add j := fun j => by cases j <;> simp [Addr.add]
    exact ⟨by rw [e]; exact h1.cells (g := g) rfl _ _ k1, x, by rw [e]; exact h1.cells (g := g) rfl _ _ k2, RdS.of_owns k3⟩
end Go.Proofs.YtpalfmgloddhcaaGreatDoor
