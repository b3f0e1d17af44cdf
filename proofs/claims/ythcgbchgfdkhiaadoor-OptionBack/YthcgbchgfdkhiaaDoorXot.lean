/- Worlds in which all but one block is as it was. -/
import Derived.Test.YthcgbchgfdkhiaaDoorXct
namespace Go.Proofs.YthcgbchgfdkhiaaDoor
set_option linter.unusedSimpArgs false
set_option linter.unusedVariables false
open Go.RowKit
set_option maxRecDepth 100000
/-- But for block b all that was there is as it was. -/
def Oth (b : Nat) (w w' : World) : Prop := w'.os = w.os ∧ w'.tape = w.tape ∧ w'.output = w.output ∧ w.heap.size ≤ w'.heap.size ∧ ∀ k, k < w.heap.size → k ≠ b → w'.heap[k]? = w.heap[k]?
theorem Oth.refl (b : Nat) (w : World) : Oth b w w := ⟨rfl, rfl, rfl, Nat.le_refl _, fun _ _ _ => rfl⟩
theorem Oth.trans {b : Nat} {x y z : World} (h : Oth b x y) (k : Oth b y z) : Oth b x z :=
  ⟨k.1.trans h.1, k.2.1.trans h.2.1, k.2.2.1.trans h.2.2.1, Nat.le_trans h.2.2.2.1 k.2.2.2.1, fun i hi hb => (k.2.2.2.2 i (Nat.lt_of_lt_of_le hi h.2.2.2.1) hb).trans (h.2.2.2.2 i hi hb)⟩
theorem Oth.of {b : Nat} {w w' : World} (h : Below w.heap.size w w') : Oth b w w' := ⟨h.os, h.tape, h.output, h.size, fun k hk _ => h.block k hk⟩
theorem Oth.then {b : Nat} {x y z : World} (h : Oth b x y) (k : Below y.heap.size y z) : Oth b x z := h.trans (Oth.of k)
theorem Oth.set {b : Nat} {x y : World} (h : Oth b x y) (i : Nat) (v : Value) : Oth b x (y.setCell ⟨b, i, none⟩ v) :=
  h.trans ⟨rfl, rfl, rfl, by simp [World.setCell], fun k hk hb => Below.heap_setCell _ _ _ _ hb⟩
theorem Oth.below {b B : Nat} {w w' : World} (h : Oth b w w') (h1 : B ≤ b) (h2 : B ≤ w.heap.size) : Below B w w' :=
  ⟨h.1, h.2.1, h.2.2.1, h.2.2.2.1, fun k hk => h.2.2.2.2 k (by omega) (by omega)⟩
theorem Oth.size {b : Nat} {w w' : World} (h : Oth b w w') : w.heap.size ≤ w'.heap.size := h.2.2.2.1
theorem Blk.oth {b g : Nat} {w w' : World} {cs : List Value} {t : TypeId} (h : Blk w g cs t) (ho : Oth b w w') (hne : g ≠ b) : Blk w' g cs t := (ho.2.2.2.2 g h.lt hne).trans h
theorem owns_oth {w w' : World} {base b : Nat} {e : TypeId} {size : Nat} {v : Value} {n : Nat} {xs : List Value} (h : w.ownsRow base e size v n xs) (ho : Oth b w w') (hb : b < base) : w'.ownsRow base e size v n xs :=
  ⟨h.1, h.2.imp id fun ⟨g, cap, cur, hv, hg, hc, rest⟩ => ⟨g, cap, cur, hv, hg, (ho.2.2.2.2 g (Array.getElem?_eq_some_iff.1 hc).1 (by omega)).trans hc, rest⟩⟩
theorem Oth.cell {b g j : Nat} {x y : World} {v : Value} (h : Oth b x y) (hg : g ≠ b) (hc : x.cell? ⟨g, j, none⟩ = some v) : y.cell? ⟨g, j, none⟩ = some v :=
  (World.cell?_of_block (w := x) (h.2.2.2.2 g (World.block_lt_of_cell? x _ hc) hg)).trans hc
end Go.Proofs.YthcgbchgfdkhiaaDoor
