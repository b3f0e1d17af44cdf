/- Package point: Mid, of one to four points, of none, of too many. -/
import Derived.Test.YtoegjibeomhekaaGreatPng
namespace Go.Proofs.YtoegjibeomhekaaGreat
set_option linter.unusedSimpArgs false
set_option linter.unusedVariables false
open Go.RowKit
set_option maxRecDepth 100000
theorem app_cell {w : World} {p : Nat} {X : List Value} {t : TypeId} (h : Blk w p X t) {j : Nat} {u : Value} (hj : X[j]? = some u) : w.cell? ((⟨p, 0, none⟩ : Addr).add j) = some u := by
  rw [show (⟨p, 0, none⟩ : Addr).add j = ⟨p, j, none⟩ by simp [Addr.add]; intro h; rw [h]]
  exact h.cell hj
theorem own_call {w w' : World} {base : Nat} {e : TypeId} {size : Nat} {v : Value} {n : Nat} {xs : List Value} (h : w.ownsRow base e size v n xs) (hb : Below w.heap.size w w') : w'.ownsRow base e size v n xs :=
  h.kept (row := none) ⟨hb.os, hb.tape, hb.output, hb.size, fun k hk _ => hb.block k hk⟩ (by
    rcases hv : v.ownBlock with _ | k
    · exact .inl rfl
    · exact .inr (by simp))
theorem own_laid {w : World} {base : Nat} {e : TypeId} {size : Nat} {v : Value} {n : Nat} {xs : List Value} (h : w.ownsRow base e size v n xs) (o : Obj) (vs : Array Value) : ((w.alloc o).setRow w.heap.size vs).ownsRow base e size v n xs :=
  (h.alloc o).kept (row := some w.heap.size) ⟨rfl, rfl, rfl, by simp, fun k _ hk => setRow_other _ _ _ _ (fun e => hk (by rw [e]))⟩ (by
    rcases hv : v.ownBlock with _ | k
    · exact .inl rfl
    · have := (h.lt k hv).2
      exact .inr (fun e => by injection e with e1; omega))
end Go.Proofs.YtoegjibeomhekaaGreat
