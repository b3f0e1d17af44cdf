/- Variables laid behind all others. -/
import Derived.Test.YtcfncekphdkphaaKex
namespace Go.Proofs.Ytcfncekphdkphaa
open Go.RowKit
set_option maxRecDepth 100000
/- A variable laid behind all others, that holds z. -/
theorem laid_new (w : World) (z : Int) : Blk ((w.alloc (.cells (wd false 0).toArray 25)).setRow w.heap.size (mk z).toArray) w.heap.size (mk z) 25 := (Blk.new w (wd false 0) 25 rfl).row (mk z)
theorem laid_old {w : World} {b : Nat} {cs : List Value} {t : TypeId} (h : Blk w b cs t) (z : Int) : Blk ((w.alloc (.cells (wd false 0).toArray 25)).setRow w.heap.size (mk z).toArray) b cs t :=
  (h.old _).rowOther _ (Nat.ne_of_lt h.lt)
theorem laid_below {w W : World} (h : Below w.heap.size w W) (z : Int) : Below w.heap.size w ((W.alloc (.cells (wd false 0).toArray 25)).setRow W.heap.size (mk z).toArray) :=
  below_row (h.alloc h.size _) h.size _
theorem laid_two {w : World} {b : Nat} {cs : List Value} {t : TypeId} (h : Blk w b cs t) (z y : Int) : Blk ((((w.alloc (.cells (wd false 0).toArray 25)).alloc (.cells (wd false 0).toArray 25)).setRow w.heap.size (mk z).toArray).setRow (w.heap.size + 1) (mk y).toArray) b cs t := by
  have := h.lt
  exact (((h.old _).old _).rowOther _ (by omega)).rowOther _ (by omega)
theorem laid_below2 {w W : World} (h : Below w.heap.size w W) (z y : Int) : Below w.heap.size w ((((W.alloc (.cells (wd false 0).toArray 25)).alloc (.cells (wd false 0).toArray 25)).setRow W.heap.size (mk z).toArray).setRow (W.heap.size + 1) (mk y).toArray) := by
  have := h.size
  exact below_row (below_row ((h.alloc h.size _).alloc (by simp; omega) _) h.size _) (by omega) _
end Go.Proofs.Ytcfncekphdkphaa
