/- The reference's amounts: sub. -/
import Derived.Test.YtoegjibeomhekaaGreatMgc
namespace Go.Proofs.YtoegjibeomhekaaGreat
set_option linter.unusedSimpArgs false
set_option linter.unusedVariables false
open Go.RowKit
set_option maxRecDepth 100000
theorem ds_push {X k d : Nat} (hX : X < bb ^ k) (hd : d < bb) : ds (X + bb ^ k * d) (k + 1) = ds X k ++ [.int .u32 (d : Nat)] := by
  rw [ds_succ, dig_add_same hX hd]
  congr 1
  unfold ds
  refine List.map_congr_left fun i hi => ?_
  rw [dig_add_low (by simpa using hi)]
/-- Behind an append to a row of one's own. -/
theorem own_put {w wr w1 : World} {B base k X d : Nat} {v v' : Value} {o : Obj} (hX : X < bb ^ k) (hd : d < bb) (hB : B ≤ base) (hbr : base ≤ wr.heap.size) (hown : wr.ownsRow base 27 1 v k (ds X k)) (hb : Below B w wr)
    (hown' : w1.ownsRow base 27 1 v' (k + 1) (ds X k ++ [.int .u32 (d : Nat)])) (hg : (wr.alloc o).grownBy w1 v.ownBlock) :
    w1.ownsRow base 27 1 v' (k + 1) (ds (X + bb ^ k * d) (k + 1)) ∧ Below B w w1 ∧ base ≤ w1.heap.size := by
  have h1 : ∀ j, v.ownBlock = some j → base ≤ j := fun j hj => (hown.lt j hj).1
  have hs := hg.size
  simp only [World.size_alloc] at hs
  exact ⟨by rw [ds_push hX hd]; exact hown', (hb.alloc (by omega) o).grown hg (by simp; omega) (fun j hj => Nat.le_trans hB (h1 j hj)), by omega⟩
end Go.Proofs.YtoegjibeomhekaaGreat
