/- The reference's numbers: neg, Is, Bits, wide of an amount, rat, New, Of. -/
import Derived.Test.YtoegjibeomhekaaGreatMgd
import Derived.Test.YtoegjibeomhekaaGreatRqq
namespace Go.Proofs.YtoegjibeomhekaaGreat
set_option linter.unusedSimpArgs false
set_option linter.unusedVariables false
open Go.RowKit
set_option maxRecDepth 100000
section
variable {ops : Array Oper} {rest : List Oper} {o : Oper} {a : Act} {w : World} {Q : Exit → Act → World → Prop}
theorem ldWr {t : TypeId} {x : Operand} {b : Nat} {s : Bool} {N : Nat} (hw : Region.wanted o (yielded ops a.tmps) = true) (ho : o.op = .load 43 x) (hx : a.eval x = .pointer (some ⟨b, 0, none⟩)) (h : Blk w b (wd s N) t)
    (hr : wpList Tryz.prog ops Q rest (a.put o.dst (.agg (wd s N).toArray)) w) : wpList Tryz.prog ops Q (o :: rest) a w :=
  BigFrame.wpList_want hw fun _ hK => wp_ldB ho hx h (whole25 _ _) (hK _ _ hr)
end
set_option maxHeartbeats 1000000 in
theorem wide_nil (s : Bool) (w : World) : Calls Tryz.prog 41 #[.bool s, .slice none 0 0] w fun e w' => e = .returned (.tuple #[.agg (wd false 0).toArray, .bool true]) ∧ Below w.heap.size w w' := by
  have HT : Hid (∀ w, Calls Tryz.prog 51 #[.slice none 0 0] w fun e w' => e = .returned (.slice none 0 0) ∧ w' = w) := trim_nil
  have b4 := Blk.new w (wd false 0) 43 rfl
  have hb : Below w.heap.size w (w.alloc (.cells (wd false 0).toArray 43)) := (Below.refl _ _).alloc (Nat.le_refl _) _
  have f7 := Blk.new (w.alloc (.cells (wd false 0).toArray 43)) (wd false 0) 43 (b := w.heap.size + 1) (by simp)
  have b7 := f7.row (wd false 0)
  have c4 := (b4.old (.cells (wd false 0).toArray 43)).rowOther (g := w.heap.size + 1) (wd false 0).toArray (by omega)
  have hc' := below_row (hb.alloc hb.size (.cells (wd false 0).toArray 43)) (g := w.heap.size + 1) (by omega) (wd false 0).toArray
  go_enter Tryz.func41, Tryz.ntmps41
  go_wp2_with (first | (with_reducible refine alW rfl rfl ?_))
  refine (HT.out _).mono ?_
  rintro e w1 ⟨rfl, rfl⟩
  cases s with
  | false =>
    go_wp2_with (first | (with_reducible refine bdWs rfl rfl rfl ?_) | (with_reducible refine alW2 rfl rfl ?_) | (with_reducible refine alW rfl rfl ?_) | (with_reducible refine stW rfl rfl rfl rfl f7 ?_))
    generalize ((w.alloc (.cells (wd false 0).toArray 43)).alloc (.cells (wd false 0).toArray 43)).setRow (w.heap.size + 1) (wd false 0).toArray = W at *
    go_loopw [8] (fun i wr => i = .int .i64 0 ∧ Below w.heap.size w wr ∧ Blk wr w.heap.size (wd false 0) 43 ∧ Blk wr (w.heap.size + 1) (wd false 0) 43) (fun i _ => 0)
    case atStart => exact ⟨rfl, hc', c4, b7⟩
    case round =>
      clear hc' c4 b7 f7 b4 hb
      obtain ⟨rfl, hb, b4, b7⟩ := hrel
      go_wp2_with (first | (with_reducible refine ldW rfl rfl rfl b7 ?_) | (with_reducible refine stW rfl rfl rfl rfl b4 ?_))
      exact ret_ct (cs := wd false 0) (v := .bool true) rfl rfl rfl rfl (whole25 _ _) (b4.row _) ⟨rfl, below_row hb (Nat.le_refl _) _⟩
  | true =>
    go_wp2_with (first | (with_reducible refine bdWs rfl rfl rfl ?_) | (with_reducible refine alW2 rfl rfl ?_) | (with_reducible refine alW rfl rfl ?_) | (with_reducible refine stW rfl rfl rfl rfl f7 ?_))
    generalize ((w.alloc (.cells (wd false 0).toArray 43)).alloc (.cells (wd false 0).toArray 43)).setRow (w.heap.size + 1) (wd false 0).toArray = W at *
    go_loopw [8] (fun i wr => i = .int .i64 0 ∧ Below w.heap.size w wr ∧ Blk wr w.heap.size (wd false 0) 43 ∧ Blk wr (w.heap.size + 1) (wd false 0) 43) (fun i _ => 0)
    case atStart => exact ⟨rfl, hc', c4, b7⟩
    case round =>
      clear hc' c4 b7 f7 b4 hb
      obtain ⟨rfl, hb, b4, b7⟩ := hrel
      go_wp2_with (first | (with_reducible refine ldW rfl rfl rfl b7 ?_) | (with_reducible refine stW rfl rfl rfl rfl b4 ?_))
      exact ret_ct (cs := wd false 0) (v := .bool true) rfl rfl rfl rfl (whole25 _ _) (b4.row _) ⟨rfl, below_row hb (Nat.le_refl _) _⟩
theorem wideM_any {v : Value} {M : Nat} {w : World} (s : Bool) (h : Mv w v M) (h32 : nw M ≤ 32) : Calls Tryz.prog 41 #[.bool s, v] w fun e w' => e = .returned (.tuple #[.agg (wd (s && decide (M ≠ 0)) M).toArray, .bool true]) ∧ Below w.heap.size w w' := by
  rcases h with ⟨rfl, rfl⟩ | ⟨b, c, rfl, hc, hl, hx⟩
  · have := wide_nil s w
    rwa [show (s && decide ((0 : Nat) ≠ 0)) = false by simp]
  · exact wideref_yes s w ⟨nw_lt M, hx⟩ hl hc (by omega) h32
end Go.Proofs.YtoegjibeomhekaaGreat
