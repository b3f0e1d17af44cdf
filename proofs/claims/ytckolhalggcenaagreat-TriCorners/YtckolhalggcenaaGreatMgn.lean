/- The reference's numbers: neg, Is, Bits, wide of an amount, rat, New, Of. -/
import Derived.Test.YtckolhalggcenaaGreatMgd
import Derived.Test.YtckolhalggcenaaGreatRqq
namespace Go.Proofs.YtckolhalggcenaaGreat
set_option linter.unusedSimpArgs false
set_option linter.unusedVariables false
open Go.RowKit
set_option maxRecDepth 100000
section
variable {ops : Array Oper} {rest : List Oper} {o : Oper} {a : Act} {w : World} {Q : Exit → Act → World → Prop}
theorem ldWr {t : TypeId} {x : Operand} {b : Nat} {s : Bool} {N : Nat} (hw : Region.wanted o (yielded ops a.tmps) = true) (ho : o.op = .load 25 x) (hx : a.eval x = .pointer (some ⟨b, 0, none⟩)) (h : Blk w b (wd s N) t)
    (hr : wpList Tryz.prog ops Q rest (a.put o.dst (.agg (wd s N).toArray)) w) : wpList Tryz.prog ops Q (o :: rest) a w :=
  BigFrame.wpList_want hw fun _ hK => wp_ldB ho hx h (whole25 _ _) (hK _ _ hr)
end
set_option maxHeartbeats 1000000 in
theorem negref_any (s : Bool) {N : Nat} (hN : N < bb ^ 32) (w : World) : Calls Tryz.prog 41 #[.agg (wd s N).toArray] w fun e w' => e = .returned (.bool (s && decide (N ≠ 0))) ∧ Below w.heap.size w w' := by
  have HN := Lib.hid hN
  clear hN
  have b1 := Blk.new w (wd s N) 25 rfl
  have hb : Below w.heap.size w (w.alloc (.cells (wd s N).toArray 25)) := (Below.refl _ _).alloc (Nat.le_refl _) _
  have c0 := b1.cell (i := 0) (v := .bool s) rfl
  cases s with
  | false =>
    go_enter Tryz.func41, Tryz.ntmps41
    go_wp2
    go_ret
    exact ⟨rfl, hb⟩
  | true =>
    go_enter Tryz.func41, Tryz.ntmps41
    go_wp2_with (first | (refine ldWr (by rfl) rfl rfl b1 ?_))
    refine (of_any true HN.out _).mono ?_
    rintro e w1 ⟨v, rfl, hv, h1⟩
    obtain ⟨p, c, rfl, hc, _⟩ := hv.old
    replace hb := bthen hb h1
    by_cases h0 : N = 0
    · subst h0
      go_wp2
      go_ret
      exact ⟨rfl, hb⟩
    · have h2 : (0 : Int) < (nw N : Int) := by have := mt nw_zero.1 h0; omega
      go_wp2
      go_ret
      exact ⟨by simp [h0]; omega, hb⟩
set_option maxHeartbeats 1000000 in
theorem Isref_any (s : Bool) {N : Nat} (hN : N < bb ^ 32) (w : World) : Calls Tryz.prog 84 #[.agg (wd s N).toArray] w fun e w' => e = .returned (.bool (!s || decide (N ≠ 0))) ∧ Below w.heap.size w w' := by
  have HN := Lib.hid hN
  clear hN
  have b1 := Blk.new w (wd s N) 25 rfl
  have hb : Below w.heap.size w (w.alloc (.cells (wd s N).toArray 25)) := (Below.refl _ _).alloc (Nat.le_refl _) _
  have c0 := b1.cell (i := 0) (v := .bool s) rfl
  cases s with
  | false =>
    go_enter Tryz.func84, Tryz.ntmps84
    go_wp2
    go_ret
    exact ⟨rfl, hb⟩
  | true =>
    go_enter Tryz.func84, Tryz.ntmps84
    go_wp2_with (first | (refine ldWr (by rfl) rfl rfl b1 ?_))
    refine (of_any true HN.out _).mono ?_
    rintro e w1 ⟨v, rfl, hv, h1⟩
    obtain ⟨p, c, rfl, hc, _⟩ := hv.old
    replace hb := bthen hb h1
    by_cases h0 : N = 0
    · subst h0
      go_wp2
      go_ret
      exact ⟨rfl, hb⟩
    · have h2 : (0 : Int) < (nw N : Int) := by have := mt nw_zero.1 h0; omega
      go_wp2
      go_ret
      exact ⟨by simp [h0]; omega, hb⟩
set_option maxHeartbeats 1000000 in
theorem Bitsref_any (s : Bool) {N : Nat} (hN : N < bb ^ 32) (w : World) : Calls Tryz.prog 60 #[.agg (wd s N).toArray] w fun e w' => e = .returned (.int .i64 (bitLen N : Nat)) ∧ Below w.heap.size w w' := by
  have HN := Lib.hid hN
  have hn := nw_le_of hN
  clear hN
  have b1 := Blk.new w (wd s N) 25 rfl
  have hb : Below w.heap.size w (w.alloc (.cells (wd s N).toArray 25)) := (Below.refl _ _).alloc (Nat.le_refl _) _
  go_enter Tryz.func60, Tryz.ntmps60
  go_wp2_with (first | (with_reducible refine ldW rfl rfl rfl b1 ?_))
  refine (of_any s HN.out _).mono ?_
  rintro e w1 ⟨v, rfl, hv, h1⟩
  replace hb := bthen hb h1
  go_wp2_with fail
  refine (bits_any hv (by omega)).mono ?_
  rintro e w2 ⟨rfl, rfl⟩
  go_wp2
  go_ret
  exact ⟨rfl, hb⟩
set_option maxHeartbeats 1000000 in
theorem wide_nil (s : Bool) (w : World) : Calls Tryz.prog 40 #[.bool s, .slice none 0 0] w fun e w' => e = .returned (.tuple #[.agg (wd false 0).toArray, .bool true]) ∧ Below w.heap.size w w' := by
  have HT : Hid (∀ w, Calls Tryz.prog 51 #[.slice none 0 0] w fun e w' => e = .returned (.slice none 0 0) ∧ w' = w) := trim_nil
  have b4 := Blk.new w (wd false 0) 25 rfl
  have hb : Below w.heap.size w (w.alloc (.cells (wd false 0).toArray 25)) := (Below.refl _ _).alloc (Nat.le_refl _) _
  have f7 := Blk.new (w.alloc (.cells (wd false 0).toArray 25)) (wd false 0) 25 (b := w.heap.size + 1) (by simp)
  have b7 := f7.row (wd false 0)
  have c4 := (b4.old (.cells (wd false 0).toArray 25)).rowOther (g := w.heap.size + 1) (wd false 0).toArray (by omega)
  have hc' := below_row (hb.alloc hb.size (.cells (wd false 0).toArray 25)) (g := w.heap.size + 1) (by omega) (wd false 0).toArray
  go_enter Tryz.func40, Tryz.ntmps40
  go_wp2_with (first | (with_reducible refine alW rfl rfl ?_))
  refine (HT.out _).mono ?_
  rintro e w1 ⟨rfl, rfl⟩
  cases s with
  | false =>
    go_wp2_with (first | (with_reducible refine bdWs rfl rfl rfl ?_) | (with_reducible refine alW2 rfl rfl ?_) | (with_reducible refine alW rfl rfl ?_) | (with_reducible refine stW rfl rfl rfl rfl f7 ?_))
    generalize ((w.alloc (.cells (wd false 0).toArray 25)).alloc (.cells (wd false 0).toArray 25)).setRow (w.heap.size + 1) (wd false 0).toArray = W at *
    go_loopw [8] (fun i wr => i = .int .i64 0 ∧ Below w.heap.size w wr ∧ Blk wr w.heap.size (wd false 0) 25 ∧ Blk wr (w.heap.size + 1) (wd false 0) 25) (fun i _ => 0)
    case atStart => exact ⟨rfl, hc', c4, b7⟩
    case round =>
      clear hc' c4 b7 f7 b4 hb
      obtain ⟨rfl, hb, b4, b7⟩ := hrel
      go_wp2_with (first | (with_reducible refine ldW rfl rfl rfl b7 ?_) | (with_reducible refine stW rfl rfl rfl rfl b4 ?_))
      exact ret_ct (cs := wd false 0) (v := .bool true) rfl rfl rfl rfl (whole25 _ _) (b4.row _) ⟨rfl, below_row hb (Nat.le_refl _) _⟩
  | true =>
    go_wp2_with (first | (with_reducible refine bdWs rfl rfl rfl ?_) | (with_reducible refine alW2 rfl rfl ?_) | (with_reducible refine alW rfl rfl ?_) | (with_reducible refine stW rfl rfl rfl rfl f7 ?_))
    generalize ((w.alloc (.cells (wd false 0).toArray 25)).alloc (.cells (wd false 0).toArray 25)).setRow (w.heap.size + 1) (wd false 0).toArray = W at *
    go_loopw [8] (fun i wr => i = .int .i64 0 ∧ Below w.heap.size w wr ∧ Blk wr w.heap.size (wd false 0) 25 ∧ Blk wr (w.heap.size + 1) (wd false 0) 25) (fun i _ => 0)
    case atStart => exact ⟨rfl, hc', c4, b7⟩
    case round =>
      clear hc' c4 b7 f7 b4 hb
      obtain ⟨rfl, hb, b4, b7⟩ := hrel
      go_wp2_with (first | (with_reducible refine ldW rfl rfl rfl b7 ?_) | (with_reducible refine stW rfl rfl rfl rfl b4 ?_))
      exact ret_ct (cs := wd false 0) (v := .bool true) rfl rfl rfl rfl (whole25 _ _) (b4.row _) ⟨rfl, below_row hb (Nat.le_refl _) _⟩
theorem wideM_any {v : Value} {M : Nat} {w : World} (s : Bool) (h : Mv w v M) (h32 : nw M ≤ 32) : Calls Tryz.prog 40 #[.bool s, v] w fun e w' => e = .returned (.tuple #[.agg (wd (s && decide (M ≠ 0)) M).toArray, .bool true]) ∧ Below w.heap.size w w' := by
  rcases h with ⟨rfl, rfl⟩ | ⟨b, c, rfl, hc, hl, hx⟩
  · have := wide_nil s w
    rwa [show (s && decide ((0 : Nat) ≠ 0)) = false by simp]
  · exact wideref_yes s w ⟨nw_lt M, hx⟩ hl hc (by omega) h32
end Go.Proofs.YtckolhalggcenaaGreat
