/- Package point: Turn, Far, mean. -/
import Derived.Test.YtckolhalggcenaaGreatPne
namespace Go.Proofs.YtckolhalggcenaaGreat
set_option linter.unusedSimpArgs false
set_option linter.unusedVariables false
open Go.RowKit
set_option maxRecDepth 100000
set_option maxHeartbeats 1000000 in
theorem Turn_walk {A B C D E F N : List Value} {c : Int} (hA : Rc A) (hB : Rc B) (hC : Rc C) (hD : Rc D) (hE : Rc E) (hF : Rc F) (hN : Rc N) (T : Tl 48 #[vl (A ++ B), vl (C ++ D), vl (E ++ F)] (.tuple #[vl N, .bool true])) (S : Tl 35 #[vl N] (.int .i64 c)) :
    Tl 64 #[vl (A ++ B), vl (C ++ D), vl (E ++ F)] (.tuple #[.int .i64 c, .bool true]) := by
  intro w
  unfold vl at *
  have HA := Lib.hid hA
  have HB := Lib.hid hB
  have HC := Lib.hid hC
  have HD := Lib.hid hD
  have HE := Lib.hid hE
  have HF := Lib.hid hF
  have HN := Lib.hid hN
  have HT := Lib.hid T
  have HS := Lib.hid S
  unfold Tl at HT HS
  clear hA hB hC hD hE hF hN T S
  have b3 := ((Blk.new w (A ++ B) 29 rfl).old (.cells (C ++ D).toArray 29)).old (.cells (E ++ F).toArray 29)
  have b4 := (Blk.new (w.alloc (.cells (A ++ B).toArray 29)) (C ++ D) 29 (b := w.heap.size + 1) (by simp)).old (.cells (E ++ F).toArray 29)
  have b5 := Blk.new ((w.alloc (.cells (A ++ B).toArray 29)).alloc (.cells (C ++ D).toArray 29)) (E ++ F) 29 (b := w.heap.size + 1 + 1) (by simp)
  have hb : Below w.heap.size w (((w.alloc (.cells (A ++ B).toArray 29)).alloc (.cells (C ++ D).toArray 29)).alloc (.cells (E ++ F).toArray 29)) := (((Below.refl _ _).alloc (Nat.le_refl _) _).alloc (by simp) _).alloc (by simp; omega) _
  go_enter Tryz.func64, Tryz.ntmps64
  go_wp2_with (first | (with_reducible refine ldPt rfl rfl rfl b3 HA.out HB.out ?_) | (with_reducible refine ldPt rfl rfl rfl b4 HC.out HD.out ?_) | (with_reducible refine ldPt rfl rfl rfl b5 HE.out HF.out ?_))
  refine (HT.out _).mono ?_
  rintro e w1 ⟨rfl, h1⟩
  replace hb := bthen hb h1
  clear h1
  have f := Blk.new w1 (rr false 0 false 0) 27 rfl
  have b8 := laid_n w1 (rr false 0 false 0) (N) 27
  replace hb := laid_b hb (rr false 0 false 0) (N) 27
  go_wp2_with (first | (with_reducible refine alR rfl rfl ?_) | (with_reducible refine stQ rfl rfl rfl rfl f (rr_length _ _ _ _) HN.out ?_) | (with_reducible refine ldA' rfl rfl rfl b8 HN.out ?_))
  clear f
  generalize (w1.alloc (.cells (rr false 0 false 0).toArray 27)).setRow w1.heap.size (N).toArray = W at *
  generalize w1.heap.size = pl_b8 at *
  refine (HS.out _).mono ?_
  rintro e w1 ⟨rfl, h1⟩
  replace hb := bthen hb h1
  clear h1
  go_wp2
  go_ret2
  exact ⟨rfl, hb⟩
set_option maxHeartbeats 1000000 in
theorem Far_walk {A B C D N : List Value} (hA : Rc A) (hB : Rc B) (hC : Rc C) (hD : Rc D) (hN : Rc N) (T : Tl 53 #[vl (A ++ B), vl (C ++ D), vl (C ++ D)] (.tuple #[vl N, .bool true])) :
    Tl 65 #[vl (A ++ B), vl (C ++ D)] (.tuple #[vl N, .bool true]) := by
  intro w
  unfold vl at *
  have HA := Lib.hid hA
  have HB := Lib.hid hB
  have HC := Lib.hid hC
  have HD := Lib.hid hD
  have HN := Lib.hid hN
  have HT := Lib.hid T
  unfold Tl at HT
  clear hA hB hC hD hN T
  have b2 := ((Blk.new w (A ++ B) 29 rfl).old (.cells (C ++ D).toArray 29)).old (.cells (rr false 0 false 0).toArray 27)
  have b3 := (Blk.new (w.alloc (.cells (A ++ B).toArray 29)) (C ++ D) 29 (b := w.heap.size + 1) (by simp)).old (.cells (rr false 0 false 0).toArray 27)
  have b4 := Blk.new ((w.alloc (.cells (A ++ B).toArray 29)).alloc (.cells (C ++ D).toArray 29)) (rr false 0 false 0) 27 (b := w.heap.size + 1 + 1) (by simp)
  have hb : Below w.heap.size w (((w.alloc (.cells (A ++ B).toArray 29)).alloc (.cells (C ++ D).toArray 29)).alloc (.cells (rr false 0 false 0).toArray 27)) := (((Below.refl _ _).alloc (Nat.le_refl _) _).alloc (by simp) _).alloc (by simp; omega) _
  go_enter Tryz.func65, Tryz.ntmps65
  go_wp2_with (first | (with_reducible refine alR rfl rfl ?_) | (with_reducible refine ldPt rfl rfl rfl b2 HA.out HB.out ?_) | (with_reducible refine ldPt rfl rfl rfl b3 HC.out HD.out ?_))
  try rw [show ((w.alloc (.cells (A ++ B).toArray 29)).alloc (.cells (C ++ D).toArray 29)).heap.size = w.heap.size + 1 + 1 by simp]
  refine (HT.out _).mono ?_
  rintro e w1 ⟨rfl, h1⟩
  replace b4 := b4.call h1
  replace hb := bthen hb h1
  clear h1
  go_wp2_with (first | (with_reducible refine stQ rfl rfl rfl rfl b4 (rr_length _ _ _ _) HN.out ?_))
  exact ret_ct (cs := N) (v := .bool true) rfl rfl rfl rfl HN.out.whole (b4.row _) ⟨rfl, below_row hb (by omega) _⟩
end Go.Proofs.YtckolhalggcenaaGreat
