/- Package point: Turn, Far, mean. -/
import Derived.Test.YtoegjibeomhekaaGreatPne
namespace Go.Proofs.YtoegjibeomhekaaGreat
set_option linter.unusedSimpArgs false
set_option linter.unusedVariables false
open Go.RowKit
set_option maxRecDepth 100000
set_option maxHeartbeats 1000000 in
theorem Turn_walk {A B C D E F N : List Value} {c : Int} (hA : Rc A) (hB : Rc B) (hC : Rc C) (hD : Rc D) (hE : Rc E) (hF : Rc F) (hN : Rc N) (T : Tl 88 #[vl (A ++ B), vl (C ++ D), vl (E ++ F)] (.tuple #[vl N, .bool true])) (S : Tl 89 #[vl N] (.int .i64 c)) :
    Tl 77 #[vl (A ++ B), vl (C ++ D), vl (E ++ F)] (.tuple #[.int .i64 c, .bool true]) := by
  intro w
  unfold vl at *
  have HA := Lib.hid hA
  have HB := Lib.hid hB
  have HC := Lib.hid hC
  have HD := Lib.hid hD
  have HE := Lib.hid hE
  have HF := Lib.hid hF
  have HN := Lib.hid hN
  have HT := Lib.hid T
  have HS := Lib.hid S
  unfold Tl at HT HS
  clear hA hB hC hD hE hF hN T S
  have b3 := ((Blk.new w (A ++ B) 47 rfl).old (.cells (C ++ D).toArray 47)).old (.cells (E ++ F).toArray 47)
  have b4 := (Blk.new (w.alloc (.cells (A ++ B).toArray 47)) (C ++ D) 47 (b := w.heap.size + 1) (by simp)).old (.cells (E ++ F).toArray 47)
  have b5 := Blk.new ((w.alloc (.cells (A ++ B).toArray 47)).alloc (.cells (C ++ D).toArray 47)) (E ++ F) 47 (b := w.heap.size + 1 + 1) (by simp)
  have hb : Below w.heap.size w (((w.alloc (.cells (A ++ B).toArray 47)).alloc (.cells (C ++ D).toArray 47)).alloc (.cells (E ++ F).toArray 47)) := (((Below.refl _ _).alloc (Nat.le_refl _) _).alloc (by simp) _).alloc (by simp; omega) _
  go_enter Tryz.func77, Tryz.ntmps77
  go_wp2_with (first | (with_reducible refine ldPt rfl rfl rfl b3 HA.out HB.out ?_) | (with_reducible refine ldPt rfl rfl rfl b4 HC.out HD.out ?_) | (with_reducible refine ldPt rfl rfl rfl b5 HE.out HF.out ?_))
  refine (HT.out _).mono ?_
  rintro e w1 ⟨rfl, h1⟩
  replace hb := bthen hb h1
  clear h1
  have f := Blk.new w1 (rr false 0 false 0) 45 rfl
  have b8 := laid_n w1 (rr false 0 false 0) (N) 45
  replace hb := laid_b hb (rr false 0 false 0) (N) 45
  go_wp2_with (first | (with_reducible refine alR rfl rfl ?_) | (with_reducible refine stQ rfl rfl rfl rfl f (rr_length _ _ _ _) HN.out ?_) | (with_reducible refine ldA' rfl rfl rfl b8 HN.out ?_))
  clear f
  generalize (w1.alloc (.cells (rr false 0 false 0).toArray 45)).setRow w1.heap.size (N).toArray = W at *
  generalize w1.heap.size = pl_b8 at *
  refine (HS.out _).mono ?_
  rintro e w1 ⟨rfl, h1⟩
  replace hb := bthen hb h1
  clear h1
  go_wp2
  go_ret2
  exact ⟨rfl, hb⟩
end Go.Proofs.YtoegjibeomhekaaGreat
