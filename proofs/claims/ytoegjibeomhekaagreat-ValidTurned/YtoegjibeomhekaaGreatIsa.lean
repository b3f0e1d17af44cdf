/- The reference's At. -/
import Derived.Test.YtoegjibeomhekaaGreatPke
namespace Go.Proofs.YtoegjibeomhekaaGreat
set_option linter.unusedSimpArgs false
set_option linter.unusedVariables false
open Go.RowKit
set_option maxRecDepth 100000
theorem gd_i {n m : Int} (hn : n.natAbs < 2 ^ 60) (hm : m.natAbs < 2 ^ 60) : Gd (n : Rat) (m : Rat) := ⟨bq_int hn (by omega), bq_int hm (by omega)⟩
theorem f2_i {n : Int} (h : n.natAbs < 2 ^ 60) : Fq2 (n : Rat) := (bq_int (k := 60) h (by omega)).f2 (by omega)
set_option maxHeartbeats 1000000 in
theorem Atref_walk {n m : Int} {A B : List Value} (hA : Rc A) (hB : Rc B) (T : Tl 18 #[.int .i64 n] (vl A)) (T' : Tl 18 #[.int .i64 m] (vl B)) : Tl 10 #[.int .i64 n, .int .i64 m] (vl (A ++ B)) := fun w => by
  unfold vl at *
  have HT := Lib.hid T
  have HT' := Lib.hid T'
  have HA := Lib.hid hA
  have HB := Lib.hid hB
  unfold Tl at HT HT'
  clear T T' hA hB
  have b4 := Blk.new w p0 47 rfl
  have hb : Below w.heap.size w (w.alloc (.cells p0.toArray 47)) := (Below.refl _ _).alloc (Nat.le_refl _) _
  go_enter Tryz.func10, Tryz.ntmps10
  go_wp2_with (first | (with_reducible refine alP rfl rfl ?_))
  refine (HT.out _).mono ?_
  rintro e w1 ⟨rfl, h1⟩
  replace b4 := b4.call h1
  replace hb := bthen hb h1
  clear h1
  go_wp2_with fail
  refine (HT'.out _).mono ?_
  rintro e w1 ⟨rfl, h1⟩
  replace b4 := b4.call h1
  replace hb := bthen hb h1
  clear h1
  go_wp2_with (first | (with_reducible refine bdP rfl rfl rfl rfl HA.out HB.out ?_) | (with_reducible refine stPt rfl rfl rfl rfl b4 p0_len HA.out HB.out ?_))
  exact ret_c (cs := A ++ B) rfl rfl rfl (wholeP HA.out HB.out) (b4.row _) ⟨rfl, below_row hb (by omega) _⟩
theorem Atref_q {n m : Int} (hn : -9223372036854775808 ≤ n ∧ n ≤ 9223372036854775807) (hm : -9223372036854775808 ≤ m ∧ m ≤ 9223372036854775807) : Tl 10 #[.int .i64 n, .int .i64 m] (vp (n : Rat) (m : Rat)) :=
  Atref_walk (rc_q _) (rc_q _) (Whole_q hn) (Whole_q hm)
end Go.Proofs.YtoegjibeomhekaaGreat
