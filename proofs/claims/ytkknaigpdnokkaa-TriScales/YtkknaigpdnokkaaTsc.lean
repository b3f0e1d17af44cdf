/- What TriScales answers. -/
import Derived.Test.YtkknaigpdnokkaaTru
namespace Go.Proofs.Ytkknaigpdnokkaa
set_option linter.unusedSimpArgs false
set_option linter.unusedVariables false
open Go.RowKit
set_option maxRecDepth 100000
section
variable {ops : Array Oper} {rest : List Oper} {o : Oper} {a : Act} {w : World} {Q : Exit → Act → World → Prop}
theorem eqqg {p q : Operand} {x : Rat} {ty : TypeId} (hw : Region.wanted o (yielded ops a.tmps) = true) (ho : o.op = .binOp .eql 29 p q ty) (hp : a.eval p = .agg (fq x).toArray) (hq : a.eval q = .agg (fq x).toArray) (hx : Fq2 x)
    (hr : wpList Try.prog ops Q rest (a.put o.dst (.bool true)) w) : wpList Try.prog ops Q (o :: rest) a w :=
  BigFrame.wpList_want hw fun _ hK => by
    have := hK _ _ hr
    unfold Oper.wp
    rw [op_eqq hx hx (decide_eq_true rfl) ho hp hq w]
    exact this
end
set_option maxHeartbeats 16000000 in
theorem tc_walk {B1 B2 C1 C2 k p1 p2 q1 q2 : Int} {ax ay bx by' cx cy px py qx qy ux uy vx vy s : Rat} {g sh : Bool} (hB1 : -128 ≤ B1 ∧ B1 ≤ 127) (hB2 : -128 ≤ B2 ∧ B2 ≤ 127) (hC1 : -128 ≤ C1 ∧ C1 ≤ 127) (hC2 : -128 ≤ C2 ∧ C2 ≤ 127) (hk : 0 ≤ k ∧ k ≤ 255)
    (ep1 : wrap64 (-(k % 9 + 1) * B2) = p1) (ep2 : wrap64 ((k % 9 + 1) * B1) = p2) (eq1 : wrap64 (-(k % 9 + 1) * C2) = q1) (eq2 : wrap64 ((k % 9 + 1) * C1) = q2) (fs : Fq2 s)
    (A0 : Tl 5 #[.int .i64 0, .int .i64 0] (vp ax ay)) (AB : Tl 5 #[.int .i64 B1, .int .i64 B2] (vp bx by')) (AC : Tl 5 #[.int .i64 C1, .int .i64 C2] (vp cx cy))
    (AP : Tl 5 #[.int .i64 p1, .int .i64 p2] (vp px py)) (AQ : Tl 5 #[.int .i64 q1, .int .i64 q2] (vp qx qy)) (AU : Tl 5 #[.int .i64 B2, .int .i64 B1] (vp ux uy)) (AV : Tl 5 #[.int .i64 C2, .int .i64 C1] (vp vx vy))
    (G1 : Tl 6 #[vp ax ay, vp bx by', vp cx cy] (.tuple #[.bool g, .bool true])) (G2 : Tl 6 #[vp ax ay, vp px py, vp qx qy] (.tuple #[.bool g, .bool true])) (G3 : Tl 6 #[vp ax ay, vp vx vy, vp ux uy] (.tuple #[.bool g, .bool true]))
    (S1 : Tl 7 #[vp ax ay, vp bx by', vp cx cy] (.tuple #[vl (fq s), .bool sh, .bool true])) (S2 : Tl 7 #[vp ax ay, vp px py, vp qx qy] (.tuple #[vl (fq s), .bool sh, .bool true])) (w : World) :
    Calls Try.prog 3 #[.int .i8 B1, .int .i8 B2, .int .i8 C1, .int .i8 C2, .int .u8 k] w fun e w' => e = .returned (.bool true) ∧ Below w.heap.size w w' := by
  have HA0 := Lib.hid A0
  have HAB := Lib.hid AB
  have HAC := Lib.hid AC
  have HAP := Lib.hid AP
  have HAQ := Lib.hid AQ
  have HAU := Lib.hid AU
  have HAV := Lib.hid AV
  have HG1 := Lib.hid G1
  have HG2 := Lib.hid G2
  have HG3 := Lib.hid G3
  have HS1 := Lib.hid S1
  have HS2 := Lib.hid S2
  have Hfs := Lib.hid fs
  clear A0 AB AC AP AQ AU AV G1 G2 G3 S1 S2 fs
  have Hep1 := Lib.hid ep1
  have Hep2 := Lib.hid ep2
  have Heq1 := Lib.hid eq1
  have Heq2 := Lib.hid eq2
  clear ep1 ep2 eq1 eq2
  unfold Tl at HA0 HAB HAC HAP HAQ HAU HAV HG1 HG2 HG3 HS1 HS2
  unfold vp at HA0 HAB HAC HAP HAQ HAU HAV HG1 HG2 HG3 HS1 HS2
  unfold vl at HA0 HAB HAC HAP HAQ HAU HAV HG1 HG2 HG3 HS1 HS2
  have hb := Below.refl w.heap.size w
  go_enter Try.func3, Try.ntmps3
  go_wp2_with fail
  refine (known5_any _).mono ?_
  rintro e w1 ⟨rfl, h1⟩
  replace hb := bthen hb h1
  clear h1
  go_wp2_with fail
  refine (HA0.out _).mono ?_
  rintro e w1 ⟨rfl, h1⟩
  replace hb := bthen hb h1
  clear h1
  go_wp2_with fail
  refine (HAB.out _).mono ?_
  rintro e w1 ⟨rfl, h1⟩
  replace hb := bthen hb h1
  clear h1
  go_wp2_with fail
  refine (HAC.out _).mono ?_
  rintro e w1 ⟨rfl, h1⟩
  replace hb := bthen hb h1
  clear h1
  have f1 := ((Blk.new w1 p0 31 rfl).old (.cells p0.toArray 31)).old (.cells p0.toArray 31)
  have f2 := ((Blk.new (w1.alloc (.cells p0.toArray 31)) p0 31 (b := w1.heap.size + 1) (by simp)).old (.cells p0.toArray 31)).rowOther (g := w1.heap.size) (fq ax ++ fq ay).toArray (by omega)
  have f3 := ((Blk.new ((w1.alloc (.cells p0.toArray 31)).alloc (.cells p0.toArray 31)) p0 31 (b := w1.heap.size + 1 + 1) (by simp)).rowOther (g := w1.heap.size) (fq ax ++ fq ay).toArray (by omega)).rowOther (g := w1.heap.size + 1) (fq bx ++ fq by').toArray (by omega)
  have b12 := ((f1.row (fq ax ++ fq ay)).rowOther (g := w1.heap.size + 1) (fq bx ++ fq by').toArray (by omega)).rowOther (g := w1.heap.size + 1 + 1) (fq cx ++ fq cy).toArray (by omega)
  have b13 := (f2.row (fq bx ++ fq by')).rowOther (g := w1.heap.size + 1 + 1) (fq cx ++ fq cy).toArray (by omega)
  have b14 := f3.row (fq cx ++ fq cy)
  have hs := hb.size
  have k1 : (w1.alloc (.cells p0.toArray 31)).heap.size = w1.heap.size + 1 := by simp
  have k2 : ((w1.alloc (.cells p0.toArray 31)).alloc (.cells p0.toArray 31)).heap.size = w1.heap.size + 1 + 1 := by simp
  replace hb := below_row (below_row (below_row (((hb.alloc hs (.cells p0.toArray 31)).alloc (by omega) (.cells p0.toArray 31)).alloc (by omega) (.cells p0.toArray 31)) (g := w1.heap.size) hs (fq ax ++ fq ay).toArray) (g := w1.heap.size + 1) (by omega) (fq bx ++ fq by').toArray) (g := w1.heap.size + 1 + 1) (by omega) (fq cx ++ fq cy).toArray
  clear k1 k2
  go_wp2_with (first | (with_reducible refine alP3 rfl rfl ?_) | (with_reducible refine alP2 rfl rfl ?_) | (with_reducible refine alP rfl rfl ?_) | (with_reducible refine stPt rfl rfl rfl rfl f1 p0_len (rc_q _) (rc_q _) ?_) | (with_reducible refine stPt rfl rfl rfl rfl f2 p0_len (rc_q _) (rc_q _) ?_) | (with_reducible refine stPt rfl rfl rfl rfl f3 p0_len (rc_q _) (rc_q _) ?_))
  clear f1 f2 f3 hs
  try rw [show ((w1.alloc (.cells p0.toArray 31)).alloc (.cells p0.toArray 31)).heap.size = w1.heap.size + 1 + 1 by simp]
  try rw [show (w1.alloc (.cells p0.toArray 31)).heap.size = w1.heap.size + 1 by simp]
  generalize (((((w1.alloc (.cells p0.toArray 31)).alloc (.cells p0.toArray 31)).alloc (.cells p0.toArray 31)).setRow w1.heap.size (fq ax ++ fq ay).toArray).setRow (w1.heap.size + 1) (fq bx ++ fq by').toArray).setRow (w1.heap.size + 1 + 1) (fq cx ++ fq cy).toArray = W at *
  generalize w1.heap.size + 1 + 1 = pl_b14 at *
  generalize w1.heap.size + 1 = pl_b13 at *
  generalize w1.heap.size = pl_b12 at *
  rw [Hep1.out, Hep2.out]
  refine (HAP.out _).mono ?_
  rintro e w1 ⟨rfl, h1⟩
  replace b12 := b12.call h1
  replace b13 := b13.call h1
  replace b14 := b14.call h1
  replace hb := bthen hb h1
  clear h1
  go_wp2_with fail
  rw [Heq1.out, Heq2.out]
  refine (HAQ.out _).mono ?_
  rintro e w1 ⟨rfl, h1⟩
  replace b12 := b12.call h1
  replace b13 := b13.call h1
  replace b14 := b14.call h1
  replace hb := bthen hb h1
  clear h1
  have f1 := (Blk.new w1 p0 31 rfl).old (.cells p0.toArray 31)
  have f2 := (Blk.new (w1.alloc (.cells p0.toArray 31)) p0 31 (b := w1.heap.size + 1) (by simp)).rowOther (g := w1.heap.size) (fq px ++ fq py).toArray (by omega)
  have b15 := (f1.row (fq px ++ fq py)).rowOther (g := w1.heap.size + 1) (fq qx ++ fq qy).toArray (by omega)
  have b16 := f2.row (fq qx ++ fq qy)
  replace b12 := (((b12.old (.cells p0.toArray 31)).old (.cells p0.toArray 31)).rowOther (g := w1.heap.size) (fq px ++ fq py).toArray (by have := b12.lt; omega)).rowOther (g := w1.heap.size + 1) (fq qx ++ fq qy).toArray (by have := b12.lt; omega)
  replace b13 := (((b13.old (.cells p0.toArray 31)).old (.cells p0.toArray 31)).rowOther (g := w1.heap.size) (fq px ++ fq py).toArray (by have := b13.lt; omega)).rowOther (g := w1.heap.size + 1) (fq qx ++ fq qy).toArray (by have := b13.lt; omega)
  replace b14 := (((b14.old (.cells p0.toArray 31)).old (.cells p0.toArray 31)).rowOther (g := w1.heap.size) (fq px ++ fq py).toArray (by have := b14.lt; omega)).rowOther (g := w1.heap.size + 1) (fq qx ++ fq qy).toArray (by have := b14.lt; omega)
  have hs := hb.size
  have k1 : (w1.alloc (.cells p0.toArray 31)).heap.size = w1.heap.size + 1 := by simp
  replace hb := below_row (below_row ((hb.alloc hs (.cells p0.toArray 31)).alloc (by omega) (.cells p0.toArray 31)) (g := w1.heap.size) hs (fq px ++ fq py).toArray) (g := w1.heap.size + 1) (by omega) (fq qx ++ fq qy).toArray
  clear k1
  go_wp2_with (first | (with_reducible refine alP2 rfl rfl ?_) | (with_reducible refine alP rfl rfl ?_) | (with_reducible refine stPt rfl rfl rfl rfl f1 p0_len (rc_q _) (rc_q _) ?_) | (with_reducible refine stPt rfl rfl rfl rfl f2 p0_len (rc_q _) (rc_q _) ?_))
  clear f1 f2 hs
  try rw [show (w1.alloc (.cells p0.toArray 31)).heap.size = w1.heap.size + 1 by simp]
  generalize (((w1.alloc (.cells p0.toArray 31)).alloc (.cells p0.toArray 31)).setRow w1.heap.size (fq px ++ fq py).toArray).setRow (w1.heap.size + 1) (fq qx ++ fq qy).toArray = W at *
  generalize w1.heap.size + 1 = pl_b16 at *
  generalize w1.heap.size = pl_b15 at *
  refine (HAU.out _).mono ?_
  rintro e w1 ⟨rfl, h1⟩
  replace b12 := b12.call h1
  replace b13 := b13.call h1
  replace b14 := b14.call h1
  replace b15 := b15.call h1
  replace b16 := b16.call h1
  replace hb := bthen hb h1
  clear h1
  go_wp2_with fail
  refine (HAV.out _).mono ?_
  rintro e w1 ⟨rfl, h1⟩
  replace b12 := b12.call h1
  replace b13 := b13.call h1
  replace b14 := b14.call h1
  replace b15 := b15.call h1
  replace b16 := b16.call h1
  replace hb := bthen hb h1
  clear h1
  have f1 := (Blk.new w1 p0 31 rfl).old (.cells p0.toArray 31)
  have f2 := (Blk.new (w1.alloc (.cells p0.toArray 31)) p0 31 (b := w1.heap.size + 1) (by simp)).rowOther (g := w1.heap.size) (fq ux ++ fq uy).toArray (by omega)
  have b17 := (f1.row (fq ux ++ fq uy)).rowOther (g := w1.heap.size + 1) (fq vx ++ fq vy).toArray (by omega)
  have b18 := f2.row (fq vx ++ fq vy)
  replace b12 := (((b12.old (.cells p0.toArray 31)).old (.cells p0.toArray 31)).rowOther (g := w1.heap.size) (fq ux ++ fq uy).toArray (by have := b12.lt; omega)).rowOther (g := w1.heap.size + 1) (fq vx ++ fq vy).toArray (by have := b12.lt; omega)
  replace b13 := (((b13.old (.cells p0.toArray 31)).old (.cells p0.toArray 31)).rowOther (g := w1.heap.size) (fq ux ++ fq uy).toArray (by have := b13.lt; omega)).rowOther (g := w1.heap.size + 1) (fq vx ++ fq vy).toArray (by have := b13.lt; omega)
  replace b14 := (((b14.old (.cells p0.toArray 31)).old (.cells p0.toArray 31)).rowOther (g := w1.heap.size) (fq ux ++ fq uy).toArray (by have := b14.lt; omega)).rowOther (g := w1.heap.size + 1) (fq vx ++ fq vy).toArray (by have := b14.lt; omega)
  replace b15 := (((b15.old (.cells p0.toArray 31)).old (.cells p0.toArray 31)).rowOther (g := w1.heap.size) (fq ux ++ fq uy).toArray (by have := b15.lt; omega)).rowOther (g := w1.heap.size + 1) (fq vx ++ fq vy).toArray (by have := b15.lt; omega)
  replace b16 := (((b16.old (.cells p0.toArray 31)).old (.cells p0.toArray 31)).rowOther (g := w1.heap.size) (fq ux ++ fq uy).toArray (by have := b16.lt; omega)).rowOther (g := w1.heap.size + 1) (fq vx ++ fq vy).toArray (by have := b16.lt; omega)
  have hs := hb.size
  have k1 : (w1.alloc (.cells p0.toArray 31)).heap.size = w1.heap.size + 1 := by simp
  replace hb := below_row (below_row ((hb.alloc hs (.cells p0.toArray 31)).alloc (by omega) (.cells p0.toArray 31)) (g := w1.heap.size) hs (fq ux ++ fq uy).toArray) (g := w1.heap.size + 1) (by omega) (fq vx ++ fq vy).toArray
  clear k1
  go_wp2_with (first | (with_reducible refine alP2 rfl rfl ?_) | (with_reducible refine alP rfl rfl ?_) | (with_reducible refine stPt rfl rfl rfl rfl f1 p0_len (rc_q _) (rc_q _) ?_) | (with_reducible refine stPt rfl rfl rfl rfl f2 p0_len (rc_q _) (rc_q _) ?_) | (with_reducible refine ldPt rfl rfl rfl b12 (rc_q _) (rc_q _) ?_) | (with_reducible refine ldPt rfl rfl rfl b13 (rc_q _) (rc_q _) ?_) | (with_reducible refine ldPt rfl rfl rfl b14 (rc_q _) (rc_q _) ?_))
  clear f1 f2 hs
  try rw [show (w1.alloc (.cells p0.toArray 31)).heap.size = w1.heap.size + 1 by simp]
  generalize (((w1.alloc (.cells p0.toArray 31)).alloc (.cells p0.toArray 31)).setRow w1.heap.size (fq ux ++ fq uy).toArray).setRow (w1.heap.size + 1) (fq vx ++ fq vy).toArray = W at *
  generalize w1.heap.size + 1 = pl_b18 at *
  generalize w1.heap.size = pl_b17 at *
  refine (HG1.out _).mono ?_
  rintro e w1 ⟨rfl, h1⟩
  replace b12 := b12.call h1
  replace b13 := b13.call h1
  replace b14 := b14.call h1
  replace b15 := b15.call h1
  replace b16 := b16.call h1
  replace b17 := b17.call h1
  replace b18 := b18.call h1
  replace hb := bthen hb h1
  clear h1
  go_wp2_with (first | (with_reducible refine ldPt rfl rfl rfl b12 (rc_q _) (rc_q _) ?_) | (with_reducible refine ldPt rfl rfl rfl b15 (rc_q _) (rc_q _) ?_) | (with_reducible refine ldPt rfl rfl rfl b16 (rc_q _) (rc_q _) ?_))
  refine (HG2.out _).mono ?_
  rintro e w1 ⟨rfl, h1⟩
  replace b12 := b12.call h1
  replace b13 := b13.call h1
  replace b14 := b14.call h1
  replace b15 := b15.call h1
  replace b16 := b16.call h1
  replace b17 := b17.call h1
  replace b18 := b18.call h1
  replace hb := bthen hb h1
  clear h1
  go_wp2_with (first | (with_reducible refine ldPt rfl rfl rfl b12 (rc_q _) (rc_q _) ?_) | (with_reducible refine ldPt rfl rfl rfl b18 (rc_q _) (rc_q _) ?_) | (with_reducible refine ldPt rfl rfl rfl b17 (rc_q _) (rc_q _) ?_))
  refine (HG3.out _).mono ?_
  rintro e w1 ⟨rfl, h1⟩
  replace b12 := b12.call h1
  replace b13 := b13.call h1
  replace b14 := b14.call h1
  replace b15 := b15.call h1
  replace b16 := b16.call h1
  replace hb := bthen hb h1
  clear h1
  go_wp2_with (first | (with_reducible refine ldPt rfl rfl rfl b12 (rc_q _) (rc_q _) ?_) | (with_reducible refine ldPt rfl rfl rfl b13 (rc_q _) (rc_q _) ?_) | (with_reducible refine ldPt rfl rfl rfl b14 (rc_q _) (rc_q _) ?_))
  clear b17 b18
  refine (HS1.out _).mono ?_
  rintro e w1 ⟨rfl, h1⟩
  replace b12 := b12.call h1
  replace b15 := b15.call h1
  replace b16 := b16.call h1
  replace hb := bthen hb h1
  clear h1
  have f := Blk.new w1 (rr false 0 false 0) 29 rfl
  have b25 := laid_n w1 (rr false 0 false 0) (fq s) 29
  replace b12 := laid_o b12 (rr false 0 false 0) (fq s) 29
  replace b15 := laid_o b15 (rr false 0 false 0) (fq s) 29
  replace b16 := laid_o b16 (rr false 0 false 0) (fq s) 29
  replace hb := laid_b hb (rr false 0 false 0) (fq s) 29
  go_wp2_with (first | (with_reducible refine alR rfl rfl ?_) | (with_reducible refine stQ rfl rfl rfl rfl f (rr_length _ _ _ _) (rc_q _) ?_) | (with_reducible refine ldPt rfl rfl rfl b12 (rc_q _) (rc_q _) ?_) | (with_reducible refine ldPt rfl rfl rfl b15 (rc_q _) (rc_q _) ?_) | (with_reducible refine ldPt rfl rfl rfl b16 (rc_q _) (rc_q _) ?_))
  clear f
  generalize (w1.alloc (.cells (rr false 0 false 0).toArray 29)).setRow w1.heap.size (fq s).toArray = W at *
  generalize w1.heap.size = pl_b25 at *
  clear b13 b14
  rcases g with _ | _ <;> rcases sh with _ | _
  · skip
    refine (HS2.out _).mono ?_
    rintro e w1 ⟨rfl, h1⟩
    replace b25 := b25.call h1
    replace hb := bthen hb h1
    clear h1
    have f := Blk.new w1 (rr false 0 false 0) 29 rfl
    have b28 := laid_n w1 (rr false 0 false 0) (fq s) 29
    replace b25 := laid_o b25 (rr false 0 false 0) (fq s) 29
    replace hb := laid_b hb (rr false 0 false 0) (fq s) 29
    go_wp2_with (first | (with_reducible refine alR rfl rfl ?_) | (with_reducible refine stQ rfl rfl rfl rfl f (rr_length _ _ _ _) (rc_q _) ?_) | (refine ldPg (by rfl) rfl rfl b25 (part_all _) (rc_q _).whole ?_) | (refine ldPg (by rfl) rfl rfl b28 (part_all _) (rc_q _).whole ?_) | (refine eqqg (by rfl) rfl rfl rfl Hfs.out ?_))
    clear f
    generalize (w1.alloc (.cells (rr false 0 false 0).toArray 29)).setRow w1.heap.size (fq s).toArray = W at *
    generalize w1.heap.size = pl_b28 at *
    go_wp2
    go_ret
    exact ⟨rfl, hb⟩
  · skip
    refine (HS2.out _).mono ?_
    rintro e w1 ⟨rfl, h1⟩
    replace b25 := b25.call h1
    replace hb := bthen hb h1
    clear h1
    have f := Blk.new w1 (rr false 0 false 0) 29 rfl
    have b28 := laid_n w1 (rr false 0 false 0) (fq s) 29
    replace b25 := laid_o b25 (rr false 0 false 0) (fq s) 29
    replace hb := laid_b hb (rr false 0 false 0) (fq s) 29
    go_wp2_with (first | (with_reducible refine alR rfl rfl ?_) | (with_reducible refine stQ rfl rfl rfl rfl f (rr_length _ _ _ _) (rc_q _) ?_) | (refine ldPg (by rfl) rfl rfl b25 (part_all _) (rc_q _).whole ?_) | (refine ldPg (by rfl) rfl rfl b28 (part_all _) (rc_q _).whole ?_) | (refine eqqg (by rfl) rfl rfl rfl Hfs.out ?_))
    clear f
    generalize (w1.alloc (.cells (rr false 0 false 0).toArray 29)).setRow w1.heap.size (fq s).toArray = W at *
    generalize w1.heap.size = pl_b28 at *
    go_wp2
    go_ret
    exact ⟨rfl, hb⟩
  · skip
    refine (HS2.out _).mono ?_
    rintro e w1 ⟨rfl, h1⟩
    replace b25 := b25.call h1
    replace hb := bthen hb h1
    clear h1
    have f := Blk.new w1 (rr false 0 false 0) 29 rfl
    have b28 := laid_n w1 (rr false 0 false 0) (fq s) 29
    replace b25 := laid_o b25 (rr false 0 false 0) (fq s) 29
    replace hb := laid_b hb (rr false 0 false 0) (fq s) 29
    go_wp2_with (first | (with_reducible refine alR rfl rfl ?_) | (with_reducible refine stQ rfl rfl rfl rfl f (rr_length _ _ _ _) (rc_q _) ?_) | (refine ldPg (by rfl) rfl rfl b25 (part_all _) (rc_q _).whole ?_) | (refine ldPg (by rfl) rfl rfl b28 (part_all _) (rc_q _).whole ?_) | (refine eqqg (by rfl) rfl rfl rfl Hfs.out ?_))
    clear f
    generalize (w1.alloc (.cells (rr false 0 false 0).toArray 29)).setRow w1.heap.size (fq s).toArray = W at *
    generalize w1.heap.size = pl_b28 at *
    go_wp2
    go_ret
    exact ⟨rfl, hb⟩
  · skip
    refine (HS2.out _).mono ?_
    rintro e w1 ⟨rfl, h1⟩
    replace b25 := b25.call h1
    replace hb := bthen hb h1
    clear h1
    have f := Blk.new w1 (rr false 0 false 0) 29 rfl
    have b28 := laid_n w1 (rr false 0 false 0) (fq s) 29
    replace b25 := laid_o b25 (rr false 0 false 0) (fq s) 29
    replace hb := laid_b hb (rr false 0 false 0) (fq s) 29
    go_wp2_with (first | (with_reducible refine alR rfl rfl ?_) | (with_reducible refine stQ rfl rfl rfl rfl f (rr_length _ _ _ _) (rc_q _) ?_) | (refine ldPg (by rfl) rfl rfl b25 (part_all _) (rc_q _).whole ?_) | (refine ldPg (by rfl) rfl rfl b28 (part_all _) (rc_q _).whole ?_) | (refine eqqg (by rfl) rfl rfl rfl Hfs.out ?_))
    clear f
    generalize (w1.alloc (.cells (rr false 0 false 0).toArray 29)).setRow w1.heap.size (fq s).toArray = W at *
    generalize w1.heap.size = pl_b28 at *
    go_wp2
    go_ret
    exact ⟨rfl, hb⟩
theorem dti_int (a1 a2 b1 b2 c1 c2 : Int) {n : Int} (h : (b1 - a1) * (c1 - a1) + (b2 - a2) * (c2 - a2) = n) : dt (a1 : Rat) (a2 : Rat) (b1 : Rat) (b2 : Rat) (c1 : Rat) (c2 : Rat) = (n : Rat) := by
  subst h
  unfold dt
  simp only [Rat.intCast_sub, Rat.intCast_mul, Rat.intCast_add]
theorem crsi_int (a1 a2 b1 b2 c1 c2 : Int) {n : Int} (h : (b1 - a1) * (c2 - a2) - (b2 - a2) * (c1 - a1) = n) : crs (a1 : Rat) (a2 : Rat) (b1 : Rat) (b2 : Rat) (c1 : Rat) (c2 : Rat) = (n : Rat) := by
  subst h
  unfold crs
  simp only [Rat.intCast_sub, Rat.intCast_mul]
theorem cqi (a b : Int) : cq (a : Rat) (b : Rat) = if a < b then -1 else if b < a then 1 else 0 := by
  unfold cq
  simp only [Rat.intCast_lt_intCast]
theorem cqi0 (a : Int) : cq (a : Rat) 0 = if a < 0 then -1 else if 0 < a then 1 else 0 := cqi a 0
def gi (A D0 D1 D2 : Int) : Bool := decide (0 < A) && !(decide (A < D0) || (decide (A < D1) || decide (A < D2)))
def shq (A D : Int) : Rat := if 0 < D then (A : Rat) / (D : Rat) else Rat.divInt 0 1
section
variable {ax ay bx by' cx cy : Rat} (ha : Gd ax ay) (hb : Gd bx by') (hc : Gd cx cy)
include ha hb hc
theorem Good_i {A D0 D1 D2 : Int} (hA : crs ax ay bx by' cx cy = (A : Rat)) (h0 : dt ax ay bx by' cx cy = (D0 : Rat)) (h1 : dt bx by' cx cy ax ay = (D1 : Rat)) (h2 : dt cx cy ax ay bx by' = (D2 : Rat)) : Tl 6 #[vp ax ay, vp bx by', vp cx cy] (.tuple #[.bool (gi A D0 D1 D2), .bool true]) := by
  have pos (x y : Int) : decide (0 < cq (x : Rat) (y : Rat)) = decide (y < x) := by
    rw [cqi]
    by_cases h1 : x < y
    · rw [if_pos h1]; exact decide_eq_decide.2 (by omega)
    · by_cases h2 : y < x
      · rw [if_neg h1, if_pos h2]; exact decide_eq_decide.2 (by omega)
      · rw [if_neg h1, if_neg h2]; exact decide_eq_decide.2 (by omega)
  by_cases h : 0 < A
  · have e : gi A D0 D1 D2 = !(decide (A < D0) || (decide (A < D1) || decide (A < D2))) := by unfold gi; rw [decide_eq_true h, Bool.true_and]
    rw [e]
    exact Good_q ha hb hc (by rw [hA, cqi0, if_neg (by omega), if_pos h]) (by rw [hA, h0]; exact pos _ _) (by rw [hA, h1]; exact pos _ _) (by rw [hA, h2]; exact pos _ _)
  · have e : gi A D0 D1 D2 = false := by unfold gi; rw [decide_eq_false h, Bool.false_and]
    rw [e]
    by_cases h' : A < 0
    · exact Good_not ha hb hc (c := -1) (by rw [hA, cqi0, if_pos h']) (.inr rfl)
    · exact Good_not ha hb hc (c := 0) (by rw [hA, cqi0, if_neg h', if_neg h]) (.inl rfl)
theorem Sharp_i {A D : Int} (hA : crs ax ay bx by' cx cy = (A : Rat)) (h0 : dt ax ay bx by' cx cy = (D : Rat)) : Tl 7 #[vp ax ay, vp bx by', vp cx cy] (.tuple #[vl (fq (shq A D)), .bool (decide (0 < D)), .bool true]) := by
  by_cases h : 0 < D
  · have T := Sharp_yes ha hb hc (by rw [h0, cqi0, if_neg (by omega), if_pos h]; rfl) (by rw [h0]; intro e; have := Rat.intCast_inj.1 (e.trans (show (0 : Rat) = ((0 : Int) : Rat) from rfl)); omega)
    rw [hA, h0] at T
    rw [decide_eq_true h, show shq A D = (A : Rat) / (D : Rat) from if_pos h]
    exact T
  · have T := Sharp_no ha hb hc (by
      rw [h0, cqi0, if_neg h]
      by_cases h' : D < 0
      · rw [if_pos h']; rfl
      · rw [if_neg h']; rfl)
    rw [decide_eq_false h, show shq A D = Rat.divInt 0 1 from if_neg h]
    exact T
end
end Go.Proofs.Ytkknaigpdnokkaa
