/- What PointMoves answers. -/
import Derived.Test.YtiaikjeljhfadaaPka
import Derived.Test.YtiaikjeljhfadaaOpn
namespace Go.Proofs.Ytiaikjeljhfadaa
set_option linter.unusedSimpArgs false
set_option linter.unusedVariables false
open Go.RowKit
set_option maxRecDepth 100000
set_option maxHeartbeats 16000000 in
theorem pmove_walk {a1 a2 b1 b2 c1 c2 d1 d2 n m p1 p2 p3 p4 : Int} {x1 x2 y1 y2 z1 z2 u1 u2 v1 v2 t1 t2 q0 q1 : Rat}
    (ha1 : -32768 ≤ a1 ∧ a1 ≤ 32767) (ha2 : -32768 ≤ a2 ∧ a2 ≤ 32767) (hb1 : -32768 ≤ b1 ∧ b1 ≤ 32767) (hb2 : -32768 ≤ b2 ∧ b2 ≤ 32767) (hc1 : -32768 ≤ c1 ∧ c1 ≤ 32767) (hc2 : -32768 ≤ c2 ∧ c2 ≤ 32767) (hd1 : -32768 ≤ d1 ∧ d1 ≤ 32767) (hd2 : -32768 ≤ d2 ∧ d2 ≤ 32767)
    (hq0 : Fq2 q0) (hq1 : Fq2 q1) (e1 : (b1 - a1) * (c2 - a2) = p1) (e2 : (b2 - a2) * (c1 - a1) = p2) (e3 : (b1 - a1) * (c1 - a1) = p3) (e4 : (b2 - a2) * (c2 - a2) = p4) (r1 : -4294967296 ≤ p1 ∧ p1 ≤ 4294967296) (r2 : -4294967296 ≤ p2 ∧ p2 ≤ 4294967296) (r3 : -4294967296 ≤ p3 ∧ p3 ≤ 4294967296) (r4 : -4294967296 ≤ p4 ∧ p4 ≤ 4294967296)
    (A1 : Tl 60 #[.int .i64 a1, .int .i64 a2] (vp x1 x2)) (A2 : Tl 60 #[.int .i64 b1, .int .i64 b2] (vp y1 y2)) (A3 : Tl 60 #[.int .i64 c1, .int .i64 c2] (vp z1 z2))
    (A4 : Tl 60 #[.int .i64 (a1 + d1), .int .i64 (a2 + d2)] (vp u1 u2)) (A5 : Tl 60 #[.int .i64 (b1 + d1), .int .i64 (b2 + d2)] (vp v1 v2)) (A6 : Tl 60 #[.int .i64 (c1 + d1), .int .i64 (c2 + d2)] (vp t1 t2))
    (X1 : Tl 61 #[vp x1 x2, vp y1 y2, vp z1 z2] (.tuple #[vq q0, .bool true])) (X2 : Tl 61 #[vp u1 u2, vp v1 v2, vp t1 t2] (.tuple #[vq q0, .bool true])) (D1 : Tl 62 #[vp x1 x2, vp y1 y2, vp z1 z2] (.tuple #[vq q1, .bool true])) (D2 : Tl 62 #[vp u1 u2, vp v1 v2, vp t1 t2] (.tuple #[vq q1, .bool true]))
    (K1 : Tl 42 #[.int .i64 (p1 - p2)] (vq q0)) (K2 : Tl 42 #[.int .i64 (p3 + p4)] (vq q1)) (w : World) :
    Calls Try.prog 10 #[.int .i16 a1, .int .i16 a2, .int .i16 b1, .int .i16 b2, .int .i16 c1, .int .i16 c2, .int .i16 d1, .int .i16 d2] w fun e w' => e = .returned (.bool true) ∧ Below w.heap.size w w' := by
  have eq1 : vq = fun q => .agg (fq q).toArray := rfl
  have HA1 := Lib.hid A1
  have HA2 := Lib.hid A2
  have HA3 := Lib.hid A3
  have HA4 := Lib.hid A4
  have HA5 := Lib.hid A5
  have HA6 := Lib.hid A6
  have HX1 := Lib.hid X1
  have HX2 := Lib.hid X2
  have HD1 := Lib.hid D1
  have HD2 := Lib.hid D2
  have HK1 := Lib.hid K1
  have HK2 := Lib.hid K2
  have HQ0 := Lib.hid hq0
  have HQ1 := Lib.hid hq1
  clear A1 A2 A3 A4 A5 A6 X1 X2 D1 D2 K1 K2 hq0 hq1
  unfold Tl at HA1 HA2 HA3 HA4 HA5 HA6 HX1 HX2 HD1 HD2 HK1 HK2
  unfold vp vl at HA1 HA2 HA3 HA4 HA5 HA6 HX1 HX2 HD1 HD2
  rw [eq1] at HX1 HX2 HD1 HD2 HK1 HK2
  clear eq1
  have E := Lib.hid (And.intro e1 (And.intro e2 (And.intro e3 e4)))
  have RR := Lib.hid (And.intro r1 (And.intro r2 (And.intro r3 r4)))
  clear e1 e2 e3 e4 r1 r2 r3 r4
  have hb := Below.refl w.heap.size w
  go_enter Try.func10, Try.ntmps10
  go_wp2_with fail
  refine (known3_any _).mono ?_
  rintro e w1 ⟨rfl, h1⟩
  replace hb := bthen hb h1
  clear h1
  go_wp2_with fail
  refine (HA1.out _).mono ?_
  rintro e w1 ⟨rfl, h1⟩
  replace hb := bthen hb h1
  clear h1
  go_wp2_with fail
  refine (HA2.out _).mono ?_
  rintro e w1 ⟨rfl, h1⟩
  replace hb := bthen hb h1
  clear h1
  go_wp2_with fail
  refine (HA3.out _).mono ?_
  rintro e w1 ⟨rfl, h1⟩
  replace hb := bthen hb h1
  clear h1
  have f1 := ((Blk.new w1 p0 66 rfl).old (.cells p0.toArray 66)).old (.cells p0.toArray 66)
  have f2 := ((Blk.new (w1.alloc (.cells p0.toArray 66)) p0 66 (b := w1.heap.size + 1) (by simp)).old (.cells p0.toArray 66)).rowOther (g := w1.heap.size) (fq x1 ++ fq x2).toArray (by omega)
  have f3 := ((Blk.new ((w1.alloc (.cells p0.toArray 66)).alloc (.cells p0.toArray 66)) p0 66 (b := w1.heap.size + 1 + 1) (by simp)).rowOther (g := w1.heap.size) (fq x1 ++ fq x2).toArray (by omega)).rowOther (g := w1.heap.size + 1) (fq y1 ++ fq y2).toArray (by omega)
  have b17 := ((f1.row (fq x1 ++ fq x2)).rowOther (g := w1.heap.size + 1) (fq y1 ++ fq y2).toArray (by omega)).rowOther (g := w1.heap.size + 1 + 1) (fq z1 ++ fq z2).toArray (by omega)
  have b18 := (f2.row (fq y1 ++ fq y2)).rowOther (g := w1.heap.size + 1 + 1) (fq z1 ++ fq z2).toArray (by omega)
  have b19 := f3.row (fq z1 ++ fq z2)
  have hs := hb.size
  have k1 : (w1.alloc (.cells p0.toArray 66)).heap.size = w1.heap.size + 1 := by simp
  have k2 : ((w1.alloc (.cells p0.toArray 66)).alloc (.cells p0.toArray 66)).heap.size = w1.heap.size + 1 + 1 := by simp
  replace hb := below_row (below_row (below_row (((hb.alloc hs (.cells p0.toArray 66)).alloc (by omega) (.cells p0.toArray 66)).alloc (by omega) (.cells p0.toArray 66)) (g := w1.heap.size) hs (fq x1 ++ fq x2).toArray) (g := w1.heap.size + 1) (by omega) (fq y1 ++ fq y2).toArray) (g := w1.heap.size + 1 + 1) (by omega) (fq z1 ++ fq z2).toArray
  clear k1 k2
  go_wp2_with (first | (with_reducible refine alP3 rfl rfl ?_) | (with_reducible refine alP2 rfl rfl ?_) | (with_reducible refine alP rfl rfl ?_) | (with_reducible refine stPt rfl rfl rfl rfl f1 p0_len (rc_q _) (rc_q _) ?_) | (with_reducible refine stPt rfl rfl rfl rfl f2 p0_len (rc_q _) (rc_q _) ?_) | (with_reducible refine stPt rfl rfl rfl rfl f3 p0_len (rc_q _) (rc_q _) ?_))
  clear f1 f2 f3 hs
  try rw [show ((w1.alloc (.cells p0.toArray 66)).alloc (.cells p0.toArray 66)).heap.size = w1.heap.size + 1 + 1 by simp]
  try rw [show (w1.alloc (.cells p0.toArray 66)).heap.size = w1.heap.size + 1 by simp]
  generalize (((((w1.alloc (.cells p0.toArray 66)).alloc (.cells p0.toArray 66)).alloc (.cells p0.toArray 66)).setRow w1.heap.size (fq x1 ++ fq x2).toArray).setRow (w1.heap.size + 1) (fq y1 ++ fq y2).toArray).setRow (w1.heap.size + 1 + 1) (fq z1 ++ fq z2).toArray = W at *
  generalize w1.heap.size + 1 + 1 = pl_b19 at *
  generalize w1.heap.size + 1 = pl_b18 at *
  generalize w1.heap.size = pl_b17 at *
  refine (HA4.out _).mono ?_
  rintro e w1 ⟨rfl, h1⟩
  replace b17 := b17.call h1
  replace b18 := b18.call h1
  replace b19 := b19.call h1
  replace hb := bthen hb h1
  clear h1
  go_wp2_with fail
  refine (HA5.out _).mono ?_
  rintro e w1 ⟨rfl, h1⟩
  replace b17 := b17.call h1
  replace b18 := b18.call h1
  replace b19 := b19.call h1
  replace hb := bthen hb h1
  clear h1
  go_wp2_with fail
  refine (HA6.out _).mono ?_
  rintro e w1 ⟨rfl, h1⟩
  replace b17 := b17.call h1
  replace b18 := b18.call h1
  replace b19 := b19.call h1
  replace hb := bthen hb h1
  clear h1
  have f1 := ((Blk.new w1 p0 66 rfl).old (.cells p0.toArray 66)).old (.cells p0.toArray 66)
  have f2 := ((Blk.new (w1.alloc (.cells p0.toArray 66)) p0 66 (b := w1.heap.size + 1) (by simp)).old (.cells p0.toArray 66)).rowOther (g := w1.heap.size) (fq u1 ++ fq u2).toArray (by omega)
  have f3 := ((Blk.new ((w1.alloc (.cells p0.toArray 66)).alloc (.cells p0.toArray 66)) p0 66 (b := w1.heap.size + 1 + 1) (by simp)).rowOther (g := w1.heap.size) (fq u1 ++ fq u2).toArray (by omega)).rowOther (g := w1.heap.size + 1) (fq v1 ++ fq v2).toArray (by omega)
  have b20 := ((f1.row (fq u1 ++ fq u2)).rowOther (g := w1.heap.size + 1) (fq v1 ++ fq v2).toArray (by omega)).rowOther (g := w1.heap.size + 1 + 1) (fq t1 ++ fq t2).toArray (by omega)
  have b21 := (f2.row (fq v1 ++ fq v2)).rowOther (g := w1.heap.size + 1 + 1) (fq t1 ++ fq t2).toArray (by omega)
  have b22 := f3.row (fq t1 ++ fq t2)
  have hs := hb.size
  have k1 : (w1.alloc (.cells p0.toArray 66)).heap.size = w1.heap.size + 1 := by simp
  have k2 : ((w1.alloc (.cells p0.toArray 66)).alloc (.cells p0.toArray 66)).heap.size = w1.heap.size + 1 + 1 := by simp
  have lb17 := b17.lt
  replace b17 := ((((b17.old (.cells p0.toArray 66)).old (.cells p0.toArray 66)).old (.cells p0.toArray 66)).rowOther (g := w1.heap.size) (fq u1 ++ fq u2).toArray (by omega)).rowOther (g := w1.heap.size + 1) (fq v1 ++ fq v2).toArray (by omega) |>.rowOther (g := w1.heap.size + 1 + 1) (fq t1 ++ fq t2).toArray (by omega)
  clear lb17
  have lb18 := b18.lt
  replace b18 := ((((b18.old (.cells p0.toArray 66)).old (.cells p0.toArray 66)).old (.cells p0.toArray 66)).rowOther (g := w1.heap.size) (fq u1 ++ fq u2).toArray (by omega)).rowOther (g := w1.heap.size + 1) (fq v1 ++ fq v2).toArray (by omega) |>.rowOther (g := w1.heap.size + 1 + 1) (fq t1 ++ fq t2).toArray (by omega)
  clear lb18
  have lb19 := b19.lt
  replace b19 := ((((b19.old (.cells p0.toArray 66)).old (.cells p0.toArray 66)).old (.cells p0.toArray 66)).rowOther (g := w1.heap.size) (fq u1 ++ fq u2).toArray (by omega)).rowOther (g := w1.heap.size + 1) (fq v1 ++ fq v2).toArray (by omega) |>.rowOther (g := w1.heap.size + 1 + 1) (fq t1 ++ fq t2).toArray (by omega)
  clear lb19
  replace hb := below_row (below_row (below_row (((hb.alloc hs (.cells p0.toArray 66)).alloc (by omega) (.cells p0.toArray 66)).alloc (by omega) (.cells p0.toArray 66)) (g := w1.heap.size) hs (fq u1 ++ fq u2).toArray) (g := w1.heap.size + 1) (by omega) (fq v1 ++ fq v2).toArray) (g := w1.heap.size + 1 + 1) (by omega) (fq t1 ++ fq t2).toArray
  clear k1 k2
  go_wp2_with (first | (with_reducible refine alP3 rfl rfl ?_) | (with_reducible refine alP2 rfl rfl ?_) | (with_reducible refine alP rfl rfl ?_) | (with_reducible refine stPt rfl rfl rfl rfl f1 p0_len (rc_q _) (rc_q _) ?_) | (with_reducible refine stPt rfl rfl rfl rfl f2 p0_len (rc_q _) (rc_q _) ?_) | (with_reducible refine stPt rfl rfl rfl rfl f3 p0_len (rc_q _) (rc_q _) ?_) | (with_reducible refine ldPt rfl rfl rfl b17 (rc_q _) (rc_q _) ?_) | (with_reducible refine ldPt rfl rfl rfl b18 (rc_q _) (rc_q _) ?_) | (with_reducible refine ldPt rfl rfl rfl b19 (rc_q _) (rc_q _) ?_))
  clear f1 f2 f3 hs
  try rw [show ((w1.alloc (.cells p0.toArray 66)).alloc (.cells p0.toArray 66)).heap.size = w1.heap.size + 1 + 1 by simp]
  try rw [show (w1.alloc (.cells p0.toArray 66)).heap.size = w1.heap.size + 1 by simp]
  generalize (((((w1.alloc (.cells p0.toArray 66)).alloc (.cells p0.toArray 66)).alloc (.cells p0.toArray 66)).setRow w1.heap.size (fq u1 ++ fq u2).toArray).setRow (w1.heap.size + 1) (fq v1 ++ fq v2).toArray).setRow (w1.heap.size + 1 + 1) (fq t1 ++ fq t2).toArray = W at *
  generalize w1.heap.size + 1 + 1 = pl_b22 at *
  generalize w1.heap.size + 1 = pl_b21 at *
  generalize w1.heap.size = pl_b20 at *
  refine (HX1.out _).mono ?_
  rintro e w1 ⟨rfl, h1⟩
  replace b17 := b17.call h1
  replace b18 := b18.call h1
  replace b19 := b19.call h1
  replace b20 := b20.call h1
  replace b21 := b21.call h1
  replace b22 := b22.call h1
  replace hb := bthen hb h1
  clear h1
  have f := Blk.new w1 (rr false 0 false 0) 45 rfl
  have b23 := laid_n w1 (rr false 0 false 0) (fq q0) 45
  replace b17 := laid_o b17 (rr false 0 false 0) (fq q0) 45
  replace b18 := laid_o b18 (rr false 0 false 0) (fq q0) 45
  replace b19 := laid_o b19 (rr false 0 false 0) (fq q0) 45
  replace b20 := laid_o b20 (rr false 0 false 0) (fq q0) 45
  replace b21 := laid_o b21 (rr false 0 false 0) (fq q0) 45
  replace b22 := laid_o b22 (rr false 0 false 0) (fq q0) 45
  replace hb := laid_b hb (rr false 0 false 0) (fq q0) 45
  go_wp2_with (first | (with_reducible refine alR rfl rfl ?_) | (with_reducible refine stQ rfl rfl rfl rfl f (rr_length _ _ _ _) (rc_q _) ?_) | (with_reducible refine ldPt rfl rfl rfl b20 (rc_q _) (rc_q _) ?_) | (with_reducible refine ldPt rfl rfl rfl b21 (rc_q _) (rc_q _) ?_) | (with_reducible refine ldPt rfl rfl rfl b22 (rc_q _) (rc_q _) ?_))
  clear f
  generalize (w1.alloc (.cells (rr false 0 false 0).toArray 45)).setRow w1.heap.size (fq q0).toArray = W at *
  generalize w1.heap.size = pl_b23 at *
  refine (HX2.out _).mono ?_
  rintro e w1 ⟨rfl, h1⟩
  replace b17 := b17.call h1
  replace b18 := b18.call h1
  replace b19 := b19.call h1
  replace b20 := b20.call h1
  replace b21 := b21.call h1
  replace b22 := b22.call h1
  replace b23 := b23.call h1
  replace hb := bthen hb h1
  clear h1
  have f := Blk.new w1 (rr false 0 false 0) 45 rfl
  have b25 := laid_n w1 (rr false 0 false 0) (fq q0) 45
  replace b17 := laid_o b17 (rr false 0 false 0) (fq q0) 45
  replace b18 := laid_o b18 (rr false 0 false 0) (fq q0) 45
  replace b19 := laid_o b19 (rr false 0 false 0) (fq q0) 45
  replace b20 := laid_o b20 (rr false 0 false 0) (fq q0) 45
  replace b21 := laid_o b21 (rr false 0 false 0) (fq q0) 45
  replace b22 := laid_o b22 (rr false 0 false 0) (fq q0) 45
  replace b23 := laid_o b23 (rr false 0 false 0) (fq q0) 45
  replace hb := laid_b hb (rr false 0 false 0) (fq q0) 45
  go_wp2_with (first | (with_reducible refine alR rfl rfl ?_) | (with_reducible refine stQ rfl rfl rfl rfl f (rr_length _ _ _ _) (rc_q _) ?_) | (with_reducible refine ldPt rfl rfl rfl b17 (rc_q _) (rc_q _) ?_) | (with_reducible refine ldPt rfl rfl rfl b18 (rc_q _) (rc_q _) ?_) | (with_reducible refine ldPt rfl rfl rfl b19 (rc_q _) (rc_q _) ?_))
  clear f
  generalize (w1.alloc (.cells (rr false 0 false 0).toArray 45)).setRow w1.heap.size (fq q0).toArray = W at *
  generalize w1.heap.size = pl_b25 at *
  refine (HD1.out _).mono ?_
  rintro e w1 ⟨rfl, h1⟩
  replace b20 := b20.call h1
  replace b21 := b21.call h1
  replace b22 := b22.call h1
  replace b23 := b23.call h1
  replace b25 := b25.call h1
  replace hb := bthen hb h1
  clear h1
  have f := Blk.new w1 (rr false 0 false 0) 45 rfl
  have b27 := laid_n w1 (rr false 0 false 0) (fq q1) 45
  replace b20 := laid_o b20 (rr false 0 false 0) (fq q1) 45
  replace b21 := laid_o b21 (rr false 0 false 0) (fq q1) 45
  replace b22 := laid_o b22 (rr false 0 false 0) (fq q1) 45
  replace b23 := laid_o b23 (rr false 0 false 0) (fq q1) 45
  replace b25 := laid_o b25 (rr false 0 false 0) (fq q1) 45
  replace hb := laid_b hb (rr false 0 false 0) (fq q1) 45
  go_wp2_with (first | (with_reducible refine alR rfl rfl ?_) | (with_reducible refine stQ rfl rfl rfl rfl f (rr_length _ _ _ _) (rc_q _) ?_) | (with_reducible refine ldPt rfl rfl rfl b20 (rc_q _) (rc_q _) ?_) | (with_reducible refine ldPt rfl rfl rfl b21 (rc_q _) (rc_q _) ?_) | (with_reducible refine ldPt rfl rfl rfl b22 (rc_q _) (rc_q _) ?_))
  clear f
  generalize (w1.alloc (.cells (rr false 0 false 0).toArray 45)).setRow w1.heap.size (fq q1).toArray = W at *
  generalize w1.heap.size = pl_b27 at *
  refine (HD2.out _).mono ?_
  rintro e w1 ⟨rfl, h1⟩
  replace b23 := b23.call h1
  replace b25 := b25.call h1
  replace b27 := b27.call h1
  replace hb := bthen hb h1
  clear h1
  obtain ⟨e1, e2, e3, e4⟩ := E.out
  obtain ⟨r1, r2, r3, r4⟩ := RR.out
  have f := Blk.new w1 (rr false 0 false 0) 45 rfl
  have b29 := laid_n w1 (rr false 0 false 0) (fq q1) 45
  replace b23 := laid_o b23 (rr false 0 false 0) (fq q1) 45
  replace b25 := laid_o b25 (rr false 0 false 0) (fq q1) 45
  replace b27 := laid_o b27 (rr false 0 false 0) (fq q1) 45
  replace hb := laid_b hb (rr false 0 false 0) (fq q1) 45
  go_wp2_with (first | (with_reducible refine alR rfl rfl ?_) | (with_reducible refine stQ rfl rfl rfl rfl f (rr_length _ _ _ _) (rc_q _) ?_))
  clear f
  generalize (w1.alloc (.cells (rr false 0 false 0).toArray 45)).setRow w1.heap.size (fq q1).toArray = W at *
  generalize w1.heap.size = pl_b29 at *
  clear e1 e2 e3 e4
  refine rg_start [] (by kernel_rfl) (fun hS => ?_)
  replace hb := hb.drew
  refine rg_take 0 rfl (by kernel_rfl) (by kernel_rfl) (by kernel_rfl) (by rfl) hS (v := ?_) ?_ ?_
  rotate_left
  · (intro w' hS'; go_simp <;> try with_reducible rfl)
  try simp only [Act.put, List.setIfInBounds_toArray, List.set_cons_zero, List.set_cons_succ]
  refine rg_take 1 rfl (by kernel_rfl) (by kernel_rfl) (by kernel_rfl) (by rfl) hS (v := ?_) ?_ ?_
  rotate_left
  · (intro w' hS'; go_simp <;> try with_reducible rfl)
  try simp only [Act.put, List.setIfInBounds_toArray, List.set_cons_zero, List.set_cons_succ]
  refine rg_take 2 rfl (by kernel_rfl) (by kernel_rfl) (by kernel_rfl) (by rfl) hS (v := ?_) ?_ ?_
  rotate_left
  · (intro w' hS'; go_simp <;> try with_reducible rfl)
  try simp only [Act.put, List.setIfInBounds_toArray, List.set_cons_zero, List.set_cons_succ]
  refine rg_take 3 rfl (by kernel_rfl) (by kernel_rfl) (by kernel_rfl) (by rfl) hS (v := ?_) ?_ ?_
  rotate_left
  · (intro w' hS'; go_simp <;> try with_reducible rfl)
  try simp only [Act.put, List.setIfInBounds_toArray, List.set_cons_zero, List.set_cons_succ]
  refine rg_take 4 rfl (by kernel_rfl) (by kernel_rfl) (by kernel_rfl) (by rfl) hS (v := ?_) ?_ ?_
  rotate_left
  · (intro w' hS'; go_simp <;> try with_reducible rfl)
  try simp only [Act.put, List.setIfInBounds_toArray, List.set_cons_zero, List.set_cons_succ]
  refine rg_take 5 rfl (by kernel_rfl) (by kernel_rfl) (by kernel_rfl) (by rfl) hS (v := ?_) ?_ ?_
  rotate_left
  · (intro w' hS'; go_simp <;> try with_reducible rfl)
  try simp only [Act.put, List.setIfInBounds_toArray, List.set_cons_zero, List.set_cons_succ]
  refine rg_take 6 rfl (by kernel_rfl) (by kernel_rfl) (by kernel_rfl) (by rfl) hS (v := ?_) ?_ ?_
  rotate_left
  · (intro w' hS'; go_simp <;> try with_reducible rfl)
  try simp only [Act.put, List.setIfInBounds_toArray, List.set_cons_zero, List.set_cons_succ]
  refine rg_take 7 rfl (by kernel_rfl) (by kernel_rfl) (by kernel_rfl) (by rfl) hS (v := ?_) ?_ ?_
  rotate_left
  · (intro w' hS'; go_simp <;> try with_reducible rfl)
  try simp only [Act.put, List.setIfInBounds_toArray, List.set_cons_zero, List.set_cons_succ]
  refine rg_take 8 rfl (by kernel_rfl) (by kernel_rfl) (by kernel_rfl) (by rfl) hS (v := ?_) ?_ ?_
  rotate_left
  · (intro w' hS'; go_simp <;> try with_reducible rfl)
  try simp only [Act.put, List.setIfInBounds_toArray, List.set_cons_zero, List.set_cons_succ]
  refine rg_take 9 rfl (by kernel_rfl) (by kernel_rfl) (by kernel_rfl) (by rfl) hS (v := ?_) ?_ ?_
  rotate_left
  · (intro w' hS'; go_simp <;> try with_reducible rfl)
  try simp only [Act.put, List.setIfInBounds_toArray, List.set_cons_zero, List.set_cons_succ]
  refine rg_take 10 rfl (by kernel_rfl) (by kernel_rfl) (by kernel_rfl) (by rfl) hS (v := ?_) ?_ ?_
  rotate_left
  · (intro w' hS'; go_simp <;> try with_reducible rfl)
  try simp only [Act.put, List.setIfInBounds_toArray, List.set_cons_zero, List.set_cons_succ]
  refine rg_ld 11 rfl (by kernel_rfl) (by kernel_rfl) (by kernel_rfl) (by rfl) hS rfl rfl b23 (by simp <;> omega) (rc_q _).whole ?_
  try simp only [Act.put, List.setIfInBounds_toArray, List.set_cons_zero, List.set_cons_succ]
  refine rg_ld 12 rfl (by kernel_rfl) (by kernel_rfl) (by kernel_rfl) (by rfl) hS rfl rfl b25 (by simp <;> omega) (rc_q _).whole ?_
  try simp only [Act.put, List.setIfInBounds_toArray, List.set_cons_zero, List.set_cons_succ]
  refine rg_take 13 rfl (by kernel_rfl) (by kernel_rfl) (by kernel_rfl) (by rfl) hS (v := .bool true) (fun w' _ => op_eqq HQ0.out HQ0.out (decide_eq_true rfl) rfl rfl rfl w') ?_
  try simp only [Act.put, List.setIfInBounds_toArray, List.set_cons_zero, List.set_cons_succ]
  refine rg_take 14 rfl (by kernel_rfl) (by kernel_rfl) (by kernel_rfl) (by rfl) hS (v := ?_) ?_ ?_
  rotate_left
  · (intro w' hS'; go_simp <;> try with_reducible rfl)
  try simp only [Act.put, List.setIfInBounds_toArray, List.set_cons_zero, List.set_cons_succ]
  refine rg_take 15 rfl (by kernel_rfl) (by kernel_rfl) (by kernel_rfl) (by rfl) hS (v := ?_) ?_ ?_
  rotate_left
  · (intro w' hS'; go_simp <;> try with_reducible rfl)
  try simp only [Act.put, List.setIfInBounds_toArray, List.set_cons_zero, List.set_cons_succ]
  refine rg_ld 16 rfl (by kernel_rfl) (by kernel_rfl) (by kernel_rfl) (by rfl) hS rfl rfl b27 (by simp <;> omega) (rc_q _).whole ?_
  try simp only [Act.put, List.setIfInBounds_toArray, List.set_cons_zero, List.set_cons_succ]
  refine rg_ld 17 rfl (by kernel_rfl) (by kernel_rfl) (by kernel_rfl) (by rfl) hS rfl rfl b29 (by simp <;> omega) (rc_q _).whole ?_
  try simp only [Act.put, List.setIfInBounds_toArray, List.set_cons_zero, List.set_cons_succ]
  refine rg_take 18 rfl (by kernel_rfl) (by kernel_rfl) (by kernel_rfl) (by rfl) hS (v := .bool true) (fun w' _ => op_eqq HQ1.out HQ1.out (decide_eq_true rfl) rfl rfl rfl w') ?_
  try simp only [Act.put, List.setIfInBounds_toArray, List.set_cons_zero, List.set_cons_succ]
  refine rg_take 19 rfl (by kernel_rfl) (by kernel_rfl) (by kernel_rfl) (by rfl) hS (v := ?_) ?_ ?_
  rotate_left
  · (intro w' hS'; go_simp <;> try with_reducible rfl)
  try simp only [Act.put, List.setIfInBounds_toArray, List.set_cons_zero, List.set_cons_succ]
  refine rg_take 20 rfl (by kernel_rfl) (by kernel_rfl) (by kernel_rfl) (by rfl) hS (v := ?_) ?_ ?_
  rotate_left
  · (intro w' hS'; go_simp <;> try with_reducible rfl)
  try simp only [Act.put, List.setIfInBounds_toArray, List.set_cons_zero, List.set_cons_succ]
  refine rg_ld 21 rfl (by kernel_rfl) (by kernel_rfl) (by kernel_rfl) (by rfl) hS rfl rfl b23 (by simp <;> omega) (rc_q _).whole ?_
  try simp only [Act.put, List.setIfInBounds_toArray, List.set_cons_zero, List.set_cons_succ]
  refine rg_take 22 rfl (by kernel_rfl) (by kernel_rfl) (by kernel_rfl) (by rfl) hS (v := ?_) ?_ ?_
  rotate_left
  · (intro w' hS'; go_simp <;> try with_reducible rfl)
  try simp only [Act.put, List.setIfInBounds_toArray, List.set_cons_zero, List.set_cons_succ]
  refine rg_eff 23 rfl (by kernel_rfl) (by rfl) (fun K hK => ?_)
  go_simp
  refine (HK1.out _).mono ?_
  rintro e w1 ⟨rfl, h1⟩
  refine hK _ _ (hS.call h1) (fun hS => ?_)
  clear hK K
  replace hb := bthen hb h1
  clear h1
  try simp only [Act.put, List.setIfInBounds_toArray, List.set_cons_zero, List.set_cons_succ]
  refine rg_take 24 rfl (by kernel_rfl) (by kernel_rfl) (by kernel_rfl) (by rfl) hS (v := .bool true) (fun w' _ => op_eqq HQ0.out HQ0.out (decide_eq_true rfl) rfl rfl rfl w') ?_
  try simp only [Act.put, List.setIfInBounds_toArray, List.set_cons_zero, List.set_cons_succ]
  refine rg_take 25 rfl (by kernel_rfl) (by kernel_rfl) (by kernel_rfl) (by rfl) hS (v := ?_) ?_ ?_
  rotate_left
  · (intro w' hS'; go_simp <;> try with_reducible rfl)
  try simp only [Act.put, List.setIfInBounds_toArray, List.set_cons_zero, List.set_cons_succ]
  refine rg_take 26 rfl (by kernel_rfl) (by kernel_rfl) (by kernel_rfl) (by rfl) hS (v := ?_) ?_ ?_
  rotate_left
  · (intro w' hS'; go_simp <;> try with_reducible rfl)
  try simp only [Act.put, List.setIfInBounds_toArray, List.set_cons_zero, List.set_cons_succ]
  refine rg_ld 27 rfl (by kernel_rfl) (by kernel_rfl) (by kernel_rfl) (by rfl) hS rfl rfl b27 (by simp <;> omega) (rc_q _).whole ?_
  try simp only [Act.put, List.setIfInBounds_toArray, List.set_cons_zero, List.set_cons_succ]
  refine rg_take 28 rfl (by kernel_rfl) (by kernel_rfl) (by kernel_rfl) (by rfl) hS (v := ?_) ?_ ?_
  rotate_left
  · (intro w' hS'; go_simp <;> try with_reducible rfl)
  try simp only [Act.put, List.setIfInBounds_toArray, List.set_cons_zero, List.set_cons_succ]
  refine rg_eff 29 rfl (by kernel_rfl) (by rfl) (fun K hK => ?_)
  go_simp
  refine (HK2.out _).mono ?_
  rintro e w1 ⟨rfl, h1⟩
  refine hK _ _ (hS.call h1) (fun hS => ?_)
  clear hK K
  replace hb := bthen hb h1
  clear h1
  try simp only [Act.put, List.setIfInBounds_toArray, List.set_cons_zero, List.set_cons_succ]
  refine rg_take 30 rfl (by kernel_rfl) (by kernel_rfl) (by kernel_rfl) (by rfl) hS (v := .bool true) (fun w' _ => op_eqq HQ1.out HQ1.out (decide_eq_true rfl) rfl rfl rfl w') ?_
  try simp only [Act.put, List.setIfInBounds_toArray, List.set_cons_zero, List.set_cons_succ]
  refine rg_take 31 rfl (by kernel_rfl) (by kernel_rfl) (by kernel_rfl) (by rfl) hS (v := ?_) ?_ ?_
  rotate_left
  · (intro w' hS'; go_simp <;> try with_reducible rfl)
  try simp only [Act.put, List.setIfInBounds_toArray, List.set_cons_zero, List.set_cons_succ]
  refine rg_take 32 rfl (by kernel_rfl) (by kernel_rfl) (by kernel_rfl) (by rfl) hS (v := ?_) ?_ ?_
  rotate_left
  · (intro w' hS'; go_simp <;> try with_reducible rfl)
  try simp only [Act.put, List.setIfInBounds_toArray, List.set_cons_zero, List.set_cons_succ]
  refine rg_done (by kernel_rfl) ?_
  go_wp2
  go_ret
  exact ⟨rfl, hb⟩
end Go.Proofs.Ytiaikjeljhfadaa
