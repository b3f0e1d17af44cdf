/- What PointMids answers. -/
import Derived.Test.YtiaikjeljhfadabPmd
namespace Go.Proofs.Ytiaikjeljhfadab
set_option linter.unusedSimpArgs false
set_option linter.unusedVariables false
open Go.RowKit
set_option maxRecDepth 100000
section
variable {ops : Array Oper} {rest : List Oper} {o : Oper} {a : Act} {w : World} {Q : Exit → Act → World → Prop}
theorem eqPgs {p q : Operand} {x y : Rat} {ty : TypeId} (hw : Region.wanted o (yielded ops a.tmps) = true) (ho : o.op = .binOp .eql 31 p q ty) (hp : a.eval p = .agg (fq x ++ fq y).toArray) (hq : a.eval q = .agg (fq x ++ fq y).toArray) (hx : Fq2 x) (hy : Fq2 y)
    (hr : wpList Try.prog ops Q rest (a.put o.dst (.bool true)) w) : wpList Try.prog ops Q (o :: rest) a w :=
  eqPg hw ho hp hq hx hy hx hy (by rw [decide_eq_true (p := x = x ∧ y = y) ⟨rfl, rfl⟩]; exact hr)
end
set_option maxHeartbeats 16000000 in
theorem pmid_walk {X Y U V : Int} {ax ay bx by' cx cy dx dy m1 m2 : Rat} (hX : -32768 ≤ X ∧ X ≤ 32767) (hY : -32768 ≤ Y ∧ Y ≤ 32767) (hU : 0 ≤ U ∧ U ≤ 255) (hV : 0 ≤ V ∧ V ≤ 255)
    (hq : Fq2 ax ∧ Fq2 ay ∧ Fq2 m1 ∧ Fq2 m2)
    (A1 : Tl 5 #[.int .i64 X, .int .i64 Y] (vp ax ay)) (A2 : Tl 5 #[.int .i64 (X + 2 * U), .int .i64 (Y + 2 * V)] (vp bx by')) (A3 : Tl 5 #[.int .i64 X, .int .i64 (Y + 2 * V)] (vp cx cy)) (A4 : Tl 5 #[.int .i64 (X + 2 * U), .int .i64 Y] (vp dx dy)) (A5 : Tl 5 #[.int .i64 (X + U), .int .i64 (Y + V)] (vp m1 m2))
    (M4 : ∀ (w : World) (b : Nat) (t : TypeId), Blk w b (jn [fq ax ++ fq ay, fq dx ++ fq dy, fq bx ++ fq by', fq cx ++ fq cy]) t → Calls Try.prog 6 #[.slice (some ⟨b, 0, none⟩) 4 4] w fun e w' => e = .returned (.tuple #[vp m1 m2, .bool true]) ∧ Below w.heap.size w w')
    (M2 : ∀ (w : World) (b : Nat) (t : TypeId), Blk w b (j2 (fq ax ++ fq ay) (fq bx ++ fq by')) t → Calls Try.prog 6 #[.slice (some ⟨b, 0, none⟩) 2 2] w fun e w' => e = .returned (.tuple #[vp m1 m2, .bool true]) ∧ Below w.heap.size w w')
    (M1 : ∀ (w : World) (b : Nat) (t : TypeId), Blk w b (jn [fq ax ++ fq ay]) t → Calls Try.prog 6 #[.slice (some ⟨b, 0, none⟩) 1 1] w fun e w' => e = .returned (.tuple #[vp ax ay, .bool true]) ∧ Below w.heap.size w w') (w : World) :
    Calls Try.prog 3 #[.int .i16 X, .int .i16 Y, .int .u8 U, .int .u8 V] w fun e w' => e = .returned (.bool true) ∧ Below w.heap.size w w' := by
  have HA1 := Lib.hid A1
  have HA2 := Lib.hid A2
  have HA3 := Lib.hid A3
  have HA4 := Lib.hid A4
  have HA5 := Lib.hid A5
  have HM4 := Lib.hid M4
  have HM2 := Lib.hid M2
  have HM1 := Lib.hid M1
  have HM5 := Lib.hid (fun (b : Nat) (w : World) => Mid_long (some ⟨b, 0, none⟩) (n := 5) 5 (by omega) (by omega) w)
  have HQ := Lib.hid hq
  clear A1 A2 A3 A4 A5 M4 M2 M1 hq
  unfold Tl at HA1 HA2 HA3 HA4 HA5
  unfold vp vl at HA1 HA2 HA3 HA4 HA5 HM4 HM2 HM1
  unfold vl at HM5
  have hb := Below.refl w.heap.size w
  go_enter Try.func3, Try.ntmps3
  go_wp2_with fail
  refine (known3_any _).mono ?_
  rintro e w1 ⟨rfl, h1⟩
  replace hb := bthen hb h1
  clear h1
  go_wp2_with fail
  refine (HA1.out _).mono ?_
  rintro e w1 ⟨rfl, h1⟩
  replace hb := bthen hb h1
  clear h1
  go_wp2_with fail
  refine (HA2.out _).mono ?_
  rintro e w1 ⟨rfl, h1⟩
  replace hb := bthen hb h1
  clear h1
  have k1 : (w1.alloc (.cells p0.toArray 31)).heap.size = w1.heap.size + 1 := by simp
  have f0 := ((Blk.new w1 p0 31 (b := w1.heap.size) rfl).old (.cells p0.toArray 31))
  have b9 := ((f0.row (fq ax ++ fq ay)).rowOther (g := w1.heap.size + 1) (fq bx ++ fq by').toArray (by omega))
  have f1 := ((Blk.new (w1.alloc (.cells p0.toArray 31)) p0 31 (b := w1.heap.size + 1) k1.symm).rowOther (g := w1.heap.size) (fq ax ++ fq ay).toArray (by omega))
  have b10 := (f1.row (fq bx ++ fq by'))
  have hs := hb.size
  replace hb := (below_row (below_row ((hb.alloc (by omega) (.cells p0.toArray 31)).alloc (by omega) (.cells p0.toArray 31)) (g := w1.heap.size) (by omega) (fq ax ++ fq ay).toArray) (g := w1.heap.size + 1) (by omega) (fq bx ++ fq by').toArray)
  have hW1 : ((((w1.alloc (.cells p0.toArray 31)).alloc (.cells p0.toArray 31)).setRow (w1.heap.size) (fq ax ++ fq ay).toArray).setRow (w1.heap.size + 1) (fq bx ++ fq by').toArray).heap.size = w1.heap.size + 1 + 1 := by simp
  clear k1
  go_wp2_with (first | (with_reducible refine alP2 rfl rfl ?_) | (with_reducible refine alP rfl rfl ?_) | (with_reducible refine stPt rfl rfl rfl rfl f0 p0_len (rc_q _) (rc_q _) ?_) | (with_reducible refine stPt rfl rfl rfl rfl f1 p0_len (rc_q _) (rc_q _) ?_) | (with_reducible refine ldPt rfl rfl rfl b9 (rc_q _) (rc_q _) ?_) | (with_reducible refine ldX rfl rfl rfl b9 (rc_q _) (rc_q _) ?_) | (with_reducible refine ldY rfl rfl rfl b9 (rc_q _) (rc_q _) ?_) | (with_reducible refine ldPt rfl rfl rfl b10 (rc_q _) (rc_q _) ?_) | (with_reducible refine ldX rfl rfl rfl b10 (rc_q _) (rc_q _) ?_) | (with_reducible refine ldY rfl rfl rfl b10 (rc_q _) (rc_q _) ?_))
  clear f0 f1 hs
  try rw [show (w1.alloc (.cells p0.toArray 31)).heap.size = w1.heap.size + 1 by simp]
  generalize ((((w1.alloc (.cells p0.toArray 31)).alloc (.cells p0.toArray 31)).setRow (w1.heap.size) (fq ax ++ fq ay).toArray).setRow (w1.heap.size + 1) (fq bx ++ fq by').toArray) = W at *
  generalize w1.heap.size + 1 = pl_b10 at *
  generalize w1.heap.size = pl_b9 at *
  clear hW1
  refine (HA3.out _).mono ?_
  rintro e w1 ⟨rfl, h1⟩
  replace b9 := b9.call h1
  replace b10 := b10.call h1
  replace hb := bthen hb h1
  clear h1
  go_wp2_with (first | (with_reducible refine ldPt rfl rfl rfl b9 (rc_q _) (rc_q _) ?_) | (with_reducible refine ldX rfl rfl rfl b9 (rc_q _) (rc_q _) ?_) | (with_reducible refine ldY rfl rfl rfl b9 (rc_q _) (rc_q _) ?_) | (with_reducible refine ldPt rfl rfl rfl b10 (rc_q _) (rc_q _) ?_) | (with_reducible refine ldX rfl rfl rfl b10 (rc_q _) (rc_q _) ?_) | (with_reducible refine ldY rfl rfl rfl b10 (rc_q _) (rc_q _) ?_))
  refine (HA4.out _).mono ?_
  rintro e w1 ⟨rfl, h1⟩
  replace b9 := b9.call h1
  replace b10 := b10.call h1
  replace hb := bthen hb h1
  clear h1
  have k1 : (w1.alloc (.cells p0.toArray 31)).heap.size = w1.heap.size + 1 := by simp
  have f0 := ((Blk.new w1 p0 31 (b := w1.heap.size) rfl).old (.cells p0.toArray 31))
  have b11 := ((f0.row (fq cx ++ fq cy)).rowOther (g := w1.heap.size + 1) (fq dx ++ fq dy).toArray (by omega))
  have f1 := ((Blk.new (w1.alloc (.cells p0.toArray 31)) p0 31 (b := w1.heap.size + 1) k1.symm).rowOther (g := w1.heap.size) (fq cx ++ fq cy).toArray (by omega))
  have b12 := (f1.row (fq dx ++ fq dy))
  have hs := hb.size
  have lb9 := b9.lt
  replace b9 := ((((b9.old (.cells p0.toArray 31)).old (.cells p0.toArray 31)).rowOther (g := w1.heap.size) (fq cx ++ fq cy).toArray (by omega)).rowOther (g := w1.heap.size + 1) (fq dx ++ fq dy).toArray (by omega))
  clear lb9
  have lb10 := b10.lt
  replace b10 := ((((b10.old (.cells p0.toArray 31)).old (.cells p0.toArray 31)).rowOther (g := w1.heap.size) (fq cx ++ fq cy).toArray (by omega)).rowOther (g := w1.heap.size + 1) (fq dx ++ fq dy).toArray (by omega))
  clear lb10
  replace hb := (below_row (below_row ((hb.alloc (by omega) (.cells p0.toArray 31)).alloc (by omega) (.cells p0.toArray 31)) (g := w1.heap.size) (by omega) (fq cx ++ fq cy).toArray) (g := w1.heap.size + 1) (by omega) (fq dx ++ fq dy).toArray)
  have hW1 : ((((w1.alloc (.cells p0.toArray 31)).alloc (.cells p0.toArray 31)).setRow (w1.heap.size) (fq cx ++ fq cy).toArray).setRow (w1.heap.size + 1) (fq dx ++ fq dy).toArray).heap.size = w1.heap.size + 1 + 1 := by simp
  clear k1
  go_wp2_with (first | (with_reducible refine alP2 rfl rfl ?_) | (with_reducible refine alP rfl rfl ?_) | (with_reducible refine stPt rfl rfl rfl rfl f0 p0_len (rc_q _) (rc_q _) ?_) | (with_reducible refine stPt rfl rfl rfl rfl f1 p0_len (rc_q _) (rc_q _) ?_) | (with_reducible refine ldPt rfl rfl rfl b9 (rc_q _) (rc_q _) ?_) | (with_reducible refine ldX rfl rfl rfl b9 (rc_q _) (rc_q _) ?_) | (with_reducible refine ldY rfl rfl rfl b9 (rc_q _) (rc_q _) ?_) | (with_reducible refine ldPt rfl rfl rfl b10 (rc_q _) (rc_q _) ?_) | (with_reducible refine ldX rfl rfl rfl b10 (rc_q _) (rc_q _) ?_) | (with_reducible refine ldY rfl rfl rfl b10 (rc_q _) (rc_q _) ?_) | (with_reducible refine ldPt rfl rfl rfl b11 (rc_q _) (rc_q _) ?_) | (with_reducible refine ldX rfl rfl rfl b11 (rc_q _) (rc_q _) ?_) | (with_reducible refine ldY rfl rfl rfl b11 (rc_q _) (rc_q _) ?_) | (with_reducible refine ldPt rfl rfl rfl b12 (rc_q _) (rc_q _) ?_) | (with_reducible refine ldX rfl rfl rfl b12 (rc_q _) (rc_q _) ?_) | (with_reducible refine ldY rfl rfl rfl b12 (rc_q _) (rc_q _) ?_) | (with_reducible refine bsP4 rfl rfl rfl rfl rfl rfl (rc_q _) (rc_q _) (rc_q _) (rc_q _) (rc_q _) (rc_q _) (rc_q _) (rc_q _) ?_))
  clear f0 f1 hs
  try rw [show (w1.alloc (.cells p0.toArray 31)).heap.size = w1.heap.size + 1 by simp]
  generalize ((((w1.alloc (.cells p0.toArray 31)).alloc (.cells p0.toArray 31)).setRow (w1.heap.size) (fq cx ++ fq cy).toArray).setRow (w1.heap.size + 1) (fq dx ++ fq dy).toArray) = W at *
  generalize w1.heap.size + 1 = pl_b12 at *
  generalize w1.heap.size = pl_b11 at *
  have sl := Blk.new W (jn [fq ax ++ fq ay, fq dx ++ fq dy, fq bx ++ fq by', fq cx ++ fq cy]) 31 (b := pl_b12 + 1) hW1.symm
  replace b9 := b9.old (.cells (jn [fq ax ++ fq ay, fq dx ++ fq dy, fq bx ++ fq by', fq cx ++ fq cy]).toArray 31)
  replace b10 := b10.old (.cells (jn [fq ax ++ fq ay, fq dx ++ fq dy, fq bx ++ fq by', fq cx ++ fq cy]).toArray 31)
  replace b11 := b11.old (.cells (jn [fq ax ++ fq ay, fq dx ++ fq dy, fq bx ++ fq by', fq cx ++ fq cy]).toArray 31)
  replace b12 := b12.old (.cells (jn [fq ax ++ fq ay, fq dx ++ fq dy, fq bx ++ fq by', fq cx ++ fq cy]).toArray 31)
  replace hb := hb.alloc hb.size (.cells (jn [fq ax ++ fq ay, fq dx ++ fq dy, fq bx ++ fq by', fq cx ++ fq cy]).toArray 31)
  refine (HM4.out _ _ _ sl).mono ?_
  rintro e w1 ⟨rfl, h1⟩
  replace b9 := b9.call h1
  replace b10 := b10.call h1
  replace b11 := b11.call h1
  replace b12 := b12.call h1
  replace hb := bthen hb h1
  clear h1
  clear sl hW1
  have hW1 : ((w1.alloc (.cells p0.toArray 31)).setRow w1.heap.size (fq m1 ++ fq m2).toArray).heap.size = w1.heap.size + 1 := by simp
  have f := Blk.new w1 p0 31 rfl
  have b13 := laid_n w1 p0 (fq m1 ++ fq m2) 31
  replace b9 := laid_o b9 p0 (fq m1 ++ fq m2) 31
  replace b10 := laid_o b10 p0 (fq m1 ++ fq m2) 31
  replace b11 := laid_o b11 p0 (fq m1 ++ fq m2) 31
  replace b12 := laid_o b12 p0 (fq m1 ++ fq m2) 31
  replace hb := laid_b hb p0 (fq m1 ++ fq m2) 31
  go_wp2_with (first | (with_reducible refine alP rfl rfl ?_) | (with_reducible refine stPt rfl rfl rfl rfl f p0_len (rc_q _) (rc_q _) ?_) | (with_reducible refine ldPt rfl rfl rfl b9 (rc_q _) (rc_q _) ?_) | (with_reducible refine ldX rfl rfl rfl b9 (rc_q _) (rc_q _) ?_) | (with_reducible refine ldY rfl rfl rfl b9 (rc_q _) (rc_q _) ?_) | (with_reducible refine ldPt rfl rfl rfl b10 (rc_q _) (rc_q _) ?_) | (with_reducible refine ldX rfl rfl rfl b10 (rc_q _) (rc_q _) ?_) | (with_reducible refine ldY rfl rfl rfl b10 (rc_q _) (rc_q _) ?_) | (with_reducible refine ldPt rfl rfl rfl b11 (rc_q _) (rc_q _) ?_) | (with_reducible refine ldX rfl rfl rfl b11 (rc_q _) (rc_q _) ?_) | (with_reducible refine ldY rfl rfl rfl b11 (rc_q _) (rc_q _) ?_) | (with_reducible refine ldPt rfl rfl rfl b12 (rc_q _) (rc_q _) ?_) | (with_reducible refine ldX rfl rfl rfl b12 (rc_q _) (rc_q _) ?_) | (with_reducible refine ldY rfl rfl rfl b12 (rc_q _) (rc_q _) ?_) | (with_reducible refine ldPt rfl rfl rfl b13 (rc_q _) (rc_q _) ?_) | (with_reducible refine ldX rfl rfl rfl b13 (rc_q _) (rc_q _) ?_) | (with_reducible refine ldY rfl rfl rfl b13 (rc_q _) (rc_q _) ?_) | (with_reducible refine bsP2 rfl rfl rfl rfl (rc_q _) (rc_q _) (rc_q _) (rc_q _) ?_))
  clear f
  generalize (w1.alloc (.cells p0.toArray 31)).setRow w1.heap.size (fq m1 ++ fq m2).toArray = W at *
  generalize w1.heap.size = pl_b13 at *
  have sl := Blk.new W (j2 (fq ax ++ fq ay) (fq bx ++ fq by')) 31 (b := pl_b13 + 1) hW1.symm
  replace b9 := b9.old (.cells (j2 (fq ax ++ fq ay) (fq bx ++ fq by')).toArray 31)
  replace b10 := b10.old (.cells (j2 (fq ax ++ fq ay) (fq bx ++ fq by')).toArray 31)
  replace b11 := b11.old (.cells (j2 (fq ax ++ fq ay) (fq bx ++ fq by')).toArray 31)
  replace b12 := b12.old (.cells (j2 (fq ax ++ fq ay) (fq bx ++ fq by')).toArray 31)
  replace b13 := b13.old (.cells (j2 (fq ax ++ fq ay) (fq bx ++ fq by')).toArray 31)
  replace hb := hb.alloc hb.size (.cells (j2 (fq ax ++ fq ay) (fq bx ++ fq by')).toArray 31)
  refine (HM2.out _ _ _ sl).mono ?_
  rintro e w1 ⟨rfl, h1⟩
  replace b9 := b9.call h1
  replace b10 := b10.call h1
  replace b11 := b11.call h1
  replace b12 := b12.call h1
  replace b13 := b13.call h1
  replace hb := bthen hb h1
  clear h1
  clear sl hW1
  have hW1 : ((w1.alloc (.cells p0.toArray 31)).setRow w1.heap.size (fq m1 ++ fq m2).toArray).heap.size = w1.heap.size + 1 := by simp
  have f := Blk.new w1 p0 31 rfl
  have b15 := laid_n w1 p0 (fq m1 ++ fq m2) 31
  replace b9 := laid_o b9 p0 (fq m1 ++ fq m2) 31
  replace b10 := laid_o b10 p0 (fq m1 ++ fq m2) 31
  replace b11 := laid_o b11 p0 (fq m1 ++ fq m2) 31
  replace b12 := laid_o b12 p0 (fq m1 ++ fq m2) 31
  replace b13 := laid_o b13 p0 (fq m1 ++ fq m2) 31
  replace hb := laid_b hb p0 (fq m1 ++ fq m2) 31
  go_wp2_with (first | (with_reducible refine alP rfl rfl ?_) | (with_reducible refine stPt rfl rfl rfl rfl f p0_len (rc_q _) (rc_q _) ?_) | (with_reducible refine ldPt rfl rfl rfl b9 (rc_q _) (rc_q _) ?_) | (with_reducible refine ldX rfl rfl rfl b9 (rc_q _) (rc_q _) ?_) | (with_reducible refine ldY rfl rfl rfl b9 (rc_q _) (rc_q _) ?_) | (with_reducible refine ldPt rfl rfl rfl b10 (rc_q _) (rc_q _) ?_) | (with_reducible refine ldX rfl rfl rfl b10 (rc_q _) (rc_q _) ?_) | (with_reducible refine ldY rfl rfl rfl b10 (rc_q _) (rc_q _) ?_) | (with_reducible refine ldPt rfl rfl rfl b11 (rc_q _) (rc_q _) ?_) | (with_reducible refine ldX rfl rfl rfl b11 (rc_q _) (rc_q _) ?_) | (with_reducible refine ldY rfl rfl rfl b11 (rc_q _) (rc_q _) ?_) | (with_reducible refine ldPt rfl rfl rfl b12 (rc_q _) (rc_q _) ?_) | (with_reducible refine ldX rfl rfl rfl b12 (rc_q _) (rc_q _) ?_) | (with_reducible refine ldY rfl rfl rfl b12 (rc_q _) (rc_q _) ?_) | (with_reducible refine ldPt rfl rfl rfl b13 (rc_q _) (rc_q _) ?_) | (with_reducible refine ldX rfl rfl rfl b13 (rc_q _) (rc_q _) ?_) | (with_reducible refine ldY rfl rfl rfl b13 (rc_q _) (rc_q _) ?_) | (with_reducible refine ldPt rfl rfl rfl b15 (rc_q _) (rc_q _) ?_) | (with_reducible refine ldX rfl rfl rfl b15 (rc_q _) (rc_q _) ?_) | (with_reducible refine ldY rfl rfl rfl b15 (rc_q _) (rc_q _) ?_) | (with_reducible refine bsP1 rfl rfl rfl (rc_q _) (rc_q _) ?_))
  clear f
  generalize (w1.alloc (.cells p0.toArray 31)).setRow w1.heap.size (fq m1 ++ fq m2).toArray = W at *
  generalize w1.heap.size = pl_b15 at *
  have sl := Blk.new W (jn [fq ax ++ fq ay]) 31 (b := pl_b15 + 1) hW1.symm
  replace b9 := b9.old (.cells (jn [fq ax ++ fq ay]).toArray 31)
  replace b10 := b10.old (.cells (jn [fq ax ++ fq ay]).toArray 31)
  replace b11 := b11.old (.cells (jn [fq ax ++ fq ay]).toArray 31)
  replace b12 := b12.old (.cells (jn [fq ax ++ fq ay]).toArray 31)
  replace b13 := b13.old (.cells (jn [fq ax ++ fq ay]).toArray 31)
  replace b15 := b15.old (.cells (jn [fq ax ++ fq ay]).toArray 31)
  replace hb := hb.alloc hb.size (.cells (jn [fq ax ++ fq ay]).toArray 31)
  refine (HM1.out _ _ _ sl).mono ?_
  rintro e w1 ⟨rfl, h1⟩
  replace b9 := b9.call h1
  replace b10 := b10.call h1
  replace b11 := b11.call h1
  replace b12 := b12.call h1
  replace b13 := b13.call h1
  replace b15 := b15.call h1
  replace hb := bthen hb h1
  clear h1
  clear sl hW1
  have hW1 : ((w1.alloc (.cells p0.toArray 31)).setRow w1.heap.size (fq ax ++ fq ay).toArray).heap.size = w1.heap.size + 1 := by simp
  have f := Blk.new w1 p0 31 rfl
  have b17 := laid_n w1 p0 (fq ax ++ fq ay) 31
  replace b9 := laid_o b9 p0 (fq ax ++ fq ay) 31
  replace b10 := laid_o b10 p0 (fq ax ++ fq ay) 31
  replace b11 := laid_o b11 p0 (fq ax ++ fq ay) 31
  replace b12 := laid_o b12 p0 (fq ax ++ fq ay) 31
  replace b13 := laid_o b13 p0 (fq ax ++ fq ay) 31
  replace b15 := laid_o b15 p0 (fq ax ++ fq ay) 31
  replace hb := laid_b hb p0 (fq ax ++ fq ay) 31
  go_wp2_with (first | (with_reducible refine alP rfl rfl ?_) | (with_reducible refine stPt rfl rfl rfl rfl f p0_len (rc_q _) (rc_q _) ?_) | (with_reducible refine ldPt rfl rfl rfl b9 (rc_q _) (rc_q _) ?_) | (with_reducible refine ldX rfl rfl rfl b9 (rc_q _) (rc_q _) ?_) | (with_reducible refine ldY rfl rfl rfl b9 (rc_q _) (rc_q _) ?_) | (with_reducible refine ldPt rfl rfl rfl b10 (rc_q _) (rc_q _) ?_) | (with_reducible refine ldX rfl rfl rfl b10 (rc_q _) (rc_q _) ?_) | (with_reducible refine ldY rfl rfl rfl b10 (rc_q _) (rc_q _) ?_) | (with_reducible refine ldPt rfl rfl rfl b11 (rc_q _) (rc_q _) ?_) | (with_reducible refine ldX rfl rfl rfl b11 (rc_q _) (rc_q _) ?_) | (with_reducible refine ldY rfl rfl rfl b11 (rc_q _) (rc_q _) ?_) | (with_reducible refine ldPt rfl rfl rfl b12 (rc_q _) (rc_q _) ?_) | (with_reducible refine ldX rfl rfl rfl b12 (rc_q _) (rc_q _) ?_) | (with_reducible refine ldY rfl rfl rfl b12 (rc_q _) (rc_q _) ?_) | (with_reducible refine ldPt rfl rfl rfl b13 (rc_q _) (rc_q _) ?_) | (with_reducible refine ldX rfl rfl rfl b13 (rc_q _) (rc_q _) ?_) | (with_reducible refine ldY rfl rfl rfl b13 (rc_q _) (rc_q _) ?_) | (with_reducible refine ldPt rfl rfl rfl b15 (rc_q _) (rc_q _) ?_) | (with_reducible refine ldX rfl rfl rfl b15 (rc_q _) (rc_q _) ?_) | (with_reducible refine ldY rfl rfl rfl b15 (rc_q _) (rc_q _) ?_) | (with_reducible refine ldPt rfl rfl rfl b17 (rc_q _) (rc_q _) ?_) | (with_reducible refine ldX rfl rfl rfl b17 (rc_q _) (rc_q _) ?_) | (with_reducible refine ldY rfl rfl rfl b17 (rc_q _) (rc_q _) ?_) | (with_reducible refine bsP5 rfl rfl rfl rfl rfl rfl rfl (rc_q _) (rc_q _) (rc_q _) (rc_q _) (rc_q _) (rc_q _) (rc_q _) (rc_q _) (rc_q _) (rc_q _) ?_))
  clear f
  generalize (w1.alloc (.cells p0.toArray 31)).setRow w1.heap.size (fq ax ++ fq ay).toArray = W at *
  generalize w1.heap.size = pl_b17 at *
  have sl := Blk.new W (jn [fq ax ++ fq ay, fq bx ++ fq by', fq cx ++ fq cy, fq dx ++ fq dy, fq ax ++ fq ay]) 31 (b := pl_b17 + 1) hW1.symm
  replace b9 := b9.old (.cells (jn [fq ax ++ fq ay, fq bx ++ fq by', fq cx ++ fq cy, fq dx ++ fq dy, fq ax ++ fq ay]).toArray 31)
  replace b10 := b10.old (.cells (jn [fq ax ++ fq ay, fq bx ++ fq by', fq cx ++ fq cy, fq dx ++ fq dy, fq ax ++ fq ay]).toArray 31)
  replace b11 := b11.old (.cells (jn [fq ax ++ fq ay, fq bx ++ fq by', fq cx ++ fq cy, fq dx ++ fq dy, fq ax ++ fq ay]).toArray 31)
  replace b12 := b12.old (.cells (jn [fq ax ++ fq ay, fq bx ++ fq by', fq cx ++ fq cy, fq dx ++ fq dy, fq ax ++ fq ay]).toArray 31)
  replace b13 := b13.old (.cells (jn [fq ax ++ fq ay, fq bx ++ fq by', fq cx ++ fq cy, fq dx ++ fq dy, fq ax ++ fq ay]).toArray 31)
  replace b15 := b15.old (.cells (jn [fq ax ++ fq ay, fq bx ++ fq by', fq cx ++ fq cy, fq dx ++ fq dy, fq ax ++ fq ay]).toArray 31)
  replace b17 := b17.old (.cells (jn [fq ax ++ fq ay, fq bx ++ fq by', fq cx ++ fq cy, fq dx ++ fq dy, fq ax ++ fq ay]).toArray 31)
  replace hb := hb.alloc hb.size (.cells (jn [fq ax ++ fq ay, fq bx ++ fq by', fq cx ++ fq cy, fq dx ++ fq dy, fq ax ++ fq ay]).toArray 31)
  clear b10
  clear b11
  clear b12
  refine (HM5.out _ _).mono ?_
  rintro e w1 ⟨rfl, h1⟩
  replace b9 := b9.call h1
  replace b13 := b13.call h1
  replace b15 := b15.call h1
  replace b17 := b17.call h1
  replace hb := bthen hb h1
  clear h1
  clear sl hW1
  have f := Blk.new w1 p0 31 rfl
  have b19 := laid_n w1 p0 (p0) 31
  replace b9 := laid_o b9 p0 (p0) 31
  replace b13 := laid_o b13 p0 (p0) 31
  replace b15 := laid_o b15 p0 (p0) 31
  replace b17 := laid_o b17 p0 (p0) 31
  replace hb := laid_b hb p0 (p0) 31
  go_wp2_with (first | (with_reducible refine alP rfl rfl ?_) | (with_reducible refine stP0 rfl rfl rfl rfl f p0_len ?_) | (with_reducible refine ldPt rfl rfl rfl b9 (rc_q _) (rc_q _) ?_) | (with_reducible refine ldX rfl rfl rfl b9 (rc_q _) (rc_q _) ?_) | (with_reducible refine ldY rfl rfl rfl b9 (rc_q _) (rc_q _) ?_) | (with_reducible refine ldPt rfl rfl rfl b13 (rc_q _) (rc_q _) ?_) | (with_reducible refine ldX rfl rfl rfl b13 (rc_q _) (rc_q _) ?_) | (with_reducible refine ldY rfl rfl rfl b13 (rc_q _) (rc_q _) ?_) | (with_reducible refine ldPt rfl rfl rfl b15 (rc_q _) (rc_q _) ?_) | (with_reducible refine ldX rfl rfl rfl b15 (rc_q _) (rc_q _) ?_) | (with_reducible refine ldY rfl rfl rfl b15 (rc_q _) (rc_q _) ?_) | (with_reducible refine ldPt rfl rfl rfl b17 (rc_q _) (rc_q _) ?_) | (with_reducible refine ldX rfl rfl rfl b17 (rc_q _) (rc_q _) ?_) | (with_reducible refine ldY rfl rfl rfl b17 (rc_q _) (rc_q _) ?_))
  clear f
  generalize (w1.alloc (.cells p0.toArray 31)).setRow w1.heap.size (p0).toArray = W at *
  generalize w1.heap.size = pl_b19 at *
  clear b19
  refine (HA5.out _).mono ?_
  rintro e w1 ⟨rfl, h1⟩
  replace b9 := b9.call h1
  replace b13 := b13.call h1
  replace b15 := b15.call h1
  replace b17 := b17.call h1
  replace hb := bthen hb h1
  clear h1
  have f := Blk.new w1 p0 31 rfl
  have b21 := laid_n w1 p0 (fq m1 ++ fq m2) 31
  replace b9 := laid_o b9 p0 (fq m1 ++ fq m2) 31
  replace b13 := laid_o b13 p0 (fq m1 ++ fq m2) 31
  replace b15 := laid_o b15 p0 (fq m1 ++ fq m2) 31
  replace b17 := laid_o b17 p0 (fq m1 ++ fq m2) 31
  replace hb := laid_b hb p0 (fq m1 ++ fq m2) 31
  go_wp2_with (first | (with_reducible refine alP rfl rfl ?_) | (with_reducible refine stPt rfl rfl rfl rfl f p0_len (rc_q _) (rc_q _) ?_) | (with_reducible refine ldPt rfl rfl rfl b9 (rc_q _) (rc_q _) ?_) | (with_reducible refine ldX rfl rfl rfl b9 (rc_q _) (rc_q _) ?_) | (with_reducible refine ldY rfl rfl rfl b9 (rc_q _) (rc_q _) ?_) | (with_reducible refine ldPt rfl rfl rfl b13 (rc_q _) (rc_q _) ?_) | (with_reducible refine ldX rfl rfl rfl b13 (rc_q _) (rc_q _) ?_) | (with_reducible refine ldY rfl rfl rfl b13 (rc_q _) (rc_q _) ?_) | (with_reducible refine ldPt rfl rfl rfl b15 (rc_q _) (rc_q _) ?_) | (with_reducible refine ldX rfl rfl rfl b15 (rc_q _) (rc_q _) ?_) | (with_reducible refine ldY rfl rfl rfl b15 (rc_q _) (rc_q _) ?_) | (with_reducible refine ldPt rfl rfl rfl b17 (rc_q _) (rc_q _) ?_) | (with_reducible refine ldX rfl rfl rfl b17 (rc_q _) (rc_q _) ?_) | (with_reducible refine ldY rfl rfl rfl b17 (rc_q _) (rc_q _) ?_) | (with_reducible refine ldPt rfl rfl rfl b21 (rc_q _) (rc_q _) ?_) | (with_reducible refine ldX rfl rfl rfl b21 (rc_q _) (rc_q _) ?_) | (with_reducible refine ldY rfl rfl rfl b21 (rc_q _) (rc_q _) ?_) | (refine ldPtg (by rfl) rfl rfl b13 (rc_q _) (rc_q _) ?_) | (refine ldPtg (by rfl) rfl rfl b15 (rc_q _) (rc_q _) ?_) | (refine ldPtg (by rfl) rfl rfl b17 (rc_q _) (rc_q _) ?_) | (refine ldPtg (by rfl) rfl rfl b21 (rc_q _) (rc_q _) ?_) | (refine ldPtg (by rfl) rfl rfl b9 (rc_q _) (rc_q _) ?_) | (refine eqPgs (by rfl) rfl rfl rfl HQ.out.2.2.1 HQ.out.2.2.2 ?_) | (refine eqPgs (by rfl) rfl rfl rfl HQ.out.1 HQ.out.2.1 ?_))
  clear f
  generalize (w1.alloc (.cells p0.toArray 31)).setRow w1.heap.size (fq m1 ++ fq m2).toArray = W at *
  generalize w1.heap.size = pl_b21 at *
  go_ret
  exact ⟨rfl, hb⟩
end Go.Proofs.Ytiaikjeljhfadab
