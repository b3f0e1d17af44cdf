/- Joined of: Mrp Tsx. -/
import Derived.Test.YtkknaigpdnokkaaGreatMrf
import Derived.Test.YtkknaigpdnokkaaGreatTru
/- The reference: sums of tiny fractions. -/
namespace Go.Proofs.YtkknaigpdnokkaaGreat
set_option linter.unusedSimpArgs false
set_option linter.unusedVariables false
open Go.RowKit
set_option maxRecDepth 100000
theorem op_addL {o : Oper} {a : Act} {x y : Operand} {ty : TypeId} {m k q : Int} (h : m + k = q) (hq : -9223372036854775808 ≤ q ∧ q ≤ 9223372036854775807) (ho : o.op = .binOp .add 2 x y ty) (hx : a.eval x = .int .i64 m) (hy : a.eval y = .int .i64 k) (w : World) :
    (execOp a.eval o).run Tryz.prog w = .ok (.value (.int .i64 q)) w := by
  subst h
  have hw : IntKind.i64.wrap (m + k) = m + k := IntWalk.i64_in _ hq
  unfold execOp
  simp only [ho, hx, hy]
  go_simp <;> simp_all
theorem addL {ops : Array Oper} {rest : List Oper} {o : Oper} {a : Act} {w : World} {Q : Exit → Act → World → Prop} {x y : Operand} {ty : TypeId} {m k q : Int} (h : m + k = q) (hq : -9223372036854775808 ≤ q ∧ q ≤ 9223372036854775807) (hgd : o.guard = none) (ho : o.op = .binOp .add 2 x y ty) (hx : a.eval x = .int .i64 m) (hy : a.eval y = .int .i64 k)
    (hr : wpList Tryz.prog ops Q rest (a.put o.dst (.int .i64 q)) w) : wpList Tryz.prog ops Q (o :: rest) a w :=
  wpList_plain hgd fun K hK => by
    have := hK _ _ hr
    unfold Oper.wp
    rw [op_addL h hq ho hx hy w]
    exact this
set_option maxHeartbeats 4000000 in
theorem plus_t {A B C : List Value} {p q r s m k t d : Int} (hA : Rc A) (hB : Rc B) (hC : Rc C) (T : Tl 58 #[vl A, vl B] (.tuple #[.int .i64 p, .int .i64 q, .int .i64 r, .int .i64 s, .bool true])) (hm : p * s = m) (hk : r * q = k) (ht : m + k = t) (hd : q * s = d)
    (rm : -9223372036854775808 ≤ m ∧ m ≤ 9223372036854775807) (rk : -9223372036854775808 ≤ k ∧ k ≤ 9223372036854775807) (rt : -9223372036854775808 ≤ t ∧ t ≤ 9223372036854775807) (rd : -9223372036854775808 ≤ d ∧ d ≤ 9223372036854775807)
    (X : Tl 123 #[.int .i64 t, .int .i64 d] (vl C)) :
    Tl 76 #[vl A, vl B, .bool false] (.tuple #[vl C, .bool true]) := by
  intro w
  unfold vl at *
  have HT := Lib.hid T
  have HX := Lib.hid X
  have HA := Lib.hid hA
  have HB := Lib.hid hB
  have HC := Lib.hid hC
  have HM := Lib.hid hm
  have HK := Lib.hid hk
  have HD := Lib.hid hd
  unfold Tl at HT HX
  clear T X hA hB hC hm hk hd
  have b3 := (((Blk.new w (A) 27 rfl).old (.cells (B).toArray 27)).old (.cells (rr false 0 false 0).toArray 27))
  have b4 := ((Blk.new (w.alloc (.cells (A).toArray 27)) (B) 27 (b := w.heap.size + 1) (by simp)).old (.cells (rr false 0 false 0).toArray 27))
  have b6 := (Blk.new ((w.alloc (.cells (A).toArray 27)).alloc (.cells (B).toArray 27)) (rr false 0 false 0) 27 (b := w.heap.size + 1 + 1) (by simp))
  have hb : Below w.heap.size w (((w.alloc (.cells (A).toArray 27)).alloc (.cells (B).toArray 27)).alloc (.cells (rr false 0 false 0).toArray 27)) := ((((Below.refl _ _).alloc (Nat.le_refl _) _).alloc (by simp <;> omega) _).alloc (by simp <;> omega) _)
  have hk : (((w.alloc (.cells (A).toArray 27)).alloc (.cells (B).toArray 27)).alloc (.cells (rr false 0 false 0).toArray 27)).heap.size = w.heap.size + 1 + 1 + 1 := by simp
  go_enter Tryz.func76, Tryz.ntmps76
  go_wp2_with (first | (with_reducible refine ldA' rfl rfl rfl b3 HA.out ?_) | (with_reducible refine ldA' rfl rfl rfl b4 HB.out ?_) | (with_reducible refine alR rfl rfl ?_))
  try rw [show ((w.alloc (.cells (A).toArray 27)).alloc (.cells (B).toArray 27)).heap.size = w.heap.size + 1 + 1 by simp]
  clear hk
  refine (HT.out _).mono ?_
  rintro e w1 ⟨rfl, h1⟩
  replace b6 := b6.call h1
  replace hb := bthen hb h1
  clear h1
  go_wp2_with (first | (with_reducible refine mulL HM.out rm rfl rfl rfl rfl ?_) | (with_reducible refine mulL HK.out rk rfl rfl rfl rfl ?_) | (with_reducible refine mulL HD.out rd rfl rfl rfl rfl ?_) | (with_reducible refine addL ht rt rfl rfl rfl rfl ?_))
  refine (HX.out _).mono ?_
  rintro e w1 ⟨rfl, h1⟩
  replace b6 := b6.call h1
  replace hb := bthen hb h1
  clear h1
  go_wp2_with (first | (with_reducible refine stQ rfl rfl rfl rfl b6 (rr_length _ _ _ _) HC.out ?_))
  exact ret_ct (cs := C) rfl rfl rfl rfl HC.out.whole (b6.row _) ⟨rfl, below_row hb (by omega) _⟩
end Go.Proofs.YtkknaigpdnokkaaGreat

/- What TriSides answers. -/
namespace Go.Proofs.YtkknaigpdnokkaaGreat
set_option linter.unusedSimpArgs false
set_option linter.unusedVariables false
open Go.RowKit
set_option maxRecDepth 100000
theorem op_cv8 {o : Oper} {a : Act} {x : Operand} {X : Int} (h : -128 ≤ X ∧ X ≤ 127) (ho : o.op = .convert 38 3 x) (hx : a.eval x = .int .i8 X) (w : World) :
    (execOp a.eval o).run Tryz.prog w = .ok (.value (.int .i64 X)) w := by
  have hw : IntKind.i64.wrap X = X := IntWalk.i64_in _ (by omega)
  unfold execOp
  simp only [ho, hx]
  go_simp <;> simp_all
set_option maxHeartbeats 1000000 in
theorem AddRat_walk {A B C : List Value} (hA : Rc A) (hB : Rc B) (hC : Rc C) (T : Tl 76 #[vl A, vl B, .bool false] (.tuple #[vl C, .bool true])) : Tl 31 #[vl A, vl B] (.tuple #[vl C, .bool true]) := by
  intro w
  unfold vl at *
  have HT := Lib.hid T
  have HA := Lib.hid hA
  have HB := Lib.hid hB
  have HC := Lib.hid hC
  unfold Tl at HT
  clear T hA hB hC
  have b2 := (((Blk.new w (A) 27 rfl).old (.cells (B).toArray 27)).old (.cells (rr false 0 false 0).toArray 27))
  have b3 := ((Blk.new (w.alloc (.cells (A).toArray 27)) (B) 27 (b := w.heap.size + 1) (by simp)).old (.cells (rr false 0 false 0).toArray 27))
  have b4 := (Blk.new ((w.alloc (.cells (A).toArray 27)).alloc (.cells (B).toArray 27)) (rr false 0 false 0) 27 (b := w.heap.size + 1 + 1) (by simp))
  have hb : Below w.heap.size w (((w.alloc (.cells (A).toArray 27)).alloc (.cells (B).toArray 27)).alloc (.cells (rr false 0 false 0).toArray 27)) := ((((Below.refl _ _).alloc (Nat.le_refl _) _).alloc (by simp <;> omega) _).alloc (by simp <;> omega) _)
  have hk : (((w.alloc (.cells (A).toArray 27)).alloc (.cells (B).toArray 27)).alloc (.cells (rr false 0 false 0).toArray 27)).heap.size = w.heap.size + 1 + 1 + 1 := by simp
  go_enter Tryz.func31, Tryz.ntmps31
  go_wp2_with (first | (with_reducible refine ldA' rfl rfl rfl b2 HA.out ?_) | (with_reducible refine ldA' rfl rfl rfl b3 HB.out ?_) | (with_reducible refine alR rfl rfl ?_))
  try rw [show ((w.alloc (.cells (A).toArray 27)).alloc (.cells (B).toArray 27)).heap.size = w.heap.size + 1 + 1 by simp]
  clear hk
  refine (HT.out _).mono ?_
  rintro e w1 ⟨rfl, h1⟩
  replace b4 := b4.call h1
  replace hb := bthen hb h1
  clear h1
  go_wp2_with (first | (with_reducible refine stQ rfl rfl rfl rfl b4 (rr_length _ _ _ _) HC.out ?_))
  exact ret_ct (cs := C) rfl rfl rfl rfl HC.out.whole (b4.row _) ⟨rfl, below_row hb (by omega) _⟩
theorem AddRat_i {n m : Int} (hn : n.natAbs < 2 ^ 30) (hm : m.natAbs < 2 ^ 30) : Tl 31 #[vl (fq (n : Rat)), vl (fq (m : Rat))] (.tuple #[vl (fq ((n + m : Int) : Rat)), .bool true]) := by
  have h1 : Bq 31 (n : Rat) := bq_int (by show n.natAbs < 2 ^ 31; omega) (by omega)
  have h2 : Bq 31 (m : Rat) := bq_int (by show m.natAbs < 2 ^ 31; omega) (by omega)
  have T : Tl 58 #[vl (fq (n : Rat)), vl (fq (m : Rat))] (.tuple #[.int .i64 n, .int .i64 1, .int .i64 m, .int .i64 1, .bool true]) := tinies_yes h1 h2
  have X := quick_any (n := n + m) (d := 1) (by omega) (by decide) (by decide)
  rw [show Rat.divInt (n + m) 1 = ((n + m : Int) : Rat) from divInt_one _] at X
  exact AddRat_walk (rc_q _) (rc_q _) (rc_q _) (plus_t (rc_q _) (rc_q _) (rc_q _) T (Int.mul_one n) (Int.mul_one m) rfl rfl (by omega) (by omega) (by omega) (by decide) X)
set_option maxHeartbeats 16000000 in
theorem ts_walk {W H X Y : Int} {ax ay ex ey cx cy px py x0 x1 x2 y0 z : Rat} (hW : 0 ≤ W ∧ W ≤ 255) (hH : 0 ≤ H ∧ H ≤ 255) (hX : -128 ≤ X ∧ X ≤ 127) (hY : -128 ≤ Y ∧ Y ≤ 127) (f0 : Fq2 x0) (f1 : Fq2 x1) (f2 : Fq2 x2) (fy : Fq2 y0) (fz : Fq2 z)
    (A0 : Tl 16 #[.int .i64 0, .int .i64 0] (vp ax ay)) (AW : Tl 16 #[.int .i64 W, .int .i64 0] (vp ex ey)) (AH : Tl 16 #[.int .i64 0, .int .i64 H] (vp cx cy)) (AX : Tl 16 #[.int .i64 X, .int .i64 Y] (vp px py))
    (S1 : Tl 30 #[vp ax ay, vp ex ey, vp cx cy] (.tuple #[vl (c3c (fq x0) (fq x1) (fq x2)), .bool true])) (S2 : Tl 30 #[vp ex ey, vp cx cy, vp ax ay] (.tuple #[vl (c3c (fq x1) (fq x2) (fq x0)), .bool true]))
    (AD : Tl 31 #[vl (fq x0), vl (fq x2)] (.tuple #[vl (fq x1), .bool true])) (S3 : Tl 30 #[vp ax ay, vp px py, vp ax ay] (.tuple #[vl (c3c (fq y0) (fq y0) (fq z)), .bool true]))
    (W0 : Tl 25 #[.int .i64 0] (vq z)) (w : World) :
    Calls Tryz.prog 7 #[.int .u8 W, .int .u8 H, .int .i8 X, .int .i8 Y] w fun e w' => e = .returned (.bool true) ∧ Below w.heap.size w w' := by
  have HA0 := Lib.hid A0
  have HAW := Lib.hid AW
  have HAH := Lib.hid AH
  have HAX := Lib.hid AX
  have HS1 := Lib.hid S1
  have HS2 := Lib.hid S2
  have HAD := Lib.hid AD
  have HS3 := Lib.hid S3
  have HW0 := Lib.hid W0
  have Hf0 := Lib.hid f0
  have Hf1 := Lib.hid f1
  have Hf2 := Lib.hid f2
  have Hfy := Lib.hid fy
  have Hfz := Lib.hid fz
  clear A0 AW AH AX S1 S2 AD S3 W0 f0 f1 f2 fy fz
  have eq1 : vq = fun q => .agg (fq q).toArray := rfl
  unfold Tl at HA0 HAW HAH HAX HS1 HS2 HAD HS3 HW0
  unfold vp at HA0 HAW HAH HAX HS1 HS2 HS3
  unfold vl at HA0 HAW HAH HAX HS1 HS2 HAD HS3
  rw [eq1] at HW0
  clear eq1
  have hb := Below.refl w.heap.size w
  go_enter Tryz.func7, Tryz.ntmps7
  go_wp2_with fail
  refine (known5_any _).mono ?_
  rintro e w1 ⟨rfl, h1⟩
  replace hb := bthen hb h1
  clear h1
  go_wp2_with fail
  refine (HA0.out _).mono ?_
  rintro e w1 ⟨rfl, h1⟩
  replace hb := bthen hb h1
  clear h1
  go_wp2_with fail
  refine (HAW.out _).mono ?_
  rintro e w1 ⟨rfl, h1⟩
  replace hb := bthen hb h1
  clear h1
  go_wp2_with fail
  refine (HAH.out _).mono ?_
  rintro e w1 ⟨rfl, h1⟩
  replace hb := bthen hb h1
  clear h1
  have f1 := ((Blk.new w1 p0 40 rfl).old (.cells p0.toArray 40)).old (.cells p0.toArray 40)
  have f2 := ((Blk.new (w1.alloc (.cells p0.toArray 40)) p0 40 (b := w1.heap.size + 1) (by simp)).old (.cells p0.toArray 40)).rowOther (g := w1.heap.size) (fq ax ++ fq ay).toArray (by omega)
  have f3 := ((Blk.new ((w1.alloc (.cells p0.toArray 40)).alloc (.cells p0.toArray 40)) p0 40 (b := w1.heap.size + 1 + 1) (by simp)).rowOther (g := w1.heap.size) (fq ax ++ fq ay).toArray (by omega)).rowOther (g := w1.heap.size + 1) (fq ex ++ fq ey).toArray (by omega)
  have b9 := ((f1.row (fq ax ++ fq ay)).rowOther (g := w1.heap.size + 1) (fq ex ++ fq ey).toArray (by omega)).rowOther (g := w1.heap.size + 1 + 1) (fq cx ++ fq cy).toArray (by omega)
  have b10 := (f2.row (fq ex ++ fq ey)).rowOther (g := w1.heap.size + 1 + 1) (fq cx ++ fq cy).toArray (by omega)
  have b11 := f3.row (fq cx ++ fq cy)
  have hs := hb.size
  have k1 : (w1.alloc (.cells p0.toArray 40)).heap.size = w1.heap.size + 1 := by simp
  have k2 : ((w1.alloc (.cells p0.toArray 40)).alloc (.cells p0.toArray 40)).heap.size = w1.heap.size + 1 + 1 := by simp
  replace hb := below_row (below_row (below_row (((hb.alloc hs (.cells p0.toArray 40)).alloc (by omega) (.cells p0.toArray 40)).alloc (by omega) (.cells p0.toArray 40)) (g := w1.heap.size) hs (fq ax ++ fq ay).toArray) (g := w1.heap.size + 1) (by omega) (fq ex ++ fq ey).toArray) (g := w1.heap.size + 1 + 1) (by omega) (fq cx ++ fq cy).toArray
  clear k1 k2
  go_wp2_with (first | (with_reducible refine alP3 rfl rfl ?_) | (with_reducible refine alP2 rfl rfl ?_) | (with_reducible refine alP rfl rfl ?_) | (with_reducible refine stPt rfl rfl rfl rfl f1 p0_len (rc_q _) (rc_q _) ?_) | (with_reducible refine stPt rfl rfl rfl rfl f2 p0_len (rc_q _) (rc_q _) ?_) | (with_reducible refine stPt rfl rfl rfl rfl f3 p0_len (rc_q _) (rc_q _) ?_) | (with_reducible refine ldPt rfl rfl rfl b9 (rc_q _) (rc_q _) ?_) | (with_reducible refine ldPt rfl rfl rfl b10 (rc_q _) (rc_q _) ?_) | (with_reducible refine ldPt rfl rfl rfl b11 (rc_q _) (rc_q _) ?_))
  clear f1 f2 f3 hs
  try rw [show ((w1.alloc (.cells p0.toArray 40)).alloc (.cells p0.toArray 40)).heap.size = w1.heap.size + 1 + 1 by simp]
  try rw [show (w1.alloc (.cells p0.toArray 40)).heap.size = w1.heap.size + 1 by simp]
  generalize (((((w1.alloc (.cells p0.toArray 40)).alloc (.cells p0.toArray 40)).alloc (.cells p0.toArray 40)).setRow w1.heap.size (fq ax ++ fq ay).toArray).setRow (w1.heap.size + 1) (fq ex ++ fq ey).toArray).setRow (w1.heap.size + 1 + 1) (fq cx ++ fq cy).toArray = W at *
  generalize w1.heap.size + 1 + 1 = pl_b11 at *
  generalize w1.heap.size + 1 = pl_b10 at *
  generalize w1.heap.size = pl_b9 at *
  refine (HS1.out _).mono ?_
  rintro e w1 ⟨rfl, h1⟩
  replace b9 := b9.call h1
  replace b10 := b10.call h1
  replace b11 := b11.call h1
  replace hb := bthen hb h1
  clear h1
  have f := Blk.new w1 (c3c zR zR zR) 60 rfl
  have b12 := laid_n w1 (c3c zR zR zR) (c3c (fq x0) (fq x1) (fq x2)) 60
  replace b9 := laid_o b9 (c3c zR zR zR) (c3c (fq x0) (fq x1) (fq x2)) 60
  replace b10 := laid_o b10 (c3c zR zR zR) (c3c (fq x0) (fq x1) (fq x2)) 60
  replace b11 := laid_o b11 (c3c zR zR zR) (c3c (fq x0) (fq x1) (fq x2)) 60
  replace hb := laid_b hb (c3c zR zR zR) (c3c (fq x0) (fq x1) (fq x2)) 60
  go_wp2_with (first | (with_reducible refine alR3 rfl rfl ?_) | (with_reducible refine stR3 rfl rfl rfl rfl f (r3_len (rc_rr _ _ _ _) (rc_rr _ _ _ _) (rc_rr _ _ _ _)) (rc_q _) (rc_q _) (rc_q _) ?_) | (with_reducible refine ldPt rfl rfl rfl b9 (rc_q _) (rc_q _) ?_) | (with_reducible refine ldPt rfl rfl rfl b10 (rc_q _) (rc_q _) ?_) | (with_reducible refine ldPt rfl rfl rfl b11 (rc_q _) (rc_q _) ?_))
  clear f
  generalize (w1.alloc (.cells (c3c zR zR zR).toArray 60)).setRow w1.heap.size (c3c (fq x0) (fq x1) (fq x2)).toArray = W at *
  generalize w1.heap.size = pl_b12 at *
  refine (HS2.out _).mono ?_
  rintro e w1 ⟨rfl, h1⟩
  replace b9 := b9.call h1
  replace b10 := b10.call h1
  replace b11 := b11.call h1
  replace b12 := b12.call h1
  replace hb := bthen hb h1
  clear h1
  have f := Blk.new w1 (c3c zR zR zR) 60 rfl
  have b14 := laid_n w1 (c3c zR zR zR) (c3c (fq x1) (fq x2) (fq x0)) 60
  replace b9 := laid_o b9 (c3c zR zR zR) (c3c (fq x1) (fq x2) (fq x0)) 60
  replace b12 := laid_o b12 (c3c zR zR zR) (c3c (fq x1) (fq x2) (fq x0)) 60
  replace hb := laid_b hb (c3c zR zR zR) (c3c (fq x1) (fq x2) (fq x0)) 60
  go_wp2_with (first | (with_reducible refine alR3 rfl rfl ?_) | (with_reducible refine stR3 rfl rfl rfl rfl f (r3_len (rc_rr _ _ _ _) (rc_rr _ _ _ _) (rc_rr _ _ _ _)) (rc_q _) (rc_q _) (rc_q _) ?_) | (with_reducible refine ldP rfl rfl rfl b12 r3_p0 (rc_q _).whole ?_) | (with_reducible refine ldP rfl rfl rfl b12 (r3_p2 (rc_q _) (rc_q _)) (rc_q _).whole ?_))
  clear f
  generalize (w1.alloc (.cells (c3c zR zR zR).toArray 60)).setRow w1.heap.size (c3c (fq x1) (fq x2) (fq x0)).toArray = W at *
  generalize w1.heap.size = pl_b14 at *
  clear b10 b11
  refine (HAD.out _).mono ?_
  rintro e w1 ⟨rfl, h1⟩
  replace b9 := b9.call h1
  replace b12 := b12.call h1
  replace b14 := b14.call h1
  replace hb := bthen hb h1
  clear h1
  have f := Blk.new w1 (rr false 0 false 0) 27 rfl
  have b16 := laid_n w1 (rr false 0 false 0) (fq x1) 27
  replace b9 := laid_o b9 (rr false 0 false 0) (fq x1) 27
  replace b12 := laid_o b12 (rr false 0 false 0) (fq x1) 27
  replace b14 := laid_o b14 (rr false 0 false 0) (fq x1) 27
  replace hb := laid_b hb (rr false 0 false 0) (fq x1) 27
  go_wp2_with (first | (with_reducible refine alR rfl rfl ?_) | (with_reducible refine stQ rfl rfl rfl rfl f (rr_length _ _ _ _) (rc_q _) ?_))
  clear f
  generalize (w1.alloc (.cells (rr false 0 false 0).toArray 27)).setRow w1.heap.size (fq x1).toArray = W at *
  generalize w1.heap.size = pl_b16 at *
  have hsz := hb.size
  try simp only [Act.put, List.setIfInBounds_toArray, List.set_cons_zero, List.set_cons_succ]
  go_cut [18, 19] (fun p v wx => ∃ q, p = .pointer (some ⟨q, 0, none⟩) ∧ v = .bool true ∧ Below w.heap.size w wx ∧ Blk wx q (c3c (fq y0) (fq y0) (fq z)) 60 ∧ Blk wx pl_b12 (c3c (fq x0) (fq x1) (fq x2)) 60 ∧ Blk wx pl_b14 (c3c (fq x1) (fq x2) (fq x0)) 60 ∧ Blk wx pl_b16 (fq x1) 27)
  case first =>
    refine rg_start [] (by kernel_rfl) (fun hS => ?_)
    replace hb := hb.drew
    refine rg_ldP 0 rfl (by kernel_rfl) (by kernel_rfl) (by kernel_rfl) (by rfl) hS rfl rfl b9 (by simp <;> omega) (part_all _) (wholeP (rc_q _) (rc_q _)) ?_
    try simp only [Act.put, List.setIfInBounds_toArray, List.set_cons_zero, List.set_cons_succ]
    refine rg_take 1 rfl (by kernel_rfl) (by kernel_rfl) (by kernel_rfl) (by rfl) hS (v := ?_) ?_ ?_
    rotate_left
    · (intro w' hS'; go_simp <;> try with_reducible rfl)
    try simp only [Act.put, List.setIfInBounds_toArray, List.set_cons_zero, List.set_cons_succ]
    refine rg_take 2 rfl (by kernel_rfl) (by kernel_rfl) (by kernel_rfl) (by rfl) hS (v := .int .i64 X) (fun w' _ => op_cv8 hX rfl rfl w') ?_
    try simp only [Act.put, List.setIfInBounds_toArray, List.set_cons_zero, List.set_cons_succ]
    refine rg_take 3 rfl (by kernel_rfl) (by kernel_rfl) (by kernel_rfl) (by rfl) hS (v := ?_) ?_ ?_
    rotate_left
    · (intro w' hS'; go_simp <;> try with_reducible rfl)
    try simp only [Act.put, List.setIfInBounds_toArray, List.set_cons_zero, List.set_cons_succ]
    refine rg_take 4 rfl (by kernel_rfl) (by kernel_rfl) (by kernel_rfl) (by rfl) hS (v := .int .i64 Y) (fun w' _ => op_cv8 hY rfl rfl w') ?_
    try simp only [Act.put, List.setIfInBounds_toArray, List.set_cons_zero, List.set_cons_succ]
    refine rg_ldP 6 rfl (by kernel_rfl) (by kernel_rfl) (by kernel_rfl) (by rfl) hS rfl rfl b9 (by simp <;> omega) (part_all _) (wholeP (rc_q _) (rc_q _)) ?_
    try simp only [Act.put, List.setIfInBounds_toArray, List.set_cons_zero, List.set_cons_succ]
    refine rg_two 5 11 rfl rfl (by kernel_rfl) (by rfl) (by rfl) (fun K hK => ?_) (fun K hK => ?_)
    · go_simp
      refine (HAX.out _).mono ?_
      rintro e w1 ⟨rfl, h1⟩
      refine hK _ _ (hS.call h1) (fun hS => ?_)
      clear hK K
      try replace an := an.call h1
      replace hb := bthen hb h1
      clear h1
      try simp only [Act.put, List.setIfInBounds_toArray, List.set_cons_zero, List.set_cons_succ]
      refine rg_two 7 11 rfl rfl (by kernel_rfl) (by rfl) (by rfl) (fun K hK => ?_) (fun K hK => ?_)
      · go_simp
        refine (HS3.out _).mono ?_
        rintro e w1 ⟨rfl, h1⟩
        refine hK _ _ (hS.call h1) (fun hS => ?_)
        clear hK K
        try replace an := an.call h1
        replace hb := bthen hb h1
        clear h1
        try simp only [Act.put, List.setIfInBounds_toArray, List.set_cons_zero, List.set_cons_succ]
        refine rg_take 8 rfl (by kernel_rfl) (by kernel_rfl) (by kernel_rfl) (by rfl) hS (v := ?_) ?_ ?_
        rotate_left
        · (intro w' hS'; go_simp <;> try with_reducible rfl)
        try simp only [Act.put, List.setIfInBounds_toArray, List.set_cons_zero, List.set_cons_succ]
        refine rg_take 9 rfl (by kernel_rfl) (by kernel_rfl) (by kernel_rfl) (by rfl) hS (v := ?_) ?_ ?_
        rotate_left
        · (intro w' hS'; go_simp <;> try with_reducible rfl)
        try simp only [Act.put, List.setIfInBounds_toArray, List.set_cons_zero, List.set_cons_succ]
        refine rg_take 10 rfl (by kernel_rfl) (by kernel_rfl) (by kernel_rfl) (by rfl) hS (v := ?_) ?_ ?_
        rotate_left
        · (intro w' hS'; go_simp <;> try with_reducible rfl)
        try simp only [Act.put, List.setIfInBounds_toArray, List.set_cons_zero, List.set_cons_succ]
        refine rg_eff 11 rfl (by kernel_rfl) (by rfl) (fun K hK => ?_)
        refine wp_alB (zs := c3c zR zR zR) rfl (by kernel_rfl) (fun pn qn an => ?_)
        replace qn := Nat.le_trans hS.1 qn
        refine hK _ _ (hS.alloc _) (fun hS => ?_)
        clear hK K
        replace hb := hb.alloc hb.size (.cells (c3c zR zR zR).toArray 60)
        try simp only [Act.put, List.setIfInBounds_toArray, List.set_cons_zero, List.set_cons_succ]
        refine rg_eff 12 rfl (by kernel_rfl) (by rfl) (fun K hK => ?_)
        refine wp_st (vs := c3c (fq y0) (fq y0) (fq z)) rfl rfl rfl an ((r3_len (rc_rr _ _ _ _) (rc_rr _ _ _ _) (rc_rr _ _ _ _)).trans (r3_len (rc_q _) (rc_q _) (rc_q _)).symm) (wholeR3 (rc_q _) (rc_q _) (rc_q _)) (r3_one (rc_q _) (rc_q _) (rc_q _)) ?_
        refine hK _ _ (hS.row (.inr qn) _) (fun hS => ?_)
        clear hK K
        replace an := an.row (c3c (fq y0) (fq y0) (fq z))
        replace hb := below_row hb (g := pn) (by omega) (c3c (fq y0) (fq y0) (fq z)).toArray
        try simp only [Act.put, List.setIfInBounds_toArray, List.set_cons_zero, List.set_cons_succ]
        refine rg_take 13 rfl (by kernel_rfl) (by kernel_rfl) (by kernel_rfl) (by rfl) hS (v := ?_) ?_ ?_
        rotate_left
        · (intro w' hS'; go_simp <;> try with_reducible rfl)
        try simp only [Act.put, List.setIfInBounds_toArray, List.set_cons_zero, List.set_cons_succ]
        refine rg_done (by kernel_rfl) ?_
        go_wp2_with fail
        go_meet
        case rel => exact ⟨pn, rfl, rfl, hb, an, b12.keep hS (by simp), b14.keep hS (by simp), b16.keep hS (by simp)⟩
      · refine wp_alB (zs := c3c zR zR zR) rfl (by kernel_rfl) (fun pn qn an => ?_)
        replace qn := Nat.le_trans hS.1 qn
        refine hK _ _ (hS.alloc _) (fun hS => ?_)
        clear hK K
        replace hb := hb.alloc hb.size (.cells (c3c zR zR zR).toArray 60)
        try simp only [Act.put, List.setIfInBounds_toArray, List.set_cons_zero, List.set_cons_succ]
        refine rg_eff 7 rfl (by kernel_rfl) (by rfl) (fun K hK => ?_)
        go_simp
        refine (HS3.out _).mono ?_
        rintro e w1 ⟨rfl, h1⟩
        refine hK _ _ (hS.call h1) (fun hS => ?_)
        clear hK K
        try replace an := an.call h1
        replace hb := bthen hb h1
        clear h1
        try simp only [Act.put, List.setIfInBounds_toArray, List.set_cons_zero, List.set_cons_succ]
        refine rg_take 8 rfl (by kernel_rfl) (by kernel_rfl) (by kernel_rfl) (by rfl) hS (v := ?_) ?_ ?_
        rotate_left
        · (intro w' hS'; go_simp <;> try with_reducible rfl)
        try simp only [Act.put, List.setIfInBounds_toArray, List.set_cons_zero, List.set_cons_succ]
        refine rg_take 9 rfl (by kernel_rfl) (by kernel_rfl) (by kernel_rfl) (by rfl) hS (v := ?_) ?_ ?_
        rotate_left
        · (intro w' hS'; go_simp <;> try with_reducible rfl)
        try simp only [Act.put, List.setIfInBounds_toArray, List.set_cons_zero, List.set_cons_succ]
        refine rg_take 10 rfl (by kernel_rfl) (by kernel_rfl) (by kernel_rfl) (by rfl) hS (v := ?_) ?_ ?_
        rotate_left
        · (intro w' hS'; go_simp <;> try with_reducible rfl)
        try simp only [Act.put, List.setIfInBounds_toArray, List.set_cons_zero, List.set_cons_succ]
        refine rg_eff 12 rfl (by kernel_rfl) (by rfl) (fun K hK => ?_)
        refine wp_st (vs := c3c (fq y0) (fq y0) (fq z)) rfl rfl rfl an ((r3_len (rc_rr _ _ _ _) (rc_rr _ _ _ _) (rc_rr _ _ _ _)).trans (r3_len (rc_q _) (rc_q _) (rc_q _)).symm) (wholeR3 (rc_q _) (rc_q _) (rc_q _)) (r3_one (rc_q _) (rc_q _) (rc_q _)) ?_
        refine hK _ _ (hS.row (.inr qn) _) (fun hS => ?_)
        clear hK K
        replace an := an.row (c3c (fq y0) (fq y0) (fq z))
        replace hb := below_row hb (g := pn) (by omega) (c3c (fq y0) (fq y0) (fq z)).toArray
        try simp only [Act.put, List.setIfInBounds_toArray, List.set_cons_zero, List.set_cons_succ]
        refine rg_take 13 rfl (by kernel_rfl) (by kernel_rfl) (by kernel_rfl) (by rfl) hS (v := ?_) ?_ ?_
        rotate_left
        · (intro w' hS'; go_simp <;> try with_reducible rfl)
        try simp only [Act.put, List.setIfInBounds_toArray, List.set_cons_zero, List.set_cons_succ]
        refine rg_done (by kernel_rfl) ?_
        go_wp2_with fail
        go_meet
        case rel => exact ⟨pn, rfl, rfl, hb, an, b12.keep hS (by simp), b14.keep hS (by simp), b16.keep hS (by simp)⟩
    · refine wp_alB (zs := c3c zR zR zR) rfl (by kernel_rfl) (fun pn qn an => ?_)
      replace qn := Nat.le_trans hS.1 qn
      refine hK _ _ (hS.alloc _) (fun hS => ?_)
      clear hK K
      replace hb := hb.alloc hb.size (.cells (c3c zR zR zR).toArray 60)
      try simp only [Act.put, List.setIfInBounds_toArray, List.set_cons_zero, List.set_cons_succ]
      refine rg_eff 5 rfl (by kernel_rfl) (by rfl) (fun K hK => ?_)
      go_simp
      refine (HAX.out _).mono ?_
      rintro e w1 ⟨rfl, h1⟩
      refine hK _ _ (hS.call h1) (fun hS => ?_)
      clear hK K
      try replace an := an.call h1
      replace hb := bthen hb h1
      clear h1
      try simp only [Act.put, List.setIfInBounds_toArray, List.set_cons_zero, List.set_cons_succ]
      refine rg_eff 7 rfl (by kernel_rfl) (by rfl) (fun K hK => ?_)
      go_simp
      refine (HS3.out _).mono ?_
      rintro e w1 ⟨rfl, h1⟩
      refine hK _ _ (hS.call h1) (fun hS => ?_)
      clear hK K
      try replace an := an.call h1
      replace hb := bthen hb h1
      clear h1
      try simp only [Act.put, List.setIfInBounds_toArray, List.set_cons_zero, List.set_cons_succ]
      refine rg_take 8 rfl (by kernel_rfl) (by kernel_rfl) (by kernel_rfl) (by rfl) hS (v := ?_) ?_ ?_
      rotate_left
      · (intro w' hS'; go_simp <;> try with_reducible rfl)
      try simp only [Act.put, List.setIfInBounds_toArray, List.set_cons_zero, List.set_cons_succ]
      refine rg_take 9 rfl (by kernel_rfl) (by kernel_rfl) (by kernel_rfl) (by rfl) hS (v := ?_) ?_ ?_
      rotate_left
      · (intro w' hS'; go_simp <;> try with_reducible rfl)
      try simp only [Act.put, List.setIfInBounds_toArray, List.set_cons_zero, List.set_cons_succ]
      refine rg_take 10 rfl (by kernel_rfl) (by kernel_rfl) (by kernel_rfl) (by rfl) hS (v := ?_) ?_ ?_
      rotate_left
      · (intro w' hS'; go_simp <;> try with_reducible rfl)
      try simp only [Act.put, List.setIfInBounds_toArray, List.set_cons_zero, List.set_cons_succ]
      refine rg_eff 12 rfl (by kernel_rfl) (by rfl) (fun K hK => ?_)
      refine wp_st (vs := c3c (fq y0) (fq y0) (fq z)) rfl rfl rfl an ((r3_len (rc_rr _ _ _ _) (rc_rr _ _ _ _) (rc_rr _ _ _ _)).trans (r3_len (rc_q _) (rc_q _) (rc_q _)).symm) (wholeR3 (rc_q _) (rc_q _) (rc_q _)) (r3_one (rc_q _) (rc_q _) (rc_q _)) ?_
      refine hK _ _ (hS.row (.inr qn) _) (fun hS => ?_)
      clear hK K
      replace an := an.row (c3c (fq y0) (fq y0) (fq z))
      replace hb := below_row hb (g := pn) (by omega) (c3c (fq y0) (fq y0) (fq z)).toArray
      try simp only [Act.put, List.setIfInBounds_toArray, List.set_cons_zero, List.set_cons_succ]
      refine rg_take 13 rfl (by kernel_rfl) (by kernel_rfl) (by kernel_rfl) (by rfl) hS (v := ?_) ?_ ?_
      rotate_left
      · (intro w' hS'; go_simp <;> try with_reducible rfl)
      try simp only [Act.put, List.setIfInBounds_toArray, List.set_cons_zero, List.set_cons_succ]
      refine rg_done (by kernel_rfl) ?_
      go_wp2_with fail
      go_meet
      case rel => exact ⟨pn, rfl, rfl, hb, an, b12.keep hS (by simp), b14.keep hS (by simp), b16.keep hS (by simp)⟩
  case rest =>
    clear hb hsz b12 b14 b16
    obtain ⟨pl_b18, rfl, rfl, hb, b18, b12, b14, b16⟩ := hcut
    go_wp2_with fail
    refine rg_start [] (by kernel_rfl) (fun hS => ?_)
    replace hb := hb.drew
    refine rg_take 0 rfl (by as_aux_lemma => kernel_rfl) (by as_aux_lemma => kernel_rfl) (by as_aux_lemma => kernel_rfl) (by as_aux_lemma => rfl) hS (v := ?_) ?_ ?_
    rotate_left
    · (intro w' hS'; go_simp <;> try with_reducible rfl)
    try simp only [Act.put, List.setIfInBounds_toArray, List.set_cons_zero, List.set_cons_succ]
    refine rg_take 1 rfl (by as_aux_lemma => kernel_rfl) (by as_aux_lemma => kernel_rfl) (by as_aux_lemma => kernel_rfl) (by as_aux_lemma => rfl) hS (v := ?_) ?_ ?_
    rotate_left
    · (intro w' hS'; go_simp <;> try with_reducible rfl)
    try simp only [Act.put, List.setIfInBounds_toArray, List.set_cons_zero, List.set_cons_succ]
    refine rg_take 2 rfl (by as_aux_lemma => kernel_rfl) (by as_aux_lemma => kernel_rfl) (by as_aux_lemma => kernel_rfl) (by as_aux_lemma => rfl) hS (v := ?_) ?_ ?_
    rotate_left
    · (intro w' hS'; go_simp <;> try with_reducible rfl)
    try simp only [Act.put, List.setIfInBounds_toArray, List.set_cons_zero, List.set_cons_succ]
    refine rg_take 3 rfl (by as_aux_lemma => kernel_rfl) (by as_aux_lemma => kernel_rfl) (by as_aux_lemma => kernel_rfl) (by as_aux_lemma => rfl) hS (v := ?_) ?_ ?_
    rotate_left
    · (intro w' hS'; go_simp <;> try with_reducible rfl)
    try simp only [Act.put, List.setIfInBounds_toArray, List.set_cons_zero, List.set_cons_succ]
    refine rg_take 4 rfl (by as_aux_lemma => kernel_rfl) (by as_aux_lemma => kernel_rfl) (by as_aux_lemma => kernel_rfl) (by as_aux_lemma => rfl) hS (v := ?_) ?_ ?_
    rotate_left
    · (intro w' hS'; go_simp <;> try with_reducible rfl)
    try simp only [Act.put, List.setIfInBounds_toArray, List.set_cons_zero, List.set_cons_succ]
    refine rg_take 5 rfl (by as_aux_lemma => kernel_rfl) (by as_aux_lemma => kernel_rfl) (by as_aux_lemma => kernel_rfl) (by as_aux_lemma => rfl) hS (v := ?_) ?_ ?_
    rotate_left
    · (intro w' hS'; go_simp <;> try with_reducible rfl)
    try simp only [Act.put, List.setIfInBounds_toArray, List.set_cons_zero, List.set_cons_succ]
    refine rg_take 6 rfl (by as_aux_lemma => kernel_rfl) (by as_aux_lemma => kernel_rfl) (by as_aux_lemma => kernel_rfl) (by as_aux_lemma => rfl) hS (v := ?_) ?_ ?_
    rotate_left
    · (intro w' hS'; go_simp <;> try with_reducible rfl)
    try simp only [Act.put, List.setIfInBounds_toArray, List.set_cons_zero, List.set_cons_succ]
    refine rg_take 7 rfl (by as_aux_lemma => kernel_rfl) (by as_aux_lemma => kernel_rfl) (by as_aux_lemma => kernel_rfl) (by as_aux_lemma => rfl) hS (v := ?_) ?_ ?_
    rotate_left
    · (intro w' hS'; go_simp <;> try with_reducible rfl)
    try simp only [Act.put, List.setIfInBounds_toArray, List.set_cons_zero, List.set_cons_succ]
    refine rg_take 8 rfl (by as_aux_lemma => kernel_rfl) (by as_aux_lemma => kernel_rfl) (by as_aux_lemma => kernel_rfl) (by as_aux_lemma => rfl) hS (v := ?_) ?_ ?_
    rotate_left
    · (intro w' hS'; go_simp <;> try with_reducible rfl)
    try simp only [Act.put, List.setIfInBounds_toArray, List.set_cons_zero, List.set_cons_succ]
    refine rg_take 9 rfl (by as_aux_lemma => kernel_rfl) (by as_aux_lemma => kernel_rfl) (by as_aux_lemma => kernel_rfl) (by as_aux_lemma => rfl) hS (v := ?_) ?_ ?_
    rotate_left
    · (intro w' hS'; go_simp <;> try with_reducible rfl)
    try simp only [Act.put, List.setIfInBounds_toArray, List.set_cons_zero, List.set_cons_succ]
    refine rg_take 10 rfl (by as_aux_lemma => kernel_rfl) (by as_aux_lemma => kernel_rfl) (by as_aux_lemma => kernel_rfl) (by as_aux_lemma => rfl) hS (v := ?_) ?_ ?_
    rotate_left
    · (intro w' hS'; go_simp <;> try with_reducible rfl)
    try simp only [Act.put, List.setIfInBounds_toArray, List.set_cons_zero, List.set_cons_succ]
    refine rg_take 11 rfl (by as_aux_lemma => kernel_rfl) (by as_aux_lemma => kernel_rfl) (by as_aux_lemma => kernel_rfl) (by as_aux_lemma => rfl) hS (v := ?_) ?_ ?_
    rotate_left
    · (intro w' hS'; go_simp <;> try with_reducible rfl)
    try simp only [Act.put, List.setIfInBounds_toArray, List.set_cons_zero, List.set_cons_succ]
    refine rg_ldP 12 rfl (by as_aux_lemma => kernel_rfl) (by as_aux_lemma => kernel_rfl) (by as_aux_lemma => kernel_rfl) (by as_aux_lemma => rfl) hS rfl rfl b12 (by simp <;> omega) (r3_p1 (rc_q _)) (rc_q _).whole ?_
    try simp only [Act.put, List.setIfInBounds_toArray, List.set_cons_zero, List.set_cons_succ]
    refine rg_ldP 13 rfl (by as_aux_lemma => kernel_rfl) (by as_aux_lemma => kernel_rfl) (by as_aux_lemma => kernel_rfl) (by as_aux_lemma => rfl) hS rfl rfl b16 (by simp <;> omega) (part_all _) (rc_q _).whole ?_
    try simp only [Act.put, List.setIfInBounds_toArray, List.set_cons_zero, List.set_cons_succ]
    refine rg_take 14 rfl (by as_aux_lemma => kernel_rfl) (by as_aux_lemma => kernel_rfl) (by as_aux_lemma => kernel_rfl) (by as_aux_lemma => rfl) hS (v := .bool true) (fun w' _ => op_eqq Hf1.out Hf1.out (decide_eq_true rfl) rfl rfl rfl w') ?_
    try simp only [Act.put, List.setIfInBounds_toArray, List.set_cons_zero, List.set_cons_succ]
    refine rg_take 15 rfl (by as_aux_lemma => kernel_rfl) (by as_aux_lemma => kernel_rfl) (by as_aux_lemma => kernel_rfl) (by as_aux_lemma => rfl) hS (v := ?_) ?_ ?_
    rotate_left
    · (intro w' hS'; go_simp <;> try with_reducible rfl)
    try simp only [Act.put, List.setIfInBounds_toArray, List.set_cons_zero, List.set_cons_succ]
    refine rg_take 16 rfl (by as_aux_lemma => kernel_rfl) (by as_aux_lemma => kernel_rfl) (by as_aux_lemma => kernel_rfl) (by as_aux_lemma => rfl) hS (v := ?_) ?_ ?_
    rotate_left
    · (intro w' hS'; go_simp <;> try with_reducible rfl)
    try simp only [Act.put, List.setIfInBounds_toArray, List.set_cons_zero, List.set_cons_succ]
    refine rg_take 17 rfl (by as_aux_lemma => kernel_rfl) (by as_aux_lemma => kernel_rfl) (by as_aux_lemma => kernel_rfl) (by as_aux_lemma => rfl) hS (v := ?_) ?_ ?_
    rotate_left
    · (intro w' hS'; go_simp <;> try with_reducible rfl)
    try simp only [Act.put, List.setIfInBounds_toArray, List.set_cons_zero, List.set_cons_succ]
    refine rg_ldP 18 rfl (by as_aux_lemma => kernel_rfl) (by as_aux_lemma => kernel_rfl) (by as_aux_lemma => kernel_rfl) (by as_aux_lemma => rfl) hS rfl rfl b14 (by simp <;> omega) r3_p0 (rc_q _).whole ?_
    try simp only [Act.put, List.setIfInBounds_toArray, List.set_cons_zero, List.set_cons_succ]
    refine rg_take 19 rfl (by as_aux_lemma => kernel_rfl) (by as_aux_lemma => kernel_rfl) (by as_aux_lemma => kernel_rfl) (by as_aux_lemma => rfl) hS (v := ?_) ?_ ?_
    rotate_left
    · (intro w' hS'; go_simp <;> try with_reducible rfl)
    try simp only [Act.put, List.setIfInBounds_toArray, List.set_cons_zero, List.set_cons_succ]
    refine rg_ldP 20 rfl (by as_aux_lemma => kernel_rfl) (by as_aux_lemma => kernel_rfl) (by as_aux_lemma => kernel_rfl) (by as_aux_lemma => rfl) hS rfl rfl b12 (by simp <;> omega) (r3_p1 (rc_q _)) (rc_q _).whole ?_
    try simp only [Act.put, List.setIfInBounds_toArray, List.set_cons_zero, List.set_cons_succ]
    refine rg_take 21 rfl (by as_aux_lemma => kernel_rfl) (by as_aux_lemma => kernel_rfl) (by as_aux_lemma => kernel_rfl) (by as_aux_lemma => rfl) hS (v := .bool true) (fun w' _ => op_eqq Hf1.out Hf1.out (decide_eq_true rfl) rfl rfl rfl w') ?_
    try simp only [Act.put, List.setIfInBounds_toArray, List.set_cons_zero, List.set_cons_succ]
    refine rg_take 22 rfl (by as_aux_lemma => kernel_rfl) (by as_aux_lemma => kernel_rfl) (by as_aux_lemma => kernel_rfl) (by as_aux_lemma => rfl) hS (v := ?_) ?_ ?_
    rotate_left
    · (intro w' hS'; go_simp <;> try with_reducible rfl)
    try simp only [Act.put, List.setIfInBounds_toArray, List.set_cons_zero, List.set_cons_succ]
    refine rg_take 23 rfl (by as_aux_lemma => kernel_rfl) (by as_aux_lemma => kernel_rfl) (by as_aux_lemma => kernel_rfl) (by as_aux_lemma => rfl) hS (v := ?_) ?_ ?_
    rotate_left
    · (intro w' hS'; go_simp <;> try with_reducible rfl)
    try simp only [Act.put, List.setIfInBounds_toArray, List.set_cons_zero, List.set_cons_succ]
    refine rg_take 24 rfl (by as_aux_lemma => kernel_rfl) (by as_aux_lemma => kernel_rfl) (by as_aux_lemma => kernel_rfl) (by as_aux_lemma => rfl) hS (v := ?_) ?_ ?_
    rotate_left
    · (intro w' hS'; go_simp <;> try with_reducible rfl)
    try simp only [Act.put, List.setIfInBounds_toArray, List.set_cons_zero, List.set_cons_succ]
    refine rg_ldP 25 rfl (by as_aux_lemma => kernel_rfl) (by as_aux_lemma => kernel_rfl) (by as_aux_lemma => kernel_rfl) (by as_aux_lemma => rfl) hS rfl rfl b14 (by simp <;> omega) (r3_p1 (rc_q _)) (rc_q _).whole ?_
    try simp only [Act.put, List.setIfInBounds_toArray, List.set_cons_zero, List.set_cons_succ]
    refine rg_take 26 rfl (by as_aux_lemma => kernel_rfl) (by as_aux_lemma => kernel_rfl) (by as_aux_lemma => kernel_rfl) (by as_aux_lemma => rfl) hS (v := ?_) ?_ ?_
    rotate_left
    · (intro w' hS'; go_simp <;> try with_reducible rfl)
    try simp only [Act.put, List.setIfInBounds_toArray, List.set_cons_zero, List.set_cons_succ]
    refine rg_ldP 27 rfl (by as_aux_lemma => kernel_rfl) (by as_aux_lemma => kernel_rfl) (by as_aux_lemma => kernel_rfl) (by as_aux_lemma => rfl) hS rfl rfl b12 (by simp <;> omega) (r3_p2 (rc_q _) (rc_q _)) (rc_q _).whole ?_
    try simp only [Act.put, List.setIfInBounds_toArray, List.set_cons_zero, List.set_cons_succ]
    refine rg_take 28 rfl (by as_aux_lemma => kernel_rfl) (by as_aux_lemma => kernel_rfl) (by as_aux_lemma => kernel_rfl) (by as_aux_lemma => rfl) hS (v := .bool true) (fun w' _ => op_eqq Hf2.out Hf2.out (decide_eq_true rfl) rfl rfl rfl w') ?_
    try simp only [Act.put, List.setIfInBounds_toArray, List.set_cons_zero, List.set_cons_succ]
    refine rg_take 29 rfl (by as_aux_lemma => kernel_rfl) (by as_aux_lemma => kernel_rfl) (by as_aux_lemma => kernel_rfl) (by as_aux_lemma => rfl) hS (v := ?_) ?_ ?_
    rotate_left
    · (intro w' hS'; go_simp <;> try with_reducible rfl)
    try simp only [Act.put, List.setIfInBounds_toArray, List.set_cons_zero, List.set_cons_succ]
    refine rg_take 30 rfl (by as_aux_lemma => kernel_rfl) (by as_aux_lemma => kernel_rfl) (by as_aux_lemma => kernel_rfl) (by as_aux_lemma => rfl) hS (v := ?_) ?_ ?_
    rotate_left
    · (intro w' hS'; go_simp <;> try with_reducible rfl)
    try simp only [Act.put, List.setIfInBounds_toArray, List.set_cons_zero, List.set_cons_succ]
    refine rg_take 31 rfl (by as_aux_lemma => kernel_rfl) (by as_aux_lemma => kernel_rfl) (by as_aux_lemma => kernel_rfl) (by as_aux_lemma => rfl) hS (v := ?_) ?_ ?_
    rotate_left
    · (intro w' hS'; go_simp <;> try with_reducible rfl)
    try simp only [Act.put, List.setIfInBounds_toArray, List.set_cons_zero, List.set_cons_succ]
    refine rg_ldP 32 rfl (by as_aux_lemma => kernel_rfl) (by as_aux_lemma => kernel_rfl) (by as_aux_lemma => kernel_rfl) (by as_aux_lemma => rfl) hS rfl rfl b14 (by simp <;> omega) (r3_p2 (rc_q _) (rc_q _)) (rc_q _).whole ?_
    try simp only [Act.put, List.setIfInBounds_toArray, List.set_cons_zero, List.set_cons_succ]
    refine rg_take 33 rfl (by as_aux_lemma => kernel_rfl) (by as_aux_lemma => kernel_rfl) (by as_aux_lemma => kernel_rfl) (by as_aux_lemma => rfl) hS (v := ?_) ?_ ?_
    rotate_left
    · (intro w' hS'; go_simp <;> try with_reducible rfl)
    try simp only [Act.put, List.setIfInBounds_toArray, List.set_cons_zero, List.set_cons_succ]
    refine rg_ldP 34 rfl (by as_aux_lemma => kernel_rfl) (by as_aux_lemma => kernel_rfl) (by as_aux_lemma => kernel_rfl) (by as_aux_lemma => rfl) hS rfl rfl b12 (by simp <;> omega) r3_p0 (rc_q _).whole ?_
    try simp only [Act.put, List.setIfInBounds_toArray, List.set_cons_zero, List.set_cons_succ]
    refine rg_take 35 rfl (by as_aux_lemma => kernel_rfl) (by as_aux_lemma => kernel_rfl) (by as_aux_lemma => kernel_rfl) (by as_aux_lemma => rfl) hS (v := .bool true) (fun w' _ => op_eqq Hf0.out Hf0.out (decide_eq_true rfl) rfl rfl rfl w') ?_
    try simp only [Act.put, List.setIfInBounds_toArray, List.set_cons_zero, List.set_cons_succ]
    refine rg_take 36 rfl (by as_aux_lemma => kernel_rfl) (by as_aux_lemma => kernel_rfl) (by as_aux_lemma => kernel_rfl) (by as_aux_lemma => rfl) hS (v := ?_) ?_ ?_
    rotate_left
    · (intro w' hS'; go_simp <;> try with_reducible rfl)
    try simp only [Act.put, List.setIfInBounds_toArray, List.set_cons_zero, List.set_cons_succ]
    refine rg_take 37 rfl (by as_aux_lemma => kernel_rfl) (by as_aux_lemma => kernel_rfl) (by as_aux_lemma => kernel_rfl) (by as_aux_lemma => rfl) hS (v := ?_) ?_ ?_
    rotate_left
    · (intro w' hS'; go_simp <;> try with_reducible rfl)
    try simp only [Act.put, List.setIfInBounds_toArray, List.set_cons_zero, List.set_cons_succ]
    refine rg_take 38 rfl (by as_aux_lemma => kernel_rfl) (by as_aux_lemma => kernel_rfl) (by as_aux_lemma => kernel_rfl) (by as_aux_lemma => rfl) hS (v := ?_) ?_ ?_
    rotate_left
    · (intro w' hS'; go_simp <;> try with_reducible rfl)
    try simp only [Act.put, List.setIfInBounds_toArray, List.set_cons_zero, List.set_cons_succ]
    refine rg_ldP 39 rfl (by as_aux_lemma => kernel_rfl) (by as_aux_lemma => kernel_rfl) (by as_aux_lemma => kernel_rfl) (by as_aux_lemma => rfl) hS rfl rfl b18 (by simp <;> omega) r3_p0 (rc_q _).whole ?_
    try simp only [Act.put, List.setIfInBounds_toArray, List.set_cons_zero, List.set_cons_succ]
    refine rg_take 40 rfl (by as_aux_lemma => kernel_rfl) (by as_aux_lemma => kernel_rfl) (by as_aux_lemma => kernel_rfl) (by as_aux_lemma => rfl) hS (v := ?_) ?_ ?_
    rotate_left
    · (intro w' hS'; go_simp <;> try with_reducible rfl)
    try simp only [Act.put, List.setIfInBounds_toArray, List.set_cons_zero, List.set_cons_succ]
    refine rg_ldP 41 rfl (by as_aux_lemma => kernel_rfl) (by as_aux_lemma => kernel_rfl) (by as_aux_lemma => kernel_rfl) (by as_aux_lemma => rfl) hS rfl rfl b18 (by simp <;> omega) (r3_p1 (rc_q _)) (rc_q _).whole ?_
    try simp only [Act.put, List.setIfInBounds_toArray, List.set_cons_zero, List.set_cons_succ]
    refine rg_take 42 rfl (by as_aux_lemma => kernel_rfl) (by as_aux_lemma => kernel_rfl) (by as_aux_lemma => kernel_rfl) (by as_aux_lemma => rfl) hS (v := .bool true) (fun w' _ => op_eqq Hfy.out Hfy.out (decide_eq_true rfl) rfl rfl rfl w') ?_
    try simp only [Act.put, List.setIfInBounds_toArray, List.set_cons_zero, List.set_cons_succ]
    refine rg_take 43 rfl (by as_aux_lemma => kernel_rfl) (by as_aux_lemma => kernel_rfl) (by as_aux_lemma => kernel_rfl) (by as_aux_lemma => rfl) hS (v := ?_) ?_ ?_
    rotate_left
    · (intro w' hS'; go_simp <;> try with_reducible rfl)
    try simp only [Act.put, List.setIfInBounds_toArray, List.set_cons_zero, List.set_cons_succ]
    refine rg_take 44 rfl (by as_aux_lemma => kernel_rfl) (by as_aux_lemma => kernel_rfl) (by as_aux_lemma => kernel_rfl) (by as_aux_lemma => rfl) hS (v := ?_) ?_ ?_
    rotate_left
    · (intro w' hS'; go_simp <;> try with_reducible rfl)
    try simp only [Act.put, List.setIfInBounds_toArray, List.set_cons_zero, List.set_cons_succ]
    refine rg_take 45 rfl (by as_aux_lemma => kernel_rfl) (by as_aux_lemma => kernel_rfl) (by as_aux_lemma => kernel_rfl) (by as_aux_lemma => rfl) hS (v := ?_) ?_ ?_
    rotate_left
    · (intro w' hS'; go_simp <;> try with_reducible rfl)
    try simp only [Act.put, List.setIfInBounds_toArray, List.set_cons_zero, List.set_cons_succ]
    refine rg_ldP 46 rfl (by as_aux_lemma => kernel_rfl) (by as_aux_lemma => kernel_rfl) (by as_aux_lemma => kernel_rfl) (by as_aux_lemma => rfl) hS rfl rfl b18 (by simp <;> omega) (r3_p2 (rc_q _) (rc_q _)) (rc_q _).whole ?_
    try simp only [Act.put, List.setIfInBounds_toArray, List.set_cons_zero, List.set_cons_succ]
    refine rg_eff 47 rfl (by as_aux_lemma => kernel_rfl) (by as_aux_lemma => rfl) (fun K hK => ?_)
    go_simp
    refine (HW0.out _).mono ?_
    rintro e w1 ⟨rfl, h1⟩
    refine hK _ _ (hS.call h1) (fun hS => ?_)
    clear hK K
    replace hb := bthen hb h1
    clear h1
    try simp only [Act.put, List.setIfInBounds_toArray, List.set_cons_zero, List.set_cons_succ]
    refine rg_take 48 rfl (by as_aux_lemma => kernel_rfl) (by as_aux_lemma => kernel_rfl) (by as_aux_lemma => kernel_rfl) (by as_aux_lemma => rfl) hS (v := .bool true) (fun w' _ => op_eqq Hfz.out Hfz.out (decide_eq_true rfl) rfl rfl rfl w') ?_
    try simp only [Act.put, List.setIfInBounds_toArray, List.set_cons_zero, List.set_cons_succ]
    refine rg_take 49 rfl (by as_aux_lemma => kernel_rfl) (by as_aux_lemma => kernel_rfl) (by as_aux_lemma => kernel_rfl) (by as_aux_lemma => rfl) hS (v := ?_) ?_ ?_
    rotate_left
    · (intro w' hS'; go_simp <;> try with_reducible rfl)
    try simp only [Act.put, List.setIfInBounds_toArray, List.set_cons_zero, List.set_cons_succ]
    refine rg_take 50 rfl (by as_aux_lemma => kernel_rfl) (by as_aux_lemma => kernel_rfl) (by as_aux_lemma => kernel_rfl) (by as_aux_lemma => rfl) hS (v := ?_) ?_ ?_
    rotate_left
    · (intro w' hS'; go_simp <;> try with_reducible rfl)
    try simp only [Act.put, List.setIfInBounds_toArray, List.set_cons_zero, List.set_cons_succ]
    refine rg_done (by kernel_rfl) ?_
    go_wp2
    go_ret
    exact ⟨rfl, hb⟩
end Go.Proofs.YtkknaigpdnokkaaGreat
