/- RatioLaws, of three fractions that are safe. -/
import Derived.Test.YtiaikjeljhfadaaRlw
import Derived.Test.YtiaikjeljhfadaaOpn
import Derived.Test.YtiaikjeljhfadaaReq
import Derived.Test.YtiaikjeljhfadaaRtm
namespace Go.Proofs.Ytiaikjeljhfadaa
set_option linter.unusedSimpArgs false
set_option linter.unusedVariables false
open Go.RowKit
set_option maxRecDepth 100000
set_option maxHeartbeats 4000000 in
theorem rlaws_zero {n d m e k l sN sD mN mD tN tD uN uD x : Int} (fN : fits n) (fD : fits d)
    (S1 : Tl 43 #[vf n d, .int .i64 100] (.bool true)) (S2 : Tl 43 #[vf m e, .int .i64 100] (.bool true)) (S3 : Tl 43 #[vf k l, .int .i64 100] (.bool true))
    (A1 : Tl 44 #[vf n d, vf m e] (.tuple #[vf sN sD, .bool true])) (A2 : Tl 45 #[vf sN sD, vf m e] (.tuple #[vf n d, .bool true])) (A3 : Tl 46 #[vf n d, vf m e] (.tuple #[vf mN mD, .bool true]))
    (A4 : Tl 44 #[vf n d, vf k l] (.tuple #[vf tN tD, .bool true])) (A5 : Tl 44 #[vf m e, vf k l] (.tuple #[vf uN uD, .bool true])) (A6 : Tl 47 #[vf n d, vf m e] (.tuple #[.int .i64 x, .bool true])) (A7 : Tl 47 #[vf tN tD, vf uN uD] (.tuple #[.int .i64 x, .bool true]))
    (I1 : Tl 41 #[vf sN sD] (.bool true)) (I2 : Tl 41 #[vf mN mD] (.bool true)) (A8 : Tl 48 #[vf mN mD, vf m e] (.tuple #[vf 0 0, .bool false])) (G1 : Tl 49 #[vf m e] (.int .i64 0)) (w : World) :
    Calls Try.prog 5 #[vf n d, vf m e, vf k l] w fun e w' => e = .returned (.bool true) ∧ Below w.heap.size w w' := by
  have b3 := ((Blk.new w (fr n d) 45 rfl).old (.cells (fr m e).toArray 45)).old (.cells (fr k l).toArray 45)
  have b4 := (Blk.new (w.alloc (.cells (fr n d).toArray 45)) (fr m e) 45 (b := w.heap.size + 1) (by simp)).old (.cells (fr k l).toArray 45)
  have b5 := Blk.new ((w.alloc (.cells (fr n d).toArray 45)).alloc (.cells (fr m e).toArray 45)) (fr k l) 45 (b := w.heap.size + 1 + 1) (by simp)
  have hb : Below w.heap.size w (((w.alloc (.cells (fr n d).toArray 45)).alloc (.cells (fr m e).toArray 45)).alloc (.cells (fr k l).toArray 45)) := (((Below.refl _ _).alloc (Nat.le_refl _) _).alloc (by simp) _).alloc (by simp; omega) _
  unfold vf at *
  have FN := Lib.hid fN
  have FD := Lib.hid fD
  clear fN fD
  have HS1 := Lib.hid S1
  have HS2 := Lib.hid S2
  have HS3 := Lib.hid S3
  have HA1 := Lib.hid A1
  have HA2 := Lib.hid A2
  have HA3 := Lib.hid A3
  have HA4 := Lib.hid A4
  have HA5 := Lib.hid A5
  have HA6 := Lib.hid A6
  have HA7 := Lib.hid A7
  have HA8 := Lib.hid A8
  have HI1 := Lib.hid I1
  have HI2 := Lib.hid I2
  have HG1 := Lib.hid G1
  unfold Tl at *
  clear S1 S2 S3 A1 A2 A3 A4 A5 A6 A7 A8 I1 I2 G1
  go_enter Try.func5, Try.ntmps5
  go_wp2_with fail
  refine (known2_any _).mono ?_
  rintro e w1 ⟨rfl, h1⟩
  replace b3 := b3.call h1
  replace b4 := b4.call h1
  replace b5 := b5.call h1
  replace hb := bthen hb h1
  clear h1
  go_wp2_with (first | (with_reducible refine ldFr rfl rfl rfl b3 ?_))
  refine (HS1.out _).mono ?_
  rintro e w1 ⟨rfl, h1⟩
  replace b3 := b3.call h1
  replace b4 := b4.call h1
  replace b5 := b5.call h1
  replace hb := bthen hb h1
  clear h1
  go_wp2_with (first | (refine ldFg (by rfl) rfl rfl b4 ?_))
  refine (HS2.out _).mono ?_
  rintro e w1 ⟨rfl, h1⟩
  replace b3 := b3.call h1
  replace b4 := b4.call h1
  replace b5 := b5.call h1
  replace hb := bthen hb h1
  clear h1
  go_wp2_with (first | (refine ldFg (by rfl) rfl rfl b5 ?_))
  refine (HS3.out _).mono ?_
  rintro e w1 ⟨rfl, h1⟩
  replace b3 := b3.call h1
  replace b4 := b4.call h1
  replace b5 := b5.call h1
  replace hb := bthen hb h1
  clear h1
  go_wp2_with (first | (with_reducible refine ldFr rfl rfl rfl b3 ?_) | (with_reducible refine ldFr rfl rfl rfl b4 ?_))
  refine (HA1.out _).mono ?_
  rintro e w1 ⟨rfl, h1⟩
  replace b3 := b3.call h1
  replace b4 := b4.call h1
  replace b5 := b5.call h1
  replace hb := bthen hb h1
  clear h1
  have f := Blk.new w1 (rr false 0 false 0) 45 rfl
  have b7 := laidR_new w1 (sN) (sD)
  replace b3 := laidR_old b3 (sN) (sD)
  replace b4 := laidR_old b4 (sN) (sD)
  replace b5 := laidR_old b5 (sN) (sD)
  replace hb := laidR_below hb (sN) (sD)
  go_wp2_with (first | (with_reducible refine alR rfl rfl ?_) | (with_reducible refine stR rfl rfl rfl rfl f (rr_length _ _ _ _) ?_) | (with_reducible refine ldFr rfl rfl rfl b7 ?_) | (with_reducible refine ldFr rfl rfl rfl b4 ?_))
  clear f
  generalize (w1.alloc (.cells (rr false 0 false 0).toArray 45)).setRow w1.heap.size (fr (sN) (sD)).toArray = W at *
  generalize w1.heap.size = pl_b7 at *
  refine (HA2.out _).mono ?_
  rintro e w1 ⟨rfl, h1⟩
  replace b3 := b3.call h1
  replace b4 := b4.call h1
  replace b5 := b5.call h1
  replace b7 := b7.call h1
  replace hb := bthen hb h1
  clear h1
  have f := Blk.new w1 (rr false 0 false 0) 45 rfl
  have b9 := laidR_new w1 (n) (d)
  replace b3 := laidR_old b3 (n) (d)
  replace b4 := laidR_old b4 (n) (d)
  replace b5 := laidR_old b5 (n) (d)
  replace b7 := laidR_old b7 (n) (d)
  replace hb := laidR_below hb (n) (d)
  go_wp2_with (first | (with_reducible refine alR rfl rfl ?_) | (with_reducible refine stR rfl rfl rfl rfl f (rr_length _ _ _ _) ?_) | (with_reducible refine ldFr rfl rfl rfl b3 ?_) | (with_reducible refine ldFr rfl rfl rfl b4 ?_))
  clear f
  generalize (w1.alloc (.cells (rr false 0 false 0).toArray 45)).setRow w1.heap.size (fr (n) (d)).toArray = W at *
  generalize w1.heap.size = pl_b9 at *
  refine (HA3.out _).mono ?_
  rintro e w1 ⟨rfl, h1⟩
  replace b3 := b3.call h1
  replace b4 := b4.call h1
  replace b5 := b5.call h1
  replace b7 := b7.call h1
  replace b9 := b9.call h1
  replace hb := bthen hb h1
  clear h1
  have f := Blk.new w1 (rr false 0 false 0) 45 rfl
  have b11 := laidR_new w1 (mN) (mD)
  replace b3 := laidR_old b3 (mN) (mD)
  replace b4 := laidR_old b4 (mN) (mD)
  replace b5 := laidR_old b5 (mN) (mD)
  replace b7 := laidR_old b7 (mN) (mD)
  replace b9 := laidR_old b9 (mN) (mD)
  replace hb := laidR_below hb (mN) (mD)
  go_wp2_with (first | (with_reducible refine alR rfl rfl ?_) | (with_reducible refine stR rfl rfl rfl rfl f (rr_length _ _ _ _) ?_) | (with_reducible refine ldFr rfl rfl rfl b3 ?_) | (with_reducible refine ldFr rfl rfl rfl b5 ?_))
  clear f
  generalize (w1.alloc (.cells (rr false 0 false 0).toArray 45)).setRow w1.heap.size (fr (mN) (mD)).toArray = W at *
  generalize w1.heap.size = pl_b11 at *
  refine (HA4.out _).mono ?_
  rintro e w1 ⟨rfl, h1⟩
  replace b3 := b3.call h1
  replace b4 := b4.call h1
  replace b5 := b5.call h1
  replace b7 := b7.call h1
  replace b9 := b9.call h1
  replace b11 := b11.call h1
  replace hb := bthen hb h1
  clear h1
  have f := Blk.new w1 (rr false 0 false 0) 45 rfl
  have b13 := laidR_new w1 (tN) (tD)
  replace b3 := laidR_old b3 (tN) (tD)
  replace b4 := laidR_old b4 (tN) (tD)
  replace b5 := laidR_old b5 (tN) (tD)
  replace b7 := laidR_old b7 (tN) (tD)
  replace b9 := laidR_old b9 (tN) (tD)
  replace b11 := laidR_old b11 (tN) (tD)
  replace hb := laidR_below hb (tN) (tD)
  go_wp2_with (first | (with_reducible refine alR rfl rfl ?_) | (with_reducible refine stR rfl rfl rfl rfl f (rr_length _ _ _ _) ?_) | (with_reducible refine ldFr rfl rfl rfl b4 ?_) | (with_reducible refine ldFr rfl rfl rfl b5 ?_))
  clear f
  generalize (w1.alloc (.cells (rr false 0 false 0).toArray 45)).setRow w1.heap.size (fr (tN) (tD)).toArray = W at *
  generalize w1.heap.size = pl_b13 at *
  refine (HA5.out _).mono ?_
  rintro e w1 ⟨rfl, h1⟩
  replace b3 := b3.call h1
  replace b4 := b4.call h1
  replace b5 := b5.call h1
  replace b7 := b7.call h1
  replace b9 := b9.call h1
  replace b11 := b11.call h1
  replace b13 := b13.call h1
  replace hb := bthen hb h1
  clear h1
  have f := Blk.new w1 (rr false 0 false 0) 45 rfl
  have b15 := laidR_new w1 (uN) (uD)
  replace b3 := laidR_old b3 (uN) (uD)
  replace b4 := laidR_old b4 (uN) (uD)
  replace b5 := laidR_old b5 (uN) (uD)
  replace b7 := laidR_old b7 (uN) (uD)
  replace b9 := laidR_old b9 (uN) (uD)
  replace b11 := laidR_old b11 (uN) (uD)
  replace b13 := laidR_old b13 (uN) (uD)
  replace hb := laidR_below hb (uN) (uD)
  go_wp2_with (first | (with_reducible refine alR rfl rfl ?_) | (with_reducible refine stR rfl rfl rfl rfl f (rr_length _ _ _ _) ?_) | (with_reducible refine ldFr rfl rfl rfl b3 ?_) | (with_reducible refine ldFr rfl rfl rfl b4 ?_))
  clear f
  generalize (w1.alloc (.cells (rr false 0 false 0).toArray 45)).setRow w1.heap.size (fr (uN) (uD)).toArray = W at *
  generalize w1.heap.size = pl_b15 at *
  refine (HA6.out _).mono ?_
  rintro e w1 ⟨rfl, h1⟩
  replace b3 := b3.call h1
  replace b4 := b4.call h1
  replace b5 := b5.call h1
  replace b7 := b7.call h1
  replace b9 := b9.call h1
  replace b11 := b11.call h1
  replace b13 := b13.call h1
  replace b15 := b15.call h1
  replace hb := bthen hb h1
  clear h1
  go_wp2_with (first | (with_reducible refine ldFr rfl rfl rfl b13 ?_) | (with_reducible refine ldFr rfl rfl rfl b15 ?_))
  refine (HA7.out _).mono ?_
  rintro e w1 ⟨rfl, h1⟩
  replace b3 := b3.call h1
  replace b4 := b4.call h1
  replace b7 := b7.call h1
  replace b9 := b9.call h1
  replace b11 := b11.call h1
  replace hb := bthen hb h1
  clear h1
  go_wp2_with (first | (refine ldFg (by rfl) rfl rfl b9 ?_) | (refine ldFg (by rfl) rfl rfl b3 ?_) | (refine ldFg (by rfl) rfl rfl b7 ?_) | (refine neRg (by rfl) rfl rfl rfl FN.out FD.out FN.out FD.out ?_))
  refine (HI1.out _).mono ?_
  rintro e w1 ⟨rfl, h1⟩
  replace b3 := b3.call h1
  replace b4 := b4.call h1
  replace b11 := b11.call h1
  replace hb := bthen hb h1
  clear h1
  go_wp2_with (first | (refine ldFg (by rfl) rfl rfl b11 ?_))
  refine (HI2.out _).mono ?_
  rintro e w1 ⟨rfl, h1⟩
  replace b3 := b3.call h1
  replace b4 := b4.call h1
  replace b11 := b11.call h1
  replace hb := bthen hb h1
  clear h1
  go_wp2_with (first | (with_reducible refine ldFr rfl rfl rfl b11 ?_) | (with_reducible refine ldFr rfl rfl rfl b4 ?_))
  refine (HA8.out _).mono ?_
  rintro e w1 ⟨rfl, h1⟩
  replace b4 := b4.call h1
  replace hb := bthen hb h1
  clear h1
  have f := Blk.new w1 (rr false 0 false 0) 45 rfl
  have b21 := laidR_new w1 (0) (0)
  replace b4 := laidR_old b4 (0) (0)
  replace hb := laidR_below hb (0) (0)
  go_wp2_with (first | (with_reducible refine alR rfl rfl ?_) | (with_reducible refine stR rfl rfl rfl rfl f (rr_length _ _ _ _) ?_) | (with_reducible refine ldFr rfl rfl rfl b4 ?_))
  clear f
  generalize (w1.alloc (.cells (rr false 0 false 0).toArray 45)).setRow w1.heap.size (fr (0) (0)).toArray = W at *
  generalize w1.heap.size = pl_b21 at *
  refine (HG1.out _).mono ?_
  rintro e w1 ⟨rfl, h1⟩
  replace hb := bthen hb h1
  clear h1
  go_wp2
  go_ret
  exact ⟨rfl, hb⟩
theorem op_muli {o : Oper} {a : Act} {x y : Operand} {ty : TypeId} {m k p : Int} (h : IntKind.i64.wrap (m * k) = p) (ho : o.op = .binOp .mul 3 x y ty) (hx : a.eval x = .int .i64 m) (hy : a.eval y = .int .i64 k) (w : World) :
    (execOp a.eval o).run Try.prog w = .ok (.value (.int .i64 p)) w := by
  subst h
  unfold execOp
  simp only [ho, hx, hy]
  go_simp
theorem op_eqi' {o : Oper} {a : Act} {x y : Operand} {ty t : TypeId} {kd : IntKind} {m k : Int} (ht : Try.prog.underlying t = some (.int kd)) (h : m = k) (ho : o.op = .binOp .eql t x y ty) (hx : a.eval x = .int kd m) (hy : a.eval y = .int kd k) (w : World) :
    (execOp a.eval o).run Try.prog w = .ok (.value (.bool true)) w := by
  subst h
  unfold execOp
  simp only [ho, hx, hy]
  go_simp
set_option maxHeartbeats 4000000 in
theorem rlaws_more {n d m e k l sN sD mN mD tN tD uN uD x sa sb sm : Int} (fN : fits n) (fD : fits d)
    (S1 : Tl 43 #[vf n d, .int .i64 100] (.bool true)) (S2 : Tl 43 #[vf m e, .int .i64 100] (.bool true)) (S3 : Tl 43 #[vf k l, .int .i64 100] (.bool true))
    (A1 : Tl 44 #[vf n d, vf m e] (.tuple #[vf sN sD, .bool true])) (A2 : Tl 45 #[vf sN sD, vf m e] (.tuple #[vf n d, .bool true])) (A3 : Tl 46 #[vf n d, vf m e] (.tuple #[vf mN mD, .bool true]))
    (A4 : Tl 44 #[vf n d, vf k l] (.tuple #[vf tN tD, .bool true])) (A5 : Tl 44 #[vf m e, vf k l] (.tuple #[vf uN uD, .bool true])) (A6 : Tl 47 #[vf n d, vf m e] (.tuple #[.int .i64 x, .bool true])) (A7 : Tl 47 #[vf tN tD, vf uN uD] (.tuple #[.int .i64 x, .bool true]))
    (I1 : Tl 41 #[vf sN sD] (.bool true)) (I2 : Tl 41 #[vf mN mD] (.bool true)) (A8 : Tl 48 #[vf mN mD, vf m e] (.tuple #[vf n d, .bool true])) (G1 : Tl 49 #[vf m e] (.int .i64 sb)) (G2 : Tl 49 #[vf mN mD] (.int .i64 sm)) (G3 : Tl 49 #[vf n d] (.int .i64 sa)) (h0 : ¬ sb = 0) (hs : IntKind.i64.wrap (sa * sb) = sm) (w : World) :
    Calls Try.prog 5 #[vf n d, vf m e, vf k l] w fun e w' => e = .returned (.bool true) ∧ Below w.heap.size w w' := by
  have HG2 := Lib.hid G2
  have HG3 := Lib.hid G3
  have HSM := Lib.hid hs
  unfold vf at HG2 HG3
  unfold Tl at HG2 HG3
  clear G2 G3 hs
  have b3 := ((Blk.new w (fr n d) 45 rfl).old (.cells (fr m e).toArray 45)).old (.cells (fr k l).toArray 45)
  have b4 := (Blk.new (w.alloc (.cells (fr n d).toArray 45)) (fr m e) 45 (b := w.heap.size + 1) (by simp)).old (.cells (fr k l).toArray 45)
  have b5 := Blk.new ((w.alloc (.cells (fr n d).toArray 45)).alloc (.cells (fr m e).toArray 45)) (fr k l) 45 (b := w.heap.size + 1 + 1) (by simp)
  have hb : Below w.heap.size w (((w.alloc (.cells (fr n d).toArray 45)).alloc (.cells (fr m e).toArray 45)).alloc (.cells (fr k l).toArray 45)) := (((Below.refl _ _).alloc (Nat.le_refl _) _).alloc (by simp) _).alloc (by simp; omega) _
  unfold vf at *
  have FN := Lib.hid fN
  have FD := Lib.hid fD
  clear fN fD
  have HS1 := Lib.hid S1
  have HS2 := Lib.hid S2
  have HS3 := Lib.hid S3
  have HA1 := Lib.hid A1
  have HA2 := Lib.hid A2
  have HA3 := Lib.hid A3
  have HA4 := Lib.hid A4
  have HA5 := Lib.hid A5
  have HA6 := Lib.hid A6
  have HA7 := Lib.hid A7
  have HA8 := Lib.hid A8
  have HI1 := Lib.hid I1
  have HI2 := Lib.hid I2
  have HG1 := Lib.hid G1
  unfold Tl at *
  clear S1 S2 S3 A1 A2 A3 A4 A5 A6 A7 A8 I1 I2 G1
  go_enter Try.func5, Try.ntmps5
  go_wp2_with fail
  refine (known2_any _).mono ?_
  rintro e w1 ⟨rfl, h1⟩
  replace b3 := b3.call h1
  replace b4 := b4.call h1
  replace b5 := b5.call h1
  replace hb := bthen hb h1
  clear h1
  go_wp2_with (first | (with_reducible refine ldFr rfl rfl rfl b3 ?_))
  refine (HS1.out _).mono ?_
  rintro e w1 ⟨rfl, h1⟩
  replace b3 := b3.call h1
  replace b4 := b4.call h1
  replace b5 := b5.call h1
  replace hb := bthen hb h1
  clear h1
  go_wp2_with (first | (refine ldFg (by rfl) rfl rfl b4 ?_))
  refine (HS2.out _).mono ?_
  rintro e w1 ⟨rfl, h1⟩
  replace b3 := b3.call h1
  replace b4 := b4.call h1
  replace b5 := b5.call h1
  replace hb := bthen hb h1
  clear h1
  go_wp2_with (first | (refine ldFg (by rfl) rfl rfl b5 ?_))
  refine (HS3.out _).mono ?_
  rintro e w1 ⟨rfl, h1⟩
  replace b3 := b3.call h1
  replace b4 := b4.call h1
  replace b5 := b5.call h1
  replace hb := bthen hb h1
  clear h1
  go_wp2_with (first | (with_reducible refine ldFr rfl rfl rfl b3 ?_) | (with_reducible refine ldFr rfl rfl rfl b4 ?_))
  refine (HA1.out _).mono ?_
  rintro e w1 ⟨rfl, h1⟩
  replace b3 := b3.call h1
  replace b4 := b4.call h1
  replace b5 := b5.call h1
  replace hb := bthen hb h1
  clear h1
  have f := Blk.new w1 (rr false 0 false 0) 45 rfl
  have b7 := laidR_new w1 (sN) (sD)
  replace b3 := laidR_old b3 (sN) (sD)
  replace b4 := laidR_old b4 (sN) (sD)
  replace b5 := laidR_old b5 (sN) (sD)
  replace hb := laidR_below hb (sN) (sD)
  go_wp2_with (first | (with_reducible refine alR rfl rfl ?_) | (with_reducible refine stR rfl rfl rfl rfl f (rr_length _ _ _ _) ?_) | (with_reducible refine ldFr rfl rfl rfl b7 ?_) | (with_reducible refine ldFr rfl rfl rfl b4 ?_))
  clear f
  generalize (w1.alloc (.cells (rr false 0 false 0).toArray 45)).setRow w1.heap.size (fr (sN) (sD)).toArray = W at *
  generalize w1.heap.size = pl_b7 at *
  refine (HA2.out _).mono ?_
  rintro e w1 ⟨rfl, h1⟩
  replace b3 := b3.call h1
  replace b4 := b4.call h1
  replace b5 := b5.call h1
  replace b7 := b7.call h1
  replace hb := bthen hb h1
  clear h1
  have f := Blk.new w1 (rr false 0 false 0) 45 rfl
  have b9 := laidR_new w1 (n) (d)
  replace b3 := laidR_old b3 (n) (d)
  replace b4 := laidR_old b4 (n) (d)
  replace b5 := laidR_old b5 (n) (d)
  replace b7 := laidR_old b7 (n) (d)
  replace hb := laidR_below hb (n) (d)
  go_wp2_with (first | (with_reducible refine alR rfl rfl ?_) | (with_reducible refine stR rfl rfl rfl rfl f (rr_length _ _ _ _) ?_) | (with_reducible refine ldFr rfl rfl rfl b3 ?_) | (with_reducible refine ldFr rfl rfl rfl b4 ?_))
  clear f
  generalize (w1.alloc (.cells (rr false 0 false 0).toArray 45)).setRow w1.heap.size (fr (n) (d)).toArray = W at *
  generalize w1.heap.size = pl_b9 at *
  refine (HA3.out _).mono ?_
  rintro e w1 ⟨rfl, h1⟩
  replace b3 := b3.call h1
  replace b4 := b4.call h1
  replace b5 := b5.call h1
  replace b7 := b7.call h1
  replace b9 := b9.call h1
  replace hb := bthen hb h1
  clear h1
  have f := Blk.new w1 (rr false 0 false 0) 45 rfl
  have b11 := laidR_new w1 (mN) (mD)
  replace b3 := laidR_old b3 (mN) (mD)
  replace b4 := laidR_old b4 (mN) (mD)
  replace b5 := laidR_old b5 (mN) (mD)
  replace b7 := laidR_old b7 (mN) (mD)
  replace b9 := laidR_old b9 (mN) (mD)
  replace hb := laidR_below hb (mN) (mD)
  go_wp2_with (first | (with_reducible refine alR rfl rfl ?_) | (with_reducible refine stR rfl rfl rfl rfl f (rr_length _ _ _ _) ?_) | (with_reducible refine ldFr rfl rfl rfl b3 ?_) | (with_reducible refine ldFr rfl rfl rfl b5 ?_))
  clear f
  generalize (w1.alloc (.cells (rr false 0 false 0).toArray 45)).setRow w1.heap.size (fr (mN) (mD)).toArray = W at *
  generalize w1.heap.size = pl_b11 at *
  refine (HA4.out _).mono ?_
  rintro e w1 ⟨rfl, h1⟩
  replace b3 := b3.call h1
  replace b4 := b4.call h1
  replace b5 := b5.call h1
  replace b7 := b7.call h1
  replace b9 := b9.call h1
  replace b11 := b11.call h1
  replace hb := bthen hb h1
  clear h1
  have f := Blk.new w1 (rr false 0 false 0) 45 rfl
  have b13 := laidR_new w1 (tN) (tD)
  replace b3 := laidR_old b3 (tN) (tD)
  replace b4 := laidR_old b4 (tN) (tD)
  replace b5 := laidR_old b5 (tN) (tD)
  replace b7 := laidR_old b7 (tN) (tD)
  replace b9 := laidR_old b9 (tN) (tD)
  replace b11 := laidR_old b11 (tN) (tD)
  replace hb := laidR_below hb (tN) (tD)
  go_wp2_with (first | (with_reducible refine alR rfl rfl ?_) | (with_reducible refine stR rfl rfl rfl rfl f (rr_length _ _ _ _) ?_) | (with_reducible refine ldFr rfl rfl rfl b4 ?_) | (with_reducible refine ldFr rfl rfl rfl b5 ?_))
  clear f
  generalize (w1.alloc (.cells (rr false 0 false 0).toArray 45)).setRow w1.heap.size (fr (tN) (tD)).toArray = W at *
  generalize w1.heap.size = pl_b13 at *
  refine (HA5.out _).mono ?_
  rintro e w1 ⟨rfl, h1⟩
  replace b3 := b3.call h1
  replace b4 := b4.call h1
  replace b5 := b5.call h1
  replace b7 := b7.call h1
  replace b9 := b9.call h1
  replace b11 := b11.call h1
  replace b13 := b13.call h1
  replace hb := bthen hb h1
  clear h1
  have f := Blk.new w1 (rr false 0 false 0) 45 rfl
  have b15 := laidR_new w1 (uN) (uD)
  replace b3 := laidR_old b3 (uN) (uD)
  replace b4 := laidR_old b4 (uN) (uD)
  replace b5 := laidR_old b5 (uN) (uD)
  replace b7 := laidR_old b7 (uN) (uD)
  replace b9 := laidR_old b9 (uN) (uD)
  replace b11 := laidR_old b11 (uN) (uD)
  replace b13 := laidR_old b13 (uN) (uD)
  replace hb := laidR_below hb (uN) (uD)
  go_wp2_with (first | (with_reducible refine alR rfl rfl ?_) | (with_reducible refine stR rfl rfl rfl rfl f (rr_length _ _ _ _) ?_) | (with_reducible refine ldFr rfl rfl rfl b3 ?_) | (with_reducible refine ldFr rfl rfl rfl b4 ?_))
  clear f
  generalize (w1.alloc (.cells (rr false 0 false 0).toArray 45)).setRow w1.heap.size (fr (uN) (uD)).toArray = W at *
  generalize w1.heap.size = pl_b15 at *
  refine (HA6.out _).mono ?_
  rintro e w1 ⟨rfl, h1⟩
  replace b3 := b3.call h1
  replace b4 := b4.call h1
  replace b5 := b5.call h1
  replace b7 := b7.call h1
  replace b9 := b9.call h1
  replace b11 := b11.call h1
  replace b13 := b13.call h1
  replace b15 := b15.call h1
  replace hb := bthen hb h1
  clear h1
  go_wp2_with (first | (with_reducible refine ldFr rfl rfl rfl b13 ?_) | (with_reducible refine ldFr rfl rfl rfl b15 ?_))
  refine (HA7.out _).mono ?_
  rintro e w1 ⟨rfl, h1⟩
  replace b3 := b3.call h1
  replace b4 := b4.call h1
  replace b7 := b7.call h1
  replace b9 := b9.call h1
  replace b11 := b11.call h1
  replace hb := bthen hb h1
  clear h1
  go_wp2_with (first | (refine ldFg (by rfl) rfl rfl b9 ?_) | (refine ldFg (by rfl) rfl rfl b3 ?_) | (refine ldFg (by rfl) rfl rfl b7 ?_) | (refine neRg (by rfl) rfl rfl rfl FN.out FD.out FN.out FD.out ?_))
  refine (HI1.out _).mono ?_
  rintro e w1 ⟨rfl, h1⟩
  replace b3 := b3.call h1
  replace b4 := b4.call h1
  replace b11 := b11.call h1
  replace hb := bthen hb h1
  clear h1
  go_wp2_with (first | (refine ldFg (by rfl) rfl rfl b11 ?_))
  refine (HI2.out _).mono ?_
  rintro e w1 ⟨rfl, h1⟩
  replace b3 := b3.call h1
  replace b4 := b4.call h1
  replace b11 := b11.call h1
  replace hb := bthen hb h1
  clear h1
  go_wp2_with (first | (with_reducible refine ldFr rfl rfl rfl b11 ?_) | (with_reducible refine ldFr rfl rfl rfl b4 ?_))
  refine (HA8.out _).mono ?_
  rintro e w1 ⟨rfl, h1⟩
  replace b3 := b3.call h1
  replace b4 := b4.call h1
  replace b11 := b11.call h1
  replace hb := bthen hb h1
  clear h1
  have f := Blk.new w1 (rr false 0 false 0) 45 rfl
  have b21 := laidR_new w1 (n) (d)
  replace b3 := laidR_old b3 (n) (d)
  replace b4 := laidR_old b4 (n) (d)
  replace b11 := laidR_old b11 (n) (d)
  replace hb := laidR_below hb (n) (d)
  go_wp2_with (first | (with_reducible refine alR rfl rfl ?_) | (with_reducible refine stR rfl rfl rfl rfl f (rr_length _ _ _ _) ?_) | (with_reducible refine ldFr rfl rfl rfl b4 ?_))
  clear f
  generalize (w1.alloc (.cells (rr false 0 false 0).toArray 45)).setRow w1.heap.size (fr (n) (d)).toArray = W at *
  generalize w1.heap.size = pl_b21 at *
  refine (HG1.out _).mono ?_
  rintro e w1 ⟨rfl, h1⟩
  replace b3 := b3.call h1
  replace b4 := b4.call h1
  replace b11 := b11.call h1
  replace b21 := b21.call h1
  replace hb := bthen hb h1
  clear h1
  go_wp2_with fail
  refine rg_start [] (by kernel_rfl) (fun hS => ?_)
  replace hb := hb.drew
  refine rg_take 0 rfl (by kernel_rfl) (by kernel_rfl) (by kernel_rfl) (by rfl) hS (v := ?_) ?_ ?_
  rotate_left
  · (intro w' hS'; go_simp <;> try with_reducible rfl)
  try simp only [Act.put, List.setIfInBounds_toArray, List.set_cons_zero, List.set_cons_succ]
  refine rg_take 1 rfl (by kernel_rfl) (by kernel_rfl) (by kernel_rfl) (by rfl) hS (v := ?_) ?_ ?_
  rotate_left
  · (intro w' hS'; go_simp <;> try with_reducible rfl)
  try simp only [Act.put, List.setIfInBounds_toArray, List.set_cons_zero, List.set_cons_succ]
  refine rg_ld 2 rfl (by kernel_rfl) (by kernel_rfl) (by kernel_rfl) (by rfl) hS rfl rfl b21 (by simp <;> omega) (wholeF _ _) ?_
  try simp only [Act.put, List.setIfInBounds_toArray, List.set_cons_zero, List.set_cons_succ]
  refine rg_ld 3 rfl (by kernel_rfl) (by kernel_rfl) (by kernel_rfl) (by rfl) hS rfl rfl b3 (by simp <;> omega) (wholeF _ _) ?_
  try simp only [Act.put, List.setIfInBounds_toArray, List.set_cons_zero, List.set_cons_succ]
  refine rg_take 4 rfl (by kernel_rfl) (by kernel_rfl) (by kernel_rfl) (by rfl) hS (v := .bool true) (fun w' _ => op_eqRs FN.out FD.out rfl rfl rfl w') ?_
  try simp only [Act.put, List.setIfInBounds_toArray, List.set_cons_zero, List.set_cons_succ]
  refine rg_take 5 rfl (by kernel_rfl) (by kernel_rfl) (by kernel_rfl) (by rfl) hS (v := ?_) ?_ ?_
  rotate_left
  · (intro w' hS'; go_simp <;> try with_reducible rfl)
  try simp only [Act.put, List.setIfInBounds_toArray, List.set_cons_zero, List.set_cons_succ]
  refine rg_take 6 rfl (by kernel_rfl) (by kernel_rfl) (by kernel_rfl) (by rfl) hS (v := ?_) ?_ ?_
  rotate_left
  · (intro w' hS'; go_simp <;> try with_reducible rfl)
  try simp only [Act.put, List.setIfInBounds_toArray, List.set_cons_zero, List.set_cons_succ]
  refine rg_ld 7 rfl (by kernel_rfl) (by kernel_rfl) (by kernel_rfl) (by rfl) hS rfl rfl b11 (by simp <;> omega) (wholeF _ _) ?_
  try simp only [Act.put, List.setIfInBounds_toArray, List.set_cons_zero, List.set_cons_succ]
  refine rg_ld 9 rfl (by kernel_rfl) (by kernel_rfl) (by kernel_rfl) (by rfl) hS rfl rfl b3 (by simp <;> omega) (wholeF _ _) ?_
  try simp only [Act.put, List.setIfInBounds_toArray, List.set_cons_zero, List.set_cons_succ]
  refine rg_ld 11 rfl (by kernel_rfl) (by kernel_rfl) (by kernel_rfl) (by rfl) hS rfl rfl b4 (by simp <;> omega) (wholeF _ _) ?_
  try simp only [Act.put, List.setIfInBounds_toArray, List.set_cons_zero, List.set_cons_succ]
  refine rg_eff 8 rfl (by kernel_rfl) (by rfl) (fun K hK => ?_)
  go_simp
  refine (HG2.out _).mono ?_
  rintro e w1 ⟨rfl, h1⟩
  refine hK _ _ (hS.call h1) (fun hS => ?_)
  clear hK K
  replace hb := bthen hb h1
  clear h1
  try simp only [Act.put, List.setIfInBounds_toArray, List.set_cons_zero, List.set_cons_succ]
  refine rg_eff 10 rfl (by kernel_rfl) (by rfl) (fun K hK => ?_)
  go_simp
  refine (HG3.out _).mono ?_
  rintro e w1 ⟨rfl, h1⟩
  refine hK _ _ (hS.call h1) (fun hS => ?_)
  clear hK K
  replace hb := bthen hb h1
  clear h1
  try simp only [Act.put, List.setIfInBounds_toArray, List.set_cons_zero, List.set_cons_succ]
  refine rg_eff 12 rfl (by kernel_rfl) (by rfl) (fun K hK => ?_)
  go_simp
  refine (HG1.out _).mono ?_
  rintro e w1 ⟨rfl, h1⟩
  refine hK _ _ (hS.call h1) (fun hS => ?_)
  clear hK K
  replace hb := bthen hb h1
  clear h1
  try simp only [Act.put, List.setIfInBounds_toArray, List.set_cons_zero, List.set_cons_succ]
  refine rg_take 13 rfl (by kernel_rfl) (by kernel_rfl) (by kernel_rfl) (by rfl) hS (v := .int .i64 sm) (fun w' _ => op_muli HSM.out rfl rfl rfl w') ?_
  try simp only [Act.put, List.setIfInBounds_toArray, List.set_cons_zero, List.set_cons_succ]
  refine rg_take 14 rfl (by kernel_rfl) (by kernel_rfl) (by kernel_rfl) (by rfl) hS (v := .bool true) (fun w' _ => op_eqi' Try.underlying3 rfl rfl rfl rfl w') ?_
  try simp only [Act.put, List.setIfInBounds_toArray, List.set_cons_zero, List.set_cons_succ]
  refine rg_take 15 rfl (by kernel_rfl) (by kernel_rfl) (by kernel_rfl) (by rfl) hS (v := ?_) ?_ ?_
  rotate_left
  · (intro w' hS'; go_simp <;> try with_reducible rfl)
  try simp only [Act.put, List.setIfInBounds_toArray, List.set_cons_zero, List.set_cons_succ]
  refine rg_take 16 rfl (by kernel_rfl) (by kernel_rfl) (by kernel_rfl) (by rfl) hS (v := ?_) ?_ ?_
  rotate_left
  · (intro w' hS'; go_simp <;> try with_reducible rfl)
  try simp only [Act.put, List.setIfInBounds_toArray, List.set_cons_zero, List.set_cons_succ]
  refine rg_done (by kernel_rfl) ?_
  go_wp2
  go_ret
  exact ⟨rfl, hb⟩
theorem cq_cases (q : Rat) : (q < 0 ∧ cq q 0 = -1) ∨ (q = 0 ∧ cq q 0 = 0) ∨ (0 < q ∧ cq q 0 = 1) := by
  unfold cq
  by_cases h : q < 0
  · exact .inl ⟨h, by rw [if_pos h]⟩
  · by_cases h2 : 0 < q
    · exact .inr (.inr ⟨h2, by rw [if_neg h, if_pos h2]⟩)
    · exact .inr (.inl ⟨by grind, by rw [if_neg h, if_neg h2]⟩)
theorem cq_neg {q : Rat} (h : q < 0) : cq q 0 = -1 := by unfold cq; rw [if_pos h]
theorem cq_pos {q : Rat} (h : 0 < q) : cq q 0 = 1 := by unfold cq; rw [if_neg (by grind), if_pos h]
theorem cq_zero : cq 0 0 = 0 := by unfold cq; rfl
theorem mul_neg_neg {q r : Rat} (h : q < 0) (h' : r < 0) : 0 < q * r := by
  have := Rat.mul_pos (a := -q) (b := -r) (by grind) (by grind)
  grind
theorem mul_neg_pos {q r : Rat} (h : q < 0) (h' : 0 < r) : q * r < 0 := by
  have := Rat.mul_pos (a := -q) (b := r) (by grind) h'
  grind
theorem cq_mul (q r : Rat) : cq (q * r) 0 = cq q 0 * cq r 0 := by
  rcases cq_cases q with ⟨h, e⟩ | ⟨rfl, e⟩ | ⟨h, e⟩
  · rcases cq_cases r with ⟨h', e'⟩ | ⟨rfl, e'⟩ | ⟨h', e'⟩
    · rw [e, e', cq_pos (mul_neg_neg h h')]; rfl
    · rw [e', Rat.mul_zero, cq_zero]; omega
    · rw [e, e', cq_neg (mul_neg_pos h h')]; rfl
  · rw [e, Rat.zero_mul, cq_zero]; omega
  · rcases cq_cases r with ⟨h', e'⟩ | ⟨rfl, e'⟩ | ⟨h', e'⟩
    · rw [e, e', Rat.mul_comm, cq_neg (mul_neg_pos h' h)]; rfl
    · rw [e', Rat.mul_zero, cq_zero]; omega
    · rw [e, e', cq_pos (Rat.mul_pos h h')]; rfl
theorem cq_add (a b c : Rat) : cq (a + c) (b + c) = cq a b := by
  unfold cq
  simp only [Rat.add_lt_add_right]
theorem rlaws_walk (s0 : Bool) (N0 : Nat) (t0 : Bool) (M0 : Nat) (hN0 : N0 < bb ^ 32) (hM0 : M0 < bb ^ 32) (s1 : Bool) (N1 : Nat) (t1 : Bool) (M1 : Nat) (hN1 : N1 < bb ^ 32) (hM1 : M1 < bb ^ 32) (s2 : Bool) (N2 : Nat) (t2 : Bool) (M2 : Nat) (hN2 : N2 < bb ^ 32) (hM2 : M2 < bb ^ 32) (w : World) :
    Calls Try.prog 5 #[.agg (rr s0 N0 t0 M0).toArray, .agg (rr s1 N1 t1 M1).toArray, .agg (rr s2 N2 t2 M2).toArray] w fun e w' => e = .returned (.bool true) ∧ Below w.heap.size w w' := by
  rcases safe_q s0 t0 hN0 hM0 100 with h | ⟨a, ea, ha, fa, ga, Sa⟩
  · exact rlaws_a s0 N0 t0 M0 s1 N1 t1 M1 s2 N2 t2 M2 h w
  rw [ea]
  rcases safe_q s1 t1 hN1 hM1 100 with h | ⟨b, eb, hb, fb, gb, Sb⟩
  · exact rlaws_b a.num a.den s1 N1 t1 M1 s2 N2 t2 M2 Sa h w
  rw [eb]
  rcases safe_q s2 t2 hN2 hM2 100 with h | ⟨c, ec, hc, fc, gc, Sc⟩
  · exact rlaws_c a.num a.den b.num b.den s2 N2 t2 M2 Sa Sb h w
  rw [ec]
  have A1 := Add_q ha (by omega) hb (by omega)
  have A2 := Sub_q (bq_add ha hb) (by omega) hb (by omega)
  rw [Rat.add_sub_cancel] at A2
  have A3 := Mul_q ha (by omega) hb (by omega)
  have A4 := Add_q ha (by omega) hc (by omega)
  have A5 := Add_q hb (by omega) hc (by omega)
  have A6 := Cmp_q ha (by omega) hb (by omega)
  have A7 := Cmp_q (bq_add ha hc) (by omega) (bq_add hb hc) (by omega)
  rw [cq_add] at A7
  have I1 := Is_q (bq_add ha hb) (by omega)
  have I2 := Is_q (bq_mul ha hb) (by omega)
  have G1 := Sign_q hb (by omega)
  by_cases h0 : b = 0
  · subst h0
    rw [cq_zero] at G1
    exact rlaws_zero fa ga Sa Sb Sc A1 A2 A3 A4 A5 A6 A7 I1 I2 (Div_zero ((bq_mul ha hb).sf (by omega)) (hb.sf (by omega))) G1 w
  · have A8 := Div_q (bq_mul ha hb) (by omega) hb (by omega) h0
    rw [show a * b / b = a by grind] at A8
    refine rlaws_more fa ga Sa Sb Sc A1 A2 A3 A4 A5 A6 A7 I1 I2 A8 G1 (Sign_q (bq_mul ha hb) (by omega)) (Sign_q ha (by omega)) ?_ ?_ w
    · rcases cq_cases b with ⟨_, e⟩ | ⟨h, _⟩ | ⟨_, e⟩
      · omega
      · exact absurd h h0
      · omega
    · rw [cq_mul]
      rcases cq_cases a with ⟨_, e⟩ | ⟨_, e⟩ | ⟨_, e⟩ <;> rcases cq_cases b with ⟨_, e'⟩ | ⟨_, e'⟩ | ⟨_, e'⟩ <;> rw [e, e'] <;> decide
end Go.Proofs.Ytiaikjeljhfadaa
namespace Go.Proofs.Ytiaikjeljhfadaa.ratioLaws
open Go.ChangeShapes Go.WideShapes Go.ChangeAt Go.RowKit
set_option linter.unusedVariables false
theorem own : ownKnob Try.prog.godebug = none := by kernel_rfl
set_option maxRecDepth 100000 in
theorem lifted (os : Os) (started : os.Started) (H : Type) (enc : TypeId × Value → H) :
    ReturnsInHanded {} Try.checked os 5 .any (Rows.ratioLawsSpec.pre6 enc Try.prog Try.f5 Rows.ratioLawsRow.domain false) (Rows.ratioLawsSpec.post enc Try.prog Try.f5 false true false false) := by
  refine returnsInHanded_of_change (C := Try.checked) own started (by kernel_rfl) Try.func5
    (ChangeSpec.witness6 (enc := enc) (C := Try.checked) false ⟨#[], #[.agg (rr false 0 false 0).toArray, .agg (rr false 0 false 0).toArray, .agg (rr false 0 false 0).toArray], []⟩ 5 (by kernel_rfl) (by kernel_rfl) (by kernel_rfl) (by kernel_rfl)) ?_
  intro W base args ds gs before hval0 hW hcnd _
  have hval : ∀ (j : Nat) t v, Try.f5.params[j]? = some t → args[j]? = some v → Value.okWide Try.prog W .any base t v := hval0
  have hW' := hW
  obtain ⟨p, q, hA0, hV, rfl, hfz, hnd⟩ := hW
  have hA : DataW.TrodAll enc Try.prog W 0 (fun _ => true) true Try.f5.params.toList args.toList ds p := hA0
  rw [Try.params5] at hA hval
  obtain ⟨v0, vs0, d0, ds0, p0, q0, hargs, rfl, rfl, h0, r0⟩ := trodAll_cons hA
  obtain ⟨v1, vs1, d1, ds1, p1, q1, rfl, rfl, rfl, h1, r1⟩ := trodAll_cons r0
  obtain ⟨v2, vs2, d2, ds2, p2, q2, rfl, rfl, rfl, h2, r2⟩ := trodAll_cons r1
  obtain ⟨rfl, rfl, rfl⟩ := trodAll_nil r2
  obtain rfl : args = #[v0, v1, v2] := by cases args; simp_all
  obtain ⟨rfl, rfl⟩ := trodVars_none hV
  obtain ⟨s0, N0, t0, M0, rfl, hN0, hM0, rfl, hsh0⟩ := open_rat (hval 0 45 v0 rfl rfl) h0
  obtain ⟨s1, N1, t1, M1, rfl, hN1, hM1, rfl, hsh1⟩ := open_rat (hval 1 45 v1 rfl rfl) h1
  obtain ⟨s2, N2, t2, M2, rfl, hN2, hM2, rfl, hsh2⟩ := open_rat (hval 2 45 v2 rfl rfl) h2
  clear hA0 hval0
  simp only [List.append_nil] at hW'
  refine (rlaws_walk s0 N0 t0 M0 hN0 hM0 s1 N1 t1 M1 hN1 hM1 s2 N2 t2 M2 hN2 hM2 W).mono fun e W' ⟨he, hg⟩ => ?_
  subst he
  exact ⟨_, rfl, post_of_below (pa := []) (pv := []) hW' (fun _ _ _ => (trodAll_cons_mk (shut_bool Try.underlying4 _) trodAll_mk0)) (fun sp _ => (trodAll_cons_mk (hsh0 _ _ _ _) (trodAll_cons_mk (hsh1 _ _ _ _) (trodAll_cons_mk (hsh2 _ _ _ _) trodAll_mk0)))) (fun _ _ => rfl) rfl
    hg (ok_one (by kernel_rfl) rfl (okWide_bool_mk Try.underlying4 _))⟩
theorem over : Rows.ratioLawsRow.holds Try.pinned (OpenSpec.ofChange Rows.ratioLawsSpec) :=
  OpenClaim.holds_of_wide 5 Try.f5 rfl rfl rfl rfl rfl rfl rfl ⟨rfl, rfl, rfl, rfl, rfl⟩ rfl rfl rfl rfl rfl (by kernel_rfl) Try.func5 (by kernel_rfl)
    (of_decide_eq_true (by kernel_rfl)) (by unfold Func.isWrapper; first | (rw [if_pos (by decide +kernel)]; kernel_rfl) | (rw [if_neg (by decide +kernel)]; exact ⟨rfl, rfl⟩))
    (fun os started H enc _ => lifted os started H enc)
end Go.Proofs.Ytiaikjeljhfadaa.ratioLaws
namespace Go.Proofs.Ytiaikjeljhfadaa
theorem ratioLaws_holds : Rows.RatioLawsSaid := ratioLaws.over
#print axioms ratioLaws_holds
end Go.Proofs.Ytiaikjeljhfadaa
