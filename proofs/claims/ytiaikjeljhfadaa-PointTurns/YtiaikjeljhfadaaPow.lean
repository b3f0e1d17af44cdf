/- PointOrders answers true of every three points. -/
import Derived.Test.YtiaikjeljhfadaaPka
import Derived.Test.YtiaikjeljhfadaaOpp
namespace Go.Proofs.Ytiaikjeljhfadaa
set_option linter.unusedSimpArgs false
set_option linter.unusedVariables false
open Go.RowKit
set_option maxRecDepth 100000
section
variable {ops : Array Oper} {rest : List Oper} {o : Oper} {a : Act} {w : World} {Q : Exit → Act → World → Prop}
theorem eqPgb {p q : Operand} {x y u v : Rat} {ty : TypeId} {b : Bool} (hw : Region.wanted o (yielded ops a.tmps) = true) (ho : o.op = .binOp .eql 66 p q ty) (hp : a.eval p = .agg (fq x ++ fq y).toArray) (hq : a.eval q = .agg (fq u ++ fq v).toArray) (hx : Fq2 x) (hy : Fq2 y) (hu : Fq2 u) (hv : Fq2 v) (hb : decide (x = u ∧ y = v) = b)
    (hr : wpList Try.prog ops Q rest (a.put o.dst (.bool b)) w) : wpList Try.prog ops Q (o :: rest) a w := by
  subst hb
  exact eqPg hw ho hp hq hx hy hu hv hr
end
set_option maxHeartbeats 2000000 in
theorem pord_a {A B C D E F : List Value} {x y z w0 : Int} {r3 r4 : Bool} (hA : Rc A) (hB : Rc B) (hC : Rc C) (hD : Rc D) (hE : Rc E) (hF : Rc F) (C1 : Tl 63 #[vl (A ++ B), vl (C ++ D)] (.tuple #[.int .i64 x, .bool false])) (C2 : Tl 63 #[vl (C ++ D), vl (A ++ B)] (.tuple #[.int .i64 y, .bool false])) (C3 : Tl 63 #[vl (C ++ D), vl (E ++ F)] (.tuple #[.int .i64 z, .bool r3])) (C4 : Tl 63 #[vl (A ++ B), vl (E ++ F)] (.tuple #[.int .i64 w0, .bool r4]))
    (I1 : Tl 56 #[vl (A ++ B)] (.bool false)) (w : World) :
    Calls Try.prog 11 #[vl (A ++ B), vl (C ++ D), vl (E ++ F)] w fun e w' => e = .returned (.bool true) ∧ Below w.heap.size w w' := by
  have HI1 := Lib.hid I1
  unfold Tl vl at HI1
  clear I1
  unfold vl at *
  have HA := Lib.hid hA
  have HB := Lib.hid hB
  have HC := Lib.hid hC
  have HD := Lib.hid hD
  have HE := Lib.hid hE
  have HF := Lib.hid hF
  have HC1 := Lib.hid C1
  have HC2 := Lib.hid C2
  have HC3 := Lib.hid C3
  have HC4 := Lib.hid C4
  unfold Tl at HC1 HC2 HC3 HC4
  clear hA hB hC hD hE hF C1 C2 C3 C4
  have b3 := ((Blk.new w (A ++ B) 66 rfl).old (.cells (C ++ D).toArray 66)).old (.cells (E ++ F).toArray 66)
  have b4 := (Blk.new (w.alloc (.cells (A ++ B).toArray 66)) (C ++ D) 66 (b := w.heap.size + 1) (by simp)).old (.cells (E ++ F).toArray 66)
  have b5 := Blk.new ((w.alloc (.cells (A ++ B).toArray 66)).alloc (.cells (C ++ D).toArray 66)) (E ++ F) 66 (b := w.heap.size + 1 + 1) (by simp)
  have hb : Below w.heap.size w (((w.alloc (.cells (A ++ B).toArray 66)).alloc (.cells (C ++ D).toArray 66)).alloc (.cells (E ++ F).toArray 66)) := (((Below.refl _ _).alloc (Nat.le_refl _) _).alloc (by simp) _).alloc (by simp; omega) _
  go_enter Try.func11, Try.ntmps11
  go_wp2_with fail
  refine (known3_any _).mono ?_
  rintro e w1 ⟨rfl, h1⟩
  replace b3 := b3.call h1
  replace b4 := b4.call h1
  replace b5 := b5.call h1
  replace hb := bthen hb h1
  clear h1
  go_wp2_with (first | (with_reducible refine ldPt rfl rfl rfl b3 HA.out HB.out ?_) | (with_reducible refine ldPt rfl rfl rfl b4 HC.out HD.out ?_) | (with_reducible refine ldPt rfl rfl rfl b5 HE.out HF.out ?_))
  refine (HC1.out _).mono ?_
  rintro e w1 ⟨rfl, h1⟩
  replace b3 := b3.call h1
  replace b4 := b4.call h1
  replace b5 := b5.call h1
  replace hb := bthen hb h1
  clear h1
  go_wp2_with (first | (with_reducible refine ldPt rfl rfl rfl b3 HA.out HB.out ?_) | (with_reducible refine ldPt rfl rfl rfl b4 HC.out HD.out ?_) | (with_reducible refine ldPt rfl rfl rfl b5 HE.out HF.out ?_))
  refine (HC2.out _).mono ?_
  rintro e w1 ⟨rfl, h1⟩
  replace b3 := b3.call h1
  replace b4 := b4.call h1
  replace b5 := b5.call h1
  replace hb := bthen hb h1
  clear h1
  go_wp2_with (first | (with_reducible refine ldPt rfl rfl rfl b3 HA.out HB.out ?_) | (with_reducible refine ldPt rfl rfl rfl b4 HC.out HD.out ?_) | (with_reducible refine ldPt rfl rfl rfl b5 HE.out HF.out ?_))
  refine (HC3.out _).mono ?_
  rintro e w1 ⟨rfl, h1⟩
  replace b3 := b3.call h1
  replace b4 := b4.call h1
  replace b5 := b5.call h1
  replace hb := bthen hb h1
  clear h1
  go_wp2_with (first | (with_reducible refine ldPt rfl rfl rfl b3 HA.out HB.out ?_) | (with_reducible refine ldPt rfl rfl rfl b4 HC.out HD.out ?_) | (with_reducible refine ldPt rfl rfl rfl b5 HE.out HF.out ?_))
  refine (HC4.out _).mono ?_
  rintro e w1 ⟨rfl, h1⟩
  replace b3 := b3.call h1
  replace b4 := b4.call h1
  replace b5 := b5.call h1
  replace hb := bthen hb h1
  clear h1
  go_wp2_with (first | (with_reducible refine ldPt rfl rfl rfl b3 HA.out HB.out ?_))
  refine (HI1.out _).mono ?_
  rintro e w1 ⟨rfl, h1⟩
  replace hb := bthen hb h1
  clear h1
  go_wp2
  go_ret
  exact ⟨rfl, hb⟩
set_option maxHeartbeats 2000000 in
theorem pord_b {A B C D E F : List Value} {x y z w0 : Int} {r3 r4 : Bool} (hA : Rc A) (hB : Rc B) (hC : Rc C) (hD : Rc D) (hE : Rc E) (hF : Rc F) (C1 : Tl 63 #[vl (A ++ B), vl (C ++ D)] (.tuple #[.int .i64 x, .bool false])) (C2 : Tl 63 #[vl (C ++ D), vl (A ++ B)] (.tuple #[.int .i64 y, .bool false])) (C3 : Tl 63 #[vl (C ++ D), vl (E ++ F)] (.tuple #[.int .i64 z, .bool r3])) (C4 : Tl 63 #[vl (A ++ B), vl (E ++ F)] (.tuple #[.int .i64 w0, .bool r4]))
    (I1 : Tl 56 #[vl (A ++ B)] (.bool true)) (I2 : Tl 56 #[vl (C ++ D)] (.bool false)) (w : World) :
    Calls Try.prog 11 #[vl (A ++ B), vl (C ++ D), vl (E ++ F)] w fun e w' => e = .returned (.bool true) ∧ Below w.heap.size w w' := by
  have HI1 := Lib.hid I1
  have HI2 := Lib.hid I2
  unfold Tl vl at HI1 HI2
  clear I1 I2
  unfold vl at *
  have HA := Lib.hid hA
  have HB := Lib.hid hB
  have HC := Lib.hid hC
  have HD := Lib.hid hD
  have HE := Lib.hid hE
  have HF := Lib.hid hF
  have HC1 := Lib.hid C1
  have HC2 := Lib.hid C2
  have HC3 := Lib.hid C3
  have HC4 := Lib.hid C4
  unfold Tl at HC1 HC2 HC3 HC4
  clear hA hB hC hD hE hF C1 C2 C3 C4
  have b3 := ((Blk.new w (A ++ B) 66 rfl).old (.cells (C ++ D).toArray 66)).old (.cells (E ++ F).toArray 66)
  have b4 := (Blk.new (w.alloc (.cells (A ++ B).toArray 66)) (C ++ D) 66 (b := w.heap.size + 1) (by simp)).old (.cells (E ++ F).toArray 66)
  have b5 := Blk.new ((w.alloc (.cells (A ++ B).toArray 66)).alloc (.cells (C ++ D).toArray 66)) (E ++ F) 66 (b := w.heap.size + 1 + 1) (by simp)
  have hb : Below w.heap.size w (((w.alloc (.cells (A ++ B).toArray 66)).alloc (.cells (C ++ D).toArray 66)).alloc (.cells (E ++ F).toArray 66)) := (((Below.refl _ _).alloc (Nat.le_refl _) _).alloc (by simp) _).alloc (by simp; omega) _
  go_enter Try.func11, Try.ntmps11
  go_wp2_with fail
  refine (known3_any _).mono ?_
  rintro e w1 ⟨rfl, h1⟩
  replace b3 := b3.call h1
  replace b4 := b4.call h1
  replace b5 := b5.call h1
  replace hb := bthen hb h1
  clear h1
  go_wp2_with (first | (with_reducible refine ldPt rfl rfl rfl b3 HA.out HB.out ?_) | (with_reducible refine ldPt rfl rfl rfl b4 HC.out HD.out ?_) | (with_reducible refine ldPt rfl rfl rfl b5 HE.out HF.out ?_))
  refine (HC1.out _).mono ?_
  rintro e w1 ⟨rfl, h1⟩
  replace b3 := b3.call h1
  replace b4 := b4.call h1
  replace b5 := b5.call h1
  replace hb := bthen hb h1
  clear h1
  go_wp2_with (first | (with_reducible refine ldPt rfl rfl rfl b3 HA.out HB.out ?_) | (with_reducible refine ldPt rfl rfl rfl b4 HC.out HD.out ?_) | (with_reducible refine ldPt rfl rfl rfl b5 HE.out HF.out ?_))
  refine (HC2.out _).mono ?_
  rintro e w1 ⟨rfl, h1⟩
  replace b3 := b3.call h1
  replace b4 := b4.call h1
  replace b5 := b5.call h1
  replace hb := bthen hb h1
  clear h1
  go_wp2_with (first | (with_reducible refine ldPt rfl rfl rfl b3 HA.out HB.out ?_) | (with_reducible refine ldPt rfl rfl rfl b4 HC.out HD.out ?_) | (with_reducible refine ldPt rfl rfl rfl b5 HE.out HF.out ?_))
  refine (HC3.out _).mono ?_
  rintro e w1 ⟨rfl, h1⟩
  replace b3 := b3.call h1
  replace b4 := b4.call h1
  replace b5 := b5.call h1
  replace hb := bthen hb h1
  clear h1
  go_wp2_with (first | (with_reducible refine ldPt rfl rfl rfl b3 HA.out HB.out ?_) | (with_reducible refine ldPt rfl rfl rfl b4 HC.out HD.out ?_) | (with_reducible refine ldPt rfl rfl rfl b5 HE.out HF.out ?_))
  refine (HC4.out _).mono ?_
  rintro e w1 ⟨rfl, h1⟩
  replace b3 := b3.call h1
  replace b4 := b4.call h1
  replace b5 := b5.call h1
  replace hb := bthen hb h1
  clear h1
  go_wp2_with (first | (with_reducible refine ldPt rfl rfl rfl b3 HA.out HB.out ?_))
  refine (HI1.out _).mono ?_
  rintro e w1 ⟨rfl, h1⟩
  replace b4 := b4.call h1
  replace hb := bthen hb h1
  clear h1
  go_wp2_with (first | (refine ldPtg (by rfl) rfl rfl b4 HC.out HD.out ?_))
  refine (HI2.out _).mono ?_
  rintro e w1 ⟨rfl, h1⟩
  replace hb := bthen hb h1
  clear h1
  go_wp2
  go_ret
  exact ⟨rfl, hb⟩
set_option maxHeartbeats 2000000 in
theorem pord_c {A B C D E F : List Value} {x y z w0 : Int} {r4 : Bool} (hA : Rc A) (hB : Rc B) (hC : Rc C) (hD : Rc D) (hE : Rc E) (hF : Rc F) (C1 : Tl 63 #[vl (A ++ B), vl (C ++ D)] (.tuple #[.int .i64 x, .bool true])) (C2 : Tl 63 #[vl (C ++ D), vl (A ++ B)] (.tuple #[.int .i64 y, .bool true])) (C3 : Tl 63 #[vl (C ++ D), vl (E ++ F)] (.tuple #[.int .i64 z, .bool false])) (C4 : Tl 63 #[vl (A ++ B), vl (E ++ F)] (.tuple #[.int .i64 w0, .bool r4]))
    (I1 : Tl 56 #[vl (A ++ B)] (.bool true)) (I2 : Tl 56 #[vl (C ++ D)] (.bool true)) (I3 : Tl 56 #[vl (E ++ F)] (.bool false)) (w : World) :
    Calls Try.prog 11 #[vl (A ++ B), vl (C ++ D), vl (E ++ F)] w fun e w' => e = .returned (.bool true) ∧ Below w.heap.size w w' := by
  have HI1 := Lib.hid I1
  have HI2 := Lib.hid I2
  have HI3 := Lib.hid I3
  unfold Tl vl at HI1 HI2 HI3
  clear I1 I2 I3
  unfold vl at *
  have HA := Lib.hid hA
  have HB := Lib.hid hB
  have HC := Lib.hid hC
  have HD := Lib.hid hD
  have HE := Lib.hid hE
  have HF := Lib.hid hF
  have HC1 := Lib.hid C1
  have HC2 := Lib.hid C2
  have HC3 := Lib.hid C3
  have HC4 := Lib.hid C4
  unfold Tl at HC1 HC2 HC3 HC4
  clear hA hB hC hD hE hF C1 C2 C3 C4
  have b3 := ((Blk.new w (A ++ B) 66 rfl).old (.cells (C ++ D).toArray 66)).old (.cells (E ++ F).toArray 66)
  have b4 := (Blk.new (w.alloc (.cells (A ++ B).toArray 66)) (C ++ D) 66 (b := w.heap.size + 1) (by simp)).old (.cells (E ++ F).toArray 66)
  have b5 := Blk.new ((w.alloc (.cells (A ++ B).toArray 66)).alloc (.cells (C ++ D).toArray 66)) (E ++ F) 66 (b := w.heap.size + 1 + 1) (by simp)
  have hb : Below w.heap.size w (((w.alloc (.cells (A ++ B).toArray 66)).alloc (.cells (C ++ D).toArray 66)).alloc (.cells (E ++ F).toArray 66)) := (((Below.refl _ _).alloc (Nat.le_refl _) _).alloc (by simp) _).alloc (by simp; omega) _
  go_enter Try.func11, Try.ntmps11
  go_wp2_with fail
  refine (known3_any _).mono ?_
  rintro e w1 ⟨rfl, h1⟩
  replace b3 := b3.call h1
  replace b4 := b4.call h1
  replace b5 := b5.call h1
  replace hb := bthen hb h1
  clear h1
  go_wp2_with (first | (with_reducible refine ldPt rfl rfl rfl b3 HA.out HB.out ?_) | (with_reducible refine ldPt rfl rfl rfl b4 HC.out HD.out ?_) | (with_reducible refine ldPt rfl rfl rfl b5 HE.out HF.out ?_))
  refine (HC1.out _).mono ?_
  rintro e w1 ⟨rfl, h1⟩
  replace b3 := b3.call h1
  replace b4 := b4.call h1
  replace b5 := b5.call h1
  replace hb := bthen hb h1
  clear h1
  go_wp2_with (first | (with_reducible refine ldPt rfl rfl rfl b3 HA.out HB.out ?_) | (with_reducible refine ldPt rfl rfl rfl b4 HC.out HD.out ?_) | (with_reducible refine ldPt rfl rfl rfl b5 HE.out HF.out ?_))
  refine (HC2.out _).mono ?_
  rintro e w1 ⟨rfl, h1⟩
  replace b3 := b3.call h1
  replace b4 := b4.call h1
  replace b5 := b5.call h1
  replace hb := bthen hb h1
  clear h1
  go_wp2_with (first | (with_reducible refine ldPt rfl rfl rfl b3 HA.out HB.out ?_) | (with_reducible refine ldPt rfl rfl rfl b4 HC.out HD.out ?_) | (with_reducible refine ldPt rfl rfl rfl b5 HE.out HF.out ?_))
  refine (HC3.out _).mono ?_
  rintro e w1 ⟨rfl, h1⟩
  replace b3 := b3.call h1
  replace b4 := b4.call h1
  replace b5 := b5.call h1
  replace hb := bthen hb h1
  clear h1
  go_wp2_with (first | (with_reducible refine ldPt rfl rfl rfl b3 HA.out HB.out ?_) | (with_reducible refine ldPt rfl rfl rfl b4 HC.out HD.out ?_) | (with_reducible refine ldPt rfl rfl rfl b5 HE.out HF.out ?_))
  refine (HC4.out _).mono ?_
  rintro e w1 ⟨rfl, h1⟩
  replace b3 := b3.call h1
  replace b4 := b4.call h1
  replace b5 := b5.call h1
  replace hb := bthen hb h1
  clear h1
  go_wp2_with (first | (with_reducible refine ldPt rfl rfl rfl b3 HA.out HB.out ?_))
  refine (HI1.out _).mono ?_
  rintro e w1 ⟨rfl, h1⟩
  replace b4 := b4.call h1
  replace b5 := b5.call h1
  replace hb := bthen hb h1
  clear h1
  go_wp2_with (first | (refine ldPtg (by rfl) rfl rfl b4 HC.out HD.out ?_))
  refine (HI2.out _).mono ?_
  rintro e w1 ⟨rfl, h1⟩
  replace b5 := b5.call h1
  replace hb := bthen hb h1
  clear h1
  go_wp2_with (first | (refine ldPtg (by rfl) rfl rfl b5 HE.out HF.out ?_))
  refine (HI3.out _).mono ?_
  rintro e w1 ⟨rfl, h1⟩
  replace hb := bthen hb h1
  clear h1
  go_wp2
  go_ret
  exact ⟨rfl, hb⟩
set_option maxHeartbeats 4000000 in
theorem pord_good {a1 a2 c1 c2 : Rat} {E F : List Value} {x y z w0 : Int} {eb : Bool} (hE : Rc E) (hF : Rc F) (h1 : Fq2 a1) (h2 : Fq2 a2) (h3 : Fq2 c1) (h4 : Fq2 c2) (C1 : Tl 63 #[vp a1 a2, vp c1 c2] (.tuple #[.int .i64 x, .bool true])) (C2 : Tl 63 #[vp c1 c2, vp a1 a2] (.tuple #[.int .i64 y, .bool true])) (C3 : Tl 63 #[vp c1 c2, vl (E ++ F)] (.tuple #[.int .i64 z, .bool true])) (C4 : Tl 63 #[vp a1 a2, vl (E ++ F)] (.tuple #[.int .i64 w0, .bool true]))
    (he : decide (a1 = c1 ∧ a2 = c2) = eb) (hx : (x = 1 ∧ y = -1 ∧ eb = false) ∨ (x = 0 ∧ y = 0 ∧ eb = true) ∨ (x = -1 ∧ y = 1 ∧ eb = false ∧ (z = 0 ∨ z = 1 ∨ (z = -1 ∧ w0 = -1)))) (w : World) :
    Calls Try.prog 11 #[vp a1 a2, vp c1 c2, vl (E ++ F)] w fun e w' => e = .returned (.bool true) ∧ Below w.heap.size w w' := by
  unfold vp at *
  have hA := rc_q a1
  have hB := rc_q a2
  have hC := rc_q c1
  have hD := rc_q c2
  have HQ : Hid (Fq2 a1 ∧ Fq2 a2 ∧ Fq2 c1 ∧ Fq2 c2 ∧ decide (a1 = c1 ∧ a2 = c2) = eb) := ⟨h1, h2, h3, h4, he⟩
  clear h1 h2 h3 h4 he
  rcases hx with ⟨rfl, rfl, rfl⟩ | ⟨rfl, rfl, rfl⟩ | ⟨rfl, rfl, rfl, hz⟩
  · skip
    unfold vl at *
    have HA := Lib.hid hA
    have HB := Lib.hid hB
    have HC := Lib.hid hC
    have HD := Lib.hid hD
    have HE := Lib.hid hE
    have HF := Lib.hid hF
    have HC1 := Lib.hid C1
    have HC2 := Lib.hid C2
    have HC3 := Lib.hid C3
    have HC4 := Lib.hid C4
    unfold Tl at HC1 HC2 HC3 HC4
    clear hA hB hC hD hE hF C1 C2 C3 C4
    have b3 := ((Blk.new w ((fq a1) ++ (fq a2)) 66 rfl).old (.cells ((fq c1) ++ (fq c2)).toArray 66)).old (.cells (E ++ F).toArray 66)
    have b4 := (Blk.new (w.alloc (.cells ((fq a1) ++ (fq a2)).toArray 66)) ((fq c1) ++ (fq c2)) 66 (b := w.heap.size + 1) (by simp)).old (.cells (E ++ F).toArray 66)
    have b5 := Blk.new ((w.alloc (.cells ((fq a1) ++ (fq a2)).toArray 66)).alloc (.cells ((fq c1) ++ (fq c2)).toArray 66)) (E ++ F) 66 (b := w.heap.size + 1 + 1) (by simp)
    have hb : Below w.heap.size w (((w.alloc (.cells ((fq a1) ++ (fq a2)).toArray 66)).alloc (.cells ((fq c1) ++ (fq c2)).toArray 66)).alloc (.cells (E ++ F).toArray 66)) := (((Below.refl _ _).alloc (Nat.le_refl _) _).alloc (by simp) _).alloc (by simp; omega) _
    go_enter Try.func11, Try.ntmps11
    go_wp2_with fail
    refine (known3_any _).mono ?_
    rintro e w1 ⟨rfl, h1⟩
    replace b3 := b3.call h1
    replace b4 := b4.call h1
    replace b5 := b5.call h1
    replace hb := bthen hb h1
    clear h1
    go_wp2_with (first | (with_reducible refine ldPt rfl rfl rfl b3 HA.out HB.out ?_) | (with_reducible refine ldPt rfl rfl rfl b4 HC.out HD.out ?_) | (with_reducible refine ldPt rfl rfl rfl b5 HE.out HF.out ?_))
    refine (HC1.out _).mono ?_
    rintro e w1 ⟨rfl, h1⟩
    replace b3 := b3.call h1
    replace b4 := b4.call h1
    replace b5 := b5.call h1
    replace hb := bthen hb h1
    clear h1
    go_wp2_with (first | (with_reducible refine ldPt rfl rfl rfl b3 HA.out HB.out ?_) | (with_reducible refine ldPt rfl rfl rfl b4 HC.out HD.out ?_) | (with_reducible refine ldPt rfl rfl rfl b5 HE.out HF.out ?_))
    refine (HC2.out _).mono ?_
    rintro e w1 ⟨rfl, h1⟩
    replace b3 := b3.call h1
    replace b4 := b4.call h1
    replace b5 := b5.call h1
    replace hb := bthen hb h1
    clear h1
    go_wp2_with (first | (with_reducible refine ldPt rfl rfl rfl b3 HA.out HB.out ?_) | (with_reducible refine ldPt rfl rfl rfl b4 HC.out HD.out ?_) | (with_reducible refine ldPt rfl rfl rfl b5 HE.out HF.out ?_))
    refine (HC3.out _).mono ?_
    rintro e w1 ⟨rfl, h1⟩
    replace b3 := b3.call h1
    replace b4 := b4.call h1
    replace b5 := b5.call h1
    replace hb := bthen hb h1
    clear h1
    go_wp2_with (first | (with_reducible refine ldPt rfl rfl rfl b3 HA.out HB.out ?_) | (with_reducible refine ldPt rfl rfl rfl b4 HC.out HD.out ?_) | (with_reducible refine ldPt rfl rfl rfl b5 HE.out HF.out ?_))
    refine (HC4.out _).mono ?_
    rintro e w1 ⟨rfl, h1⟩
    replace b3 := b3.call h1
    replace b4 := b4.call h1
    replace b5 := b5.call h1
    replace hb := bthen hb h1
    clear h1
    go_wp2_with (first | (refine ldPtg (by rfl) rfl rfl b3 HA.out HB.out ?_) | (refine ldPtg (by rfl) rfl rfl b4 HC.out HD.out ?_) | (refine eqPgb (by rfl) rfl rfl rfl HQ.out.1 HQ.out.2.1 HQ.out.2.2.1 HQ.out.2.2.2.1 HQ.out.2.2.2.2 ?_))
    go_ret
    exact ⟨rfl, hb⟩
  · skip
    unfold vl at *
    have HA := Lib.hid hA
    have HB := Lib.hid hB
    have HC := Lib.hid hC
    have HD := Lib.hid hD
    have HE := Lib.hid hE
    have HF := Lib.hid hF
    have HC1 := Lib.hid C1
    have HC2 := Lib.hid C2
    have HC3 := Lib.hid C3
    have HC4 := Lib.hid C4
    unfold Tl at HC1 HC2 HC3 HC4
    clear hA hB hC hD hE hF C1 C2 C3 C4
    have b3 := ((Blk.new w ((fq a1) ++ (fq a2)) 66 rfl).old (.cells ((fq c1) ++ (fq c2)).toArray 66)).old (.cells (E ++ F).toArray 66)
    have b4 := (Blk.new (w.alloc (.cells ((fq a1) ++ (fq a2)).toArray 66)) ((fq c1) ++ (fq c2)) 66 (b := w.heap.size + 1) (by simp)).old (.cells (E ++ F).toArray 66)
    have b5 := Blk.new ((w.alloc (.cells ((fq a1) ++ (fq a2)).toArray 66)).alloc (.cells ((fq c1) ++ (fq c2)).toArray 66)) (E ++ F) 66 (b := w.heap.size + 1 + 1) (by simp)
    have hb : Below w.heap.size w (((w.alloc (.cells ((fq a1) ++ (fq a2)).toArray 66)).alloc (.cells ((fq c1) ++ (fq c2)).toArray 66)).alloc (.cells (E ++ F).toArray 66)) := (((Below.refl _ _).alloc (Nat.le_refl _) _).alloc (by simp) _).alloc (by simp; omega) _
    go_enter Try.func11, Try.ntmps11
    go_wp2_with fail
    refine (known3_any _).mono ?_
    rintro e w1 ⟨rfl, h1⟩
    replace b3 := b3.call h1
    replace b4 := b4.call h1
    replace b5 := b5.call h1
    replace hb := bthen hb h1
    clear h1
    go_wp2_with (first | (with_reducible refine ldPt rfl rfl rfl b3 HA.out HB.out ?_) | (with_reducible refine ldPt rfl rfl rfl b4 HC.out HD.out ?_) | (with_reducible refine ldPt rfl rfl rfl b5 HE.out HF.out ?_))
    refine (HC1.out _).mono ?_
    rintro e w1 ⟨rfl, h1⟩
    replace b3 := b3.call h1
    replace b4 := b4.call h1
    replace b5 := b5.call h1
    replace hb := bthen hb h1
    clear h1
    go_wp2_with (first | (with_reducible refine ldPt rfl rfl rfl b3 HA.out HB.out ?_) | (with_reducible refine ldPt rfl rfl rfl b4 HC.out HD.out ?_) | (with_reducible refine ldPt rfl rfl rfl b5 HE.out HF.out ?_))
    refine (HC2.out _).mono ?_
    rintro e w1 ⟨rfl, h1⟩
    replace b3 := b3.call h1
    replace b4 := b4.call h1
    replace b5 := b5.call h1
    replace hb := bthen hb h1
    clear h1
    go_wp2_with (first | (with_reducible refine ldPt rfl rfl rfl b3 HA.out HB.out ?_) | (with_reducible refine ldPt rfl rfl rfl b4 HC.out HD.out ?_) | (with_reducible refine ldPt rfl rfl rfl b5 HE.out HF.out ?_))
    refine (HC3.out _).mono ?_
    rintro e w1 ⟨rfl, h1⟩
    replace b3 := b3.call h1
    replace b4 := b4.call h1
    replace b5 := b5.call h1
    replace hb := bthen hb h1
    clear h1
    go_wp2_with (first | (with_reducible refine ldPt rfl rfl rfl b3 HA.out HB.out ?_) | (with_reducible refine ldPt rfl rfl rfl b4 HC.out HD.out ?_) | (with_reducible refine ldPt rfl rfl rfl b5 HE.out HF.out ?_))
    refine (HC4.out _).mono ?_
    rintro e w1 ⟨rfl, h1⟩
    replace b3 := b3.call h1
    replace b4 := b4.call h1
    replace b5 := b5.call h1
    replace hb := bthen hb h1
    clear h1
    go_wp2_with (first | (refine ldPtg (by rfl) rfl rfl b3 HA.out HB.out ?_) | (refine ldPtg (by rfl) rfl rfl b4 HC.out HD.out ?_) | (refine eqPgb (by rfl) rfl rfl rfl HQ.out.1 HQ.out.2.1 HQ.out.2.2.1 HQ.out.2.2.2.1 HQ.out.2.2.2.2 ?_))
    go_ret
    exact ⟨rfl, hb⟩
  · rcases hz with rfl | rfl | ⟨rfl, rfl⟩
    · skip
      unfold vl at *
      have HA := Lib.hid hA
      have HB := Lib.hid hB
      have HC := Lib.hid hC
      have HD := Lib.hid hD
      have HE := Lib.hid hE
      have HF := Lib.hid hF
      have HC1 := Lib.hid C1
      have HC2 := Lib.hid C2
      have HC3 := Lib.hid C3
      have HC4 := Lib.hid C4
      unfold Tl at HC1 HC2 HC3 HC4
      clear hA hB hC hD hE hF C1 C2 C3 C4
      have b3 := ((Blk.new w ((fq a1) ++ (fq a2)) 66 rfl).old (.cells ((fq c1) ++ (fq c2)).toArray 66)).old (.cells (E ++ F).toArray 66)
      have b4 := (Blk.new (w.alloc (.cells ((fq a1) ++ (fq a2)).toArray 66)) ((fq c1) ++ (fq c2)) 66 (b := w.heap.size + 1) (by simp)).old (.cells (E ++ F).toArray 66)
      have b5 := Blk.new ((w.alloc (.cells ((fq a1) ++ (fq a2)).toArray 66)).alloc (.cells ((fq c1) ++ (fq c2)).toArray 66)) (E ++ F) 66 (b := w.heap.size + 1 + 1) (by simp)
      have hb : Below w.heap.size w (((w.alloc (.cells ((fq a1) ++ (fq a2)).toArray 66)).alloc (.cells ((fq c1) ++ (fq c2)).toArray 66)).alloc (.cells (E ++ F).toArray 66)) := (((Below.refl _ _).alloc (Nat.le_refl _) _).alloc (by simp) _).alloc (by simp; omega) _
      go_enter Try.func11, Try.ntmps11
      go_wp2_with fail
      refine (known3_any _).mono ?_
      rintro e w1 ⟨rfl, h1⟩
      replace b3 := b3.call h1
      replace b4 := b4.call h1
      replace b5 := b5.call h1
      replace hb := bthen hb h1
      clear h1
      go_wp2_with (first | (with_reducible refine ldPt rfl rfl rfl b3 HA.out HB.out ?_) | (with_reducible refine ldPt rfl rfl rfl b4 HC.out HD.out ?_) | (with_reducible refine ldPt rfl rfl rfl b5 HE.out HF.out ?_))
      refine (HC1.out _).mono ?_
      rintro e w1 ⟨rfl, h1⟩
      replace b3 := b3.call h1
      replace b4 := b4.call h1
      replace b5 := b5.call h1
      replace hb := bthen hb h1
      clear h1
      go_wp2_with (first | (with_reducible refine ldPt rfl rfl rfl b3 HA.out HB.out ?_) | (with_reducible refine ldPt rfl rfl rfl b4 HC.out HD.out ?_) | (with_reducible refine ldPt rfl rfl rfl b5 HE.out HF.out ?_))
      refine (HC2.out _).mono ?_
      rintro e w1 ⟨rfl, h1⟩
      replace b3 := b3.call h1
      replace b4 := b4.call h1
      replace b5 := b5.call h1
      replace hb := bthen hb h1
      clear h1
      go_wp2_with (first | (with_reducible refine ldPt rfl rfl rfl b3 HA.out HB.out ?_) | (with_reducible refine ldPt rfl rfl rfl b4 HC.out HD.out ?_) | (with_reducible refine ldPt rfl rfl rfl b5 HE.out HF.out ?_))
      refine (HC3.out _).mono ?_
      rintro e w1 ⟨rfl, h1⟩
      replace b3 := b3.call h1
      replace b4 := b4.call h1
      replace b5 := b5.call h1
      replace hb := bthen hb h1
      clear h1
      go_wp2_with (first | (with_reducible refine ldPt rfl rfl rfl b3 HA.out HB.out ?_) | (with_reducible refine ldPt rfl rfl rfl b4 HC.out HD.out ?_) | (with_reducible refine ldPt rfl rfl rfl b5 HE.out HF.out ?_))
      refine (HC4.out _).mono ?_
      rintro e w1 ⟨rfl, h1⟩
      replace b3 := b3.call h1
      replace b4 := b4.call h1
      replace b5 := b5.call h1
      replace hb := bthen hb h1
      clear h1
      go_wp2_with (first | (refine ldPtg (by rfl) rfl rfl b3 HA.out HB.out ?_) | (refine ldPtg (by rfl) rfl rfl b4 HC.out HD.out ?_) | (refine eqPgb (by rfl) rfl rfl rfl HQ.out.1 HQ.out.2.1 HQ.out.2.2.1 HQ.out.2.2.2.1 HQ.out.2.2.2.2 ?_))
      go_ret
      exact ⟨rfl, hb⟩
    · skip
      unfold vl at *
      have HA := Lib.hid hA
      have HB := Lib.hid hB
      have HC := Lib.hid hC
      have HD := Lib.hid hD
      have HE := Lib.hid hE
      have HF := Lib.hid hF
      have HC1 := Lib.hid C1
      have HC2 := Lib.hid C2
      have HC3 := Lib.hid C3
      have HC4 := Lib.hid C4
      unfold Tl at HC1 HC2 HC3 HC4
      clear hA hB hC hD hE hF C1 C2 C3 C4
      have b3 := ((Blk.new w ((fq a1) ++ (fq a2)) 66 rfl).old (.cells ((fq c1) ++ (fq c2)).toArray 66)).old (.cells (E ++ F).toArray 66)
      have b4 := (Blk.new (w.alloc (.cells ((fq a1) ++ (fq a2)).toArray 66)) ((fq c1) ++ (fq c2)) 66 (b := w.heap.size + 1) (by simp)).old (.cells (E ++ F).toArray 66)
      have b5 := Blk.new ((w.alloc (.cells ((fq a1) ++ (fq a2)).toArray 66)).alloc (.cells ((fq c1) ++ (fq c2)).toArray 66)) (E ++ F) 66 (b := w.heap.size + 1 + 1) (by simp)
      have hb : Below w.heap.size w (((w.alloc (.cells ((fq a1) ++ (fq a2)).toArray 66)).alloc (.cells ((fq c1) ++ (fq c2)).toArray 66)).alloc (.cells (E ++ F).toArray 66)) := (((Below.refl _ _).alloc (Nat.le_refl _) _).alloc (by simp) _).alloc (by simp; omega) _
      go_enter Try.func11, Try.ntmps11
      go_wp2_with fail
      refine (known3_any _).mono ?_
      rintro e w1 ⟨rfl, h1⟩
      replace b3 := b3.call h1
      replace b4 := b4.call h1
      replace b5 := b5.call h1
      replace hb := bthen hb h1
      clear h1
      go_wp2_with (first | (with_reducible refine ldPt rfl rfl rfl b3 HA.out HB.out ?_) | (with_reducible refine ldPt rfl rfl rfl b4 HC.out HD.out ?_) | (with_reducible refine ldPt rfl rfl rfl b5 HE.out HF.out ?_))
      refine (HC1.out _).mono ?_
      rintro e w1 ⟨rfl, h1⟩
      replace b3 := b3.call h1
      replace b4 := b4.call h1
      replace b5 := b5.call h1
      replace hb := bthen hb h1
      clear h1
      go_wp2_with (first | (with_reducible refine ldPt rfl rfl rfl b3 HA.out HB.out ?_) | (with_reducible refine ldPt rfl rfl rfl b4 HC.out HD.out ?_) | (with_reducible refine ldPt rfl rfl rfl b5 HE.out HF.out ?_))
      refine (HC2.out _).mono ?_
      rintro e w1 ⟨rfl, h1⟩
      replace b3 := b3.call h1
      replace b4 := b4.call h1
      replace b5 := b5.call h1
      replace hb := bthen hb h1
      clear h1
      go_wp2_with (first | (with_reducible refine ldPt rfl rfl rfl b3 HA.out HB.out ?_) | (with_reducible refine ldPt rfl rfl rfl b4 HC.out HD.out ?_) | (with_reducible refine ldPt rfl rfl rfl b5 HE.out HF.out ?_))
      refine (HC3.out _).mono ?_
      rintro e w1 ⟨rfl, h1⟩
      replace b3 := b3.call h1
      replace b4 := b4.call h1
      replace b5 := b5.call h1
      replace hb := bthen hb h1
      clear h1
      go_wp2_with (first | (with_reducible refine ldPt rfl rfl rfl b3 HA.out HB.out ?_) | (with_reducible refine ldPt rfl rfl rfl b4 HC.out HD.out ?_) | (with_reducible refine ldPt rfl rfl rfl b5 HE.out HF.out ?_))
      refine (HC4.out _).mono ?_
      rintro e w1 ⟨rfl, h1⟩
      replace b3 := b3.call h1
      replace b4 := b4.call h1
      replace b5 := b5.call h1
      replace hb := bthen hb h1
      clear h1
      go_wp2_with (first | (refine ldPtg (by rfl) rfl rfl b3 HA.out HB.out ?_) | (refine ldPtg (by rfl) rfl rfl b4 HC.out HD.out ?_) | (refine eqPgb (by rfl) rfl rfl rfl HQ.out.1 HQ.out.2.1 HQ.out.2.2.1 HQ.out.2.2.2.1 HQ.out.2.2.2.2 ?_))
      go_ret
      exact ⟨rfl, hb⟩
    · skip
      unfold vl at *
      have HA := Lib.hid hA
      have HB := Lib.hid hB
      have HC := Lib.hid hC
      have HD := Lib.hid hD
      have HE := Lib.hid hE
      have HF := Lib.hid hF
      have HC1 := Lib.hid C1
      have HC2 := Lib.hid C2
      have HC3 := Lib.hid C3
      have HC4 := Lib.hid C4
      unfold Tl at HC1 HC2 HC3 HC4
      clear hA hB hC hD hE hF C1 C2 C3 C4
      have b3 := ((Blk.new w ((fq a1) ++ (fq a2)) 66 rfl).old (.cells ((fq c1) ++ (fq c2)).toArray 66)).old (.cells (E ++ F).toArray 66)
      have b4 := (Blk.new (w.alloc (.cells ((fq a1) ++ (fq a2)).toArray 66)) ((fq c1) ++ (fq c2)) 66 (b := w.heap.size + 1) (by simp)).old (.cells (E ++ F).toArray 66)
      have b5 := Blk.new ((w.alloc (.cells ((fq a1) ++ (fq a2)).toArray 66)).alloc (.cells ((fq c1) ++ (fq c2)).toArray 66)) (E ++ F) 66 (b := w.heap.size + 1 + 1) (by simp)
      have hb : Below w.heap.size w (((w.alloc (.cells ((fq a1) ++ (fq a2)).toArray 66)).alloc (.cells ((fq c1) ++ (fq c2)).toArray 66)).alloc (.cells (E ++ F).toArray 66)) := (((Below.refl _ _).alloc (Nat.le_refl _) _).alloc (by simp) _).alloc (by simp; omega) _
      go_enter Try.func11, Try.ntmps11
      go_wp2_with fail
      refine (known3_any _).mono ?_
      rintro e w1 ⟨rfl, h1⟩
      replace b3 := b3.call h1
      replace b4 := b4.call h1
      replace b5 := b5.call h1
      replace hb := bthen hb h1
      clear h1
      go_wp2_with (first | (with_reducible refine ldPt rfl rfl rfl b3 HA.out HB.out ?_) | (with_reducible refine ldPt rfl rfl rfl b4 HC.out HD.out ?_) | (with_reducible refine ldPt rfl rfl rfl b5 HE.out HF.out ?_))
      refine (HC1.out _).mono ?_
      rintro e w1 ⟨rfl, h1⟩
      replace b3 := b3.call h1
      replace b4 := b4.call h1
      replace b5 := b5.call h1
      replace hb := bthen hb h1
      clear h1
      go_wp2_with (first | (with_reducible refine ldPt rfl rfl rfl b3 HA.out HB.out ?_) | (with_reducible refine ldPt rfl rfl rfl b4 HC.out HD.out ?_) | (with_reducible refine ldPt rfl rfl rfl b5 HE.out HF.out ?_))
      refine (HC2.out _).mono ?_
      rintro e w1 ⟨rfl, h1⟩
      replace b3 := b3.call h1
      replace b4 := b4.call h1
      replace b5 := b5.call h1
      replace hb := bthen hb h1
      clear h1
      go_wp2_with (first | (with_reducible refine ldPt rfl rfl rfl b3 HA.out HB.out ?_) | (with_reducible refine ldPt rfl rfl rfl b4 HC.out HD.out ?_) | (with_reducible refine ldPt rfl rfl rfl b5 HE.out HF.out ?_))
      refine (HC3.out _).mono ?_
      rintro e w1 ⟨rfl, h1⟩
      replace b3 := b3.call h1
      replace b4 := b4.call h1
      replace b5 := b5.call h1
      replace hb := bthen hb h1
      clear h1
      go_wp2_with (first | (with_reducible refine ldPt rfl rfl rfl b3 HA.out HB.out ?_) | (with_reducible refine ldPt rfl rfl rfl b4 HC.out HD.out ?_) | (with_reducible refine ldPt rfl rfl rfl b5 HE.out HF.out ?_))
      refine (HC4.out _).mono ?_
      rintro e w1 ⟨rfl, h1⟩
      replace b3 := b3.call h1
      replace b4 := b4.call h1
      replace b5 := b5.call h1
      replace hb := bthen hb h1
      clear h1
      go_wp2_with (first | (refine ldPtg (by rfl) rfl rfl b3 HA.out HB.out ?_) | (refine ldPtg (by rfl) rfl rfl b4 HC.out HD.out ?_) | (refine eqPgb (by rfl) rfl rfl rfl HQ.out.1 HQ.out.2.1 HQ.out.2.2.1 HQ.out.2.2.2.1 HQ.out.2.2.2.2 ?_))
      go_ret
      exact ⟨rfl, hb⟩
end Go.Proofs.Ytiaikjeljhfadaa
