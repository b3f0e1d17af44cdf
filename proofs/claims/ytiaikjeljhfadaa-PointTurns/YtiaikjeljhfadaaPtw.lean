/- What PointTurns answers. -/
import Derived.Test.YtiaikjeljhfadaaPka
import Derived.Test.YtiaikjeljhfadaaOpp
namespace Go.Proofs.Ytiaikjeljhfadaa
set_option linter.unusedSimpArgs false
set_option linter.unusedVariables false
open Go.RowKit
set_option maxRecDepth 100000
theorem op_neI {o : Oper} {a : Act} {x y : Operand} {ty : TypeId} {m : Int} (ho : o.op = .binOp .neq 3 x y ty) (hx : a.eval x = .int .i64 m) (hy : a.eval y = .int .i64 m) (w : World) :
    (execOp a.eval o).run Try.prog w = .ok (.value (.bool false)) w := by
  unfold execOp
  simp only [ho, hx, hy]
  go_simp <;> simp
theorem op_negI {o : Oper} {a : Act} {x : Operand} {m k : Int} (h : IntKind.i64.wrap (-m) = k) (ho : o.op = .unOp .neg 3 x) (hx : a.eval x = .int .i64 m) (w : World) :
    (execOp a.eval o).run Try.prog w = .ok (.value (.int .i64 k)) w := by
  subst h
  unfold execOp
  simp only [ho, hx]
  go_simp <;> rfl
theorem op_neqs {o : Oper} {a : Act} {p q : Operand} {x : Rat} {ty : TypeId} (hx : Fq2 x) (ho : o.op = .binOp .neq 45 p q ty) (hp : a.eval p = .agg (fq x).toArray) (hq : a.eval q = .agg (fq x).toArray) (w : World) :
    (execOp a.eval o).run Try.prog w = .ok (.value (.bool false)) w := by
  have := op_neqR hx.1 hx.2 hx.1 hx.2 ho hp hq w
  rwa [decide_eq_true ⟨rfl, rfl⟩] at this
theorem op_nebs {o : Oper} {a : Act} {x y : Operand} {ty : TypeId} {s : Bool} (ho : o.op = .binOp .neq 4 x y ty) (hx : a.eval x = .bool s) (hy : a.eval y = .bool s) (w : World) :
    (execOp a.eval o).run Try.prog w = .ok (.value (.bool false)) w := by
  have := op_neb ho hx hy w
  rwa [show (s != s) = false by cases s <;> rfl] at this
section
variable {ops : Array Oper} {rest : List Oper} {o : Oper} {a : Act} {w : World} {Q : Exit → Act → World → Prop}
theorem eqqg {p q : Operand} {x : Rat} {ty : TypeId} (hw : Region.wanted o (yielded ops a.tmps) = true) (ho : o.op = .binOp .eql 45 p q ty) (hp : a.eval p = .agg (fq x).toArray) (hq : a.eval q = .agg (fq x).toArray) (hx : Fq2 x)
    (hr : wpList Try.prog ops Q rest (a.put o.dst (.bool true)) w) : wpList Try.prog ops Q (o :: rest) a w :=
  BigFrame.wpList_want hw fun _ hK => by
    have := hK _ _ hr
    unfold Oper.wp
    rw [op_eqq hx hx (decide_eq_true rfl) ho hp hq w]
    exact this
theorem ldAg {t : TypeId} {x : Operand} {b : Nat} {A : List Value} (hw : Region.wanted o (yielded ops a.tmps) = true) (ho : o.op = .load 45 x) (hx : a.eval x = .pointer (some ⟨b, 0, none⟩)) (h : Blk w b A t) (hA : Rc A)
    (hr : wpList Try.prog ops Q rest (a.put o.dst (.agg A.toArray)) w) : wpList Try.prog ops Q (o :: rest) a w := ldPg hw ho hx h (part_all _) hA.whole hr
end
set_option maxHeartbeats 2000000 in
theorem pturn_a {A B C D E F : List Value} (hA : Rc A) (hB : Rc B) (hC : Rc C) (hD : Rc D) (hE : Rc E) (hF : Rc F) (I1 : Tl 56 #[vl (A ++ B)] (.bool false)) (w : World) :
    Calls Try.prog 9 #[vl (A ++ B), vl (C ++ D), vl (E ++ F)] w fun e w' => e = .returned (.bool true) ∧ Below w.heap.size w w' := by
  have HI1 := Lib.hid I1
  unfold Tl vl at HI1
  clear I1
  unfold vl at *
  have HA := Lib.hid hA
  have HB := Lib.hid hB
  have HC := Lib.hid hC
  have HD := Lib.hid hD
  have HE := Lib.hid hE
  have HF := Lib.hid hF
  clear hA hB hC hD hE hF
  have b3 := ((Blk.new w (A ++ B) 66 rfl).old (.cells (C ++ D).toArray 66)).old (.cells (E ++ F).toArray 66)
  have b4 := (Blk.new (w.alloc (.cells (A ++ B).toArray 66)) (C ++ D) 66 (b := w.heap.size + 1) (by simp)).old (.cells (E ++ F).toArray 66)
  have b5 := Blk.new ((w.alloc (.cells (A ++ B).toArray 66)).alloc (.cells (C ++ D).toArray 66)) (E ++ F) 66 (b := w.heap.size + 1 + 1) (by simp)
  have hb : Below w.heap.size w (((w.alloc (.cells (A ++ B).toArray 66)).alloc (.cells (C ++ D).toArray 66)).alloc (.cells (E ++ F).toArray 66)) := (((Below.refl _ _).alloc (Nat.le_refl _) _).alloc (by simp) _).alloc (by simp; omega) _
  go_enter Try.func9, Try.ntmps9
  go_wp2_with fail
  refine (known3_any _).mono ?_
  rintro e w1 ⟨rfl, h1⟩
  replace b3 := b3.call h1
  replace b4 := b4.call h1
  replace b5 := b5.call h1
  replace hb := bthen hb h1
  clear h1
  go_wp2_with (first | (with_reducible refine ldPt rfl rfl rfl b3 HA.out HB.out ?_))
  refine (HI1.out _).mono ?_
  rintro e w1 ⟨rfl, h1⟩
  replace b3 := b3.call h1
  replace b4 := b4.call h1
  replace b5 := b5.call h1
  replace hb := bthen hb h1
  clear h1
  go_wp2
  go_ret
  exact ⟨rfl, hb⟩
set_option maxHeartbeats 2000000 in
theorem pturn_b {A B C D E F : List Value} (hA : Rc A) (hB : Rc B) (hC : Rc C) (hD : Rc D) (hE : Rc E) (hF : Rc F) (I1 : Tl 56 #[vl (A ++ B)] (.bool true)) (I2 : Tl 56 #[vl (C ++ D)] (.bool false)) (w : World) :
    Calls Try.prog 9 #[vl (A ++ B), vl (C ++ D), vl (E ++ F)] w fun e w' => e = .returned (.bool true) ∧ Below w.heap.size w w' := by
  have HI1 := Lib.hid I1
  have HI2 := Lib.hid I2
  unfold Tl vl at HI1 HI2
  clear I1 I2
  unfold vl at *
  have HA := Lib.hid hA
  have HB := Lib.hid hB
  have HC := Lib.hid hC
  have HD := Lib.hid hD
  have HE := Lib.hid hE
  have HF := Lib.hid hF
  clear hA hB hC hD hE hF
  have b3 := ((Blk.new w (A ++ B) 66 rfl).old (.cells (C ++ D).toArray 66)).old (.cells (E ++ F).toArray 66)
  have b4 := (Blk.new (w.alloc (.cells (A ++ B).toArray 66)) (C ++ D) 66 (b := w.heap.size + 1) (by simp)).old (.cells (E ++ F).toArray 66)
  have b5 := Blk.new ((w.alloc (.cells (A ++ B).toArray 66)).alloc (.cells (C ++ D).toArray 66)) (E ++ F) 66 (b := w.heap.size + 1 + 1) (by simp)
  have hb : Below w.heap.size w (((w.alloc (.cells (A ++ B).toArray 66)).alloc (.cells (C ++ D).toArray 66)).alloc (.cells (E ++ F).toArray 66)) := (((Below.refl _ _).alloc (Nat.le_refl _) _).alloc (by simp) _).alloc (by simp; omega) _
  go_enter Try.func9, Try.ntmps9
  go_wp2_with fail
  refine (known3_any _).mono ?_
  rintro e w1 ⟨rfl, h1⟩
  replace b3 := b3.call h1
  replace b4 := b4.call h1
  replace b5 := b5.call h1
  replace hb := bthen hb h1
  clear h1
  go_wp2_with (first | (with_reducible refine ldPt rfl rfl rfl b3 HA.out HB.out ?_))
  refine (HI1.out _).mono ?_
  rintro e w1 ⟨rfl, h1⟩
  replace b3 := b3.call h1
  replace b4 := b4.call h1
  replace b5 := b5.call h1
  replace hb := bthen hb h1
  clear h1
  go_wp2_with (first | (refine ldPtg (by rfl) rfl rfl b4 HC.out HD.out ?_))
  refine (HI2.out _).mono ?_
  rintro e w1 ⟨rfl, h1⟩
  replace hb := bthen hb h1
  clear h1
  go_wp2
  go_ret
  exact ⟨rfl, hb⟩
set_option maxHeartbeats 2000000 in
theorem pturn_c {A B C D E F : List Value} (hA : Rc A) (hB : Rc B) (hC : Rc C) (hD : Rc D) (hE : Rc E) (hF : Rc F) (I1 : Tl 56 #[vl (A ++ B)] (.bool true)) (I2 : Tl 56 #[vl (C ++ D)] (.bool true)) (I3 : Tl 56 #[vl (E ++ F)] (.bool false)) (w : World) :
    Calls Try.prog 9 #[vl (A ++ B), vl (C ++ D), vl (E ++ F)] w fun e w' => e = .returned (.bool true) ∧ Below w.heap.size w w' := by
  have HI1 := Lib.hid I1
  have HI2 := Lib.hid I2
  have HI3 := Lib.hid I3
  unfold Tl vl at HI1 HI2 HI3
  clear I1 I2 I3
  unfold vl at *
  have HA := Lib.hid hA
  have HB := Lib.hid hB
  have HC := Lib.hid hC
  have HD := Lib.hid hD
  have HE := Lib.hid hE
  have HF := Lib.hid hF
  clear hA hB hC hD hE hF
  have b3 := ((Blk.new w (A ++ B) 66 rfl).old (.cells (C ++ D).toArray 66)).old (.cells (E ++ F).toArray 66)
  have b4 := (Blk.new (w.alloc (.cells (A ++ B).toArray 66)) (C ++ D) 66 (b := w.heap.size + 1) (by simp)).old (.cells (E ++ F).toArray 66)
  have b5 := Blk.new ((w.alloc (.cells (A ++ B).toArray 66)).alloc (.cells (C ++ D).toArray 66)) (E ++ F) 66 (b := w.heap.size + 1 + 1) (by simp)
  have hb : Below w.heap.size w (((w.alloc (.cells (A ++ B).toArray 66)).alloc (.cells (C ++ D).toArray 66)).alloc (.cells (E ++ F).toArray 66)) := (((Below.refl _ _).alloc (Nat.le_refl _) _).alloc (by simp) _).alloc (by simp; omega) _
  go_enter Try.func9, Try.ntmps9
  go_wp2_with fail
  refine (known3_any _).mono ?_
  rintro e w1 ⟨rfl, h1⟩
  replace b3 := b3.call h1
  replace b4 := b4.call h1
  replace b5 := b5.call h1
  replace hb := bthen hb h1
  clear h1
  go_wp2_with (first | (with_reducible refine ldPt rfl rfl rfl b3 HA.out HB.out ?_))
  refine (HI1.out _).mono ?_
  rintro e w1 ⟨rfl, h1⟩
  replace b3 := b3.call h1
  replace b4 := b4.call h1
  replace b5 := b5.call h1
  replace hb := bthen hb h1
  clear h1
  go_wp2_with (first | (refine ldPtg (by rfl) rfl rfl b4 HC.out HD.out ?_))
  refine (HI2.out _).mono ?_
  rintro e w1 ⟨rfl, h1⟩
  replace b5 := b5.call h1
  replace hb := bthen hb h1
  clear h1
  go_wp2_with (first | (refine ldPtg (by rfl) rfl rfl b5 HE.out HF.out ?_))
  refine (HI3.out _).mono ?_
  rintro e w1 ⟨rfl, h1⟩
  replace hb := bthen hb h1
  clear h1
  go_wp2
  go_ret
  exact ⟨rfl, hb⟩
end Go.Proofs.Ytiaikjeljhfadaa
