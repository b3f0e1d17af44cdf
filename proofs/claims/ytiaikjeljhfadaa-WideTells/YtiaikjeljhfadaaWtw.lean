/- What WideTells answers. -/
import Derived.Test.YtiaikjeljhfadaaMgw
import Derived.Test.YtiaikjeljhfadaaMgi
import Derived.Test.YtiaikjeljhfadaaKno
namespace Go.Proofs.Ytiaikjeljhfadaa
set_option linter.unusedSimpArgs false
set_option linter.unusedVariables false
open Go.RowKit
set_option maxRecDepth 100000
theorem op_ebs {o : Oper} {a : Act} {x y : Operand} {ty : TypeId} {s : Bool} (ho : o.op = .binOp .eql 4 x y ty) (hx : a.eval x = .bool s) (hy : a.eval y = .bool s) (w : World) :
    (execOp a.eval o).run Try.prog w = .ok (.value (.bool true)) w := by
  unfold execOp
  simp only [ho, hx, hy]
  cases s <;> go_simp
theorem op_eij {o : Oper} {a : Act} {x y : Operand} {ty : TypeId} {m : Int} (ho : o.op = .binOp .eql 2 x y ty) (hx : a.eval x = .int .i64 m) (hy : a.eval y = .int .i64 m) (w : World) :
    (execOp a.eval o).run Try.prog w = .ok (.value (.bool true)) w := by
  unfold execOp
  simp only [ho, hx, hy]
  go_simp <;> simp
theorem op_eii {o : Oper} {a : Act} {x y : Operand} {ty : TypeId} {m : Int} (ho : o.op = .binOp .eql 3 x y ty) (hx : a.eval x = .int .i64 m) (hy : a.eval y = .int .i64 m) (w : World) :
    (execOp a.eval o).run Try.prog w = .ok (.value (.bool true)) w := by
  unfold execOp
  simp only [ho, hx, hy]
  go_simp <;> simp
theorem op_ess {o : Oper} {a : Act} {x y : Operand} {ty : TypeId} {s : ByteArray} (ho : o.op = .binOp .eql 9 x y ty) (hx : a.eval x = .string s) (hy : a.eval y = .string s) (w : World) :
    (execOp a.eval o).run Try.prog w = .ok (.value (.bool true)) w := by
  unfold execOp
  simp only [ho, hx, hy]
  go_simp <;> simp
section
variable {ops : Array Oper} {rest : List Oper} {o : Oper} {a : Act} {w : World} {Q : Exit → Act → World → Prop}
theorem neMs {x y : Operand} {z : Int} {ty : TypeId} (hgd : o.guard = none) (ho : o.op = .binOp .neq 25 x y ty) (hx : a.eval x = .agg (mk z).toArray) (hy : a.eval y = .agg (mk z).toArray) (hz : fits z)
    (hr : wpList Try.prog ops Q rest (a.put o.dst (.bool false)) w) : wpList Try.prog ops Q (o :: rest) a w :=
  wpList_plain hgd fun _ hK => by
    have := hK _ _ hr
    unfold Oper.wp
    rw [op_neqM hz ho hx hy w]
    exact this
theorem neMg {x y : Operand} {z : Int} {ty : TypeId} (hw : Region.wanted o (yielded ops a.tmps) = true) (ho : o.op = .binOp .neq 25 x y ty) (hx : a.eval x = .agg (mk z).toArray) (hy : a.eval y = .agg (mk z).toArray) (hz : fits z)
    (hr : wpList Try.prog ops Q rest (a.put o.dst (.bool false)) w) : wpList Try.prog ops Q (o :: rest) a w :=
  BigFrame.wpList_want hw fun _ hK => by
    have := hK _ _ hr
    unfold Oper.wp
    rw [op_neqM hz ho hx hy w]
    exact this
theorem nebg {x y : Operand} {s : Bool} {ty : TypeId} (hw : Region.wanted o (yielded ops a.tmps) = true) (ho : o.op = .binOp .neq 4 x y ty) (hx : a.eval x = .bool s) (hy : a.eval y = .bool s)
    (hr : wpList Try.prog ops Q rest (a.put o.dst (.bool false)) w) : wpList Try.prog ops Q (o :: rest) a w :=
  BigFrame.wpList_want hw fun _ hK => by
    have := hK _ _ hr
    unfold Oper.wp
    have e := op_neb ho hx hy w
    rw [show (s != s) = false by cases s <;> rfl] at e
    rw [e]
    exact this
end
end Go.Proofs.Ytiaikjeljhfadaa
