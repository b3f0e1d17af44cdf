/- Package line: order, less, times, by; spans and boxes. -/
import Derived.Test.YtckolhalggcenaaGreatLna
namespace Go.Proofs.YtckolhalggcenaaGreat
set_option linter.unusedSimpArgs false
set_option linter.unusedVariables false
open Go.RowKit
set_option maxRecDepth 100000
theorem op_mul {o : Oper} {a : Act} {x y : Operand} {ty : TypeId} {m k q : Int} (h : m * k = q) (hq : -9223372036854775808 ≤ q ∧ q ≤ 9223372036854775807) (ho : o.op = .binOp .mul 3 x y ty) (hx : a.eval x = .int .i64 m) (hy : a.eval y = .int .i64 k) (w : World) :
    (execOp a.eval o).run Tryz.prog w = .ok (.value (.int .i64 q)) w := by
  subst h
  have hw : IntKind.i64.wrap (m * k) = m * k := IntWalk.i64_in _ hq
  unfold execOp
  simp only [ho, hx, hy]
  go_simp <;> simp_all
theorem op_gez {o : Oper} {a : Act} {x : Operand} {ty : TypeId} {m : Int} {b : Bool} (h : decide (0 ≤ m) = b) (ho : o.op = .binOp .geq 3 x (.const (.int .i64 0)) ty) (hx : a.eval x = .int .i64 m) (w : World) :
    (execOp a.eval o).run Tryz.prog w = .ok (.value (.bool b)) w := by
  subst h
  unfold execOp
  simp only [ho, hx, BigFrame.eval_const]
  go_simp <;> rfl
theorem op_ltz {o : Oper} {a : Act} {x : Operand} {ty : TypeId} {m : Int} {b : Bool} (h : decide (m < 0) = b) (ho : o.op = .binOp .lss 3 x (.const (.int .i64 0)) ty) (hx : a.eval x = .int .i64 m) (w : World) :
    (execOp a.eval o).run Tryz.prog w = .ok (.value (.bool b)) w := by
  subst h
  unfold execOp
  simp only [ho, hx, BigFrame.eval_const]
  go_simp <;> rfl
/-- x isn't on one side of both. -/
def hq (a b x : Rat) : Bool := decide (0 ≤ cq a x * cq x b)
theorem cq2 (a b x y : Rat) : -9223372036854775808 ≤ cq a b * cq x y ∧ cq a b * cq x y ≤ 9223372036854775807 := by
  rcases cq_rng a b with h | h | h <;> rcases cq_rng x y with h' | h' | h' <;> rw [h, h'] <;> decide
/-- Two spans have a number in common. -/
def oq (a b c d : Rat) : Bool := hq a b c || (hq a b d || hq c d a)
end Go.Proofs.YtckolhalggcenaaGreat
