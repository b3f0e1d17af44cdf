/- What LineGrid answers. -/
import Derived.Test.YtkknaigpdnokkaaGreatLgq
import Derived.Test.YtkknaigpdnokkaaGreatLni
namespace Go.Proofs.YtkknaigpdnokkaaGreat
set_option linter.unusedSimpArgs false
set_option linter.unusedVariables false
open Go.RowKit
set_option maxRecDepth 100000
section
variable {ops : Array Oper} {rest : List Oper} {o : Oper} {a : Act} {w : World} {Q : Exit → Act → World → Prop}
theorem mulI {x y : Operand} {ty : TypeId} {m k q : Int} (h : m * k = q) (hq : -9223372036854775808 ≤ q ∧ q ≤ 9223372036854775807) (hgd : o.guard = none) (ho : o.op = .binOp .mul 3 x y ty) (hx : a.eval x = .int .i64 m) (hy : a.eval y = .int .i64 k)
    (hr : wpList Tryz.prog ops Q rest (a.put o.dst (.int .i64 q)) w) : wpList Tryz.prog ops Q (o :: rest) a w :=
  wpList_plain hgd fun K hK => by
    have := hK _ _ hr
    unfold Oper.wp
    rw [op_mul h hq ho hx hy w]
    exact this
theorem mulIg {x y : Operand} {ty : TypeId} {m k q : Int} (h : m * k = q) (hq : -9223372036854775808 ≤ q ∧ q ≤ 9223372036854775807) (hw : Region.wanted o (yielded ops a.tmps) = true) (ho : o.op = .binOp .mul 3 x y ty) (hx : a.eval x = .int .i64 m) (hy : a.eval y = .int .i64 k)
    (hr : wpList Tryz.prog ops Q rest (a.put o.dst (.int .i64 q)) w) : wpList Tryz.prog ops Q (o :: rest) a w :=
  BigFrame.wpList_want hw fun _ hK => by
    have := hK _ _ hr
    unfold Oper.wp
    rw [op_mul h hq ho hx hy w]
    exact this
end
def sgi (n : Int) : Int := if 0 < n then 1 else if n < 0 then -1 else 0
theorem mul_rng {x y : Int} (hx : -255 ≤ x ∧ x ≤ 255) (hy : -255 ≤ y ∧ y ≤ 255) : -65025 ≤ x * y ∧ x * y ≤ 65025 := by
  have : (x * y).natAbs ≤ 255 * 255 := by rw [Int.natAbs_mul]; exact Nat.mul_le_mul (by omega) (by omega)
  omega
def I8 (x : Int) : Prop := -128 ≤ x ∧ x ≤ 127
theorem sd_int (a b c d e f : Int) : sd (a : Rat) (b : Rat) (c : Rat) (d : Rat) (e : Rat) (f : Rat) = sgi ((c - a) * (f - b) - (d - b) * (e - a)) := by
  have hc : crs (a : Rat) (b : Rat) (c : Rat) (d : Rat) (e : Rat) (f : Rat) = (((c - a) * (f - b) - (d - b) * (e - a) : Int) : Rat) := by
    unfold crs
    rw [Rat.intCast_sub, Rat.intCast_mul, Rat.intCast_mul, Rat.intCast_sub, Rat.intCast_sub, Rat.intCast_sub, Rat.intCast_sub]
  unfold sd sgi
  rw [hc]
  generalize (c - a) * (f - b) - (d - b) * (e - a) = n
  unfold cq
  have h1 : ((n : Rat) < 0) ↔ n < 0 := by
    have := Rat.intCast_lt_intCast (a := n) (b := 0)
    simpa using this
  have h2 : ((0 : Rat) < (n : Rat)) ↔ 0 < n := by
    have := Rat.intCast_lt_intCast (a := 0) (b := n)
    simpa using this
  rcases Int.lt_trichotomy n 0 with h | h | h
  · rw [if_pos (h1.2 h), if_neg (by omega), if_pos h]
  · rw [if_neg (fun k => by have := h1.1 k; omega), if_neg (fun k => by have := h2.1 k; omega), if_neg (by omega), if_neg (by omega)]
  · rw [if_neg (fun k => by have := h1.1 k; omega), if_pos (h2.2 h), if_pos h]
theorem sgi_rng (n : Int) : sgi n = -1 ∨ sgi n = 0 ∨ sgi n = 1 := by unfold sgi; split; simp; split <;> simp
theorem sg2_rng (n m : Int) : sgi n * sgi m = -1 ∨ sgi n * sgi m = 0 ∨ sgi n * sgi m = 1 := by
  rcases sgi_rng n with h | h | h <;> rcases sgi_rng m with h' | h' | h' <;> rw [h, h'] <;> decide
end Go.Proofs.YtkknaigpdnokkaaGreat
