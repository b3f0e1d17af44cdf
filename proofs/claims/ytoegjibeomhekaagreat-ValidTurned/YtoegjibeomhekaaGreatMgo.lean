/- The reference's fractions: rat, New, Of. -/
import Derived.Test.YtoegjibeomhekaaGreatMgn
namespace Go.Proofs.YtoegjibeomhekaaGreat
set_option linter.unusedSimpArgs false
set_option linter.unusedVariables false
open Go.RowKit
set_option maxRecDepth 100000
theorem wideZ_any {v : Value} {M : Nat} {w : World} (s : Bool) (h : Mv w v M) (h32 : nw M ≤ 32) : Calls Tryz.prog 41 #[.bool s, v] w fun e w' => e = .returned (.tuple #[.agg (mk (zn s M)).toArray, .bool true]) ∧ Below w.heap.size w w' := by
  have := wideM_any s h h32
  rwa [wd_mk] at this
theorem frac_q {n d : Int} (hd : d ≠ 0) : zn (decide (n < 0) != decide (d < 0)) (n.natAbs / Nat.gcd n.natAbs d.natAbs) = (Rat.divInt n d).num ∧ zn false (d.natAbs / Nat.gcd n.natAbs d.natAbs) = (Rat.divInt n d).den := by
  obtain ⟨g, hg⟩ : ∃ g, Nat.gcd n.natAbs d.natAbs = g := ⟨_, rfl⟩
  have hgd : g ∣ d.natAbs := hg ▸ Nat.gcd_dvd_right _ _
  have hgn : g ∣ n.natAbs := hg ▸ Nat.gcd_dvd_left _ _
  have hg0 : 0 < g := Nat.pos_of_dvd_of_pos hgd (by omega)
  have hgc : Nat.gcd (n.natAbs / g) (d.natAbs / g) = 1 := by
    rw [Nat.gcd_div hgn hgd, hg, Nat.div_self hg0]
  rw [hg]
  have hdp : 0 < d.natAbs / g := Nat.div_pos (Nat.le_of_dvd (by omega) hgd) hg0
  refine q_of ⟨?_, ?_⟩ hd ?_
  · unfold zn; simp; omega
  · unfold Cop Int.gcd
    rw [zn_abs, zn_abs]; exact hgc
  · obtain ⟨x, hx⟩ := hgn
    obtain ⟨y, hy⟩ := hgd
    have ex : n.natAbs / g = x := by rw [hx, Nat.mul_div_cancel_left _ hg0]
    have ey : d.natAbs / g = y := by rw [hy, Nat.mul_div_cancel_left _ hg0]
    rw [ex, ey]
    have e1 : n = zn (decide (n < 0)) (g * x) := by rw [← hx, zn_self]
    have e2 : d = zn (decide (d < 0)) (g * y) := by rw [← hy, zn_self]
    generalize decide (n < 0) = s at *
    generalize decide (d < 0) = t at *
    rw [e1, e2, zn_mul, zn_mul]
    congr 1
    · cases s <;> cases t <;> rfl
    · simp only [Nat.mul_comm, Nat.mul_left_comm]
theorem op_neb {o : Oper} {a : Act} {x y : Operand} {ty : TypeId} {s t : Bool} (ho : o.op = .binOp .neq 4 x y ty) (hx : a.eval x = .bool s) (hy : a.eval y = .bool t) (w : World) :
    (execOp a.eval o).run Tryz.prog w = .ok (.value (.bool (s != t))) w := by
  unfold execOp
  simp only [ho, hx, hy]
  cases s <;> cases t <;> (go_simp <;> rfl)
end Go.Proofs.YtoegjibeomhekaaGreat
