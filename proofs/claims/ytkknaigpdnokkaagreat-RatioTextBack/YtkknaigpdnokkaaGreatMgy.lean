/- The reference's numbers: DivMod, Int; what isn't an int. -/
import Derived.Test.YtkknaigpdnokkaaGreatMgx
namespace Go.Proofs.YtkknaigpdnokkaaGreat
set_option linter.unusedSimpArgs false
set_option linter.unusedVariables false
open Go.RowKit
set_option maxRecDepth 100000
theorem Mv.keep {w0 w : World} {v : Value} {M : Nat} (h : Mv w0 v M) (hK : Keep [] w0 w) : Mv w v M := by
  rcases h with h | ⟨b, c, e, hc, hl, hx⟩
  · exact .inl h
  · exact .inr ⟨b, c, e, hc, Nat.lt_of_lt_of_le hl hK.1, fun i hi => by
      have := hx i hi
      unfold World.cell? at this ⊢
      rw [hK.2 b hl (by simp)]; exact this⟩
section
variable {ops : Array Oper} {rest : List Oper} {o : Oper} {a : Act} {w : World} {Q : Exit → Act → World → Prop}
theorem ldWp {t : TypeId} {x : Operand} {b : Nat} {s : Bool} {N : Nat} (hgd : o.guard = none) (ho : o.op = .load 25 x) (hx : a.eval x = .pointer (some ⟨b, 0, none⟩)) (h : Blk w b (wd s N) t)
    (hr : wpList Tryz.prog ops Q rest (a.put o.dst (.agg (wd s N).toArray)) w) : wpList Tryz.prog ops Q (o :: rest) a w := ldP hgd ho hx h (fun j v hv => by rw [Nat.zero_add]; exact hv) (whole25 _ _) hr
end
end Go.Proofs.YtkknaigpdnokkaaGreat
