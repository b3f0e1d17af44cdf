/- What known answers, of points. -/
import Derived.Test.YtoegjibeomhekaaGreatPke
namespace Go.Proofs.YtoegjibeomhekaaGreat
set_option linter.unusedSimpArgs false
set_option linter.unusedVariables false
open Go.RowKit
set_option maxRecDepth 100000
section
variable {ops : Array Oper} {rest : List Oper} {o : Oper} {a : Act} {w : World} {Q : Exit → Act → World → Prop}
theorem alP2 {ob : Obj} (hgd : o.guard = none) (ho : o.op = .alloc 47)
    (hr : wpList Tryz.prog ops Q rest (a.put o.dst (.pointer (some ⟨w.heap.size + 1, 0, none⟩))) ((w.alloc ob).alloc (.cells p0.toArray 47))) : wpList Tryz.prog ops Q (o :: rest) a (w.alloc ob) :=
  alP hgd ho (by rw [show (w.alloc ob).heap.size = w.heap.size + 1 by simp]; exact hr)
theorem stP0 {t : TypeId} {x y : Operand} {b : Nat} {cs : List Value} (hgd : o.guard = none) (ho : o.op = .store 47 x y) (hx : a.eval x = .pointer (some ⟨b, 0, none⟩)) (hy : a.eval y = .agg p0.toArray) (h : Blk w b cs t) (hl : cs.length = 132)
    (hr : wpList Tryz.prog ops Q rest (a.put o.dst undef) (w.setRow b p0.toArray)) : wpList Tryz.prog ops Q (o :: rest) a w :=
  st_blk hgd ho hx hy h (by rw [hl, p0_len]) (by rw [p0_len]; exact sizeP) (pt_one (rc_rr _ _ _ _) (rc_rr _ _ _ _)) hr
theorem alP3 {ob ob' : Obj} (hgd : o.guard = none) (ho : o.op = .alloc 47)
    (hr : wpList Tryz.prog ops Q rest (a.put o.dst (.pointer (some ⟨w.heap.size + 1 + 1, 0, none⟩))) (((w.alloc ob).alloc ob').alloc (.cells p0.toArray 47))) : wpList Tryz.prog ops Q (o :: rest) a ((w.alloc ob).alloc ob') :=
  alP hgd ho (by rw [show ((w.alloc ob).alloc ob').heap.size = w.heap.size + 1 + 1 by simp]; exact hr)
end
end Go.Proofs.YtoegjibeomhekaaGreat
