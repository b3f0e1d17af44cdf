/- Steps of regions that draw their order: rows of one, two, strings laid together, known cells. -/
import Derived.Test.YthcgbchgfdkhiaaDoorMem
import Derived.Test.YthcgbchgfdkhiaaDoorXct
import Derived.Test.YthcgbchgfdkhiaaDoorXot
import Derived.Deep.RegionWith
import Derived.Laws.OwnMore
import Derived.OwnWalk
import Derived.Laws.AppendOwn
namespace Go.Proofs.YthcgbchgfdkhiaaDoor
set_option linter.unusedSimpArgs false
set_option linter.unusedVariables false
open Go.RowKit
set_option maxRecDepth 100000
theorem cell_keep {w0 w : World} (h : Keep [] w0 w) {g i : Nat} {v : Value} (hc : w0.cell? ⟨g, i, none⟩ = some v) : w.cell? ⟨g, i, none⟩ = some v := by
  have h2 := World.block_lt_of_cell? w0 _ hc
  exact (World.cell?_of_block (w := w0) (h.2 g h2 (by simp))).trans hc
theorem op_join {o : Oper} {a : Act} {x y : Operand} {s t : ByteArray} {ty : TypeId} (h : s.size + t.size ≤ 9223372036854775807) (ho : o.op = .binOp .add 9 x y ty) (hx : a.eval x = .string s) (hy : a.eval y = .string t) (w : World) :
    (execOp a.eval o).run Tryd.prog w = .ok (.value (.string (s ++ t))) w := by
  have h' : ¬ 9223372036854775807 < s.size + t.size := by omega
  unfold execOp
  simp only [ho, hx, hy]
  go_simp
theorem op_joinT {o : Oper} {a : Act} {x y : Operand} {s t : List UInt8} {ty : TypeId} (h : s.length + t.length ≤ 9223372036854775807) (ho : o.op = .binOp .add 9 x y ty) (hx : a.eval x = .string (tx s)) (hy : a.eval y = .string (tx t)) (w : World) :
    (execOp a.eval o).run Tryd.prog w = .ok (.value (.string (tx (s ++ t)))) w := by
  rw [← tx_app]
  exact op_join (by rw [tx_size, tx_size]; exact h) ho hx hy w
theorem op_joinE {o : Oper} {a : Act} {x y : Operand} {s t u : List UInt8} {ty : TypeId} (e : s ++ t = u) (h : u.length ≤ 1000000) (ho : o.op = .binOp .add 9 x y ty) (hx : a.eval x = .string (tx s)) (hy : a.eval y = .string (tx t)) (w : World) :
    (execOp a.eval o).run Tryd.prog w = .ok (.value (.string (tx u))) w := by
  subst e
  exact op_joinT (by rw [List.length_append] at h; omega) ho hx hy w
theorem i_build1 (x : Int) (w : World) : (Instr.buildSlice 56 1 #[(0, .int .i64 x)]).run Tryd.prog w = .ok (.slice (some ⟨w.heap.size, 0, none⟩) 1 1) (w.alloc (.cells #[.int .i64 x] 3)) := by kernel_rfl
theorem wp_bsI1 {o : Oper} {a : Act} {w : World} {K : Act → World → Prop} {Q : Exit → Act → World → Prop} {p : Operand} {x : Int} (ho : o.op = .buildSlice 56 1 #[(0, p)]) (hp : a.eval p = .int .i64 x)
    (h : K (a.put o.dst (.slice (some ⟨w.heap.size, 0, none⟩) 1 1)) (w.alloc (.cells #[.int .i64 x] 3))) : o.wp Tryd.prog a w K Q := by
  unfold Oper.wp execOp
  simp only [ho, Sem.run_bind]
  rw [show Array.map (fun x : Nat × Operand => (x.fst, a.eval x.snd)) #[(0, p)] = #[(0, .int .i64 x)] by simp [hp], i_build1]
  exact h
theorem s_build2 (x y : ByteArray) (w : World) : (Instr.buildSlice 22 2 #[(0, .string x), (1, .string y)]).run Tryd.prog w = .ok (.slice (some ⟨w.heap.size, 0, none⟩) 2 2) (w.alloc (.cells #[.string x, .string y] 9)) := by kernel_rfl
theorem wp_bsS2 {o : Oper} {a : Act} {w : World} {K : Act → World → Prop} {Q : Exit → Act → World → Prop} {p q : Operand} {x y : ByteArray} (ho : o.op = .buildSlice 22 2 #[(0, p), (1, q)]) (hp : a.eval p = .string x) (hq : a.eval q = .string y)
    (h : K (a.put o.dst (.slice (some ⟨w.heap.size, 0, none⟩) 2 2)) (w.alloc (.cells #[.string x, .string y] 9))) : o.wp Tryd.prog a w K Q := by
  unfold Oper.wp execOp
  simp only [ho, Sem.run_bind]
  rw [show Array.map (fun x : Nat × Operand => (x.fst, a.eval x.snd)) #[(0, p), (1, q)] = #[(0, .string x), (1, .string y)] by simp [hp, hq], s_build2]
  exact h
/-- The same, the new world and the place hidden. -/
theorem wp_bsI1q {o : Oper} {a : Act} {w : World} {K : Act → World → Prop} {Q : Exit → Act → World → Prop} {p : Operand} {x : Int} (ho : o.op = .buildSlice 56 1 #[(0, p)]) (hp : a.eval p = .int .i64 x)
    (h : ∀ g w', Blk w' g [.int .i64 x] 3 → Below w.heap.size w w' → K (a.put o.dst (.slice (some ⟨g, 0, none⟩) 1 1)) w') : o.wp Tryd.prog a w K Q :=
  wp_bsI1 ho hp (h _ _ (Blk.new _ _ _ rfl) ((Below.refl _ _).alloc (Nat.le_refl _) _))
theorem wp_bsS2q {o : Oper} {a : Act} {w : World} {K : Act → World → Prop} {Q : Exit → Act → World → Prop} {p q : Operand} {x y : ByteArray} (ho : o.op = .buildSlice 22 2 #[(0, p), (1, q)]) (hp : a.eval p = .string x) (hq : a.eval q = .string y)
    (h : ∀ v w', (∀ B, B ≤ w.heap.size → w'.ownsRow B 9 1 v 2 [.string x, .string y]) → Below w.heap.size w w' → K (a.put o.dst v) w') : o.wp Tryd.prog a w K Q :=
  wp_bsS2 ho hp hq (h _ _ (fun B hB => World.ownsRow_lit _ #[.string x, .string y] 2 hB (by unfold maxLen; omega) rfl) ((Below.refl _ _).alloc (Nat.le_refl _) _))
theorem Keep.oth {G : List Nat} {w0 w w' : World} {b : Nat} (h : Keep G w0 w) (hb : b ∈ G) (ho : Oth b w w') : Keep G w0 w' :=
  ⟨Nat.le_trans h.1 ho.size, fun k hk hn => (ho.2.2.2.2 k (Nat.lt_of_lt_of_le hk h.1) (by rintro rfl; exact hn hb)).trans (h.2 k hk hn)⟩
theorem p_build1 (x : Option Addr) (w : World) : (Instr.buildSlice 67 1 #[(0, .pointer x)]).run Tryd.prog w = .ok (.slice (some ⟨w.heap.size, 0, none⟩) 1 1) (w.alloc (.cells #[.pointer x] 55)) := by kernel_rfl
theorem wp_bsP1q {o : Oper} {a : Act} {w : World} {K : Act → World → Prop} {Q : Exit → Act → World → Prop} {p : Operand} {x : Option Addr} (ho : o.op = .buildSlice 67 1 #[(0, p)]) (hp : a.eval p = .pointer x)
    (h : ∀ g w', w.heap.size ≤ g → Blk w' g [.pointer x] 55 → Below w.heap.size w w' → K (a.put o.dst (.slice (some ⟨g, 0, none⟩) 1 1)) w') : o.wp Tryd.prog a w K Q := by
  have h := h w.heap.size _ (Nat.le_refl _) (Blk.new w [.pointer x] 55 rfl) ((Below.refl _ _).alloc (Nat.le_refl _) _)
  unfold Oper.wp execOp
  simp only [ho, Sem.run_bind]
  rw [show Array.map (fun x : Nat × Operand => (x.fst, a.eval x.snd)) #[(0, p)] = #[(0, .pointer x)] by simp [hp], p_build1]
  exact h
theorem z_build1 (x y z : Int) (w : World) : (Instr.buildSlice 23 1 #[(0, .agg #[.int .i64 x, .int .i64 y, .int .i64 z])]).run Tryd.prog w = .ok (.slice (some ⟨w.heap.size, 0, none⟩) 1 1) (w.alloc (.cells #[.int .i64 x, .int .i64 y, .int .i64 z] 40)) := by kernel_rfl
theorem wp_bsZ1q {o : Oper} {a : Act} {w : World} {K : Act → World → Prop} {Q : Exit → Act → World → Prop} {p : Operand} {x y z : Int} (ho : o.op = .buildSlice 23 1 #[(0, p)]) (hp : a.eval p = .agg #[.int .i64 x, .int .i64 y, .int .i64 z])
    (h : ∀ g w', w.heap.size ≤ g → Blk w' g [.int .i64 x, .int .i64 y, .int .i64 z] 40 → Below w.heap.size w w' → K (a.put o.dst (.slice (some ⟨g, 0, none⟩) 1 1)) w') : o.wp Tryd.prog a w K Q := by
  have h := h w.heap.size _ (Nat.le_refl _) (Blk.new w [.int .i64 x, .int .i64 y, .int .i64 z] 40 rfl) ((Below.refl _ _).alloc (Nat.le_refl _) _)
  unfold Oper.wp execOp
  simp only [ho, Sem.run_bind]
  rw [show Array.map (fun x : Nat × Operand => (x.fst, a.eval x.snd)) #[(0, p)] = #[(0, .agg #[.int .i64 x, .int .i64 y, .int .i64 z])] by simp [hp], z_build1]
  exact h
theorem Keep.grown {G : List Nat} {w0 w w' : World} {row : Option Nat} (h : Keep G w0 w) (hg : w.grownBy w' row) (hr : ∀ k, row = some k → k ∈ G) : Keep G w0 w' :=
  ⟨Nat.le_trans h.1 hg.size, fun k hk hn => (hg.block k (Nat.lt_of_lt_of_le hk h.1) (fun e => hn (hr k e.symm))).trans (h.2 k hk hn)⟩
theorem info_size : (Tryd.prog.info? 40).map (fun i => (i.zero, i.size, i.bytes)) = some (some (.agg #[.int .i64 0, .int .i64 0, .int .i64 0]), 3, 24) := by kernel_rfl
theorem wp_appZ {o : Oper} {a : Act} {w : World} {K : Act → World → Prop} {Q : Exit → Act → World → Prop} {s x : Operand} {B n g : Nat} {v : Value} {xs : List Value} {p q r : Int}
    (ho : o.op = .call { callee := .builtin .append, args := #[s, x], argTypes := #[23, 23] }) (hs : a.eval s = v) (hx : a.eval x = .slice (some ⟨g, 0, none⟩) 1 1)
    (hown : w.ownsRow B 40 3 v n xs) (hg : Blk w g [.int .i64 p, .int .i64 q, .int .i64 r] 40) (hn : n ≤ 2000000) (hB : B ≤ w.heap.size)
    (hr : ∀ v' w', w'.ownsRow B 40 3 v' (n + 1) (xs ++ [.int .i64 p, .int .i64 q, .int .i64 r]) → w.grownBy w' v.ownBlock → K (a.put o.dst v') w') : o.wp Tryd.prog a w K Q := by
  obtain ⟨i0, hi0, hz0, hz1, hz2⟩ := info_parts info_size
  refine wp_append_own w s x 23 ho B 40 i0 _ 3 24 Tryd.underlying23 hi0 hz0 hz1 hz2 rfl (by decide) v n xs hs hown ⟨g, 0, none⟩ 1 1 [.int .i64 p, .int .i64 q, .int .i64 r] hx rfl ?_ (by intro u hu; simp at hu; rcases hu with rfl | rfl | rfl <;> rfl) ?_ ?_ hB ?_
  · intro j y hj
    have := hg.cell hj
    rw [show (⟨g, j, none⟩ : Addr) = (⟨g, 0, none⟩ : Addr).add j by cases j <;> simp [Addr.add]] at this
    exact this
  · unfold maxLen; omega
  · omega
  · intro v' w' k1 k2 _
    exact hr v' w' k1 k2
end Go.Proofs.YthcgbchgfdkhiaaDoor
