/- Package line: are, between; what boxes and segments tell of points. -/
import Derived.Test.YtckolhalggcenaaGreatLnb
import Derived.Test.YtckolhalggcenaaGreatBsn
namespace Go.Proofs.YtckolhalggcenaaGreat
set_option linter.unusedSimpArgs false
set_option linter.unusedVariables false
open Go.RowKit
set_option maxRecDepth 100000
theorem lpr_list {w : World} {b : Nat} {t : TypeId} {Ps : List (List Value)} (hl : ∀ P ∈ Ps, P.length = 132) (h : Blk w b (jn Ps) t) {k : Nat} {P : List Value} (hk : Ps[k]? = some P) : w.rangeAt b (0 + k * 132) P := fun j v hv => by
  apply h.cell
  rw [Nat.zero_add]
  exact flat_get 132 Ps k P j v hl hk hv
theorem linfo_pt : ∃ i, Tryz.prog.info? 29 = some i ∧ i.size = 132 ∧ i.zero = some (.agg p0.toArray) := by
  have h1 := sizeP
  have h2 := zeroP
  rcases h : Tryz.prog.info? 29 with _ | i
  · rw [h] at h1; cases h1
  · rw [h] at h1 h2
    simp only [Option.map_some, Option.some.injEq] at h1 h2
    exact ⟨i, rfl, h1, h2⟩
theorem lp_build1 {A0 B0 : List Value} (h0 : Rc A0) (g0 : Rc B0) (w : World) : (Instr.buildSlice 73 1 #[(0, .agg (A0 ++ B0).toArray)]).run Tryz.prog w = .ok (.slice (some ⟨w.heap.size, 0, none⟩) 1 1) (w.alloc (.cells (jn [A0 ++ B0]).toArray 29)) := by
  obtain ⟨it, hi, hsz, hz⟩ := linfo_pt
  exact run_bs w Tryz.underlying73 hi hsz hz (Ps := [A0 ++ B0]) (fun P hP => by
    simp only [List.mem_cons, List.not_mem_nil, or_false] at hP
    rcases hP with rfl
    exact pt_len h0 g0) (by simp) (by simp)
theorem lbsP1 {ops : Array Oper} {rest : List Oper} {o : Oper} {a : Act} {w : World} {Q : Exit → Act → World → Prop} {x0 : Operand} {A0 B0 : List Value} (hgd : o.guard = none) (ho : o.op = .buildSlice 73 1 #[(0, x0)]) (e0 : a.eval x0 = .agg (A0 ++ B0).toArray) (h0 : Rc A0) (g0 : Rc B0)
    (hr : wpList Tryz.prog ops Q rest (a.put o.dst (.slice (some ⟨w.heap.size, 0, none⟩) 1 1)) (w.alloc (.cells (jn [A0 ++ B0]).toArray 29))) : wpList Tryz.prog ops Q (o :: rest) a w :=
  wpList_plain hgd fun K hK => by
    have := hK _ _ hr
    unfold Oper.wp execOp
    simp only [ho, Sem.run_bind]
    rw [show Array.map (fun x : Nat × Operand => (x.fst, a.eval x.snd)) #[(0, x0)] = #[(0, .agg (A0 ++ B0).toArray)] by simp [e0], lp_build1 h0 g0]
    exact this
theorem lp_build4 {A0 B0 A1 B1 A2 B2 A3 B3 : List Value} (h0 : Rc A0) (g0 : Rc B0) (h1 : Rc A1) (g1 : Rc B1) (h2 : Rc A2) (g2 : Rc B2) (h3 : Rc A3) (g3 : Rc B3) (w : World) : (Instr.buildSlice 73 4 #[(0, .agg (A0 ++ B0).toArray), (1, .agg (A1 ++ B1).toArray), (2, .agg (A2 ++ B2).toArray), (3, .agg (A3 ++ B3).toArray)]).run Tryz.prog w = .ok (.slice (some ⟨w.heap.size, 0, none⟩) 4 4) (w.alloc (.cells (jn [A0 ++ B0, A1 ++ B1, A2 ++ B2, A3 ++ B3]).toArray 29)) := by
  obtain ⟨it, hi, hsz, hz⟩ := linfo_pt
  exact run_bs w Tryz.underlying73 hi hsz hz (Ps := [A0 ++ B0, A1 ++ B1, A2 ++ B2, A3 ++ B3]) (fun P hP => by
    simp only [List.mem_cons, List.not_mem_nil, or_false] at hP
    rcases hP with rfl | rfl | rfl | rfl
    · exact pt_len h0 g0
    · exact pt_len h1 g1
    · exact pt_len h2 g2
    · exact pt_len h3 g3) (by simp) (by simp)
theorem lbsP4 {ops : Array Oper} {rest : List Oper} {o : Oper} {a : Act} {w : World} {Q : Exit → Act → World → Prop} {x0 x1 x2 x3 : Operand} {A0 B0 A1 B1 A2 B2 A3 B3 : List Value} (hgd : o.guard = none) (ho : o.op = .buildSlice 73 4 #[(0, x0), (1, x1), (2, x2), (3, x3)]) (e0 : a.eval x0 = .agg (A0 ++ B0).toArray) (e1 : a.eval x1 = .agg (A1 ++ B1).toArray) (e2 : a.eval x2 = .agg (A2 ++ B2).toArray) (e3 : a.eval x3 = .agg (A3 ++ B3).toArray) (h0 : Rc A0) (g0 : Rc B0) (h1 : Rc A1) (g1 : Rc B1) (h2 : Rc A2) (g2 : Rc B2) (h3 : Rc A3) (g3 : Rc B3)
    (hr : wpList Tryz.prog ops Q rest (a.put o.dst (.slice (some ⟨w.heap.size, 0, none⟩) 4 4)) (w.alloc (.cells (jn [A0 ++ B0, A1 ++ B1, A2 ++ B2, A3 ++ B3]).toArray 29))) : wpList Tryz.prog ops Q (o :: rest) a w :=
  wpList_plain hgd fun K hK => by
    have := hK _ _ hr
    unfold Oper.wp execOp
    simp only [ho, Sem.run_bind]
    rw [show Array.map (fun x : Nat × Operand => (x.fst, a.eval x.snd)) #[(0, x0), (1, x1), (2, x2), (3, x3)] = #[(0, .agg (A0 ++ B0).toArray), (1, .agg (A1 ++ B1).toArray), (2, .agg (A2 ++ B2).toArray), (3, .agg (A3 ++ B3).toArray)] by simp [e0, e1, e2, e3], lp_build4 h0 g0 h1 g1 h2 g2 h3 g3]
    exact this
theorem eqPgb' {ops : Array Oper} {rest : List Oper} {o : Oper} {a : Act} {w : World} {Q : Exit → Act → World → Prop} {p q : Operand} {x y u v : Rat} {ty : TypeId} {b : Bool} (hw : Region.wanted o (yielded ops a.tmps) = true) (ho : o.op = .binOp .eql 29 p q ty) (hp : a.eval p = .agg (fq x ++ fq y).toArray) (hq : a.eval q = .agg (fq u ++ fq v).toArray) (hx : Fq2 x) (hy : Fq2 y) (hu : Fq2 u) (hv : Fq2 v) (hb : decide (x = u ∧ y = v) = b)
    (hr : wpList Tryz.prog ops Q rest (a.put o.dst (.bool b)) w) : wpList Tryz.prog ops Q (o :: rest) a w := by
  subst hb
  exact eqPg hw ho hp hq hx hy hu hv hr
end Go.Proofs.YtckolhalggcenaaGreat
