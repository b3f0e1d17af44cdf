/- Points in a row, of any length: their slices; the middle of one, of four. -/
import Derived.Test.YtiaikjeljhfadabPka
import Derived.Test.YtiaikjeljhfadabOpn
import Derived.Test.YtiaikjeljhfadabBsn
namespace Go.Proofs.Ytiaikjeljhfadab
set_option linter.unusedSimpArgs false
set_option linter.unusedVariables false
open Go.RowKit
set_option maxRecDepth 100000
theorem pr_list {w : World} {b : Nat} {t : TypeId} {Ps : List (List Value)} (hl : ∀ P ∈ Ps, P.length = 132) (h : Blk w b (jn Ps) t) {k : Nat} {P : List Value} (hk : Ps[k]? = some P) : w.rangeAt b (0 + k * 132) P := fun j v hv => by
  rw [Nat.zero_add]
  exact h.cell (flat_get 132 Ps k P j v hl hk hv)
theorem info_pt : ∃ i, Try.prog.info? 31 = some i ∧ i.size = 132 ∧ i.zero = some (.agg p0.toArray) := by
  have h : (Try.prog.info? 31).map (fun i => (i.size, i.zero)) = some (132, some (.agg p0.toArray)) := by kernel_rfl
  obtain ⟨i, h1, h2⟩ := Option.map_eq_some_iff.1 h
  exact ⟨i, h1, (Prod.mk.inj h2).1, (Prod.mk.inj h2).2⟩
theorem p_build1 {A0 B0 : List Value} (h0 : Rc A0) (g0 : Rc B0) (w : World) : (Instr.buildSlice 45 1 #[(0, .agg (A0 ++ B0).toArray)]).run Try.prog w = .ok (.slice (some ⟨w.heap.size, 0, none⟩) 1 1) (w.alloc (.cells (jn [A0 ++ B0]).toArray 31)) := by
  obtain ⟨it, hi, hsz, hz⟩ := info_pt
  exact run_bs w Try.underlying45 hi hsz hz (Ps := [A0 ++ B0]) (fun P hP => by
    simp only [List.mem_cons, List.not_mem_nil, or_false] at hP
    rcases hP with rfl
    exact pt_len h0 g0) (by simp) (by simp)
theorem bsP1 {ops : Array Oper} {rest : List Oper} {o : Oper} {a : Act} {w : World} {Q : Exit → Act → World → Prop} {x0 : Operand} {A0 B0 : List Value} (hgd : o.guard = none) (ho : o.op = .buildSlice 45 1 #[(0, x0)]) (e0 : a.eval x0 = .agg (A0 ++ B0).toArray) (h0 : Rc A0) (g0 : Rc B0)
    (hr : wpList Try.prog ops Q rest (a.put o.dst (.slice (some ⟨w.heap.size, 0, none⟩) 1 1)) (w.alloc (.cells (jn [A0 ++ B0]).toArray 31))) : wpList Try.prog ops Q (o :: rest) a w :=
  wpList_plain hgd fun K hK => by
    have := hK _ _ hr
    unfold Oper.wp execOp
    simp only [ho, Sem.run_bind]
    rw [show Array.map (fun x : Nat × Operand => (x.fst, a.eval x.snd)) #[(0, x0)] = #[(0, .agg (A0 ++ B0).toArray)] by simp [e0], p_build1 h0 g0]
    exact this
theorem p_build4 {A0 B0 A1 B1 A2 B2 A3 B3 : List Value} (h0 : Rc A0) (g0 : Rc B0) (h1 : Rc A1) (g1 : Rc B1) (h2 : Rc A2) (g2 : Rc B2) (h3 : Rc A3) (g3 : Rc B3) (w : World) : (Instr.buildSlice 45 4 #[(0, .agg (A0 ++ B0).toArray), (1, .agg (A1 ++ B1).toArray), (2, .agg (A2 ++ B2).toArray), (3, .agg (A3 ++ B3).toArray)]).run Try.prog w = .ok (.slice (some ⟨w.heap.size, 0, none⟩) 4 4) (w.alloc (.cells (jn [A0 ++ B0, A1 ++ B1, A2 ++ B2, A3 ++ B3]).toArray 31)) := by
  obtain ⟨it, hi, hsz, hz⟩ := info_pt
  exact run_bs w Try.underlying45 hi hsz hz (Ps := [A0 ++ B0, A1 ++ B1, A2 ++ B2, A3 ++ B3]) (fun P hP => by
    simp only [List.mem_cons, List.not_mem_nil, or_false] at hP
    rcases hP with rfl | rfl | rfl | rfl
    · exact pt_len h0 g0
    · exact pt_len h1 g1
    · exact pt_len h2 g2
    · exact pt_len h3 g3) (by simp) (by simp)
theorem bsP4 {ops : Array Oper} {rest : List Oper} {o : Oper} {a : Act} {w : World} {Q : Exit → Act → World → Prop} {x0 x1 x2 x3 : Operand} {A0 B0 A1 B1 A2 B2 A3 B3 : List Value} (hgd : o.guard = none) (ho : o.op = .buildSlice 45 4 #[(0, x0), (1, x1), (2, x2), (3, x3)]) (e0 : a.eval x0 = .agg (A0 ++ B0).toArray) (e1 : a.eval x1 = .agg (A1 ++ B1).toArray) (e2 : a.eval x2 = .agg (A2 ++ B2).toArray) (e3 : a.eval x3 = .agg (A3 ++ B3).toArray) (h0 : Rc A0) (g0 : Rc B0) (h1 : Rc A1) (g1 : Rc B1) (h2 : Rc A2) (g2 : Rc B2) (h3 : Rc A3) (g3 : Rc B3)
    (hr : wpList Try.prog ops Q rest (a.put o.dst (.slice (some ⟨w.heap.size, 0, none⟩) 4 4)) (w.alloc (.cells (jn [A0 ++ B0, A1 ++ B1, A2 ++ B2, A3 ++ B3]).toArray 31))) : wpList Try.prog ops Q (o :: rest) a w :=
  wpList_plain hgd fun K hK => by
    have := hK _ _ hr
    unfold Oper.wp execOp
    simp only [ho, Sem.run_bind]
    rw [show Array.map (fun x : Nat × Operand => (x.fst, a.eval x.snd)) #[(0, x0), (1, x1), (2, x2), (3, x3)] = #[(0, .agg (A0 ++ B0).toArray), (1, .agg (A1 ++ B1).toArray), (2, .agg (A2 ++ B2).toArray), (3, .agg (A3 ++ B3).toArray)] by simp [e0, e1, e2, e3], p_build4 h0 g0 h1 g1 h2 g2 h3 g3]
    exact this
theorem p_build5 {A0 B0 A1 B1 A2 B2 A3 B3 A4 B4 : List Value} (h0 : Rc A0) (g0 : Rc B0) (h1 : Rc A1) (g1 : Rc B1) (h2 : Rc A2) (g2 : Rc B2) (h3 : Rc A3) (g3 : Rc B3) (h4 : Rc A4) (g4 : Rc B4) (w : World) : (Instr.buildSlice 45 5 #[(0, .agg (A0 ++ B0).toArray), (1, .agg (A1 ++ B1).toArray), (2, .agg (A2 ++ B2).toArray), (3, .agg (A3 ++ B3).toArray), (4, .agg (A4 ++ B4).toArray)]).run Try.prog w = .ok (.slice (some ⟨w.heap.size, 0, none⟩) 5 5) (w.alloc (.cells (jn [A0 ++ B0, A1 ++ B1, A2 ++ B2, A3 ++ B3, A4 ++ B4]).toArray 31)) := by
  obtain ⟨it, hi, hsz, hz⟩ := info_pt
  exact run_bs w Try.underlying45 hi hsz hz (Ps := [A0 ++ B0, A1 ++ B1, A2 ++ B2, A3 ++ B3, A4 ++ B4]) (fun P hP => by
    simp only [List.mem_cons, List.not_mem_nil, or_false] at hP
    rcases hP with rfl | rfl | rfl | rfl | rfl
    · exact pt_len h0 g0
    · exact pt_len h1 g1
    · exact pt_len h2 g2
    · exact pt_len h3 g3
    · exact pt_len h4 g4) (by simp) (by simp)
theorem bsP5 {ops : Array Oper} {rest : List Oper} {o : Oper} {a : Act} {w : World} {Q : Exit → Act → World → Prop} {x0 x1 x2 x3 x4 : Operand} {A0 B0 A1 B1 A2 B2 A3 B3 A4 B4 : List Value} (hgd : o.guard = none) (ho : o.op = .buildSlice 45 5 #[(0, x0), (1, x1), (2, x2), (3, x3), (4, x4)]) (e0 : a.eval x0 = .agg (A0 ++ B0).toArray) (e1 : a.eval x1 = .agg (A1 ++ B1).toArray) (e2 : a.eval x2 = .agg (A2 ++ B2).toArray) (e3 : a.eval x3 = .agg (A3 ++ B3).toArray) (e4 : a.eval x4 = .agg (A4 ++ B4).toArray) (h0 : Rc A0) (g0 : Rc B0) (h1 : Rc A1) (g1 : Rc B1) (h2 : Rc A2) (g2 : Rc B2) (h3 : Rc A3) (g3 : Rc B3) (h4 : Rc A4) (g4 : Rc B4)
    (hr : wpList Try.prog ops Q rest (a.put o.dst (.slice (some ⟨w.heap.size, 0, none⟩) 5 5)) (w.alloc (.cells (jn [A0 ++ B0, A1 ++ B1, A2 ++ B2, A3 ++ B3, A4 ++ B4]).toArray 31))) : wpList Try.prog ops Q (o :: rest) a w :=
  wpList_plain hgd fun K hK => by
    have := hK _ _ hr
    unfold Oper.wp execOp
    simp only [ho, Sem.run_bind]
    rw [show Array.map (fun x : Nat × Operand => (x.fst, a.eval x.snd)) #[(0, x0), (1, x1), (2, x2), (3, x3), (4, x4)] = #[(0, .agg (A0 ++ B0).toArray), (1, .agg (A1 ++ B1).toArray), (2, .agg (A2 ++ B2).toArray), (3, .agg (A3 ++ B3).toArray), (4, .agg (A4 ++ B4).toArray)] by simp [e0, e1, e2, e3, e4], p_build5 h0 g0 h1 g1 h2 g2 h3 g3 h4 g4]
    exact this
theorem Mid_one {x y : Rat} (h : Gd x y) {w : World} {b : Nat} {t : TypeId} (hb : Blk w b (jn [fq x ++ fq y]) t) :
    Calls Try.prog 6 #[.slice (some ⟨b, 0, none⟩) 1 1] w fun e w' => e = .returned (.tuple #[vp x y, .bool true]) ∧ Below w.heap.size w w' := by
  have := Mid_q (n := 1) (b := b) (f := 0) (c := 1) (x := fun k => x) (y := fun k => y) (w := w) (by omega) (by omega) (fun k hk => h) hb.lt (fun k hk => by
    obtain rfl : k = 0 := by omega
    exact pr_list (fun P hP => by simp at hP; rw [hP]; exact pt_len (rc_q _) (rc_q _)) hb rfl)
  have e1 : ∀ a : Rat, sumq (fun k => a) 1 / ((1 : Nat) : Int) = a := fun a => by
    show (0 + a) / ((1 : Int) : Rat) = a
    rw [Rat.zero_add, show ((1 : Int) : Rat) = 1 from rfl]
    grind
  rwa [e1, e1] at this
theorem Mid_four {x0 y0 x1 y1 x2 y2 x3 y3 : Rat} (h0 : Gd x0 y0) (h1 : Gd x1 y1) (h2 : Gd x2 y2) (h3 : Gd x3 y3) {w : World} {b : Nat} {t : TypeId} (hb : Blk w b (jn [fq x0 ++ fq y0, fq x1 ++ fq y1, fq x2 ++ fq y2, fq x3 ++ fq y3]) t) :
    Calls Try.prog 6 #[.slice (some ⟨b, 0, none⟩) 4 4] w fun e w' => e = .returned (.tuple #[vp ((x0 + x1 + x2 + x3) / 4) ((y0 + y1 + y2 + y3) / 4), .bool true]) ∧ Below w.heap.size w w' := by
  have := Mid_q (n := 4) (b := b) (f := 0) (c := 4) (x := fun k => if k = 0 then x0 else if k = 1 then x1 else if k = 2 then x2 else x3) (y := fun k => if k = 0 then y0 else if k = 1 then y1 else if k = 2 then y2 else y3) (w := w) (by omega) (by omega) (fun k hk => by
    rcases (show k = 0 ∨ k = 1 ∨ k = 2 ∨ k = 3 by omega) with rfl | rfl | rfl | rfl
    · exact h0
    · exact h1
    · exact h2
    · exact h3) hb.lt (fun k hk => by
    have hl : ∀ P ∈ [fq x0 ++ fq y0, fq x1 ++ fq y1, fq x2 ++ fq y2, fq x3 ++ fq y3], P.length = 132 := fun P hP => by
      simp only [List.mem_cons, List.not_mem_nil, or_false] at hP
      rcases hP with rfl | rfl | rfl | rfl <;> exact pt_len (rc_q _) (rc_q _)
    rcases (show k = 0 ∨ k = 1 ∨ k = 2 ∨ k = 3 by omega) with rfl | rfl | rfl | rfl
    · exact pr_list hl hb (k := 0) rfl
    · exact pr_list hl hb (k := 1) rfl
    · exact pr_list hl hb (k := 2) rfl
    · exact pr_list hl hb (k := 3) rfl)
  have e1 : ∀ a b c d : Rat, sumq (fun k => if k = 0 then a else if k = 1 then b else if k = 2 then c else d) 4 / ((4 : Nat) : Int) = (a + b + c + d) / 4 := fun a b c d => by
    show (0 + a + b + c + d) / ((4 : Int) : Rat) = (a + b + c + d) / 4
    rw [Rat.zero_add]; rfl
  rwa [e1, e1] at this
end Go.Proofs.Ytiaikjeljhfadab
