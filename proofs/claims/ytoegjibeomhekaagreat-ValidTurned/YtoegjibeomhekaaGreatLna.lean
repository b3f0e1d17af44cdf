/- Segments in memory: spans, boxes, segments, courses. -/
import Derived.Test.YtoegjibeomhekaaGreatPke
namespace Go.Proofs.YtoegjibeomhekaaGreat
set_option linter.unusedSimpArgs false
set_option linter.unusedVariables false
open Go.RowKit
set_option maxRecDepth 100000
/-- The cells of a box (a course) of two spans; of a segment. -/
def bx (A B C D : List Value) : List Value := (A ++ C) ++ (B ++ D)
def sgm (A B C D : List Value) : List Value := bx A B C D ++ ((A ++ B) ++ (C ++ D))
theorem sizeS : (Tryz.prog.info? 89).map (·.size) = some 132 := by kernel_rfl
theorem sizeB : (Tryz.prog.info? 91).map (·.size) = some 264 := by kernel_rfl
theorem sizeG : (Tryz.prog.info? 93).map (·.size) = some 528 := by kernel_rfl
def r0 : List Value := rr false 0 false 0
theorem rc0 : Rc r0 := rc_rr _ _ _ _
theorem zeroG : (Tryz.prog.info? 93).map (·.zero) = some (some (.agg (sgm r0 r0 r0 r0).toArray)) := by kernel_rfl
section
variable {A B C D : List Value} (hA : Rc A) (hB : Rc B) (hC : Rc C) (hD : Rc D)
include hA hB hC hD
theorem bx_len : (bx A B C D).length = 264 := by unfold bx; rw [List.length_append, pt_len hA hC, pt_len hB hD]
theorem sgm_len : (sgm A B C D).length = 528 := by unfold sgm; rw [List.length_append, bx_len hA hB hC hD, List.length_append, pt_len hA hB, pt_len hC hD]
theorem sgm_one : ∀ v ∈ sgm A B C D, v.oneCell' = true := fun v hv => by
  unfold sgm bx at hv
  simp only [List.mem_append] at hv
  rcases hv with ((h | h) | (h | h)) | ((h | h) | (h | h))
  · exact hA.one v h
  · exact hC.one v h
  · exact hB.one v h
  · exact hD.one v h
  · exact hA.one v h
  · exact hB.one v h
  · exact hC.one v h
  · exact hD.one v h
theorem wholeB : Whole Tryz.prog 91 (bx A B C D).length := by
  rw [bx_len hA hB hC hD]; exact ⟨_, Tryz.underlying91, rfl, sizeB⟩
theorem wholeG : Whole Tryz.prog 93 (sgm A B C D).length := by
  rw [sgm_len hA hB hC hD]; exact ⟨_, Tryz.underlying93, rfl, sizeG⟩
omit hC hD in
theorem wholeS : Whole Tryz.prog 89 (A ++ B).length := by
  rw [pt_len hA hB]; exact ⟨_, Tryz.underlying89, rfl, sizeS⟩
theorem builtB : Tryz.prog.built 91 [(0, .agg (A ++ C).toArray), (1, .agg (B ++ D).toArray)] = some (bx A B C D).toArray := by
  obtain ⟨_, _, _, _, rfl⟩ := hA
  obtain ⟨_, _, _, _, rfl⟩ := hB
  obtain ⟨_, _, _, _, rfl⟩ := hC
  obtain ⟨_, _, _, _, rfl⟩ := hD
  kernel_rfl
theorem builtG : Tryz.prog.built 93 [(0, .agg (bx A B C D).toArray), (1, .agg (A ++ B).toArray), (2, .agg (C ++ D).toArray)] = some (sgm A B C D).toArray := by
  obtain ⟨_, _, _, _, rfl⟩ := hA
  obtain ⟨_, _, _, _, rfl⟩ := hB
  obtain ⟨_, _, _, _, rfl⟩ := hC
  obtain ⟨_, _, _, _, rfl⟩ := hD
  kernel_rfl
omit hC hD in
theorem builtS : Tryz.prog.built 89 [(0, .agg A.toArray), (1, .agg B.toArray)] = some (A ++ B).toArray := by
  obtain ⟨_, _, _, _, rfl⟩ := hA
  obtain ⟨_, _, _, _, rfl⟩ := hB
  kernel_rfl
end
theorem Part.app {L L' : List Value} {f : Nat} {cs : List Value} (h : Part L f cs) : Part (L ++ L') f cs := fun j v hv => by
  have := h j v hv
  rw [List.getElem?_append_left (List.getElem?_eq_some_iff.1 this).1]; exact this
theorem Part.aft {L L' : List Value} {f n : Nat} {cs : List Value} (h : Part L' f cs) (hl : L.length = n) : Part (L ++ L') (n + f) cs := fun j v hv => by
  rw [List.getElem?_append_right (by omega), hl, show n + f + j - n = f + j by omega]; exact h j v hv
section
variable {A B C D : List Value} (hA : Rc A) (hB : Rc B) (hC : Rc C) (hD : Rc D)
theorem bx_across : Part (bx A B C D) 0 (A ++ C) := (part_all _).app
include hA hC in
theorem bx_up : Part (bx A B C D) 132 (B ++ D) := (part_all _).aft (pt_len hA hC)
theorem bx_a : Part (bx A B C D) 0 A := (part_all _).app.app
include hA hC in
theorem bx_b : Part (bx A B C D) 132 B := (part_all _).app.aft (f := 0) (pt_len hA hC)
theorem sgm_box : Part (sgm A B C D) 0 (bx A B C D) := (part_all _).app
theorem sgm_across : Part (sgm A B C D) 0 (A ++ C) := bx_across.app
include hA hB hC hD in
theorem sgm_a : Part (sgm A B C D) 264 (A ++ B) := (part_all _).app.aft (f := 0) (bx_len hA hB hC hD)
include hA hC in
theorem sgm_up : Part (sgm A B C D) 132 (B ++ D) := (bx_up hA hC).app
include hA hB hC hD in
theorem sgm_b : Part (sgm A B C D) 396 (C ++ D) := ((part_all _).aft (f := 0) (pt_len hA hB)).aft (f := 132) (bx_len hA hB hC hD)
end
section
variable {ops : Array Oper} {rest : List Oper} {o : Oper} {a : Act} {w : World} {Q : Exit → Act → World → Prop} {A B C D : List Value}
theorem bdS {p q : Operand} (hgd : o.guard = none) (ho : o.op = .build 89 #[(0, p), (1, q)]) (hp : a.eval p = .agg A.toArray) (hq : a.eval q = .agg B.toArray) (hA : Rc A) (hB : Rc B)
    (hr : wpList Tryz.prog ops Q rest (a.put o.dst (.agg (A ++ B).toArray)) w) : wpList Tryz.prog ops Q (o :: rest) a w :=
  wpList_plain hgd fun K hK => by
    have := hK _ _ hr
    unfold Oper.wp execOp
    simp only [ho, Sem.run_bind]
    rw [show Array.map (fun x : Nat × Operand => (x.fst, a.eval x.snd)) #[(0, p), (1, q)] = #[(0, .agg A.toArray), (1, .agg B.toArray)] by simp [hp, hq], run_build w 89 _ _ (builtS hA hB)]
    exact this
theorem bdB {p q : Operand} (hgd : o.guard = none) (ho : o.op = .build 91 #[(0, p), (1, q)]) (hp : a.eval p = .agg (A ++ C).toArray) (hq : a.eval q = .agg (B ++ D).toArray) (hA : Rc A) (hB : Rc B) (hC : Rc C) (hD : Rc D)
    (hr : wpList Tryz.prog ops Q rest (a.put o.dst (.agg (bx A B C D).toArray)) w) : wpList Tryz.prog ops Q (o :: rest) a w :=
  wpList_plain hgd fun K hK => by
    have := hK _ _ hr
    unfold Oper.wp execOp
    simp only [ho, Sem.run_bind]
    rw [show Array.map (fun x : Nat × Operand => (x.fst, a.eval x.snd)) #[(0, p), (1, q)] = #[(0, .agg (A ++ C).toArray), (1, .agg (B ++ D).toArray)] by simp [hp, hq], run_build w 91 _ _ (builtB hA hB hC hD)]
    exact this
theorem bdG {p q r : Operand} (hgd : o.guard = none) (ho : o.op = .build 93 #[(0, p), (1, q), (2, r)]) (hp : a.eval p = .agg (bx A B C D).toArray) (hq : a.eval q = .agg (A ++ B).toArray) (hr0 : a.eval r = .agg (C ++ D).toArray) (hA : Rc A) (hB : Rc B) (hC : Rc C) (hD : Rc D)
    (hr : wpList Tryz.prog ops Q rest (a.put o.dst (.agg (sgm A B C D).toArray)) w) : wpList Tryz.prog ops Q (o :: rest) a w :=
  wpList_plain hgd fun K hK => by
    have := hK _ _ hr
    unfold Oper.wp execOp
    simp only [ho, Sem.run_bind]
    rw [show Array.map (fun x : Nat × Operand => (x.fst, a.eval x.snd)) #[(0, p), (1, q), (2, r)] = #[(0, .agg (bx A B C D).toArray), (1, .agg (A ++ B).toArray), (2, .agg (C ++ D).toArray)] by simp [hp, hq, hr0], run_build w 93 _ _ (builtG hA hB hC hD)]
    exact this
theorem alG (hgd : o.guard = none) (ho : o.op = .alloc 93)
    (hr : wpList Tryz.prog ops Q rest (a.put o.dst (.pointer (some ⟨w.heap.size, 0, none⟩))) (w.alloc (.cells (sgm r0 r0 r0 r0).toArray 93))) : wpList Tryz.prog ops Q (o :: rest) a w := al_blk hgd ho zeroG hr
theorem stG {t : TypeId} {x y : Operand} {b : Nat} {cs : List Value} (hgd : o.guard = none) (ho : o.op = .store 93 x y) (hx : a.eval x = .pointer (some ⟨b, 0, none⟩)) (hy : a.eval y = .agg (sgm A B C D).toArray) (h : Blk w b cs t) (hl : cs.length = 528) (hA : Rc A) (hB : Rc B) (hC : Rc C) (hD : Rc D)
    (hr : wpList Tryz.prog ops Q rest (a.put o.dst undef) (w.setRow b (sgm A B C D).toArray)) : wpList Tryz.prog ops Q (o :: rest) a w :=
  st_blk hgd ho hx hy h (by rw [hl, sgm_len hA hB hC hD]) (by rw [sgm_len hA hB hC hD]; exact sizeG) (sgm_one hA hB hC hD) hr
/-- == of fractions, of points. -/
theorem eqq1 {p q : Operand} {x u : Rat} {ty : TypeId} {b : Bool} (hgd : o.guard = none) (ho : o.op = .binOp .eql 45 p q ty) (hp : a.eval p = .agg (fq x).toArray) (hq : a.eval q = .agg (fq u).toArray) (hx : Fq2 x) (hu : Fq2 u) (hb : decide (x = u) = b)
    (hr : wpList Tryz.prog ops Q rest (a.put o.dst (.bool b)) w) : wpList Tryz.prog ops Q (o :: rest) a w :=
  wpList_plain hgd fun K hK => by
    have := hK _ _ hr
    unfold Oper.wp
    rw [op_eqq hx hu hb ho hp hq w]
    exact this
theorem eqP1 {p q : Operand} {x y u v : Rat} {ty : TypeId} {b : Bool} (hgd : o.guard = none) (ho : o.op = .binOp .eql 47 p q ty) (hp : a.eval p = .agg (fq x ++ fq y).toArray) (hq : a.eval q = .agg (fq u ++ fq v).toArray) (hx : Fq2 x) (hy : Fq2 y) (hu : Fq2 u) (hv : Fq2 v) (hb : decide (x = u ∧ y = v) = b)
    (hr : wpList Tryz.prog ops Q rest (a.put o.dst (.bool b)) w) : wpList Tryz.prog ops Q (o :: rest) a w :=
  wpList_plain hgd fun K hK => by
    have := hK _ _ hr
    unfold Oper.wp
    rw [op_eqP hx hy hu hv hb ho hp hq w]
    exact this
end
theorem Gd.f {x y : Rat} (h : Gd x y) : Fq2 x ∧ Fq2 y := ⟨h.1.f2 (by omega), h.2.f2 (by omega)⟩
theorem cq_rng (x y : Rat) : cq x y = -1 ∨ cq x y = 0 ∨ cq x y = 1 := by
  unfold cq
  split
  · exact .inl rfl
  · split
    · exact .inr (.inr rfl)
    · exact .inr (.inl rfl)
end Go.Proofs.YtoegjibeomhekaaGreat
