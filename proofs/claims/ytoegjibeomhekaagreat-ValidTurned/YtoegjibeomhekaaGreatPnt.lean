/- Points in memory: pairs of fractions, whatever cells they hold. -/
import Derived.Test.YtoegjibeomhekaaGreatRqq
namespace Go.Proofs.YtoegjibeomhekaaGreat
set_option linter.unusedSimpArgs false
set_option linter.unusedVariables false
open Go.RowKit
set_option maxRecDepth 100000
/-- The cells of a fraction, raw or not. -/
def Rc (A : List Value) : Prop := ∃ s N t M, A = rr s N t M
theorem rc_rr (s : Bool) (N : Nat) (t : Bool) (M : Nat) : Rc (rr s N t M) := ⟨s, N, t, M, rfl⟩
theorem rc_fr (n d : Int) : Rc (fr n d) := rc_rr _ _ _ _
theorem Rc.len {A : List Value} (h : Rc A) : A.length = 66 := by obtain ⟨s, N, t, M, rfl⟩ := h; exact rr_length _ _ _ _
theorem Rc.one {A : List Value} (h : Rc A) : ∀ v ∈ A, v.oneCell' = true := by obtain ⟨s, N, t, M, rfl⟩ := h; exact rr_one _ _ _ _
theorem Rc.whole {A : List Value} (h : Rc A) : Whole Tryz.prog 45 A.length := by obtain ⟨s, N, t, M, rfl⟩ := h; exact wholeR _ _ _ _
theorem pt_len {A B : List Value} (h : Rc A) (h' : Rc B) : (A ++ B).length = 132 := by rw [List.length_append, h.len, h'.len]
theorem pt_one {A B : List Value} (h : Rc A) (h' : Rc B) : ∀ v ∈ A ++ B, v.oneCell' = true := fun v hv => by
  rcases List.mem_append.1 hv with h1 | h1
  · exact h.one v h1
  · exact h'.one v h1
theorem sizeP : (Tryz.prog.info? 47).map (·.size) = some 132 := by kernel_rfl
theorem sizeV : (Tryz.prog.info? 133).map (·.size) = some 132 := by kernel_rfl
/-- Two fractions of noughts. -/
def p0 : List Value := rr false 0 false 0 ++ rr false 0 false 0
theorem p0_len : p0.length = 132 := pt_len (rc_rr _ _ _ _) (rc_rr _ _ _ _)
theorem zeroP : (Tryz.prog.info? 47).map (·.zero) = some (some (.agg p0.toArray)) := by kernel_rfl
theorem zeroV : (Tryz.prog.info? 133).map (·.zero) = some (some (.agg p0.toArray)) := by kernel_rfl
theorem wholeP {A B : List Value} (h : Rc A) (h' : Rc B) : Whole Tryz.prog 47 (A ++ B).length := by
  rw [pt_len h h']
  exact ⟨_, Tryz.underlying47, rfl, sizeP⟩
theorem wholeV {A B : List Value} (h : Rc A) (h' : Rc B) : Whole Tryz.prog 133 (A ++ B).length := by
  rw [pt_len h h']
  exact ⟨_, Tryz.underlying133, rfl, sizeV⟩
theorem partX {A B : List Value} : Part (A ++ B) 0 A := fun j v h => by
  rw [Nat.zero_add, List.getElem?_append_left (List.getElem?_eq_some_iff.1 h).1]; exact h
theorem partY {A B : List Value} (h : Rc A) : Part (A ++ B) 66 B := fun j v hv => by
  rw [List.getElem?_append_right (by rw [h.len]; omega), h.len, Nat.add_sub_cancel_left]; exact hv
theorem builtP {A B : List Value} (h : Rc A) (h' : Rc B) : Tryz.prog.built 47 [(0, .agg A.toArray), (1, .agg B.toArray)] = some (A ++ B).toArray := by
  obtain ⟨s, N, t, M, rfl⟩ := h
  obtain ⟨s', N', t', M', rfl⟩ := h'
  kernel_rfl
theorem builtV {A B : List Value} (h : Rc A) (h' : Rc B) : Tryz.prog.built 133 [(0, .agg A.toArray), (1, .agg B.toArray)] = some (A ++ B).toArray := by
  obtain ⟨s, N, t, M, rfl⟩ := h
  obtain ⟨s', N', t', M', rfl⟩ := h'
  kernel_rfl
theorem builtP0 : Tryz.prog.built 47 [] = some p0.toArray := by kernel_rfl
/-- Points in a row (under a name, so that no walk regroups them). -/
def j2 (P Q : List Value) : List Value := P ++ Q
def j3 (P Q R : List Value) : List Value := P ++ Q ++ R
theorem p_build2 {A B C D : List Value} (hA : Rc A) (hB : Rc B) (hC : Rc C) (hD : Rc D) (w : World) : (Instr.buildSlice 24 2 #[(0, .agg (A ++ B).toArray), (1, .agg (C ++ D).toArray)]).run Tryz.prog w = .ok (.slice (some ⟨w.heap.size, 0, none⟩) 2 2) (w.alloc (.cells (j2 (A ++ B) (C ++ D)).toArray 47)) := by
  obtain ⟨_, _, _, _, rfl⟩ := hA
  obtain ⟨_, _, _, _, rfl⟩ := hB
  obtain ⟨_, _, _, _, rfl⟩ := hC
  obtain ⟨_, _, _, _, rfl⟩ := hD
  kernel_rfl
theorem p_build3 {A B C D E F : List Value} (hA : Rc A) (hB : Rc B) (hC : Rc C) (hD : Rc D) (hE : Rc E) (hF : Rc F) (w : World) : (Instr.buildSlice 24 3 #[(0, .agg (A ++ B).toArray), (1, .agg (C ++ D).toArray), (2, .agg (E ++ F).toArray)]).run Tryz.prog w = .ok (.slice (some ⟨w.heap.size, 0, none⟩) 3 3) (w.alloc (.cells (j3 (A ++ B) (C ++ D) (E ++ F)).toArray 47)) := by
  obtain ⟨_, _, _, _, rfl⟩ := hA
  obtain ⟨_, _, _, _, rfl⟩ := hB
  obtain ⟨_, _, _, _, rfl⟩ := hC
  obtain ⟨_, _, _, _, rfl⟩ := hD
  obtain ⟨_, _, _, _, rfl⟩ := hE
  obtain ⟨_, _, _, _, rfl⟩ := hF
  kernel_rfl
section
variable {ops : Array Oper} {rest : List Oper} {o : Oper} {a : Act} {w : World} {Q : Exit → Act → World → Prop}
/-- A fraction, a point are loaded; a field of a point. -/
theorem ldA' {t : TypeId} {x : Operand} {b : Nat} {A : List Value} (hgd : o.guard = none) (ho : o.op = .load 45 x) (hx : a.eval x = .pointer (some ⟨b, 0, none⟩)) (h : Blk w b A t) (hA : Rc A)
    (hr : wpList Tryz.prog ops Q rest (a.put o.dst (.agg A.toArray)) w) : wpList Tryz.prog ops Q (o :: rest) a w := ldP hgd ho hx h (part_all _) hA.whole hr
theorem ldPt {t : TypeId} {x : Operand} {b : Nat} {A B : List Value} (hgd : o.guard = none) (ho : o.op = .load 47 x) (hx : a.eval x = .pointer (some ⟨b, 0, none⟩)) (h : Blk w b (A ++ B) t) (hA : Rc A) (hB : Rc B)
    (hr : wpList Tryz.prog ops Q rest (a.put o.dst (.agg (A ++ B).toArray)) w) : wpList Tryz.prog ops Q (o :: rest) a w := ldP hgd ho hx h (part_all _) (wholeP hA hB) hr
theorem ldX {t : TypeId} {x : Operand} {b : Nat} {A B : List Value} (hgd : o.guard = none) (ho : o.op = .load 45 x) (hx : a.eval x = .pointer (some ⟨b, 0, none⟩)) (h : Blk w b (A ++ B) t) (hA : Rc A) (hB : Rc B)
    (hr : wpList Tryz.prog ops Q rest (a.put o.dst (.agg A.toArray)) w) : wpList Tryz.prog ops Q (o :: rest) a w := ldP hgd ho hx h partX hA.whole hr
theorem ldY {t : TypeId} {x : Operand} {b : Nat} {A B : List Value} (hgd : o.guard = none) (ho : o.op = .load 45 x) (hx : a.eval x = .pointer (some ⟨b, 66, none⟩)) (h : Blk w b (A ++ B) t) (hA : Rc A) (hB : Rc B)
    (hr : wpList Tryz.prog ops Q rest (a.put o.dst (.agg B.toArray)) w) : wpList Tryz.prog ops Q (o :: rest) a w := ldP hgd ho hx h (partY hA) hB.whole hr
theorem ldYg {t : TypeId} {x : Operand} {b : Nat} {A B : List Value} (hw : Region.wanted o (yielded ops a.tmps) = true) (ho : o.op = .load 45 x) (hx : a.eval x = .pointer (some ⟨b, 66, none⟩)) (h : Blk w b (A ++ B) t) (hA : Rc A) (hB : Rc B)
    (hr : wpList Tryz.prog ops Q rest (a.put o.dst (.agg B.toArray)) w) : wpList Tryz.prog ops Q (o :: rest) a w := ldPg hw ho hx h (partY hA) hB.whole hr
theorem ldPr {x : Operand} {b f : Nat} {A B : List Value} (hgd : o.guard = none) (ho : o.op = .load 47 x) (hx : a.eval x = .pointer (some ⟨b, f, none⟩)) (h : w.rangeAt b f (A ++ B)) (hA : Rc A) (hB : Rc B)
    (hr : wpList Tryz.prog ops Q rest (a.put o.dst (.agg (A ++ B).toArray)) w) : wpList Tryz.prog ops Q (o :: rest) a w :=
  wpList_load_mid hgd 47 x ho b f hx (A ++ B) _ h Tryz.underlying47 rfl (by rw [pt_len hA hB]; exact sizeP) hr
theorem stQ {t : TypeId} {x y : Operand} {b : Nat} {A cs : List Value} (hgd : o.guard = none) (ho : o.op = .store 45 x y) (hx : a.eval x = .pointer (some ⟨b, 0, none⟩)) (hy : a.eval y = .agg A.toArray) (h : Blk w b cs t) (hl : cs.length = 66) (hA : Rc A)
    (hr : wpList Tryz.prog ops Q rest (a.put o.dst undef) (w.setRow b A.toArray)) : wpList Tryz.prog ops Q (o :: rest) a w :=
  st_blk hgd ho hx hy h (by rw [hl, hA.len]) (by rw [hA.len]; exact sizeR) hA.one hr
theorem stPt {t : TypeId} {x y : Operand} {b : Nat} {A B cs : List Value} (hgd : o.guard = none) (ho : o.op = .store 47 x y) (hx : a.eval x = .pointer (some ⟨b, 0, none⟩)) (hy : a.eval y = .agg (A ++ B).toArray) (h : Blk w b cs t) (hl : cs.length = 132) (hA : Rc A) (hB : Rc B)
    (hr : wpList Tryz.prog ops Q rest (a.put o.dst undef) (w.setRow b (A ++ B).toArray)) : wpList Tryz.prog ops Q (o :: rest) a w :=
  st_blk hgd ho hx hy h (by rw [hl, pt_len hA hB]) (by rw [pt_len hA hB]; exact sizeP) (pt_one hA hB) hr
theorem alP (hgd : o.guard = none) (ho : o.op = .alloc 47)
    (hr : wpList Tryz.prog ops Q rest (a.put o.dst (.pointer (some ⟨w.heap.size, 0, none⟩))) (w.alloc (.cells p0.toArray 47))) : wpList Tryz.prog ops Q (o :: rest) a w := al_blk hgd ho zeroP hr
theorem alV (hgd : o.guard = none) (ho : o.op = .alloc 133)
    (hr : wpList Tryz.prog ops Q rest (a.put o.dst (.pointer (some ⟨w.heap.size, 0, none⟩))) (w.alloc (.cells p0.toArray 133))) : wpList Tryz.prog ops Q (o :: rest) a w := al_blk hgd ho zeroV hr
theorem bdP {p q : Operand} {A B : List Value} (hgd : o.guard = none) (ho : o.op = .build 47 #[(0, p), (1, q)]) (hp : a.eval p = .agg A.toArray) (hq : a.eval q = .agg B.toArray) (hA : Rc A) (hB : Rc B)
    (hr : wpList Tryz.prog ops Q rest (a.put o.dst (.agg (A ++ B).toArray)) w) : wpList Tryz.prog ops Q (o :: rest) a w :=
  wpList_plain hgd fun K hK => by
    have := hK _ _ hr
    unfold Oper.wp execOp
    simp only [ho, Sem.run_bind]
    rw [show Array.map (fun x : Nat × Operand => (x.fst, a.eval x.snd)) #[(0, p), (1, q)] = #[(0, .agg A.toArray), (1, .agg B.toArray)] by simp [hp, hq], run_build w 47 _ _ (builtP hA hB)]
    exact this
theorem bdP0 (hgd : o.guard = none) (ho : o.op = .build 47 #[])
    (hr : wpList Tryz.prog ops Q rest (a.put o.dst (.agg p0.toArray)) w) : wpList Tryz.prog ops Q (o :: rest) a w :=
  wpList_plain hgd fun K hK => by
    have := hK _ _ hr
    unfold Oper.wp execOp
    simp only [ho, Sem.run_bind]
    rw [show Array.map (fun x : Nat × Operand => (x.fst, a.eval x.snd)) #[] = #[] by simp, run_build w 47 #[] _ builtP0]
    exact this
theorem bsP2 {x y : Operand} {A B C D : List Value} (hgd : o.guard = none) (ho : o.op = .buildSlice 24 2 #[(0, x), (1, y)]) (hx : a.eval x = .agg (A ++ B).toArray) (hy : a.eval y = .agg (C ++ D).toArray) (hA : Rc A) (hB : Rc B) (hC : Rc C) (hD : Rc D)
    (hr : wpList Tryz.prog ops Q rest (a.put o.dst (.slice (some ⟨w.heap.size, 0, none⟩) 2 2)) (w.alloc (.cells (j2 (A ++ B) (C ++ D)).toArray 47))) : wpList Tryz.prog ops Q (o :: rest) a w :=
  wpList_plain hgd fun K hK => by
    have := hK _ _ hr
    unfold Oper.wp execOp
    simp only [ho, Sem.run_bind]
    rw [show Array.map (fun x : Nat × Operand => (x.fst, a.eval x.snd)) #[(0, x), (1, y)] = #[(0, .agg (A ++ B).toArray), (1, .agg (C ++ D).toArray)] by simp [hx, hy], p_build2 hA hB hC hD]
    exact this
theorem bsP3 {x y z : Operand} {A B C D E F : List Value} (hgd : o.guard = none) (ho : o.op = .buildSlice 24 3 #[(0, x), (1, y), (2, z)]) (hx : a.eval x = .agg (A ++ B).toArray) (hy : a.eval y = .agg (C ++ D).toArray) (hz : a.eval z = .agg (E ++ F).toArray) (hA : Rc A) (hB : Rc B) (hC : Rc C) (hD : Rc D) (hE : Rc E) (hF : Rc F)
    (hr : wpList Tryz.prog ops Q rest (a.put o.dst (.slice (some ⟨w.heap.size, 0, none⟩) 3 3)) (w.alloc (.cells (j3 (A ++ B) (C ++ D) (E ++ F)).toArray 47))) : wpList Tryz.prog ops Q (o :: rest) a w :=
  wpList_plain hgd fun K hK => by
    have := hK _ _ hr
    unfold Oper.wp execOp
    simp only [ho, Sem.run_bind]
    rw [show Array.map (fun x : Nat × Operand => (x.fst, a.eval x.snd)) #[(0, x), (1, y), (2, z)] = #[(0, .agg (A ++ B).toArray), (1, .agg (C ++ D).toArray), (2, .agg (E ++ F).toArray)] by simp [hx, hy, hz], p_build3 hA hB hC hD hE hF]
    exact this
end
/-- A variable laid behind all others: zs at first, then cs. -/
theorem laid_n (w : World) (zs cs : List Value) (t : TypeId) : Blk ((w.alloc (.cells zs.toArray t)).setRow w.heap.size cs.toArray) w.heap.size cs t := (Blk.new w zs t rfl).row cs
theorem laid_o {w : World} {b : Nat} {ds : List Value} {u : TypeId} (h : Blk w b ds u) (zs cs : List Value) (t : TypeId) : Blk ((w.alloc (.cells zs.toArray t)).setRow w.heap.size cs.toArray) b ds u :=
  (h.old _).rowOther _ (by have := h.lt; omega)
theorem laid_b {w W : World} (h : Below w.heap.size w W) (zs cs : List Value) (t : TypeId) : Below w.heap.size w ((W.alloc (.cells zs.toArray t)).setRow W.heap.size cs.toArray) :=
  below_row (h.alloc h.size _) h.size _
end Go.Proofs.YtoegjibeomhekaaGreat
