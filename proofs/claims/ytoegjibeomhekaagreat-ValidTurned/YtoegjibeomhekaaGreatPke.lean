/- == of points; the reference's Of; half. -/
import Derived.Test.YtoegjibeomhekaaGreatPnq
namespace Go.Proofs.YtoegjibeomhekaaGreat
set_option linter.unusedSimpArgs false
set_option linter.unusedVariables false
open Go.RowKit
set_option maxRecDepth 100000
theorem eqRd (k : Nat) {n d m e : Int} (hn : fits n) (hd : fits d) (hm : fits m) (he : fits e) (w : World) : (Op.equalIn (k + 4) 45 (.agg (fr n d).toArray) (.agg (fr m e).toArray)).run Tryz.prog w = .ok (decide (n = m ∧ d = e)) w := by
  have hst : Tryz.prog.underlying 45 = some (.struct (Tryz.prog.fieldsOf 45)) := by kernel_rfl
  obtain ⟨f1, f2, f3⟩ := fldR0
  obtain ⟨g1, g2, g3⟩ := fldR1
  rw [fr_rr, fr_rr, run_equalIn_struct w (k + 3) 45 _ _ hst (by kernel_rfl), fldsR]
  rw [Op.eqFields, if_pos (of_decide_eq_true f1), f2, f3, Op.eqFields, if_pos (of_decide_eq_true g1), g2, g3, Op.eqFields]
  rw [Sem.run_bind, partRn, Result.andThen_ok, Sem.run_bind, partRn, Result.andThen_ok, Sem.run_bind, eq25d k _ _ _ _ hn hm, Result.andThen_ok, dec_mk]
  by_cases h : n = m
  · subst h
    rw [if_neg (by simp), Sem.run_bind, partRd, Result.andThen_ok, Sem.run_bind, partRd, Result.andThen_ok, Sem.run_bind, eq25d k _ _ _ _ hd he, Result.andThen_ok, dec_mk]
    by_cases h : d = e
    · simp [h]
    · simp [h]
  · rw [if_pos (by simpa using h)]
    simp [h]
noncomputable def fldP (i : Nat) : Field := ((Tryz.prog.fieldsOf 47)[i]?).getD default
theorem fldsP : (Tryz.prog.fieldsOf 47).toList = [fldP 0, fldP 1] := by kernel_rfl
theorem fldP0 : decide ((fldP 0).name ≠ "_") = true ∧ (fldP 0).type = 45 ∧ (fldP 0).offset = 0 := ⟨by kernel_rfl, by kernel_rfl, by kernel_rfl⟩
theorem fldP1 : decide ((fldP 1).name ≠ "_") = true ∧ (fldP 1).type = 45 ∧ (fldP 1).offset = 66 := ⟨by kernel_rfl, by kernel_rfl, by kernel_rfl⟩
theorem partPx {A B : List Value} (hA : Rc A) (hB : Rc B) (w : World) : (part 45 (A ++ B).toArray 0).run Tryz.prog w = .ok (.agg A.toArray) w := by
  have ha2 : (isAgg 45).run Tryz.prog w = .ok true w := by kernel_rfl
  have hs2 : (sizeOf 45).run Tryz.prog w = .ok 66 w := by kernel_rfl
  have he : (A ++ B).toArray.extract 0 (0 + 66) = A.toArray := by
    simp [List.extract_eq_take_drop, List.take_append, hA.len, List.take_of_length_le]
  unfold part
  simp only [Sem.run_bind, ha2, hs2, Result.andThen_ok, if_true, he, Sem.run_pure]
theorem partPy {A B : List Value} (hA : Rc A) (hB : Rc B) (w : World) : (part 45 (A ++ B).toArray 66).run Tryz.prog w = .ok (.agg B.toArray) w := by
  have ha2 : (isAgg 45).run Tryz.prog w = .ok true w := by kernel_rfl
  have hs2 : (sizeOf 45).run Tryz.prog w = .ok 66 w := by kernel_rfl
  have he : (A ++ B).toArray.extract 66 (66 + 66) = B.toArray := by
    simp [List.extract_eq_take_drop, List.drop_append, hA.len, hB.len, List.take_of_length_le]
  unfold part
  simp only [Sem.run_bind, ha2, hs2, Result.andThen_ok, if_true, he, Sem.run_pure]
/-- Its two numbers fit. -/
def Fq2 (q : Rat) : Prop := fits q.num ∧ fits q.den
theorem Bq.f2 {k : Nat} {q : Rat} (h : Bq k q) (hk : k ≤ 1024) : Fq2 q := ⟨h.fn hk, h.fd hk⟩
theorem dec_q (x u : Rat) : decide (x.num = u.num ∧ (x.den : Int) = u.den) = decide (x = u) := decide_eq_decide.2 ⟨fun h => Rat.ext h.1 (by have := h.2; omega), fun h => by rw [h]; exact ⟨rfl, rfl⟩⟩
theorem eqP {x y u v : Rat} (hx : Fq2 x) (hy : Fq2 y) (hu : Fq2 u) (hv : Fq2 v) (w : World) : (Op.equalIn 10000 47 (.agg (fq x ++ fq y).toArray) (.agg (fq u ++ fq v).toArray)).run Tryz.prog w = .ok (decide (x = u ∧ y = v)) w := by
  have hst : Tryz.prog.underlying 47 = some (.struct (Tryz.prog.fieldsOf 47)) := by kernel_rfl
  obtain ⟨f1, f2, f3⟩ := fldP0
  obtain ⟨g1, g2, g3⟩ := fldP1
  rw [run_equalIn_struct w 9999 47 _ _ hst (by kernel_rfl), fldsP]
  rw [Op.eqFields, if_pos (of_decide_eq_true f1), f2, f3, Op.eqFields, if_pos (of_decide_eq_true g1), g2, g3, Op.eqFields]
  rw [Sem.run_bind, partPx (rc_q _) (rc_q _), Result.andThen_ok, Sem.run_bind, partPx (rc_q _) (rc_q _), Result.andThen_ok, Sem.run_bind]
  rw [show (Op.equalIn 9999 45 (.agg (fq x).toArray) (.agg (fq u).toArray)).run Tryz.prog w = .ok (decide (x = u)) w by rw [← dec_q]; exact eqRd 9995 hx.1 hx.2 hu.1 hu.2 w, Result.andThen_ok]
  by_cases h : x = u
  · subst h
    rw [if_neg (by simp), Sem.run_bind, partPy (rc_q _) (rc_q _), Result.andThen_ok, Sem.run_bind, partPy (rc_q _) (rc_q _), Result.andThen_ok, Sem.run_bind]
    rw [show (Op.equalIn 9999 45 (.agg (fq y).toArray) (.agg (fq v).toArray)).run Tryz.prog w = .ok (decide (y = v)) w by rw [← dec_q]; exact eqRd 9995 hy.1 hy.2 hv.1 hv.2 w, Result.andThen_ok]
    by_cases h : y = v
    · simp [h]
    · simp [h]
  · rw [if_pos (by simpa using h)]
    simp [h]
theorem op_eqP {o : Oper} {a : Act} {p q : Operand} {x y u v : Rat} {ty : TypeId} (hx : Fq2 x) (hy : Fq2 y) (hu : Fq2 u) (hv : Fq2 v) {b : Bool} (hb : decide (x = u ∧ y = v) = b) (ho : o.op = .binOp .eql 47 p q ty) (hp : a.eval p = .agg (fq x ++ fq y).toArray) (hq : a.eval q = .agg (fq u ++ fq v).toArray) (w : World) :
    (execOp a.eval o).run Tryz.prog w = .ok (.value (.bool b)) w := by
  subst hb
  unfold execOp
  simp only [ho, hp, hq]
  rw [Sem.run_bind, Sem.run_bind, run_eqGuard_agg w .eql 47 p q _ _ (by kernel_rfl), Result.andThen_ok, run_eql_struct, eqP hx hy hu hv]
  rfl
theorem op_eqq {o : Oper} {a : Act} {p q : Operand} {x u : Rat} {ty : TypeId} (hx : Fq2 x) (hu : Fq2 u) {b : Bool} (hb : decide (x = u) = b) (ho : o.op = .binOp .eql 45 p q ty) (hp : a.eval p = .agg (fq x).toArray) (hq : a.eval q = .agg (fq u).toArray) (w : World) :
    (execOp a.eval o).run Tryz.prog w = .ok (.value (.bool b)) w := by
  have := op_eqR hx.1 hx.2 hu.1 hu.2 ho hp hq w
  rwa [dec_q, hb] at this
section
variable {ops : Array Oper} {rest : List Oper} {o : Oper} {a : Act} {w : World} {Q : Exit → Act → World → Prop}
theorem eqPg {p q : Operand} {x y u v : Rat} {ty : TypeId} (hw : Region.wanted o (yielded ops a.tmps) = true) (ho : o.op = .binOp .eql 47 p q ty) (hp : a.eval p = .agg (fq x ++ fq y).toArray) (hq : a.eval q = .agg (fq u ++ fq v).toArray) (hx : Fq2 x) (hy : Fq2 y) (hu : Fq2 u) (hv : Fq2 v)
    (hr : wpList Tryz.prog ops Q rest (a.put o.dst (.bool (decide (x = u ∧ y = v)))) w) : wpList Tryz.prog ops Q (o :: rest) a w :=
  BigFrame.wpList_want hw fun _ hK => by
    have := hK _ _ hr
    unfold Oper.wp
    rw [op_eqP hx hy hu hv rfl ho hp hq w]
    exact this
theorem ldPtg {t : TypeId} {x : Operand} {b : Nat} {A B : List Value} (hw : Region.wanted o (yielded ops a.tmps) = true) (ho : o.op = .load 47 x) (hx : a.eval x = .pointer (some ⟨b, 0, none⟩)) (h : Blk w b (A ++ B) t) (hA : Rc A) (hB : Rc B)
    (hr : wpList Tryz.prog ops Q rest (a.put o.dst (.agg (A ++ B).toArray)) w) : wpList Tryz.prog ops Q (o :: rest) a w := ldPg hw ho hx h (part_all _) (wholeP hA hB) hr
end
end Go.Proofs.YtoegjibeomhekaaGreat
