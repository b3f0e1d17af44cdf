/- == of points; the reference's Of; half. -/
import Derived.Test.YtiaikjeljhfadaaPnq
namespace Go.Proofs.Ytiaikjeljhfadaa
set_option linter.unusedSimpArgs false
set_option linter.unusedVariables false
open Go.RowKit
set_option maxRecDepth 100000
theorem eqRd (k : Nat) {n d m e : Int} (hn : fits n) (hd : fits d) (hm : fits m) (he : fits e) (w : World) : (Op.equalIn (k + 4) 45 (.agg (fr n d).toArray) (.agg (fr m e).toArray)).run Try.prog w = .ok (decide (n = m ∧ d = e)) w := by
  have hst : Try.prog.underlying 45 = some (.struct (Try.prog.fieldsOf 45)) := by kernel_rfl
  obtain ⟨f1, f2, f3⟩ := fldR0
  obtain ⟨g1, g2, g3⟩ := fldR1
  rw [fr_rr, fr_rr, run_equalIn_struct w (k + 3) 45 _ _ hst (by kernel_rfl), fldsR]
  rw [Op.eqFields, if_pos (of_decide_eq_true f1), f2, f3, Op.eqFields, if_pos (of_decide_eq_true g1), g2, g3, Op.eqFields]
  rw [Sem.run_bind, partRn, Result.andThen_ok, Sem.run_bind, partRn, Result.andThen_ok, Sem.run_bind, eq25d k _ _ _ _ hn hm, Result.andThen_ok, dec_mk]
  by_cases h : n = m
  · subst h
    rw [if_neg (by simp), Sem.run_bind, partRd, Result.andThen_ok, Sem.run_bind, partRd, Result.andThen_ok, Sem.run_bind, eq25d k _ _ _ _ hd he, Result.andThen_ok, dec_mk]
    by_cases h : d = e
    · simp [h]
    · simp [h]
  · rw [if_pos (by simpa using h)]
    simp [h]
noncomputable def fldP (i : Nat) : Field := ((Try.prog.fieldsOf 66)[i]?).getD default
theorem fldsP : (Try.prog.fieldsOf 66).toList = [fldP 0, fldP 1] := by kernel_rfl
theorem fldP0 : decide ((fldP 0).name ≠ "_") = true ∧ (fldP 0).type = 45 ∧ (fldP 0).offset = 0 := ⟨by kernel_rfl, by kernel_rfl, by kernel_rfl⟩
theorem fldP1 : decide ((fldP 1).name ≠ "_") = true ∧ (fldP 1).type = 45 ∧ (fldP 1).offset = 66 := ⟨by kernel_rfl, by kernel_rfl, by kernel_rfl⟩
theorem partPx {A B : List Value} (hA : Rc A) (hB : Rc B) (w : World) : (part 45 (A ++ B).toArray 0).run Try.prog w = .ok (.agg A.toArray) w := by
  have ha2 : (isAgg 45).run Try.prog w = .ok true w := by kernel_rfl
  have hs2 : (sizeOf 45).run Try.prog w = .ok 66 w := by kernel_rfl
  have he : (A ++ B).toArray.extract 0 (0 + 66) = A.toArray := by
    simp [List.extract_eq_take_drop, List.take_append, hA.len, List.take_of_length_le]
  unfold part
  simp only [Sem.run_bind, ha2, hs2, Result.andThen_ok, if_true, he, Sem.run_pure]
theorem partPy {A B : List Value} (hA : Rc A) (hB : Rc B) (w : World) : (part 45 (A ++ B).toArray 66).run Try.prog w = .ok (.agg B.toArray) w := by
  have ha2 : (isAgg 45).run Try.prog w = .ok true w := by kernel_rfl
  have hs2 : (sizeOf 45).run Try.prog w = .ok 66 w := by kernel_rfl
  have he : (A ++ B).toArray.extract 66 (66 + 66) = B.toArray := by
    simp [List.extract_eq_take_drop, List.drop_append, hA.len, hB.len, List.take_of_length_le]
  unfold part
  simp only [Sem.run_bind, ha2, hs2, Result.andThen_ok, if_true, he, Sem.run_pure]
/-- Its two numbers fit. -/
def Fq2 (q : Rat) : Prop := fits q.num ∧ fits q.den
theorem Bq.f2 {k : Nat} {q : Rat} (h : Bq k q) (hk : k ≤ 1024) : Fq2 q := ⟨h.fn hk, h.fd hk⟩
theorem dec_q (x u : Rat) : decide (x.num = u.num ∧ (x.den : Int) = u.den) = decide (x = u) := decide_eq_decide.2 ⟨fun h => Rat.ext h.1 (by have := h.2; omega), fun h => by rw [h]; exact ⟨rfl, rfl⟩⟩
theorem eqP {x y u v : Rat} (hx : Fq2 x) (hy : Fq2 y) (hu : Fq2 u) (hv : Fq2 v) (w : World) : (Op.equalIn 10000 66 (.agg (fq x ++ fq y).toArray) (.agg (fq u ++ fq v).toArray)).run Try.prog w = .ok (decide (x = u ∧ y = v)) w := by
  have hst : Try.prog.underlying 66 = some (.struct (Try.prog.fieldsOf 66)) := by kernel_rfl
  obtain ⟨f1, f2, f3⟩ := fldP0
  obtain ⟨g1, g2, g3⟩ := fldP1
  rw [run_equalIn_struct w 9999 66 _ _ hst (by kernel_rfl), fldsP]
  rw [Op.eqFields, if_pos (of_decide_eq_true f1), f2, f3, Op.eqFields, if_pos (of_decide_eq_true g1), g2, g3, Op.eqFields]
  rw [Sem.run_bind, partPx (rc_q _) (rc_q _), Result.andThen_ok, Sem.run_bind, partPx (rc_q _) (rc_q _), Result.andThen_ok, Sem.run_bind]
  rw [show (Op.equalIn 9999 45 (.agg (fq x).toArray) (.agg (fq u).toArray)).run Try.prog w = .ok (decide (x = u)) w by rw [← dec_q]; exact eqRd 9995 hx.1 hx.2 hu.1 hu.2 w, Result.andThen_ok]
  by_cases h : x = u
  · subst h
    rw [if_neg (by simp), Sem.run_bind, partPy (rc_q _) (rc_q _), Result.andThen_ok, Sem.run_bind, partPy (rc_q _) (rc_q _), Result.andThen_ok, Sem.run_bind]
    rw [show (Op.equalIn 9999 45 (.agg (fq y).toArray) (.agg (fq v).toArray)).run Try.prog w = .ok (decide (y = v)) w by rw [← dec_q]; exact eqRd 9995 hy.1 hy.2 hv.1 hv.2 w, Result.andThen_ok]
    by_cases h : y = v
    · simp [h]
    · simp [h]
  · rw [if_pos (by simpa using h)]
    simp [h]
theorem op_eqP {o : Oper} {a : Act} {p q : Operand} {x y u v : Rat} {ty : TypeId} (hx : Fq2 x) (hy : Fq2 y) (hu : Fq2 u) (hv : Fq2 v) {b : Bool} (hb : decide (x = u ∧ y = v) = b) (ho : o.op = .binOp .eql 66 p q ty) (hp : a.eval p = .agg (fq x ++ fq y).toArray) (hq : a.eval q = .agg (fq u ++ fq v).toArray) (w : World) :
    (execOp a.eval o).run Try.prog w = .ok (.value (.bool b)) w := by
  subst hb
  unfold execOp
  simp only [ho, hp, hq]
  rw [Sem.run_bind, Sem.run_bind, run_eqGuard_agg w .eql 66 p q _ _ (by kernel_rfl), Result.andThen_ok, run_eql_struct, eqP hx hy hu hv]
  rfl
theorem op_eqq {o : Oper} {a : Act} {p q : Operand} {x u : Rat} {ty : TypeId} (hx : Fq2 x) (hu : Fq2 u) {b : Bool} (hb : decide (x = u) = b) (ho : o.op = .binOp .eql 45 p q ty) (hp : a.eval p = .agg (fq x).toArray) (hq : a.eval q = .agg (fq u).toArray) (w : World) :
    (execOp a.eval o).run Try.prog w = .ok (.value (.bool b)) w := by
  have := op_eqR hx.1 hx.2 hu.1 hu.2 ho hp hq w
  rwa [dec_q, hb] at this
section
variable {ops : Array Oper} {rest : List Oper} {o : Oper} {a : Act} {w : World} {Q : Exit → Act → World → Prop}
theorem eqPg {p q : Operand} {x y u v : Rat} {ty : TypeId} (hw : Region.wanted o (yielded ops a.tmps) = true) (ho : o.op = .binOp .eql 66 p q ty) (hp : a.eval p = .agg (fq x ++ fq y).toArray) (hq : a.eval q = .agg (fq u ++ fq v).toArray) (hx : Fq2 x) (hy : Fq2 y) (hu : Fq2 u) (hv : Fq2 v)
    (hr : wpList Try.prog ops Q rest (a.put o.dst (.bool (decide (x = u ∧ y = v)))) w) : wpList Try.prog ops Q (o :: rest) a w :=
  BigFrame.wpList_want hw fun _ hK => by
    have := hK _ _ hr
    unfold Oper.wp
    rw [op_eqP hx hy hu hv rfl ho hp hq w]
    exact this
theorem ldPtg {t : TypeId} {x : Operand} {b : Nat} {A B : List Value} (hw : Region.wanted o (yielded ops a.tmps) = true) (ho : o.op = .load 66 x) (hx : a.eval x = .pointer (some ⟨b, 0, none⟩)) (h : Blk w b (A ++ B) t) (hA : Rc A) (hB : Rc B)
    (hr : wpList Try.prog ops Q rest (a.put o.dst (.agg (A ++ B).toArray)) w) : wpList Try.prog ops Q (o :: rest) a w := ldPg hw ho hx h (part_all _) (wholeP hA hB) hr
end
set_option maxHeartbeats 1000000 in
theorem Ofref_walk {n d : Int} {A : List Value} (hA : Rc A) (hn : -9223372036854775808 ≤ n ∧ n ≤ 9223372036854775807) (hd : -9223372036854775808 ≤ d ∧ d ≤ 9223372036854775807) (T : Tl 142 #[vw n, vw d] (.tuple #[vl A, .bool true])) :
    Tl 126 #[.int .i64 n, .int .i64 d] (.tuple #[vl A, .bool true]) := by
  intro w
  unfold vl vw at *
  have HF1 := Lib.hid (From_ref hn)
  have HF2 := Lib.hid (From_ref hd)
  have HT := Lib.hid T
  have HA := Lib.hid hA
  unfold Tl at HT
  unfold Tl vw at HF1 HF2
  clear hn hd T hA
  have b4 := Blk.new w (rr false 0 false 0) 45 rfl
  have hb : Below w.heap.size w (w.alloc (.cells (rr false 0 false 0).toArray 45)) := (Below.refl _ _).alloc (Nat.le_refl _) _
  go_enter Try.func126, Try.ntmps126
  go_wp2_with (first | (with_reducible refine alR rfl rfl ?_))
  refine (HF1.out _).mono ?_
  rintro e w1 ⟨rfl, h1⟩
  replace b4 := b4.call h1
  replace hb := bthen hb h1
  clear h1
  go_wp2_with fail
  refine (HF2.out _).mono ?_
  rintro e w1 ⟨rfl, h1⟩
  replace b4 := b4.call h1
  replace hb := bthen hb h1
  clear h1
  go_wp2_with fail
  refine (HT.out _).mono ?_
  rintro e w1 ⟨rfl, h1⟩
  replace b4 := b4.call h1
  replace hb := bthen hb h1
  clear h1
  go_wp2_with (first | (with_reducible refine stQ rfl rfl rfl rfl b4 (rr_length _ _ _ _) HA.out ?_))
  exact ret_ct (cs := A) (v := .bool true) rfl rfl rfl rfl HA.out.whole (b4.row _) ⟨rfl, below_row hb (by omega) _⟩
theorem Ofref_q {n d : Int} (hn : -9223372036854775808 ≤ n ∧ n ≤ 9223372036854775807) (hd : -9223372036854775808 ≤ d ∧ d ≤ 9223372036854775807) (h0 : d ≠ 0) : Tl 126 #[.int .i64 n, .int .i64 d] (.tuple #[vq (Rat.divInt n d), .bool true]) :=
  Ofref_walk (rc_q _) hn hd (Newref_q (sz_mono (sz_i64 hn) (by omega)) (sz_mono (sz_i64 hd) (by omega)) h0)
set_option maxHeartbeats 1000000 in
theorem half_walk {n : Int} {A : List Value} (hA : Rc A) (T : Tl 126 #[.int .i64 n, .int .i64 2] (.tuple #[vl A, .bool true])) : Tl 106 #[.int .i64 n] (vl A) := by
  intro w
  unfold vl at *
  have HT := Lib.hid T
  have HA := Lib.hid hA
  unfold Tl at HT
  clear T hA
  have b2 := Blk.new w (rr false 0 false 0) 45 rfl
  have hb : Below w.heap.size w (w.alloc (.cells (rr false 0 false 0).toArray 45)) := (Below.refl _ _).alloc (Nat.le_refl _) _
  go_enter Try.func106, Try.ntmps106
  go_wp2_with (first | (with_reducible refine alR rfl rfl ?_))
  refine (HT.out _).mono ?_
  rintro e w1 ⟨rfl, h1⟩
  replace b2 := b2.call h1
  replace hb := bthen hb h1
  clear h1
  have l2 := b2.lt
  have f := Blk.new w1 (rr false 0 false 0) 45 rfl
  have b3 := laid_n w1 (rr false 0 false 0) (A) 45
  replace b2 := laid_o b2 (rr false 0 false 0) (A) 45
  replace hb := laid_b hb (rr false 0 false 0) (A) 45
  go_wp2_with (first | (with_reducible refine alR rfl rfl ?_) | (with_reducible refine stQ rfl rfl rfl rfl f (rr_length _ _ _ _) HA.out ?_) | (with_reducible refine ldA' rfl rfl rfl b3 HA.out ?_) | (with_reducible refine stQ rfl rfl rfl rfl b2 (rr_length _ _ _ _) HA.out ?_))
  clear f
  generalize (w1.alloc (.cells (rr false 0 false 0).toArray 45)).setRow w1.heap.size (A).toArray = W at *
  generalize w1.heap.size = pl_b3 at *
  exact ret_c (cs := A) rfl rfl rfl HA.out.whole (b2.row _) ⟨rfl, below_row hb (by omega) _⟩
theorem half_q : Tl 106 #[.int .i64 3] (vq (Rat.divInt 3 2)) := half_walk (rc_q _) (Ofref_q (by decide) (by decide) (by decide))
end Go.Proofs.Ytiaikjeljhfadaa
