/- Joined of: Req Opr. -/
import Derived.Test.YtoegjibeomhekaaGreatRss
import Derived.Test.YtoegjibeomhekaaGreatOpn
/- == of two fractions; what is handed in as a fraction. -/
namespace Go.Proofs.YtoegjibeomhekaaGreat
set_option linter.unusedSimpArgs false
set_option linter.unusedVariables false
open Go.ChangeShapes Go.WideShapes Go.ChangeAt Go.RowKit
set_option maxRecDepth 100000
theorem eq25d (e : Nat) (s t : Bool) (N M : Nat) (hN : N < bb ^ 32) (hM : M < bb ^ 32) (w : World) : (Op.equalIn (e + 3) 43 (.agg (wd s N).toArray) (.agg (wd t M).toArray)).run Tryz.prog w = .ok (decide (s = t ∧ N = M)) w := by
  have hst : Tryz.prog.underlying 43 = some (.struct (Tryz.prog.fieldsOf 43)) := by kernel_rfl
  have hb : Tryz.prog.underlying 4 = some .bool := by kernel_rfl
  obtain ⟨f1, f2, f3⟩ := fld0
  obtain ⟨g1, g2, g3⟩ := fld1
  rw [run_equalIn_struct w (e + 2) 43 _ _ hst (by kernel_rfl), flds]
  rw [Op.eqFields, if_pos (of_decide_eq_true f1), f2, f3, Op.eqFields, if_pos (of_decide_eq_true g1), g2, g3, Op.eqFields]
  have e2 := eq23 e N M w
  rw [eqW_iff hN hM] at e2
  rw [Sem.run_bind, part25b, Result.andThen_ok, Sem.run_bind, part25b, Result.andThen_ok, Sem.run_bind, run_equalIn_bool' w (e + 1) _ _ _ hb, Result.andThen_ok]
  by_cases hst : s = t
  · subst hst
    rw [if_neg (by simp), Sem.run_bind, part25a, Result.andThen_ok, Sem.run_bind, part25a, Result.andThen_ok, Sem.run_bind, e2, Result.andThen_ok]
    by_cases h : N = M
    · simp [h]
    · simp [h]
  · rw [if_pos (by simpa using hst)]
    simp [hst]
/-- The two fields of a fraction. -/
noncomputable def fldR (i : Nat) : Field := ((Tryz.prog.fieldsOf 45)[i]?).getD default
theorem fldsR : (Tryz.prog.fieldsOf 45).toList = [fldR 0, fldR 1] := by kernel_rfl
theorem fldR0 : decide ((fldR 0).name ≠ "_") = true ∧ (fldR 0).type = 43 ∧ (fldR 0).offset = 0 := ⟨by kernel_rfl, by kernel_rfl, by kernel_rfl⟩
theorem fldR1 : decide ((fldR 1).name ≠ "_") = true ∧ (fldR 1).type = 43 ∧ (fldR 1).offset = 33 := ⟨by kernel_rfl, by kernel_rfl, by kernel_rfl⟩
theorem extract_n (s : Bool) (N : Nat) (t : Bool) (M : Nat) : (rr s N t M).toArray.extract 0 (0 + 33) = (wd s N).toArray := by
  simp [rr, List.extract_eq_take_drop, List.take_append, wd_length]
theorem extract_d (s : Bool) (N : Nat) (t : Bool) (M : Nat) : (rr s N t M).toArray.extract 33 (33 + 33) = (wd t M).toArray := by
  simp [rr, List.extract_eq_take_drop, List.drop_append, wd_length, List.take_of_length_le]
theorem partRn (s : Bool) (N : Nat) (t : Bool) (M : Nat) (w : World) : (part 43 (rr s N t M).toArray 0).run Tryz.prog w = .ok (.agg (wd s N).toArray) w := by
  have ha2 : (isAgg 43).run Tryz.prog w = .ok true w := by kernel_rfl
  have hs2 : (sizeOf 43).run Tryz.prog w = .ok 33 w := by kernel_rfl
  unfold part
  simp only [Sem.run_bind, ha2, hs2, Result.andThen_ok, if_true, extract_n, Sem.run_pure]
theorem partRd (s : Bool) (N : Nat) (t : Bool) (M : Nat) (w : World) : (part 43 (rr s N t M).toArray 33).run Tryz.prog w = .ok (.agg (wd t M).toArray) w := by
  have ha2 : (isAgg 43).run Tryz.prog w = .ok true w := by kernel_rfl
  have hs2 : (sizeOf 43).run Tryz.prog w = .ok 33 w := by kernel_rfl
  unfold part
  simp only [Sem.run_bind, ha2, hs2, Result.andThen_ok, if_true, extract_d, Sem.run_pure]
theorem dec_mk (x y : Int) : decide (decide (x < 0) = decide (y < 0) ∧ x.natAbs = y.natAbs) = decide (x = y) := decide_eq_decide.2 mk_inj_iff
theorem eqR {n d m e : Int} (hn : fits n) (hd : fits d) (hm : fits m) (he : fits e) (w : World) : (Op.equalIn 10000 45 (.agg (fr n d).toArray) (.agg (fr m e).toArray)).run Tryz.prog w = .ok (decide (n = m ∧ d = e)) w := by
  have hst : Tryz.prog.underlying 45 = some (.struct (Tryz.prog.fieldsOf 45)) := by kernel_rfl
  obtain ⟨f1, f2, f3⟩ := fldR0
  obtain ⟨g1, g2, g3⟩ := fldR1
  rw [fr_rr, fr_rr, run_equalIn_struct w 9999 45 _ _ hst (by kernel_rfl), fldsR]
  rw [Op.eqFields, if_pos (of_decide_eq_true f1), f2, f3, Op.eqFields, if_pos (of_decide_eq_true g1), g2, g3, Op.eqFields]
  rw [Sem.run_bind, partRn, Result.andThen_ok, Sem.run_bind, partRn, Result.andThen_ok, Sem.run_bind, eq25d 9996 _ _ _ _ hn hm, Result.andThen_ok, dec_mk]
  by_cases h : n = m
  · subst h
    rw [if_neg (by simp), Sem.run_bind, partRd, Result.andThen_ok, Sem.run_bind, partRd, Result.andThen_ok, Sem.run_bind, eq25d 9996 _ _ _ _ hd he, Result.andThen_ok, dec_mk]
    by_cases h : d = e
    · simp [h]
    · simp [h]
  · rw [if_pos (by simpa using h)]
    simp [h]
theorem op_eqR {o : Oper} {a : Act} {x y : Operand} {n d m e : Int} {ty : TypeId} (hn : fits n) (hd : fits d) (hm : fits m) (he : fits e) (ho : o.op = .binOp .eql 45 x y ty) (hx : a.eval x = .agg (fr n d).toArray) (hy : a.eval y = .agg (fr m e).toArray) (w : World) :
    (execOp a.eval o).run Tryz.prog w = .ok (.value (.bool (decide (n = m ∧ d = e)))) w := by
  unfold execOp
  simp only [ho, hx, hy]
  rw [Sem.run_bind, Sem.run_bind, run_eqGuard_agg w .eql 45 x y _ _ (by kernel_rfl), Result.andThen_ok, run_eql_struct, eqR hn hd hm he]
  rfl
theorem op_neqR {o : Oper} {a : Act} {x y : Operand} {n d m e : Int} {ty : TypeId} (hn : fits n) (hd : fits d) (hm : fits m) (he : fits e) (ho : o.op = .binOp .neq 45 x y ty) (hx : a.eval x = .agg (fr n d).toArray) (hy : a.eval y = .agg (fr m e).toArray) (w : World) :
    (execOp a.eval o).run Tryz.prog w = .ok (.value (.bool (!decide (n = m ∧ d = e)))) w := by
  unfold execOp
  simp only [ho, hx, hy]
  rw [Sem.run_bind, Sem.run_bind, run_eqGuard_agg w .neq 45 x y _ _ (by kernel_rfl), Result.andThen_ok, run_neq_struct, eqR hn hd hm he]
  rfl
end Go.Proofs.YtoegjibeomhekaaGreat

/- A fraction among the arguments: read, and laid again. -/
namespace Go.Proofs.YtoegjibeomhekaaGreat
set_option linter.unusedSimpArgs false
set_option linter.unusedVariables false
open Go.ChangeShapes Go.WideShapes Go.ChangeAt Go.RowKit
set_option maxRecDepth 100000
section
variable {H : Type} {enc : TypeId × Value → H}
theorem wide_cells {W : World} {base : Nat} {sp : Nat → Bool} {held : Bool} {fuel : Nat} {L : List Value} {d : DataW H} {ps : List MemPlace} (hf : DataW.trod enc Tryz.prog W base sp held fuel 43 L = some (d, ps)) :
    ∃ (s : Bool) (N : Nat), L = wd s N ∧ N < bb ^ 32 ∧ ps = [] ∧ ∀ W' base' sp' held', DataW.trod enc Tryz.prog W' base' sp' held' 3 43 L = some (d, []) := by
  obtain ⟨y0, y1, n, hx, hl, hb, ha⟩ := trod_struct2 Tryz.underlying43 hf
  have c4 : Tryz.prog.cellsOf 4 = 1 := by kernel_rfl
  have c22 : Tryz.prog.cellsOf 27 = 1 := by kernel_rfl
  have c23 : Tryz.prog.cellsOf 41 = 32 := by kernel_rfl
  have c25 : Tryz.prog.cellsOf 43 = 33 := by kernel_rfl
  rw [c25] at hl
  simp only [c4, c23, List.drop_zero] at hb ha
  obtain ⟨s, es, rfl⟩ := DataW.trod_bool Tryz.underlying4 hb
  cases n with
  | zero => simp [DataW.trod] at ha
  | succ m =>
    rw [DataW.trod_step] at ha
    unfold DataW.trodStep at ha
    simp only [Tryz.underlying41, c23, c22] at ha
    have hw : ((L.drop 1).take 32).length = 32 := by simp at hl ⊢; omega
    rw [if_pos hw] at ha
    simp only [Option.map_eq_some_iff] at ha
    obtain ⟨ys, hy, e1⟩ := ha
    obtain ⟨us, rfl, hu, hm⟩ := words_open _ ys hy
    have hm' := map_take ((L.drop 1).take 32) us (by rw [hw]; exact hm)
    have hul : us.length = 32 := by simpa using (congrArg List.length hm).symm
    obtain ⟨N, hN, eN⟩ := wc_of us hul fun a ha => by
      have h := hu a ha
      simp only [Lit.wf, Bool.and_eq_true, decide_eq_true_eq] at h
      exact h
    rw [eN] at hm'
    have hall : L = wd s N := by
      have h1 : L = L.take 1 ++ L.drop 1 := (List.take_append_drop 1 _).symm
      have h2 : (L.drop 1).take 32 = L.drop 1 := List.take_of_length_le (by simp at hl ⊢; omega)
      rw [h2] at hm'
      rw [h1, es, hm']; rfl
    subst hall
    have hy1 : y1.2 = [] := by
      rw [← e1]
      simp [List.flatMap_eq_nil_iff]
    refine ⟨s, N, rfl, hN, ?_, ?_⟩
    · rw [(Prod.mk.inj hx).2, hy1]; rfl
    · intro W' base' sp' held'
      have hs := trod_struct2_mk (enc := enc) (P := Tryz.prog) (w := W') (base := base') (spare := sp') (held := held') (n := 2) (y0 := (.lit (.bool s), [])) (y1 := y1) Tryz.underlying43 (cs := (wd s N)) (by rw [wd_length, c25])
        (by simp only [c4, List.drop_zero]; rw [show (wd s N).take 1 = [.bool s] from rfl]; simp [DataW.trod, Tryz.underlying4]) (by
          simp only [c23]
          rw [DataW.trod_step]
          unfold DataW.trodStep
          simp only [Tryz.underlying41, c23, c22]
          rw [if_pos (by simpa using hw), words_shut (m := 0) _ us hu (by simpa using hm), Option.map_some, e1])
      rw [hy1] at hs
      rw [(Prod.mk.inj hx).1]
      exact hs
theorem rat_cells {W : World} {base : Nat} {sp : Nat → Bool} {held : Bool} {fuel : Nat} {L : List Value} {d : DataW H} {ps : List MemPlace} (hf : DataW.trod enc Tryz.prog W base sp held fuel 45 L = some (d, ps)) :
    ∃ (s : Bool) (N : Nat) (t : Bool) (M : Nat), L = rr s N t M ∧ N < bb ^ 32 ∧ M < bb ^ 32 ∧ ps = [] ∧ ∀ W' base' sp' held', DataW.trod enc Tryz.prog W' base' sp' held' 4 45 L = some (d, []) := by
  obtain ⟨y0, y1, n, hx, hl, hb, ha⟩ := trod_struct2 Tryz.underlying45 hf
  have c25 : Tryz.prog.cellsOf 43 = 33 := by kernel_rfl
  have c46 : Tryz.prog.cellsOf 45 = 66 := by kernel_rfl
  rw [c46] at hl
  simp only [c25, List.drop_zero] at hb ha
  obtain ⟨s, N, e0, hN, hp0, sh0⟩ := wide_cells (d := y0.1) (ps := y0.2) hb
  obtain ⟨t, M, e1, hM, hp1, sh1⟩ := wide_cells (d := y1.1) (ps := y1.2) ha
  have hall : L = rr s N t M := by
    have h1 : L = L.take 33 ++ L.drop 33 := (List.take_append_drop 33 _).symm
    have h2 : (L.drop 33).take 33 = L.drop 33 := List.take_of_length_le (by simp at hl ⊢; omega)
    rw [h2] at e1
    rw [h1, e0, e1]; rfl
  subst hall
  refine ⟨s, N, t, M, rfl, hN, hM, ?_, ?_⟩
  · rw [(Prod.mk.inj hx).2, hp0, hp1]; rfl
  · intro W' base' sp' held'
    have hs := trod_struct2_mk (enc := enc) (P := Tryz.prog) (w := W') (base := base') (spare := sp') (held := held') (n := 3) (y0 := (y0.1, [])) (y1 := (y1.1, [])) Tryz.underlying45 (cs := (rr s N t M)) (by rw [rr_length, c46])
      (by simp only [c25, List.drop_zero]; exact sh0 _ _ _ _) (by simp only [c25]; exact sh1 _ _ _ _)
    rw [(Prod.mk.inj hx).1]
    exact hs
/-- A fraction that is handed in: what it is, and that it reads so in every world. -/
theorem open_rat {W : World} {base : Nat} {sp : Nat → Bool} {held : Bool} {r : Reach} {b0 : Nat} {v : Value} {d : DataW H} {ps : List MemPlace} (hval : Value.okWide Tryz.prog W r b0 45 v) (hd : DataW.Trod enc Tryz.prog W base sp held 45 v d ps) :
    ∃ (s : Bool) (N : Nat) (t : Bool) (M : Nat), v = .agg (rr s N t M).toArray ∧ N < bb ^ 32 ∧ M < bb ^ 32 ∧ ps = [] ∧ ∀ W' base' sp' held', DataW.Trod enc Tryz.prog W' base' sp' held' 45 v d [] := by
  simp only [Value.okWide, Tryz.underlying45] at hval
  obtain ⟨cs, rfl, hcs, _⟩ := hval
  obtain ⟨fuel, hf⟩ := hd
  simp only [Value.cells] at hf
  obtain ⟨s, N, t, M, e, hN, hM, hp, sh⟩ := rat_cells hf
  have hcs' : cs = (rr s N t M).toArray := by rw [← e, Array.toArray_toList]
  subst hcs'
  refine ⟨s, N, t, M, rfl, hN, hM, hp, fun W' b' sp' h' => ⟨4, ?_⟩⟩
  simpa [Value.cells] using sh W' b' sp' h'
end
end Go.Proofs.YtoegjibeomhekaaGreat
