/- Wides held against each other by == and !=. -/
import Derived.Test.YtcfncekphdkphaaPrs
namespace Go.Proofs.Ytcfncekphdkphaa
set_option linter.unusedSimpArgs false
set_option linter.unusedVariables false
open Go.RowKit
set_option maxRecDepth 100000
theorem part22 (N i : Nat) (hi : i < 32) (w : World) : (part 22 (wc N).toArray i).run Try.prog w = .ok (.int .u32 (dig N i : Nat)) w := by
  have h := wc_get N i hi
  have ha : (isAgg 22).run Try.prog w = .ok false w := by kernel_rfl
  unfold part
  simp [Sem.run_bind, ha, h]
/-- Are the words at these places alike? -/
def eqW (N M : Nat) (l : List Nat) : Bool := l.all fun i => decide (dig N i = dig M i)
theorem eq23_loop (d N M : Nat) (w : World) : ∀ l : List Nat, (∀ i ∈ l, i < 32) →
    (forIn l ((none, ()) : Option Bool × Unit) fun i __s => do
            let __do_lift ← part 22 (wc N).toArray (i * 1)
            let __do_lift_1 ← part 22 (wc M).toArray (i * 1)
            let __do_lift ← Op.equalIn (d + 1) 22 __do_lift __do_lift_1
            if (!__do_lift) = true then pure (ForInStep.done (some false, ())) else pure (ForInStep.yield (none, ()))).run Try.prog w = .ok (if eqW N M l then none else some false, ()) w
  | [], _ => by simp [eqW]
  | i :: l, h => by
    have hi := h i (List.mem_cons_self ..)
    have h22 : Try.prog.underlying 22 = some (.int .u32) := by kernel_rfl
    have ih := eq23_loop d N M w l fun j hj => h j (List.mem_cons_of_mem _ hj)
    rw [List.forIn_cons]
    simp only [Sem.run_bind, Nat.mul_one, part22 N i hi, part22 M i hi, Result.andThen_ok, run_equalIn_int w d 22 .u32 .u32 _ _ h22]
    by_cases he : dig N i = dig M i
    · have hb : ((dig N i : Int) == (dig M i : Int)) = true := by rw [he]; simp
      simp only [hb, Bool.not_true, Bool.false_eq_true, if_false, Sem.run_pure, Result.andThen_ok]
      simp only [Nat.mul_one, Sem.run_bind] at ih
      rw [show eqW N M (i :: l) = eqW N M l by simp [eqW, he]]
      simpa only [Nat.mul_one] using ih
    · have hb : ((dig N i : Int) == (dig M i : Int)) = false := by rw [beq_eq_false_iff_ne]; omega
      simp only [hb, Bool.not_false, if_true, Sem.run_pure, Result.andThen_ok]
      rw [show eqW N M (i :: l) = false by simp [eqW, he]]
      rfl
theorem eq23 (d N M : Nat) (w : World) : (Op.equalIn (d + 2) 23 (.agg (wc N).toArray) (.agg (wc M).toArray)).run Try.prog w = .ok (eqW N M (List.range' 0 32)) w := by
  have hs : ∀ w, (sizeOf 22).run Try.prog w = .ok 1 w := fun w => by kernel_rfl
  rw [Op.equalIn]
  simp only [Sem.run_bind, run_underlying under23, Result.andThen_ok, hs, Std.Legacy.Range.forIn_eq_forIn_range']
  have h := eq23_loop d N M w (List.range' 0 32) (fun i hi => by simp at hi; omega)
  have e : (List.range' 0 [:32].size) = List.range' 0 32 := rfl
  rw [e, h]
  cases eqW N M (List.range' 0 32) <;> rfl
/-- Numbers whose words are alike are alike. -/
theorem mod_eq_of_dig (N M : Nat) : ∀ k, (∀ i, i < k → dig N i = dig M i) → N % bb ^ k = M % bb ^ k
  | 0, _ => by simp [Nat.mod_one]
  | k + 1, h => by rw [mod_succ, mod_succ, mod_eq_of_dig N M k (fun i hi => h i (by omega)), h k (by omega)]
theorem eqW_iff {N M : Nat} (hN : N < bb ^ 32) (hM : M < bb ^ 32) : eqW N M (List.range' 0 32) = decide (N = M) := by
  rw [Bool.eq_iff_iff]
  simp only [eqW, List.all_eq_true, decide_eq_true_eq]
  constructor
  · intro h
    have := mod_eq_of_dig N M 32 (fun i hi => h i (by simp; omega))
    rwa [Nat.mod_eq_of_lt hN, Nat.mod_eq_of_lt hM] at this
  · rintro rfl i _; rfl
theorem extract_wd (s : Bool) (N : Nat) : (wd s N).toArray.extract 1 (1 + 32) = (wc N).toArray := by
  rw [List.extract_toArray]
  simp [wd, List.extract_eq_take_drop, List.take_of_length_le, wc_length]
/-- The two fields of a Wide. -/
noncomputable def fld (i : Nat) : Field := ((Try.prog.fieldsOf 25)[i]?).getD default
theorem flds : (Try.prog.fieldsOf 25).toList = [fld 0, fld 1] := by kernel_rfl
theorem fld0 : decide ((fld 0).name ≠ "_") = true ∧ (fld 0).type = 4 ∧ (fld 0).offset = 0 := ⟨by kernel_rfl, by kernel_rfl, by kernel_rfl⟩
theorem fld1 : decide ((fld 1).name ≠ "_") = true ∧ (fld 1).type = 23 ∧ (fld 1).offset = 1 := ⟨by kernel_rfl, by kernel_rfl, by kernel_rfl⟩
theorem part25b (s : Bool) (N : Nat) (w : World) : (part 4 (wd s N).toArray 0).run Try.prog w = .ok (.bool s) w := by
  have ha1 : (isAgg 4).run Try.prog w = .ok false w := by kernel_rfl
  unfold part; simp [Sem.run_bind, ha1, wd]
theorem part25a (s : Bool) (N : Nat) (w : World) : (part 23 (wd s N).toArray 1).run Try.prog w = .ok (.agg (wc N).toArray) w := by
  have ha2 : (isAgg 23).run Try.prog w = .ok true w := by kernel_rfl
  have hs2 : (sizeOf 23).run Try.prog w = .ok 32 w := by kernel_rfl
  unfold part
  simp only [Sem.run_bind, ha2, hs2, Result.andThen_ok, if_true, extract_wd, Sem.run_pure]
theorem eq25 (s t : Bool) (N M : Nat) (hN : N < bb ^ 32) (hM : M < bb ^ 32) (w : World) : (Op.equalIn 10000 25 (.agg (wd s N).toArray) (.agg (wd t M).toArray)).run Try.prog w = .ok (decide (s = t ∧ N = M)) w := by
  have hst : Try.prog.underlying 25 = some (.struct (Try.prog.fieldsOf 25)) := by kernel_rfl
  have hb : Try.prog.underlying 4 = some .bool := by kernel_rfl
  obtain ⟨f1, f2, f3⟩ := fld0
  obtain ⟨g1, g2, g3⟩ := fld1
  rw [run_equalIn_struct w 9999 25 _ _ hst (by kernel_rfl), flds]
  rw [Op.eqFields, if_pos (of_decide_eq_true f1), f2, f3, Op.eqFields, if_pos (of_decide_eq_true g1), g2, g3, Op.eqFields]
  have e2 := eq23 9997 N M w
  rw [eqW_iff hN hM] at e2
  rw [Sem.run_bind, part25b, Result.andThen_ok, Sem.run_bind, part25b, Result.andThen_ok, Sem.run_bind, run_equalIn_bool' w 9998 _ _ _ hb, Result.andThen_ok]
  by_cases hst : s = t
  · subst hst
    rw [if_neg (by simp), Sem.run_bind, part25a, Result.andThen_ok, Sem.run_bind, part25a, Result.andThen_ok, Sem.run_bind, e2, Result.andThen_ok]
    by_cases h : N = M
    · simp [h]
    · simp [h]
  · rw [if_pos (by simpa using hst)]
    simp [hst]
theorem run_eqlW (s t : Bool) (N M : Nat) (hN : N < bb ^ 32) (hM : M < bb ^ 32) (x y : Operand) (w : World) :
    (do eqGuard .eql 25 x y (.agg (wd s N).toArray) (.agg (wd t M).toArray); binOp .eql 25 (.agg (wd s N).toArray) (.agg (wd t M).toArray)).run Try.prog w = .ok (.bool (decide (s = t ∧ N = M))) w := by
  rw [Sem.run_bind, run_eqGuard_agg w .eql 25 x y _ _ (by kernel_rfl), Result.andThen_ok, run_eql_struct, eq25 s t N M hN hM]
  rfl
theorem run_neqW (s t : Bool) (N M : Nat) (hN : N < bb ^ 32) (hM : M < bb ^ 32) (x y : Operand) (w : World) :
    (do eqGuard .neq 25 x y (.agg (wd s N).toArray) (.agg (wd t M).toArray); binOp .neq 25 (.agg (wd s N).toArray) (.agg (wd t M).toArray)).run Try.prog w = .ok (.bool (!decide (s = t ∧ N = M))) w := by
  rw [Sem.run_bind, run_eqGuard_agg w .neq 25 x y _ _ (by kernel_rfl), Result.andThen_ok, run_neq_struct, eq25 s t N M hN hM]
  rfl
/-- The comparing of two Wides, as an operation. -/
theorem op_eq {o : Oper} {a : Act} {x y : Operand} {s t : Bool} {N M : Nat} {ty : TypeId} (hN : N < bb ^ 32) (hM : M < bb ^ 32) (ho : o.op = .binOp .eql 25 x y ty) (hx : a.eval x = .agg (wd s N).toArray) (hy : a.eval y = .agg (wd t M).toArray) (w : World) :
    (execOp a.eval o).run Try.prog w = .ok (.value (.bool (decide (s = t ∧ N = M)))) w := by
  unfold execOp
  simp only [ho, hx, hy]
  rw [Sem.run_bind, run_eqlW s t N M hN hM]
  rfl
theorem op_eqM {o : Oper} {a : Act} {x y : Operand} {z : Int} {ty : TypeId} (hz : fits z) (ho : o.op = .binOp .eql 25 x y ty) (hx : a.eval x = .agg (mk z).toArray) (hy : a.eval y = .agg (mk z).toArray) (w : World) :
    (execOp a.eval o).run Try.prog w = .ok (.value (.bool true)) w := by
  rw [op_eq hz hz ho hx hy w]
  simp
theorem op_neqM {o : Oper} {a : Act} {x y : Operand} {z : Int} {ty : TypeId} (hz : fits z) (ho : o.op = .binOp .neq 25 x y ty) (hx : a.eval x = .agg (mk z).toArray) (hy : a.eval y = .agg (mk z).toArray) (w : World) :
    (execOp a.eval o).run Try.prog w = .ok (.value (.bool false)) w := by
  unfold execOp
  simp only [ho, hx, hy]
  unfold mk
  rw [Sem.run_bind, run_neqW _ _ _ _ hz hz]
  simp
end Go.Proofs.Ytcfncekphdkphaa
