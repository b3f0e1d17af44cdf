/- Joined of: Prs Eql Kex Lay. -/
import Derived.Test.YtoegjibeomhekaaGreatTxt
/- wide.plainDigits, wide.fromDigits, wide.Parse. -/
namespace Go.Proofs.YtoegjibeomhekaaGreat
open Go.RowKit
set_option maxRecDepth 100000
/-- The digits of a text. -/
def dg (s : ByteArray) : List Nat := s.data.toList.map fun c => c.toNat - 48
def Digits (s : ByteArray) : Prop := ∀ i (h : i < s.size), 48 ≤ s[i].toNat ∧ s[i].toNat ≤ 57
theorem dg_length (s : ByteArray) : (dg s).length = s.size := by simp [dg]
theorem dg_get (s : ByteArray) (i : Nat) (h : i < s.size) : (dg s)[i]? = some (s[i].toNat - 48) := by
  simp [dg, h]
  rfl
theorem dg_take_succ (s : ByteArray) (i : Nat) (h : i < s.size) : (dg s).take (i + 1) = (dg s).take i ++ [s[i].toNat - 48] := by
  rw [List.take_add_one, dg_get s i h]; rfl
theorem dg_le (s : ByteArray) (h : Digits s) : ∀ d ∈ dg s, d ≤ 9 := by
  intro d hd
  obtain ⟨i, hi⟩ := List.mem_iff_getElem?.1 hd
  have hlt : i < s.size := by
    have := (List.getElem?_eq_some_iff.1 hi).1
    rwa [dg_length] at this
  rw [dg_get s i hlt] at hi
  have := h i hlt
  simp at hi
  omega
theorem ne_zero_text {s : ByteArray} (h0 : 0 < s.size) (h : s[0].toNat ≠ 48 ∨ s.size ≠ 1) : (s.toList == [48]) = false := by
  rw [beq_eq_false_iff_ne, ByteArray.toList_eq]
  intro e
  have h1 : s.size = 1 := by have := congrArg List.length e; simpa using this
  rcases h with h | h
  · apply h
    have h2 : s.data.toList[0]? = some 48 := by rw [e]; rfl
    have h3 : s.data.toList[0]? = some s[0] := by simp [h0]; rfl
    rw [h3] at h2
    rw [Option.some.inj h2]; rfl
  · exact h h1
end Go.Proofs.YtoegjibeomhekaaGreat

/- Wides held against each other by == and !=. -/
namespace Go.Proofs.YtoegjibeomhekaaGreat
set_option linter.unusedSimpArgs false
set_option linter.unusedVariables false
open Go.RowKit
set_option maxRecDepth 100000
theorem part22 (N i : Nat) (hi : i < 32) (w : World) : (part 27 (wc N).toArray i).run Tryz.prog w = .ok (.int .u32 (dig N i : Nat)) w := by
  have h := wc_get N i hi
  have ha : (isAgg 27).run Tryz.prog w = .ok false w := by kernel_rfl
  unfold part
  simp [Sem.run_bind, ha, h]
/-- Are the words at these places alike? -/
def eqW (N M : Nat) (l : List Nat) : Bool := l.all fun i => decide (dig N i = dig M i)
theorem eq23_loop (d N M : Nat) (w : World) : ∀ l : List Nat, (∀ i ∈ l, i < 32) →
    (forIn l ((none, ()) : Option Bool × Unit) fun i __s => do
            let __do_lift ← part 27 (wc N).toArray (i * 1)
            let __do_lift_1 ← part 27 (wc M).toArray (i * 1)
            let __do_lift ← Op.equalIn (d + 1) 27 __do_lift __do_lift_1
            if (!__do_lift) = true then pure (ForInStep.done (some false, ())) else pure (ForInStep.yield (none, ()))).run Tryz.prog w = .ok (if eqW N M l then none else some false, ()) w
  | [], _ => by simp [eqW]
  | i :: l, h => by
    have hi := h i (List.mem_cons_self ..)
    have h22 : Tryz.prog.underlying 27 = some (.int .u32) := by kernel_rfl
    have ih := eq23_loop d N M w l fun j hj => h j (List.mem_cons_of_mem _ hj)
    rw [List.forIn_cons]
    simp only [Sem.run_bind, Nat.mul_one, part22 N i hi, part22 M i hi, Result.andThen_ok, run_equalIn_int w d 27 .u32 .u32 _ _ h22]
    by_cases he : dig N i = dig M i
    · have hb : ((dig N i : Int) == (dig M i : Int)) = true := by rw [he]; simp
      simp only [hb, Bool.not_true, Bool.false_eq_true, if_false, Sem.run_pure, Result.andThen_ok]
      simp only [Nat.mul_one, Sem.run_bind] at ih
      rw [show eqW N M (i :: l) = eqW N M l by simp [eqW, he]]
      simpa only [Nat.mul_one] using ih
    · have hb : ((dig N i : Int) == (dig M i : Int)) = false := by rw [beq_eq_false_iff_ne]; omega
      simp only [hb, Bool.not_false, if_true, Sem.run_pure, Result.andThen_ok]
      rw [show eqW N M (i :: l) = false by simp [eqW, he]]
      rfl
theorem eq23 (d N M : Nat) (w : World) : (Op.equalIn (d + 2) 41 (.agg (wc N).toArray) (.agg (wc M).toArray)).run Tryz.prog w = .ok (eqW N M (List.range' 0 32)) w := by
  have hs : ∀ w, (sizeOf 27).run Tryz.prog w = .ok 1 w := fun w => by kernel_rfl
  rw [Op.equalIn]
  simp only [Sem.run_bind, run_underlying under23, Result.andThen_ok, hs, Std.Legacy.Range.forIn_eq_forIn_range']
  have h := eq23_loop d N M w (List.range' 0 32) (fun i hi => by simp at hi; omega)
  have e : (List.range' 0 [:32].size) = List.range' 0 32 := rfl
  rw [e, h]
  cases eqW N M (List.range' 0 32) <;> rfl
/-- Numbers whose words are alike are alike. -/
theorem mod_eq_of_dig (N M : Nat) : ∀ k, (∀ i, i < k → dig N i = dig M i) → N % bb ^ k = M % bb ^ k
  | 0, _ => by simp [Nat.mod_one]
  | k + 1, h => by rw [mod_succ, mod_succ, mod_eq_of_dig N M k (fun i hi => h i (by omega)), h k (by omega)]
theorem eqW_iff {N M : Nat} (hN : N < bb ^ 32) (hM : M < bb ^ 32) : eqW N M (List.range' 0 32) = decide (N = M) := by
  rw [Bool.eq_iff_iff]
  simp only [eqW, List.all_eq_true, decide_eq_true_eq]
  constructor
  · intro h
    have := mod_eq_of_dig N M 32 (fun i hi => h i (by simp; omega))
    rwa [Nat.mod_eq_of_lt hN, Nat.mod_eq_of_lt hM] at this
  · rintro rfl i _; rfl
theorem extract_wd (s : Bool) (N : Nat) : (wd s N).toArray.extract 1 (1 + 32) = (wc N).toArray := by
  rw [List.extract_toArray]
  simp [wd, List.extract_eq_take_drop, List.take_of_length_le, wc_length]
/-- The two fields of a Wide. -/
noncomputable def fld (i : Nat) : Field := ((Tryz.prog.fieldsOf 43)[i]?).getD default
theorem flds : (Tryz.prog.fieldsOf 43).toList = [fld 0, fld 1] := by kernel_rfl
theorem fld0 : decide ((fld 0).name ≠ "_") = true ∧ (fld 0).type = 4 ∧ (fld 0).offset = 0 := ⟨by kernel_rfl, by kernel_rfl, by kernel_rfl⟩
theorem fld1 : decide ((fld 1).name ≠ "_") = true ∧ (fld 1).type = 41 ∧ (fld 1).offset = 1 := ⟨by kernel_rfl, by kernel_rfl, by kernel_rfl⟩
theorem part25b (s : Bool) (N : Nat) (w : World) : (part 4 (wd s N).toArray 0).run Tryz.prog w = .ok (.bool s) w := by
  have ha1 : (isAgg 4).run Tryz.prog w = .ok false w := by kernel_rfl
  unfold part; simp [Sem.run_bind, ha1, wd]
theorem part25a (s : Bool) (N : Nat) (w : World) : (part 41 (wd s N).toArray 1).run Tryz.prog w = .ok (.agg (wc N).toArray) w := by
  have ha2 : (isAgg 41).run Tryz.prog w = .ok true w := by kernel_rfl
  have hs2 : (sizeOf 41).run Tryz.prog w = .ok 32 w := by kernel_rfl
  unfold part
  simp only [Sem.run_bind, ha2, hs2, Result.andThen_ok, if_true, extract_wd, Sem.run_pure]
theorem eq25 (s t : Bool) (N M : Nat) (hN : N < bb ^ 32) (hM : M < bb ^ 32) (w : World) : (Op.equalIn 10000 43 (.agg (wd s N).toArray) (.agg (wd t M).toArray)).run Tryz.prog w = .ok (decide (s = t ∧ N = M)) w := by
  have hst : Tryz.prog.underlying 43 = some (.struct (Tryz.prog.fieldsOf 43)) := by kernel_rfl
  have hb : Tryz.prog.underlying 4 = some .bool := by kernel_rfl
  obtain ⟨f1, f2, f3⟩ := fld0
  obtain ⟨g1, g2, g3⟩ := fld1
  rw [run_equalIn_struct w 9999 43 _ _ hst (by kernel_rfl), flds]
  rw [Op.eqFields, if_pos (of_decide_eq_true f1), f2, f3, Op.eqFields, if_pos (of_decide_eq_true g1), g2, g3, Op.eqFields]
  have e2 := eq23 9997 N M w
  rw [eqW_iff hN hM] at e2
  rw [Sem.run_bind, part25b, Result.andThen_ok, Sem.run_bind, part25b, Result.andThen_ok, Sem.run_bind, run_equalIn_bool' w 9998 _ _ _ hb, Result.andThen_ok]
  by_cases hst : s = t
  · subst hst
    rw [if_neg (by simp), Sem.run_bind, part25a, Result.andThen_ok, Sem.run_bind, part25a, Result.andThen_ok, Sem.run_bind, e2, Result.andThen_ok]
    by_cases h : N = M
    · simp [h]
    · simp [h]
  · rw [if_pos (by simpa using hst)]
    simp [hst]
theorem run_eqlW (s t : Bool) (N M : Nat) (hN : N < bb ^ 32) (hM : M < bb ^ 32) (x y : Operand) (w : World) :
    (do eqGuard .eql 43 x y (.agg (wd s N).toArray) (.agg (wd t M).toArray); binOp .eql 43 (.agg (wd s N).toArray) (.agg (wd t M).toArray)).run Tryz.prog w = .ok (.bool (decide (s = t ∧ N = M))) w := by
  rw [Sem.run_bind, run_eqGuard_agg w .eql 43 x y _ _ (by kernel_rfl), Result.andThen_ok, run_eql_struct, eq25 s t N M hN hM]
  rfl
theorem run_neqW (s t : Bool) (N M : Nat) (hN : N < bb ^ 32) (hM : M < bb ^ 32) (x y : Operand) (w : World) :
    (do eqGuard .neq 43 x y (.agg (wd s N).toArray) (.agg (wd t M).toArray); binOp .neq 43 (.agg (wd s N).toArray) (.agg (wd t M).toArray)).run Tryz.prog w = .ok (.bool (!decide (s = t ∧ N = M))) w := by
  rw [Sem.run_bind, run_eqGuard_agg w .neq 43 x y _ _ (by kernel_rfl), Result.andThen_ok, run_neq_struct, eq25 s t N M hN hM]
  rfl
/-- The comparing of two Wides, as an operation. -/
theorem op_eq {o : Oper} {a : Act} {x y : Operand} {s t : Bool} {N M : Nat} {ty : TypeId} (hN : N < bb ^ 32) (hM : M < bb ^ 32) (ho : o.op = .binOp .eql 43 x y ty) (hx : a.eval x = .agg (wd s N).toArray) (hy : a.eval y = .agg (wd t M).toArray) (w : World) :
    (execOp a.eval o).run Tryz.prog w = .ok (.value (.bool (decide (s = t ∧ N = M)))) w := by
  unfold execOp
  simp only [ho, hx, hy]
  rw [Sem.run_bind, run_eqlW s t N M hN hM]
  rfl
theorem op_eqM {o : Oper} {a : Act} {x y : Operand} {z : Int} {ty : TypeId} (hz : fits z) (ho : o.op = .binOp .eql 43 x y ty) (hx : a.eval x = .agg (mk z).toArray) (hy : a.eval y = .agg (mk z).toArray) (w : World) :
    (execOp a.eval o).run Tryz.prog w = .ok (.value (.bool true)) w := by
  rw [op_eq hz hz ho hx hy w]
  simp
theorem op_neqM {o : Oper} {a : Act} {x y : Operand} {z : Int} {ty : TypeId} (hz : fits z) (ho : o.op = .binOp .neq 43 x y ty) (hx : a.eval x = .agg (mk z).toArray) (hy : a.eval y = .agg (mk z).toArray) (w : World) :
    (execOp a.eval o).run Tryz.prog w = .ok (.value (.bool false)) w := by
  unfold execOp
  simp only [ho, hx, hy]
  unfold mk
  rw [Sem.run_bind, run_neqW _ _ _ _ hz hz]
  simp
end Go.Proofs.YtoegjibeomhekaaGreat

/- The laws' own examples: what known answers. -/
namespace Go.Proofs.YtoegjibeomhekaaGreat
open Go.RowKit
set_option maxRecDepth 100000
theorem divOk_small {B : Nat} (h : B < bb ^ 2) : DivOk B := fun N M w hN hM h0 => by
  have hN2 : N < bb ^ 2 := by omega
  have hM2 : M < bb ^ 2 := by omega
  have hN' := Nat.lt_of_lt_of_le hN2 (bp_mono (show 2 ≤ 32 by omega))
  have hM' := Nat.lt_of_lt_of_le hM2 (bp_mono (show 2 ≤ 32 by omega))
  rcases Nat.lt_or_ge (nw N) (nw M) with h1 | h1
  · exact divide_less N M w hN' hM' h1
  · exact divide_two N M w hN' hM' h0 h1 (nw_le_of hN2)
theorem small_fits {n : Int} (h1 : -1000 ≤ n) (h2 : n ≤ 1000) : fits n := fits_of (by omega) (by omega)
theorem small_w {n : Int} (h1 : -1000 ≤ n) (h2 : n ≤ 1000) : Wd (mk n) n := wd_of (small_fits h1 h2)
theorem k_mul (w : World) : Calls Tryz.prog 86 #[.agg (mk (-3)).toArray, .agg (mk 4).toArray] w fun e w' => e = .returned (.tuple #[.agg (mk (-12)).toArray, .bool true]) ∧ Below w.heap.size w w' :=
  Mul_w (x := -3) (y := 4) (small_w (by decide) (by decide)) (small_w (by decide) (by decide)) w (small_fits (by decide) (by decide))
theorem k_div (w : World) : Calls Tryz.prog 90 #[.agg (mk (-7)).toArray, .agg (mk 2).toArray] w fun e w' => e = .returned (.tuple #[.agg (mk (-3)).toArray, .agg (mk (-1)).toArray, .bool true]) ∧ Below w.heap.size w w' :=
  DivMod_w (x := -7) (y := 2) (small_w (by decide) (by decide)) (small_w (by decide) (by decide)) (by decide) 7 (by decide) (by decide) (divOk_small (by rw [bb_eq]; decide)) w
theorem k_divz (w : World) : Calls Tryz.prog 90 #[.agg (mk (-12)).toArray, .agg (mk 0).toArray] w fun e w' => e = .returned (.tuple #[.agg (mk 0).toArray, .agg (mk 0).toArray, .bool false]) ∧ Below w.heap.size w w' :=
  DivMod_wz (x := -12) (small_w (by decide) (by decide)) (small_w (by decide) (by decide)) w
def t12 : ByteArray := ⟨#[45, 49, 50]⟩
def d12 : ByteArray := ⟨#[49, 50]⟩
theorem d12_digits : Digits d12 := fun i h => by
  have h2 : i < 2 := h
  rcases i with _ | _ | i
  · exact (show 48 ≤ (49 : UInt8).toNat ∧ (49 : UInt8).toNat ≤ 57 by decide)
  · exact (show 48 ≤ (50 : UInt8).toNat ∧ (50 : UInt8).toNat ≤ 57 by decide)
  · omega
theorem held_of {n : Int} (h0 : 0 ≤ n) (h1 : n ≤ 1024) : (held n : Int) = n := by rw [← held_eq]; omega
/-- 2 to the power of 1023. -/
def big : Int := 1 * 2 ^ held 1023
theorem two_abs (k : Nat) : ((2 : Int) ^ k).natAbs = 2 ^ k := by rw [Int.natAbs_pow]; rfl
theorem bitLen_pow (k : Nat) : bitLen (2 ^ k) = k + 1 := by rw [bitLen, if_neg (Nat.ne_of_gt (Nat.two_pow_pos k)), Nat.log2_two_pow]
theorem not_dbl {A k : Nat} (h : A = 2 ^ (k + 1)) : ¬ 2 ^ k * 2 < A := by rw [h, Nat.pow_succ]; exact Nat.lt_irrefl _
theorem big_abs : big.natAbs = 2 ^ 1023 := by
  have h : held 1023 = 1023 := by have := held_of (n := 1023) (by decide) (by decide); omega
  rw [big, h, Int.one_mul, two_abs]
theorem big_fits : fits big := by
  rw [fits, big_abs, bb_pow 1024 rfl]
  exact two_lt (a := 1023) (b := 1024) (by decide)
theorem big_pos : 0 < big := by
  rw [big, Int.one_mul]; exact Int.pow_pos (by decide)
theorem big_over : ¬ fits (big + big) := by
  intro h
  rw [fits, show (big + big).natAbs = big.natAbs * 2 by have := big_pos; omega, big_abs] at h
  exact not_dbl (bb_pow (1023 + 1) rfl) h
theorem k_over (w : World) : Calls Tryz.prog 113 #[.agg (mk big).toArray, .agg (mk big).toArray] w fun e w' => e = .returned (.tuple #[.agg (mk 0).toArray, .bool false]) ∧ Below w.heap.size w w' :=
  Add_wn (wd_of big_fits) (wd_of big_fits) w big_over
theorem k_bits (w : World) : Calls Tryz.prog 54 #[.agg (mk big).toArray] w fun e w' => e = .returned (.int .i64 1024) ∧ Below w.heap.size w w' :=
  (Bits_w (wd_of big_fits) w).mono fun _ _ ⟨he, hb⟩ => ⟨he.trans (by
    rw [big_abs, bitLen_pow 1023]; rfl), hb⟩
theorem k_gcd (w : World) : Calls Tryz.prog 69 #[.agg (mk (-12)).toArray, .agg (mk 18).toArray] w fun e w' => e = .returned (.agg (mk 6).toArray) ∧ Below w.heap.size w w' :=
  Gcd_w (x := -12) (y := 18) (small_w (by decide) (by decide)) (small_w (by decide) (by decide)) 18 (Nat.lt_of_lt_of_le (show 18 < bb ^ 1 by decide) (bp_mono (by omega))) (by decide) (by decide) (divOk_small (by rw [bb_eq]; decide)) w
theorem k_cmp (w : World) : Calls Tryz.prog 74 #[.agg (mk (-12)).toArray, .agg (mk 6).toArray] w fun e w' => e = .returned (.int .i64 (-1)) ∧ Below w.heap.size w w' :=
  Cmp_w (x := -12) (y := 6) (small_w (by decide) (by decide)) (small_w (by decide) (by decide)) w
theorem k_neg (w : World) : Calls Tryz.prog 78 #[.agg (mk (-12)).toArray] w fun e w' => e = .returned (.agg (mk 12).toArray) ∧ Below w.heap.size w w' :=
  Neg_w (x := -12) (small_w (by decide) (by decide)) w
theorem k_is (w : World) : Calls Tryz.prog 67 #[.agg (mk (-12)).toArray] w fun e w' => e = .returned (.bool true) ∧ Below w.heap.size w w' :=
  Is_any true 12 w (Nat.lt_of_lt_of_le (show 12 < bb ^ 1 by decide) (bp_mono (by omega)))
theorem k_isn (w : World) : Calls Tryz.prog 67 #[.agg (wd true 0).toArray] w fun e w' => e = .returned (.bool false) ∧ Below w.heap.size w w' :=
  Is_any true 0 w (bp_pos 32)
theorem k_from (n : Int) (h1 : -1000 ≤ n) (h2 : n ≤ 1000) (w : World) : Calls Tryz.prog 53 #[.int .i64 n] w fun e w' => e = .returned (.agg (mk n).toArray) ∧ Below w.heap.size w w' :=
  From_any n w (by omega) (by omega)
end Go.Proofs.YtoegjibeomhekaaGreat

/- Variables laid behind all others. -/
namespace Go.Proofs.YtoegjibeomhekaaGreat
open Go.RowKit
set_option maxRecDepth 100000
/- A variable laid behind all others, that holds z. -/
theorem laid_new (w : World) (z : Int) : Blk ((w.alloc (.cells (wd false 0).toArray 43)).setRow w.heap.size (mk z).toArray) w.heap.size (mk z) 43 := (Blk.new w (wd false 0) 43 rfl).row (mk z)
theorem laid_old {w : World} {b : Nat} {cs : List Value} {t : TypeId} (h : Blk w b cs t) (z : Int) : Blk ((w.alloc (.cells (wd false 0).toArray 43)).setRow w.heap.size (mk z).toArray) b cs t :=
  (h.old _).rowOther _ (Nat.ne_of_lt h.lt)
theorem laid_below {w W : World} (h : Below w.heap.size w W) (z : Int) : Below w.heap.size w ((W.alloc (.cells (wd false 0).toArray 43)).setRow W.heap.size (mk z).toArray) :=
  below_row (h.alloc h.size _) h.size _
theorem laid_two {w : World} {b : Nat} {cs : List Value} {t : TypeId} (h : Blk w b cs t) (z y : Int) : Blk ((((w.alloc (.cells (wd false 0).toArray 43)).alloc (.cells (wd false 0).toArray 43)).setRow w.heap.size (mk z).toArray).setRow (w.heap.size + 1) (mk y).toArray) b cs t := by
  have := h.lt
  exact (((h.old _).old _).rowOther _ (by omega)).rowOther _ (by omega)
theorem laid_below2 {w W : World} (h : Below w.heap.size w W) (z y : Int) : Below w.heap.size w ((((W.alloc (.cells (wd false 0).toArray 43)).alloc (.cells (wd false 0).toArray 43)).setRow W.heap.size (mk z).toArray).setRow (W.heap.size + 1) (mk y).toArray) := by
  have := h.size
  exact below_row (below_row ((h.alloc h.size _).alloc (by simp; omega) _) h.size _) (by omega) _
end Go.Proofs.YtoegjibeomhekaaGreat
