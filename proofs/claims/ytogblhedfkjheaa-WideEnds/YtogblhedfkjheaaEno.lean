/- What the calls that WideEnds makes answer. -/
import Derived.Test.YtogblhedfkjheaaLay
namespace Go.Proofs.Ytogblhedfkjheaa
open Go.RowKit
/-- The greatest number held, and the least. -/
def top (neg : Bool) : Int := zn neg (bb ^ 32 - 1)
def one (neg : Bool) : Int := zn neg 1
def pre (neg : Bool) : Int := top neg - one neg
def pw (neg : Bool) (n : Int) : Int := one neg * 2 ^ held (n * 4)
theorem one_abs (neg : Bool) : (one neg).natAbs = 1 := zn_abs _ _
theorem top_abs (neg : Bool) : (top neg).natAbs = bb ^ 32 - 1 := zn_abs _ _
theorem one_fits (neg : Bool) : fits (one neg) := by
  rw [fits, one_abs]; exact Nat.lt_of_lt_of_le (show 1 < bb ^ 1 by decide) (bp_mono (by omega))
theorem top_fits (neg : Bool) : fits (top neg) := by
  have := bp_pos 32
  rw [fits, top_abs]; omega
theorem top_plus (neg : Bool) : (top neg + one neg).natAbs = bb ^ 32 := by
  have := bp_pos 32
  unfold top one zn
  cases neg <;> simp only [if_true, if_false, Bool.false_eq_true] <;> omega
theorem top_over (neg : Bool) : ¬ fits (top neg + one neg) := by
  rw [fits, top_plus]; exact Nat.lt_irrefl _
theorem pre_fits (neg : Bool) : fits (pre neg) := by
  have h1 : bb ^ 1 ≤ bb ^ 32 := bp_mono (by omega)
  have h2 : 2 ≤ bb ^ 1 := by decide
  unfold pre top one zn
  cases neg <;> simp only [if_true, if_false, Bool.false_eq_true] <;> show Int.natAbs _ < bb ^ 32 <;> omega
theorem top_two (neg : Bool) : ¬ fits (top neg * 2) := by
  have h1 : bb ^ 1 ≤ bb ^ 32 := bp_mono (by omega)
  have h2 : 2 ≤ bb ^ 1 := by decide
  rw [fits, Int.natAbs_mul, top_abs]
  show ¬ ((bb ^ 32 - 1) * 2 < bb ^ 32)
  omega
theorem pw_abs (neg : Bool) (k : Nat) : (one neg * 2 ^ k).natAbs = 2 ^ k := by
  rw [Int.natAbs_mul, one_abs, Int.natAbs_pow, Nat.one_mul]; rfl
theorem one_over (neg : Bool) : ¬ fits (one neg * 2 ^ held 1024) := by
  have h : held 1024 = 1024 := by have := held_of (n := 1024) (by decide) (by decide); omega
  rw [fits, pw_abs, h, bb_pow 1024 rfl]
  exact Nat.lt_irrefl _
theorem held_n {n : Int} (h0 : 0 ≤ n) (h1 : n ≤ 255) : held (n * 4) = (n * 4).toNat := by
  have := held_of (n := n * 4) (by omega) (by omega); omega
theorem pw_fits (neg : Bool) {n : Int} (h0 : 0 ≤ n) (h1 : n ≤ 255) : fits (pw neg n) := by
  rw [fits, pw, pw_abs, held_n h0 h1, bb_pow 1024 rfl]
  exact two_lt (a := (n * 4).toNat) (b := 1024) (by omega)
theorem pw_bits (neg : Bool) {n : Int} (h0 : 0 ≤ n) (h1 : n ≤ 255) : (bitLen (pw neg n).natAbs : Int) = n * 4 + 1 := by
  rw [pw, pw_abs, bitLen, if_neg (Nat.ne_of_gt (Nat.two_pow_pos _)), Nat.log2_two_pow, held_n h0 h1]
  omega
theorem log_pred {A k e : Nat} (h : A = 2 ^ e) (he : e = k + 1) : (A - 1).log2 = k ∨ A - 1 = 0 := by
  subst he
  have h3 := Nat.two_pow_pos k
  have h4 := Nat.pow_succ (m := 2) (n := k)
  by_cases h0 : A - 1 = 0
  · exact .inr h0
  · exact .inl ((Nat.log2_eq_iff h0).2 ⟨by omega, by omega⟩)
theorem top_bits (neg : Bool) : bitLen (top neg).natAbs = 1024 := by
  have h1 : bb ^ 1 ≤ bb ^ 32 := bp_mono (by omega)
  have h2 : 2 ≤ bb ^ 1 := by decide
  have h0 : bb ^ 32 - 1 ≠ 0 := by omega
  have h4 := (log_pred (k := 1023) (bb_pow 1024 rfl) rfl).resolve_right h0
  rw [top_abs, bitLen, if_neg h0, h4]
theorem wd_top (neg : Bool) : wd neg (bb ^ 32 - 1) = mk (top neg) := by
  have h1 : bb ^ 1 ≤ bb ^ 32 := bp_mono (by omega)
  have h2 : 2 ≤ bb ^ 1 := by decide
  have h3 : bb ^ 32 - 1 ≠ 0 := by omega
  have := wd_mk neg (bb ^ 32 - 1)
  rw [decide_eq_true h3, Bool.and_true] at this
  exact this
theorem e_one_f (w : World) : Calls Try.prog 22 #[.int .i64 1] w fun e w' => e = .returned (.agg (mk (one false)).toArray) ∧ Below w.heap.size w w' := k_from 1 (by decide) (by decide) w
theorem e_one_t (w : World) : Calls Try.prog 22 #[.int .i64 (-1)] w fun e w' => e = .returned (.agg (mk (one true)).toArray) ∧ Below w.heap.size w w' := k_from (-1) (by decide) (by decide) w
theorem e_add (neg : Bool) (w : World) : Calls Try.prog 10 #[.agg (mk (top neg)).toArray, .agg (mk (one neg)).toArray] w fun e w' => e = .returned (.tuple #[.agg (mk 0).toArray, .bool false]) ∧ Below w.heap.size w w' :=
  Add_wn (wd_of (top_fits neg)) (wd_of (one_fits neg)) w (top_over neg)
theorem e_sub (neg : Bool) (w : World) : Calls Try.prog 12 #[.agg (mk (top neg)).toArray, .agg (mk (one neg)).toArray] w fun e w' => e = .returned (.tuple #[.agg (mk (pre neg)).toArray, .bool true]) ∧ Below w.heap.size w w' :=
  Sub_w (wd_of (top_fits neg)) (wd_of (one_fits neg)) w (pre_fits neg)
theorem e_back (neg : Bool) (w : World) : Calls Try.prog 10 #[.agg (mk (pre neg)).toArray, .agg (mk (one neg)).toArray] w fun e w' => e = .returned (.tuple #[.agg (mk (top neg)).toArray, .bool true]) ∧ Below w.heap.size w w' := by
  have h : pre neg + one neg = top neg := Int.sub_add_cancel _ _
  have := Add_w (wd_of (pre_fits neg)) (wd_of (one_fits neg)) w (by rw [h]; exact top_fits neg)
  rwa [h] at this
theorem e_shn (neg : Bool) (w : World) : Calls Try.prog 18 #[.agg (mk (one neg)).toArray, .int .i64 1024] w fun e w' => e = .returned (.tuple #[.agg (mk 0).toArray, .bool false]) ∧ Below w.heap.size w w' :=
  Shl_wn (wd_of (one_fits neg)) 1024 w (by decide) (by decide) (one_over neg)
theorem e_shl (neg : Bool) (n : Int) (h0 : 0 ≤ n) (h1 : n ≤ 255) (w : World) : Calls Try.prog 18 #[.agg (mk (one neg)).toArray, .int .i64 (n * 4)] w fun e w' => e = .returned (.tuple #[.agg (mk (pw neg n)).toArray, .bool true]) ∧ Below w.heap.size w w' :=
  Shl_w (wd_of (one_fits neg)) (n * 4) w (by omega) (by omega) (pw_fits neg h0 h1)
theorem e_mul (neg : Bool) (w : World) : Calls Try.prog 14 #[.agg (mk (top neg)).toArray, .agg (mk 2).toArray] w fun e w' => e = .returned (.tuple #[.agg (mk 0).toArray, .bool false]) ∧ Below w.heap.size w w' :=
  Mul_wn (wd_of (top_fits neg)) (small_w (by decide) (by decide)) w (top_two neg)
theorem e_self (neg : Bool) (w : World) : Calls Try.prog 12 #[.agg (mk (top neg)).toArray, .agg (mk (top neg)).toArray] w fun e w' => e = .returned (.tuple #[.agg (mk 0).toArray, .bool true]) ∧ Below w.heap.size w w' := by
  have h : top neg - top neg = 0 := Int.sub_self _
  have := Sub_w (wd_of (top_fits neg)) (wd_of (top_fits neg)) w (by rw [h]; exact small_fits (by decide) (by decide))
  rwa [h] at this
theorem e_bits (neg : Bool) (n : Int) (h0 : 0 ≤ n) (h1 : n ≤ 255) (w : World) : Calls Try.prog 30 #[.agg (mk (pw neg n)).toArray] w fun e w' => e = .returned (.int .i64 (n * 4 + 1)) ∧ Below w.heap.size w w' :=
  (Bits_w (wd_of (pw_fits neg h0 h1)) w).mono fun _ _ ⟨he, hb⟩ => ⟨he.trans (by rw [pw_bits neg h0 h1]), hb⟩
theorem e_top (neg : Bool) (w : World) : Calls Try.prog 30 #[.agg (mk (top neg)).toArray] w fun e w' => e = .returned (.int .i64 1024) ∧ Below w.heap.size w w' :=
  (Bits_w (wd_of (top_fits neg)) w).mono fun _ _ ⟨he, hb⟩ => ⟨he.trans (by rw [top_bits]; rfl), hb⟩
/-- The filling of the words, from the lowest. -/
theorem fill_set (neg : Bool) (k : Nat) : (wd neg (bb ^ k - 1)).set (k + 1) (.int .u32 4294967295) = wd neg (bb ^ (k + 1) - 1) := by
  have hp := bp_pos k
  unfold wd
  rw [List.set_cons_succ]
  have := wc_set (X := bb ^ k - 1) (k := k) (v := 4294967295) (by omega) (by rw [bb_eq]; decide)
  rw [Nat.pow_succ]
  have e : bb ^ k - 1 + bb ^ k * 4294967295 = bb ^ k * bb - 1 := by
    rw [show bb ^ k * bb = bb ^ k * 4294967295 + bb ^ k by rw [← Nat.mul_succ, bb_eq]]
    omega
  rw [e] at this
  rw [← this]; rfl
theorem bdW1 {ops : Array Oper} {rest : List Oper} {o : Oper} {a : Act} {w : World} {Q : Exit → Act → World → Prop} {x : Operand} {b : Bool} (hgd : o.guard = none) (ho : o.op = .build 25 #[(0, x)]) (hx : a.eval x = .bool b)
    (hr : wpList Try.prog ops Q rest (a.put o.dst (.agg (wd b 0).toArray)) w) : wpList Try.prog ops Q (o :: rest) a w :=
  wpList_plain hgd fun K hK => by
    have := hK _ _ hr
    unfold Oper.wp execOp
    simp only [ho, Sem.run_bind]
    rw [show Array.map (fun x : Nat × Operand => (x.fst, a.eval x.snd)) #[(0, x)] = #[(0, .bool b)] by simp [hx], run_build w 25 #[(0, .bool b)] (wd b 0).toArray (by cases b <;> kernel_rfl)]
    exact this
theorem op_le {o : Oper} {a : Act} {x y : Operand} {ty : TypeId} {m k : Int} (h : m ≤ k) (ho : o.op = .binOp .leq 3 x y ty) (hx : a.eval x = .int .i64 m) (hy : a.eval y = .int .i64 k) (w : World) :
    (execOp a.eval o).run Try.prog w = .ok (.value (.bool true)) w := by
  unfold execOp
  simp only [ho, hx, hy]
  go_simp
theorem op_cv {o : Oper} {a : Act} {x : Operand} {n : Int} (h0 : 0 ≤ n) (h1 : n ≤ 255) (ho : o.op = .convert 5 3 x) (hx : a.eval x = .int .u8 n) (w : World) :
    (execOp a.eval o).run Try.prog w = .ok (.value (.int .i64 n)) w := by
  unfold execOp
  simp only [ho, hx]
  go_simp
  rw [IntKind.wrap_i64]; omega
theorem op_m4 {o : Oper} {a : Act} {x y : Operand} {ty : TypeId} {n : Int} (h0 : 0 ≤ n) (h1 : n ≤ 255) (ho : o.op = .binOp .mul 3 x y ty) (hx : a.eval x = .int .i64 n) (hy : a.eval y = .int .i64 4) (w : World) :
    (execOp a.eval o).run Try.prog w = .ok (.value (.int .i64 (n * 4))) w := by
  unfold execOp
  simp only [ho, hx, hy]
  go_simp
  rw [IntKind.wrap_i64]; omega
theorem op_p1 {o : Oper} {a : Act} {x y : Operand} {ty : TypeId} {n : Int} (h0 : 0 ≤ n) (h1 : n ≤ 2000) (ho : o.op = .binOp .add 3 x y ty) (hx : a.eval x = .int .i64 n) (hy : a.eval y = .int .i64 1) (w : World) :
    (execOp a.eval o).run Try.prog w = .ok (.value (.int .i64 (n + 1))) w := by
  unfold execOp
  simp only [ho, hx, hy]
  go_simp
  rw [IntKind.wrap_i64]; omega
theorem op_ei {o : Oper} {a : Act} {x y : Operand} {ty : TypeId} {n : Int} (ho : o.op = .binOp .eql 3 x y ty) (hx : a.eval x = .int .i64 n) (hy : a.eval y = .int .i64 n) (w : World) :
    (execOp a.eval o).run Try.prog w = .ok (.value (.bool true)) w := by
  unfold execOp
  simp only [ho, hx, hy]
  go_simp
theorem rg_cutp {P : Program} {id : Nat} {ops : Array Oper} {b : Bool} {Q : Exit → Act → World → Prop} {a : Act} {w : World} (S : Nat → World → Prop) (F : Act → Nat → Act)
    (h : (Code.region id ops b).wp P (fun e a' w' => e = .normal ∧ ∃ p, a' = F a p ∧ S p w') a w) (hr : ∀ p w', S p w' → Q .normal (F a p) w') : (Code.region id ops b).wp P Q a w :=
  Code.wp_mono (fun e a' w' ⟨he, p, ha, hs⟩ => by subst he; subst ha; exact hr p w' hs) h
end Go.Proofs.Ytogblhedfkjheaa
