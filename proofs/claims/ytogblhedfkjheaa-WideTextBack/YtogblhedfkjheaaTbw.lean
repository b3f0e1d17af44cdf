/- What WideTextBack answers. -/
import Derived.Test.YtogblhedfkjheaaTbs
import Derived.Test.YtogblhedfkjheaaLay
namespace Go.Proofs.Ytogblhedfkjheaa
set_option linter.unusedSimpArgs false
set_option linter.unusedVariables false
open Go.RowKit
theorem txt_len (s : Bool) {N : Nat} (hN : N < bb ^ 32) : (txt s N).length ≤ 310 ∧ 0 < (txt s N).length := by
  rw [txt_of]
  by_cases h0 : N = 0
  · rw [if_pos h0]; decide
  · rw [if_neg h0, List.length_append, dd_len]
    have h1 := (ndig_spec hN).1
    have h2 := ndig_pos h0
    cases s <;> simp <;> omega
theorem bad0 (s : Bool) (N : Nat) (w : World) (hN : N < bb ^ 32) :
    Calls Try.prog 36 #[.string (bs (48 :: txt s N))] w fun e w' => e = .returned (.tuple #[.agg (mk 0).toArray, .bool false]) ∧ Below w.heap.size w w' := by
  have hl := txt_len s hN
  refine parse_bad _ w (by rw [List.length_cons]; omega) ?_ ?_ (.inr (.inl ⟨_, _, rfl, rfl⟩))
  · intro h
    have : txt s N = [] := (List.cons.inj h).2
    rw [this] at hl
    exact absurd hl.2 (by decide)
  · intro c r h
    obtain ⟨rfl, _⟩ := List.cons.inj h
    decide
theorem bad1 (s : Bool) (N : Nat) (w : World) (hN : N < bb ^ 32) :
    Calls Try.prog 36 #[.string (bs (43 :: txt s N))] w fun e w' => e = .returned (.tuple #[.agg (mk 0).toArray, .bool false]) ∧ Below w.heap.size w w' := by
  have hl := txt_len s hN
  refine parse_bad _ w (by rw [List.length_cons]; omega) ?_ ?_ (.inr (.inr ⟨43, List.mem_cons_self .., by decide⟩))
  · intro h
    exact absurd (List.cons.inj h).1 (by decide)
  · intro c r h
    obtain ⟨rfl, _⟩ := List.cons.inj h
    decide
theorem bad2 (s : Bool) (N : Nat) (w : World) (hN : N < bb ^ 32) :
    Calls Try.prog 36 #[.string (bs (txt s N ++ [120]))] w fun e w' => e = .returned (.tuple #[.agg (mk 0).toArray, .bool false]) ∧ Below w.heap.size w w' := by
  have hl := txt_len s hN
  rw [txt_of] at hl ⊢
  by_cases h0 : N = 0
  · rw [if_pos h0]
    exact parse_bad _ w (by decide) (by decide) (fun c r h => by obtain ⟨rfl, _⟩ := List.cons.inj h; decide) (.inr (.inr ⟨120, by decide, by decide⟩))
  · rw [if_neg h0] at hl ⊢
    obtain ⟨c, l, hc, _, h45⟩ := dd_cons hN h0
    cases s
    · refine parse_bad _ w ?_ ?_ ?_ (.inr (.inr ⟨120, by simp, by decide⟩))
      · rw [List.length_append, List.length_singleton]; omega
      · intro h
        have := congrArg List.length h
        simp [hc] at this
      · intro d r h
        rw [show ((if false = true then [45] else []) ++ dd N ++ [120] : List UInt8) = c :: (l ++ [120]) by simp [hc]] at h
        obtain ⟨rfl, _⟩ := List.cons.inj h
        exact h45
    · rw [show ((if true = true then [45] else []) ++ dd N ++ [120] : List UInt8) = 45 :: (dd N ++ [120]) by simp]
      refine parse_badneg _ w ?_ ⟨120, by simp, by decide⟩
      simp at hl ⊢
      omega
theorem bad3 (s : Bool) (N : Nat) (w : World) (hN : N < bb ^ 32) :
    Calls Try.prog 36 #[.string (bs (45 :: (txt s N ++ [45])))] w fun e w' => e = .returned (.tuple #[.agg (mk 0).toArray, .bool false]) ∧ Below w.heap.size w w' := by
  have hl := txt_len s hN
  exact parse_badneg _ w (by rw [List.length_append, List.length_singleton]; omega) ⟨45, by simp, by decide⟩
theorem bad4 (w : World) :
    Calls Try.prog 36 #[.string (bs [])] w fun e w' => e = .returned (.tuple #[.agg (mk 0).toArray, .bool false]) ∧ Below w.heap.size w w' :=
  parse_bad [] w (by decide) (by decide) (fun c r h => by cases h) (.inl rfl)
theorem pre_bs (c : UInt8) (l : List UInt8) : (⟨#[c]⟩ : ByteArray) ++ bs l = bs (c :: l) := bs_append [c] l
theorem bs_post (c : UInt8) (l : List UInt8) : bs l ++ (⟨#[c]⟩ : ByteArray) = bs (l ++ [c]) := bs_append l [c]
/-- The text of z. -/
def tz (z : Int) : ByteArray := bs (txt (decide (z < 0)) z.natAbs)
theorem tz_size {z : Int} (h : fits z) : (tz z).size ≤ 310 := by rw [tz, bs_size]; exact (txt_len _ h).1
theorem is_mk {z : Int} (h : fits z) (w : World) : Calls Try.prog 28 #[.agg (mk z).toArray] w fun e w' => e = .returned (.bool true) ∧ Below w.heap.size w w' :=
  (Is_any (decide (z < 0)) z.natAbs w h).mono fun _ _ ⟨he, hb⟩ => ⟨he.trans (by
    have : (!decide (z < 0) || decide (z.natAbs ≠ 0)) = true := by
      by_cases hz : z < 0
      · have : z.natAbs ≠ 0 := by omega
        simp [this]
      · simp [hz]
    rw [this]), hb⟩
theorem text_mk {z : Int} (h : fits z) (w : World) : Calls Try.prog 34 #[.agg (mk z).toArray] w fun e w' => e = .returned (.string (tz z)) ∧ Below w.heap.size w w' :=
  Text_any (decide (z < 0)) z.natAbs w h
theorem parse_mk {z : Int} (h : fits z) (w : World) : Calls Try.prog 36 #[.string (tz z)] w fun e w' => e = .returned (.tuple #[.agg (mk z).toArray, .bool true]) ∧ Below w.heap.size w w' := by
  have := parse_txt (decide (z < 0)) z.natAbs w h
  rwa [zn_self] at this
theorem bad_0 {z : Int} (h : fits z) (w : World) : Calls Try.prog 36 #[.string ((⟨#[48]⟩ : ByteArray) ++ tz z)] w fun e w' => e = .returned (.tuple #[.agg (mk 0).toArray, .bool false]) ∧ Below w.heap.size w w' := by
  rw [tz, pre_bs]; exact bad0 _ _ w h
theorem bad_1 {z : Int} (h : fits z) (w : World) : Calls Try.prog 36 #[.string ((⟨#[43]⟩ : ByteArray) ++ tz z)] w fun e w' => e = .returned (.tuple #[.agg (mk 0).toArray, .bool false]) ∧ Below w.heap.size w w' := by
  rw [tz, pre_bs]; exact bad1 _ _ w h
theorem bad_2 {z : Int} (h : fits z) (w : World) : Calls Try.prog 36 #[.string (tz z ++ (⟨#[120]⟩ : ByteArray))] w fun e w' => e = .returned (.tuple #[.agg (mk 0).toArray, .bool false]) ∧ Below w.heap.size w w' := by
  rw [tz, bs_post]; exact bad2 _ _ w h
theorem bad_3 {z : Int} (h : fits z) (w : World) : Calls Try.prog 36 #[.string ((⟨#[45]⟩ : ByteArray) ++ tz z ++ (⟨#[45]⟩ : ByteArray))] w fun e w' => e = .returned (.tuple #[.agg (mk 0).toArray, .bool false]) ∧ Below w.heap.size w w' := by
  rw [tz, pre_bs, bs_post]; exact bad3 _ _ w h
theorem bad_4 (w : World) : Calls Try.prog 36 #[.string (⟨#[]⟩ : ByteArray)] w fun e w' => e = .returned (.tuple #[.agg (mk 0).toArray, .bool false]) ∧ Below w.heap.size w w' := bad4 w
theorem ix0 (a b c d e : ByteArray) (w : World) : (Instr.index 47 (.agg #[.string a, .string b, .string c, .string d, .string e]) (.int .u8 0)).run Try.prog w = .ok (.string a) w := by kernel_rfl
theorem ix1 (a b c d e : ByteArray) (w : World) : (Instr.index 47 (.agg #[.string a, .string b, .string c, .string d, .string e]) (.int .u8 1)).run Try.prog w = .ok (.string b) w := by kernel_rfl
theorem ix2 (a b c d e : ByteArray) (w : World) : (Instr.index 47 (.agg #[.string a, .string b, .string c, .string d, .string e]) (.int .u8 2)).run Try.prog w = .ok (.string c) w := by kernel_rfl
theorem ix3 (a b c d e : ByteArray) (w : World) : (Instr.index 47 (.agg #[.string a, .string b, .string c, .string d, .string e]) (.int .u8 3)).run Try.prog w = .ok (.string d) w := by kernel_rfl
theorem ix4 (a b c d e : ByteArray) (w : World) : (Instr.index 47 (.agg #[.string a, .string b, .string c, .string d, .string e]) (.int .u8 4)).run Try.prog w = .ok (.string e) w := by kernel_rfl
attribute [local go_sem ↓] ix0 ix1 ix2 ix3 ix4
section
variable {ops : Array Oper} {rest : List Oper} {o : Oper} {a : Act} {w : World} {Q : Exit → Act → World → Prop}
theorem ldMg {t : TypeId} {x : Operand} {b : Nat} {z : Int} (hw : Region.wanted o (yielded ops a.tmps) = true) (ho : o.op = .load 25 x) (hx : a.eval x = .pointer (some ⟨b, 0, none⟩)) (h : Blk w b (mk z) t)
    (hr : wpList Try.prog ops Q rest (a.put o.dst (.agg (mk z).toArray)) w) : wpList Try.prog ops Q (o :: rest) a w :=
  BigFrame.wpList_want hw fun _ hK => wp_ldB ho hx h (wholeM _) (hK _ _ hr)
theorem eqMg {x y : Operand} {z : Int} {ty : TypeId} (hw : Region.wanted o (yielded ops a.tmps) = true) (ho : o.op = .binOp .eql 25 x y ty) (hx : a.eval x = .agg (mk z).toArray) (hy : a.eval y = .agg (mk z).toArray) (hz : fits z)
    (hr : wpList Try.prog ops Q rest (a.put o.dst (.bool true)) w) : wpList Try.prog ops Q (o :: rest) a w :=
  BigFrame.wpList_want hw fun _ hK => by
    have := hK _ _ hr
    unfold Oper.wp
    rw [op_eqM hz ho hx hy w]
    exact this
end
set_option maxHeartbeats 1000000 in
set_option maxRecDepth 8000 in
theorem back_yes (known : ∀ w, Calls Try.prog 9 #[] w fun e w' => e = .returned (.bool true) ∧ Below w.heap.size w w') (z : Int) (hz : fits z) (n : Int) (h0 : 0 ≤ n) (h255 : n ≤ 255) (w : World) :
    Calls Try.prog 8 #[.agg (mk z).toArray, .int .u8 n] w fun e w' => e = .returned (.bool true) ∧ Below w.heap.size w w' := by
  have s1 := tz_size hz
  have s2 : ((⟨#[45]⟩ : ByteArray) ++ tz z).size ≤ 311 := by rw [ByteArray.size_append]; show 1 + (tz z).size ≤ 311; omega
  have HZ := Lib.hid hz
  clear hz
  have b0 := Blk.new w (mk z) 25 rfl
  have hb : Below w.heap.size w (w.alloc (.cells (mk z).toArray 25)) := (Below.refl _ _).alloc (Nat.le_refl _) _
  go_enter Try.func8, Try.ntmps8
  go_wp2_with fail
  refine (known _).mono ?_
  rintro e w1 ⟨rfl, h1⟩
  replace b0 := b0.call h1
  replace hb := bthen hb h1
  clear h1
  go_wp2_with (first | (with_reducible refine ldM rfl rfl rfl b0 ?_))
  refine (is_mk HZ.out _).mono ?_
  rintro e w1 ⟨rfl, h1⟩
  replace b0 := b0.call h1
  replace hb := bthen hb h1
  clear h1
  go_wp2_with (first | (with_reducible refine ldM rfl rfl rfl b0 ?_))
  refine (text_mk HZ.out _).mono ?_
  rintro e w1 ⟨rfl, h1⟩
  replace b0 := b0.call h1
  replace hb := bthen hb h1
  clear h1
  go_wp2_with fail
  refine (parse_mk HZ.out _).mono ?_
  rintro e w1 ⟨rfl, h1⟩
  replace b0 := b0.call h1
  replace hb := bthen hb h1
  clear h1
  have hj : n % 5 = 0 ∨ n % 5 = 1 ∨ n % 5 = 2 ∨ n % 5 = 3 ∨ n % 5 = 4 := by omega
  rcases hj with hj | hj | hj | hj | hj
  · have f := Blk.new w1 (wd false 0) 25 rfl
    have b6 := laid_new w1 (z)
    replace b0 := laid_old b0 (z)
    replace hb := laid_below hb (z)
    go_wp2_with (first | (with_reducible refine alW rfl rfl ?_) | (with_reducible refine stM rfl rfl rfl rfl f (wd_length _ _) ?_))
    clear f
    generalize (w1.alloc (.cells (wd false 0).toArray 25)).setRow w1.heap.size (mk (z)).toArray = W at *
    generalize w1.heap.size = p at *
    refine (bad_0 HZ.out _).mono ?_
    rintro e w1 ⟨rfl, h1⟩
    replace b0 := b0.call h1
    replace b6 := b6.call h1
    replace hb := bthen hb h1
    clear h1
    have f := Blk.new w1 (wd false 0) 25 rfl
    have b8 := laid_new w1 (0)
    replace b0 := laid_old b0 (0)
    replace b6 := laid_old b6 (0)
    replace hb := laid_below hb (0)
    go_wp2_with (first | (with_reducible refine alW rfl rfl ?_) | (with_reducible refine stM rfl rfl rfl rfl f (wd_length _ _) ?_) | (refine ldMg (by rfl) rfl rfl b6 ?_) | (refine ldMg (by rfl) rfl rfl b0 ?_) | (refine eqMg (by rfl) rfl rfl rfl HZ.out ?_))
    clear f
    generalize (w1.alloc (.cells (wd false 0).toArray 25)).setRow w1.heap.size (mk (0)).toArray = W at *
    generalize w1.heap.size = p at *
    go_ret
    exact ⟨rfl, hb⟩
  · have f := Blk.new w1 (wd false 0) 25 rfl
    have b6 := laid_new w1 (z)
    replace b0 := laid_old b0 (z)
    replace hb := laid_below hb (z)
    go_wp2_with (first | (with_reducible refine alW rfl rfl ?_) | (with_reducible refine stM rfl rfl rfl rfl f (wd_length _ _) ?_))
    clear f
    generalize (w1.alloc (.cells (wd false 0).toArray 25)).setRow w1.heap.size (mk (z)).toArray = W at *
    generalize w1.heap.size = p at *
    refine (bad_1 HZ.out _).mono ?_
    rintro e w1 ⟨rfl, h1⟩
    replace b0 := b0.call h1
    replace b6 := b6.call h1
    replace hb := bthen hb h1
    clear h1
    have f := Blk.new w1 (wd false 0) 25 rfl
    have b8 := laid_new w1 (0)
    replace b0 := laid_old b0 (0)
    replace b6 := laid_old b6 (0)
    replace hb := laid_below hb (0)
    go_wp2_with (first | (with_reducible refine alW rfl rfl ?_) | (with_reducible refine stM rfl rfl rfl rfl f (wd_length _ _) ?_) | (refine ldMg (by rfl) rfl rfl b6 ?_) | (refine ldMg (by rfl) rfl rfl b0 ?_) | (refine eqMg (by rfl) rfl rfl rfl HZ.out ?_))
    clear f
    generalize (w1.alloc (.cells (wd false 0).toArray 25)).setRow w1.heap.size (mk (0)).toArray = W at *
    generalize w1.heap.size = p at *
    go_ret
    exact ⟨rfl, hb⟩
  · have f := Blk.new w1 (wd false 0) 25 rfl
    have b6 := laid_new w1 (z)
    replace b0 := laid_old b0 (z)
    replace hb := laid_below hb (z)
    go_wp2_with (first | (with_reducible refine alW rfl rfl ?_) | (with_reducible refine stM rfl rfl rfl rfl f (wd_length _ _) ?_))
    clear f
    generalize (w1.alloc (.cells (wd false 0).toArray 25)).setRow w1.heap.size (mk (z)).toArray = W at *
    generalize w1.heap.size = p at *
    refine (bad_2 HZ.out _).mono ?_
    rintro e w1 ⟨rfl, h1⟩
    replace b0 := b0.call h1
    replace b6 := b6.call h1
    replace hb := bthen hb h1
    clear h1
    have f := Blk.new w1 (wd false 0) 25 rfl
    have b8 := laid_new w1 (0)
    replace b0 := laid_old b0 (0)
    replace b6 := laid_old b6 (0)
    replace hb := laid_below hb (0)
    go_wp2_with (first | (with_reducible refine alW rfl rfl ?_) | (with_reducible refine stM rfl rfl rfl rfl f (wd_length _ _) ?_) | (refine ldMg (by rfl) rfl rfl b6 ?_) | (refine ldMg (by rfl) rfl rfl b0 ?_) | (refine eqMg (by rfl) rfl rfl rfl HZ.out ?_))
    clear f
    generalize (w1.alloc (.cells (wd false 0).toArray 25)).setRow w1.heap.size (mk (0)).toArray = W at *
    generalize w1.heap.size = p at *
    go_ret
    exact ⟨rfl, hb⟩
  · have f := Blk.new w1 (wd false 0) 25 rfl
    have b6 := laid_new w1 (z)
    replace b0 := laid_old b0 (z)
    replace hb := laid_below hb (z)
    go_wp2_with (first | (with_reducible refine alW rfl rfl ?_) | (with_reducible refine stM rfl rfl rfl rfl f (wd_length _ _) ?_))
    clear f
    generalize (w1.alloc (.cells (wd false 0).toArray 25)).setRow w1.heap.size (mk (z)).toArray = W at *
    generalize w1.heap.size = p at *
    refine (bad_3 HZ.out _).mono ?_
    rintro e w1 ⟨rfl, h1⟩
    replace b0 := b0.call h1
    replace b6 := b6.call h1
    replace hb := bthen hb h1
    clear h1
    have f := Blk.new w1 (wd false 0) 25 rfl
    have b8 := laid_new w1 (0)
    replace b0 := laid_old b0 (0)
    replace b6 := laid_old b6 (0)
    replace hb := laid_below hb (0)
    go_wp2_with (first | (with_reducible refine alW rfl rfl ?_) | (with_reducible refine stM rfl rfl rfl rfl f (wd_length _ _) ?_) | (refine ldMg (by rfl) rfl rfl b6 ?_) | (refine ldMg (by rfl) rfl rfl b0 ?_) | (refine eqMg (by rfl) rfl rfl rfl HZ.out ?_))
    clear f
    generalize (w1.alloc (.cells (wd false 0).toArray 25)).setRow w1.heap.size (mk (0)).toArray = W at *
    generalize w1.heap.size = p at *
    go_ret
    exact ⟨rfl, hb⟩
  · have f := Blk.new w1 (wd false 0) 25 rfl
    have b6 := laid_new w1 (z)
    replace b0 := laid_old b0 (z)
    replace hb := laid_below hb (z)
    go_wp2_with (first | (with_reducible refine alW rfl rfl ?_) | (with_reducible refine stM rfl rfl rfl rfl f (wd_length _ _) ?_))
    clear f
    generalize (w1.alloc (.cells (wd false 0).toArray 25)).setRow w1.heap.size (mk (z)).toArray = W at *
    generalize w1.heap.size = p at *
    refine (bad_4 _).mono ?_
    rintro e w1 ⟨rfl, h1⟩
    replace b0 := b0.call h1
    replace b6 := b6.call h1
    replace hb := bthen hb h1
    clear h1
    have f := Blk.new w1 (wd false 0) 25 rfl
    have b8 := laid_new w1 (0)
    replace b0 := laid_old b0 (0)
    replace b6 := laid_old b6 (0)
    replace hb := laid_below hb (0)
    go_wp2_with (first | (with_reducible refine alW rfl rfl ?_) | (with_reducible refine stM rfl rfl rfl rfl f (wd_length _ _) ?_) | (refine ldMg (by rfl) rfl rfl b6 ?_) | (refine ldMg (by rfl) rfl rfl b0 ?_) | (refine eqMg (by rfl) rfl rfl rfl HZ.out ?_))
    clear f
    generalize (w1.alloc (.cells (wd false 0).toArray 25)).setRow w1.heap.size (mk (0)).toArray = W at *
    generalize w1.heap.size = p at *
    go_ret
    exact ⟨rfl, hb⟩
theorem back_no (known : ∀ w, Calls Try.prog 9 #[] w fun e w' => e = .returned (.bool true) ∧ Below w.heap.size w w') (n : Int) (w : World) :
    Calls Try.prog 8 #[.agg (wd true 0).toArray, .int .u8 n] w fun e w' => e = .returned (.bool true) ∧ Below w.heap.size w w' := by
  have b0 := Blk.new w (wd true 0) 25 rfl
  have hb : Below w.heap.size w (w.alloc (.cells (wd true 0).toArray 25)) := (Below.refl _ _).alloc (Nat.le_refl _) _
  go_enter Try.func8, Try.ntmps8
  go_wp2_with fail
  refine (known _).mono ?_
  rintro e w1 ⟨rfl, h1⟩
  replace b0 := b0.call h1
  replace hb := bthen hb h1
  clear h1
  go_wp2_with (first | (with_reducible refine ldW rfl rfl rfl b0 ?_))
  refine (k_isn _).mono ?_
  rintro e w1 ⟨rfl, h1⟩
  replace hb := bthen hb h1
  clear h1
  go_wp2
  go_ret
  exact ⟨rfl, hb⟩
end Go.Proofs.Ytogblhedfkjheaa
