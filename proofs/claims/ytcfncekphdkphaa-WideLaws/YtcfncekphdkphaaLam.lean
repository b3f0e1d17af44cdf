/- What WideLaws answers of numbers that aren't too great. -/
import Derived.Test.YtcfncekphdkphaaLaw
namespace Go.Proofs.Ytcfncekphdkphaa
set_option linter.unusedSimpArgs false
set_option linter.unusedVariables false
open Go.RowKit
set_option maxRecDepth 100000
/-- The sign of x. -/
def sgz (x : Int) : Int := if x < 0 then -1 else if 0 < x then 1 else 0
theorem sgz_zero (x : Int) : sgz x = 0 ↔ x = 0 := by
  unfold sgz
  by_cases h : x < 0
  · simp [h]; omega
  · by_cases h2 : 0 < x
    · simp [h, h2]; omega
    · simp [h, h2]; omega
theorem sgz_neg (x : Int) : sgz x < 0 ↔ x < 0 := by
  unfold sgz
  by_cases h : x < 0
  · simp [h]
  · by_cases h2 : 0 < x
    · simp [h, h2]
    · simp [h, h2]
theorem sgz_same {r x : Int} (h0 : r ≠ 0) (h1 : 0 ≤ x → 0 ≤ r) (h2 : x ≤ 0 → r ≤ 0) : sgz r = sgz x := by
  unfold sgz
  by_cases h : x < 0
  · have : r < 0 := by omega
    simp [h, this]
  · have a1 : ¬ r < 0 := by omega
    have a2 : 0 < r := by omega
    have a3 : 0 < x := by omega
    simp [h, a1, a2, a3]
theorem cmp0 {cs : List Value} {x : Int} (hx : Wd cs x) (w : World) : Calls Try.prog 27 #[.agg cs.toArray, .agg (mk 0).toArray] w fun e w' => e = .returned (.int .i64 (sgz x)) ∧ Below w.heap.size w w' :=
  Cmp_w hx (wd_of fits0) w
theorem op_eqi {o : Oper} {a : Act} {x y : Operand} {ty : TypeId} {m k : Int} {b : Bool} (h : decide (m = k) = b) (ho : o.op = .binOp .eql 3 x y ty) (hx : a.eval x = .int .i64 m) (hy : a.eval y = .int .i64 k) (w : World) :
    (execOp a.eval o).run Try.prog w = .ok (.value (.bool b)) w := by
  subst h
  unfold execOp
  simp only [ho, hx, hy]
  go_simp
  rfl
theorem cmp00 (w : World) : Calls Try.prog 27 #[.agg (mk 0).toArray, .agg (mk 0).toArray] w fun e w' => e = .returned (.int .i64 0) ∧ Below w.heap.size w w' := cmp0 (wd_of fits0) w
set_option maxHeartbeats 4000000 in
theorem laws_main (known : ∀ w, Calls Try.prog 12 #[] w fun e w' => e = .returned (.bool true) ∧ Below w.heap.size w w') {x y z : Int} (hx : fits x) (hy : fits y) (hz : fits z) (lx : bitLen x.natAbs ≤ 300) (ly : bitLen y.natAbs ≤ 300) (lz : bitLen z.natAbs ≤ 300) (w : World) :
    Calls Try.prog 4 #[.agg (mk x).toArray, .agg (mk y).toArray, .agg (mk z).toArray] w fun e w' => e = .returned (.bool true) ∧ Below w.heap.size w w' := by
  obtain ⟨f1, f2, f3, f4⟩ := laws_fits lx ly lz (Nat.le_refl _)
  have A1 := fun w => Add_w (wd_of hx) (wd_of hy) w f1
  have A2 := fun w => Add_w (wd_of hy) (wd_of hx) w (by rw [Int.add_comm]; exact f1)
  rw [Int.add_comm y x] at A2
  have S1 := fun w => Sub_w (wd_of f1) (wd_of hy) w (by rw [Int.add_sub_cancel]; exact hx)
  rw [Int.add_sub_cancel] at S1
  have M1 := fun w => Mul_w (wd_of hz) (wd_of f1) w f2
  have M2 := fun w => Mul_w (wd_of hz) (wd_of hx) w f3
  have M3 := fun w => Mul_w (wd_of hz) (wd_of hy) w f4
  have A3 := fun w => Add_w (wd_of f3) (wd_of f4) w (by rw [← Int.mul_add]; exact f2)
  rw [← Int.mul_add] at A3
  obtain ⟨s, hs⟩ : ∃ s : Int, x + y = s := ⟨_, rfl⟩
  obtain ⟨p, hp⟩ : ∃ p : Int, z * (x + y) = p := ⟨_, rfl⟩
  obtain ⟨c1, hc1⟩ : ∃ p : Int, z * x = p := ⟨_, rfl⟩
  obtain ⟨c2, hc2⟩ : ∃ p : Int, z * y = p := ⟨_, rfl⟩
  rw [hp, hs] at M1
  rw [hp] at A3
  rw [hs] at A1 A2 S1 f1
  rw [hp] at f2
  rw [hc1] at M2 A3
  rw [hc2] at M3 A3
  have HA1 := Lib.hid A1
  have HA2 := Lib.hid A2
  have HA3 := Lib.hid A3
  have HS1 := Lib.hid S1
  have HM1 := Lib.hid M1
  have HM2 := Lib.hid M2
  have HM3 := Lib.hid M3
  have HX := Lib.hid hx
  have HY := Lib.hid hy
  have HF1 := Lib.hid f1
  have HF2 := Lib.hid f2
  have BX := fun w => Bits_w (wd_of hx) w
  have BY := fun w => Bits_w (wd_of hy) w
  have BZ := fun w => Bits_w (wd_of hz) w
  have HBX := Lib.hid BX
  have HBY := Lib.hid BY
  have HBZ := Lib.hid BZ
  have HZ := Lib.hid hz
  have d0 : decide ((300 : Int) < (bitLen x.natAbs : Int)) = false := decide_eq_false (by omega)
  have d1 : decide ((300 : Int) < (bitLen y.natAbs : Int)) = false := decide_eq_false (by omega)
  have d2 : decide ((300 : Int) < (bitLen z.natAbs : Int)) = false := decide_eq_false (by omega)
  have l0 : ¬ (300 : Int) < (bitLen x.natAbs : Int) := by omega
  have l1 : ¬ (300 : Int) < (bitLen y.natAbs : Int) := by omega
  have l2 : ¬ (300 : Int) < (bitLen z.natAbs : Int) := by omega
  generalize (bitLen x.natAbs) = lx' at *
  generalize (bitLen y.natAbs) = ly' at *
  generalize (bitLen z.natAbs) = lz' at *
  clear A1 A2 A3 S1 M1 M2 M3 hx hy hz f1 f2 f3 f4 BX BY BZ hs hp hc1 hc2 lx ly lz
  have b0 := ((Blk.new w (mk x) 25 rfl).old (.cells (mk y).toArray 25)).old (.cells (mk z).toArray 25)
  have b1 := (Blk.new (w.alloc (.cells (mk x).toArray 25)) (mk y) 25 (b := w.heap.size + 1) (by simp)).old (.cells (mk z).toArray 25)
  have b2 := Blk.new ((w.alloc (.cells (mk x).toArray 25)).alloc (.cells (mk y).toArray 25)) (mk z) 25 (b := w.heap.size + 1 + 1) (by simp)
  have hb : Below w.heap.size w (((w.alloc (.cells (mk x).toArray 25)).alloc (.cells (mk y).toArray 25)).alloc (.cells (mk z).toArray 25)) := (((Below.refl _ _).alloc (Nat.le_refl _) _).alloc (by simp) _).alloc (by simp; omega) _
  go_enter Try.func4, Try.ntmps4
  go_wp2_with fail
  refine (known _).mono ?_
  rintro e w1 ⟨rfl, h1⟩
  replace b0 := b0.call h1
  replace b1 := b1.call h1
  replace b2 := b2.call h1
  replace hb := bthen hb h1
  clear h1
  go_wp2_with (first | (with_reducible refine ldM rfl rfl rfl b0 ?_))
  refine (HBX.out _).mono ?_
  rintro e w1 ⟨rfl, h1⟩
  replace b0 := b0.call h1
  replace b1 := b1.call h1
  replace b2 := b2.call h1
  replace hb := bthen hb h1
  clear h1
  go_wp2_with (first | (refine ldMg (by rfl) rfl rfl b1 ?_))
  refine (HBY.out _).mono ?_
  rintro e w1 ⟨rfl, h1⟩
  replace b0 := b0.call h1
  replace b1 := b1.call h1
  replace b2 := b2.call h1
  replace hb := bthen hb h1
  clear h1
  go_wp2_with (first | (refine ldMg (by rfl) rfl rfl b2 ?_))
  refine (HBZ.out _).mono ?_
  rintro e w1 ⟨rfl, h1⟩
  replace b0 := b0.call h1
  replace b1 := b1.call h1
  replace b2 := b2.call h1
  replace hb := bthen hb h1
  clear h1
  go_wp2_with (first | (refine ldMg (by rfl) rfl rfl b0 ?_))
  refine (is_mk HX.out _).mono ?_
  rintro e w1 ⟨rfl, h1⟩
  replace b0 := b0.call h1
  replace b1 := b1.call h1
  replace b2 := b2.call h1
  replace hb := bthen hb h1
  clear h1
  go_wp2_with (first | (refine ldMg (by rfl) rfl rfl b1 ?_))
  refine (is_mk HY.out _).mono ?_
  rintro e w1 ⟨rfl, h1⟩
  replace b0 := b0.call h1
  replace b1 := b1.call h1
  replace b2 := b2.call h1
  replace hb := bthen hb h1
  clear h1
  go_wp2_with (first | (refine ldMg (by rfl) rfl rfl b2 ?_))
  refine (is_mk HZ.out _).mono ?_
  rintro e w1 ⟨rfl, h1⟩
  replace b0 := b0.call h1
  replace b1 := b1.call h1
  replace b2 := b2.call h1
  replace hb := bthen hb h1
  clear h1
  clear HBX HBY HBZ
  go_wp2_with (first | (with_reducible refine ldM rfl rfl rfl b0 ?_) | (with_reducible refine ldM rfl rfl rfl b1 ?_))
  refine (HA1.out _).mono ?_
  rintro e w1 ⟨rfl, h1⟩
  replace b0 := b0.call h1
  replace b1 := b1.call h1
  replace b2 := b2.call h1
  replace hb := bthen hb h1
  clear h1
  have f := Blk.new w1 (wd false 0) 25 rfl
  have b7 := laid_new w1 (s)
  replace b0 := laid_old b0 (s)
  replace b1 := laid_old b1 (s)
  replace b2 := laid_old b2 (s)
  replace hb := laid_below hb (s)
  go_wp2_with (first | (with_reducible refine alW rfl rfl ?_) | (with_reducible refine stM rfl rfl rfl rfl f (wd_length _ _) ?_) | (with_reducible refine ldM rfl rfl rfl b0 ?_) | (with_reducible refine ldM rfl rfl rfl b1 ?_))
  clear f
  generalize (w1.alloc (.cells (wd false 0).toArray 25)).setRow w1.heap.size (mk (s)).toArray = W at *
  generalize w1.heap.size = pl_b7 at *
  refine (HA2.out _).mono ?_
  rintro e w1 ⟨rfl, h1⟩
  replace b0 := b0.call h1
  replace b1 := b1.call h1
  replace b2 := b2.call h1
  replace b7 := b7.call h1
  replace hb := bthen hb h1
  clear h1
  have f := Blk.new w1 (wd false 0) 25 rfl
  have b9 := laid_new w1 (s)
  replace b0 := laid_old b0 (s)
  replace b1 := laid_old b1 (s)
  replace b2 := laid_old b2 (s)
  replace b7 := laid_old b7 (s)
  replace hb := laid_below hb (s)
  go_wp2_with (first | (with_reducible refine alW rfl rfl ?_) | (with_reducible refine stM rfl rfl rfl rfl f (wd_length _ _) ?_) | (with_reducible refine ldM rfl rfl rfl b1 ?_) | (with_reducible refine ldM rfl rfl rfl b7 ?_))
  clear f
  generalize (w1.alloc (.cells (wd false 0).toArray 25)).setRow w1.heap.size (mk (s)).toArray = W at *
  generalize w1.heap.size = pl_b9 at *
  refine (HS1.out _).mono ?_
  rintro e w1 ⟨rfl, h1⟩
  replace b0 := b0.call h1
  replace b1 := b1.call h1
  replace b2 := b2.call h1
  replace b7 := b7.call h1
  replace b9 := b9.call h1
  replace hb := bthen hb h1
  clear h1
  have f := Blk.new w1 (wd false 0) 25 rfl
  have b11 := laid_new w1 (x)
  replace b0 := laid_old b0 (x)
  replace b1 := laid_old b1 (x)
  replace b2 := laid_old b2 (x)
  replace b7 := laid_old b7 (x)
  replace b9 := laid_old b9 (x)
  replace hb := laid_below hb (x)
  go_wp2_with (first | (with_reducible refine alW rfl rfl ?_) | (with_reducible refine stM rfl rfl rfl rfl f (wd_length _ _) ?_) | (with_reducible refine ldM rfl rfl rfl b2 ?_) | (with_reducible refine ldM rfl rfl rfl b7 ?_))
  clear f
  generalize (w1.alloc (.cells (wd false 0).toArray 25)).setRow w1.heap.size (mk (x)).toArray = W at *
  generalize w1.heap.size = pl_b11 at *
  refine (HM1.out _).mono ?_
  rintro e w1 ⟨rfl, h1⟩
  replace b0 := b0.call h1
  replace b1 := b1.call h1
  replace b2 := b2.call h1
  replace b7 := b7.call h1
  replace b9 := b9.call h1
  replace b11 := b11.call h1
  replace hb := bthen hb h1
  clear h1
  have f := Blk.new w1 (wd false 0) 25 rfl
  have b13 := laid_new w1 (p)
  replace b0 := laid_old b0 (p)
  replace b1 := laid_old b1 (p)
  replace b2 := laid_old b2 (p)
  replace b7 := laid_old b7 (p)
  replace b9 := laid_old b9 (p)
  replace b11 := laid_old b11 (p)
  replace hb := laid_below hb (p)
  go_wp2_with (first | (with_reducible refine alW rfl rfl ?_) | (with_reducible refine stM rfl rfl rfl rfl f (wd_length _ _) ?_) | (with_reducible refine ldM rfl rfl rfl b2 ?_) | (with_reducible refine ldM rfl rfl rfl b0 ?_))
  clear f
  generalize (w1.alloc (.cells (wd false 0).toArray 25)).setRow w1.heap.size (mk (p)).toArray = W at *
  generalize w1.heap.size = pl_b13 at *
  refine (HM2.out _).mono ?_
  rintro e w1 ⟨rfl, h1⟩
  replace b0 := b0.call h1
  replace b1 := b1.call h1
  replace b2 := b2.call h1
  replace b7 := b7.call h1
  replace b9 := b9.call h1
  replace b11 := b11.call h1
  replace b13 := b13.call h1
  replace hb := bthen hb h1
  clear h1
  have f := Blk.new w1 (wd false 0) 25 rfl
  have b15 := laid_new w1 (c1)
  replace b0 := laid_old b0 (c1)
  replace b1 := laid_old b1 (c1)
  replace b2 := laid_old b2 (c1)
  replace b7 := laid_old b7 (c1)
  replace b9 := laid_old b9 (c1)
  replace b11 := laid_old b11 (c1)
  replace b13 := laid_old b13 (c1)
  replace hb := laid_below hb (c1)
  go_wp2_with (first | (with_reducible refine alW rfl rfl ?_) | (with_reducible refine stM rfl rfl rfl rfl f (wd_length _ _) ?_) | (with_reducible refine ldM rfl rfl rfl b2 ?_) | (with_reducible refine ldM rfl rfl rfl b1 ?_))
  clear f
  generalize (w1.alloc (.cells (wd false 0).toArray 25)).setRow w1.heap.size (mk (c1)).toArray = W at *
  generalize w1.heap.size = pl_b15 at *
  refine (HM3.out _).mono ?_
  rintro e w1 ⟨rfl, h1⟩
  replace b0 := b0.call h1
  replace b1 := b1.call h1
  replace b2 := b2.call h1
  replace b7 := b7.call h1
  replace b9 := b9.call h1
  replace b11 := b11.call h1
  replace b13 := b13.call h1
  replace b15 := b15.call h1
  replace hb := bthen hb h1
  clear h1
  have f := Blk.new w1 (wd false 0) 25 rfl
  have b17 := laid_new w1 (c2)
  replace b0 := laid_old b0 (c2)
  replace b1 := laid_old b1 (c2)
  replace b2 := laid_old b2 (c2)
  replace b7 := laid_old b7 (c2)
  replace b9 := laid_old b9 (c2)
  replace b11 := laid_old b11 (c2)
  replace b13 := laid_old b13 (c2)
  replace b15 := laid_old b15 (c2)
  replace hb := laid_below hb (c2)
  go_wp2_with (first | (with_reducible refine alW rfl rfl ?_) | (with_reducible refine stM rfl rfl rfl rfl f (wd_length _ _) ?_) | (with_reducible refine ldM rfl rfl rfl b15 ?_) | (with_reducible refine ldM rfl rfl rfl b17 ?_))
  clear f
  generalize (w1.alloc (.cells (wd false 0).toArray 25)).setRow w1.heap.size (mk (c2)).toArray = W at *
  generalize w1.heap.size = pl_b17 at *
  refine (HA3.out _).mono ?_
  rintro e w1 ⟨rfl, h1⟩
  replace b0 := b0.call h1
  replace b1 := b1.call h1
  replace b2 := b2.call h1
  replace b7 := b7.call h1
  replace b9 := b9.call h1
  replace b11 := b11.call h1
  replace b13 := b13.call h1
  replace hb := bthen hb h1
  clear h1
  clear b15 b17
  have f := Blk.new w1 (wd false 0) 25 rfl
  have b19 := laid_new w1 (p)
  replace b0 := laid_old b0 (p)
  replace b1 := laid_old b1 (p)
  replace b2 := laid_old b2 (p)
  replace b7 := laid_old b7 (p)
  replace b9 := laid_old b9 (p)
  replace b11 := laid_old b11 (p)
  replace b13 := laid_old b13 (p)
  replace hb := laid_below hb (p)
  go_wp2_with (first | (with_reducible refine alW rfl rfl ?_) | (with_reducible refine stM rfl rfl rfl rfl f (wd_length _ _) ?_) | (with_reducible refine ldM rfl rfl rfl b0 ?_) | (with_reducible refine ldM rfl rfl rfl b1 ?_) | (refine ldMg (by rfl) rfl rfl b7 ?_) | (refine ldMg (by rfl) rfl rfl b9 ?_) | (refine ldMg (by rfl) rfl rfl b11 ?_) | (refine ldMg (by rfl) rfl rfl b0 ?_) | (refine ldMg (by rfl) rfl rfl b13 ?_) | (refine ldMg (by rfl) rfl rfl b19 ?_) | (refine neZg (by rfl) rfl rfl rfl HF1.out HF1.out ?_) | (refine neZg (by rfl) rfl rfl rfl HX.out HX.out ?_) | (refine neZg (by rfl) rfl rfl rfl HF2.out HF2.out ?_))
  clear f
  generalize (w1.alloc (.cells (wd false 0).toArray 25)).setRow w1.heap.size (mk (p)).toArray = W at *
  generalize w1.heap.size = pl_b19 at *
  clear b7 b9 b11 b13 b19
  clear HA1 HA2 HA3 HS1 HM1 HM2 HM3 HF1 HF2
  by_cases h0 : y = 0
  · subst h0
    refine (DivMod_wz (wd_of HX.out) (wd_of HY.out) _).mono ?_
    rintro e w1 ⟨rfl, h1⟩
    replace b0 := b0.call h1
    replace b1 := b1.call h1
    replace hb := bthen hb h1
    clear h1
    have f5 := (Blk.new w1 (wd false 0) 25 rfl).old (.cells (wd false 0).toArray 25)
    have f6 := (Blk.new (w1.alloc (.cells (wd false 0).toArray 25)) (wd false 0) 25 (b := w1.heap.size + 1) (by simp)).rowOther (g := w1.heap.size) (mk (0)).toArray (by omega)
    have b21 := (f5.row (mk (0))).rowOther (g := w1.heap.size + 1) (mk (0)).toArray (by omega)
    have b22 := f6.row (mk (0))
    replace b0 := laid_two b0 (0) (0)
    replace b1 := laid_two b1 (0) (0)
    replace hb := laid_below2 hb (0) (0)
    go_wp2_with (first | (with_reducible refine alW2 rfl rfl ?_) | (with_reducible refine alW rfl rfl ?_) | (with_reducible refine stM rfl rfl rfl rfl f5 (wd_length _ _) ?_) | (with_reducible refine stM rfl rfl rfl rfl f6 (wd_length _ _) ?_))
    clear f5 f6
    generalize (((w1.alloc (.cells (wd false 0).toArray 25)).alloc (.cells (wd false 0).toArray 25)).setRow w1.heap.size (mk (0)).toArray).setRow (w1.heap.size + 1) (mk (0)).toArray = W at *
    generalize w1.heap.size + 1 = pl_b22 at *
    generalize w1.heap.size = pl_b21 at *
    refine rg_start [] (by kernel_rfl) (fun hS => ?_)
    replace hb := hb.drew
    refine rg_ld 0 rfl (by kernel_rfl) (by kernel_rfl) (by kernel_rfl) (by rfl) hS rfl rfl b1 (by simp <;> omega) (wholeM _) ?_
    try simp only [Act.put, List.setIfInBounds_toArray, List.set_cons_zero, List.set_cons_succ]
    refine rg_eff 1 rfl (by kernel_rfl) (by rfl) (fun K hK => ?_)
    go_simp
    refine (k_from 0 (by decide) (by decide) _).mono ?_
    rintro e w1 ⟨rfl, h1⟩
    refine hK _ _ (hS.call h1) (fun hS => ?_)
    clear hK K
    replace hb := bthen hb h1
    clear h1
    try simp only [Act.put, List.setIfInBounds_toArray, List.set_cons_zero, List.set_cons_succ]
    refine rg_eff 2 rfl (by kernel_rfl) (by rfl) (fun K hK => ?_)
    go_simp
    refine (cmp00 _).mono ?_
    rintro e w1 ⟨rfl, h1⟩
    refine hK _ _ (hS.call h1) (fun hS => ?_)
    clear hK K
    replace hb := bthen hb h1
    clear h1
    try simp only [Act.put, List.setIfInBounds_toArray, List.set_cons_zero, List.set_cons_succ]
    refine rg_take 3 rfl (by kernel_rfl) (by kernel_rfl) (by kernel_rfl) (by rfl) hS (v := ?_) ?_ ?_
    rotate_left
    · (intro w' hS'; go_simp <;> try with_reducible rfl)
    try simp only [Act.put, List.setIfInBounds_toArray, List.set_cons_zero, List.set_cons_succ]
    refine rg_done (by kernel_rfl) ?_
    go_wp2
    go_ret
    exact ⟨rfl, hb⟩
  · obtain ⟨g1, g2, g3, g4, g5⟩ := laws_div h0 HX.out
    have D := fun w => DivMod_z (wd_of HX.out) (wd_of HY.out) h0 w
    have fq := fits_tdiv y HX.out
    have fr : fits (x.tmod y) := by rw [fits, Int.natAbs_tmod]; exact Nat.lt_of_le_of_lt (Nat.mod_le _ _) HX.out
    have M := fun w => Mul_w (wd_of fq) (wd_of HY.out) w g1
    have A := fun w => Add_w (wd_of g1) (wd_of fr) w (by rw [g2]; exact HX.out)
    rw [g2] at A
    obtain ⟨q, hq⟩ : ∃ q, x.tdiv y = q := ⟨_, rfl⟩
    obtain ⟨r, hr⟩ : ∃ r, x.tmod y = r := ⟨_, rfl⟩
    obtain ⟨m, hm⟩ : ∃ m, q * y = m := ⟨_, rfl⟩
    rw [hq, hr] at D
    rw [hq] at M A
    rw [hm] at M A
    rw [hr] at A g3 g4 g5 fr
    have HD := Lib.hid D
    have HM := Lib.hid M
    have HA := Lib.hid A
    have FR := Lib.hid fr
    have G3 := Lib.hid (And.intro g3 (And.intro g4 g5))
    clear D M A fq fr g1 g2 g3 g4 g5 hq hr hm
    have CY := fun w => cmp0 (wd_of HY.out) w
    have hcy0 : ¬ sgz y = 0 := fun e => h0 ((sgz_zero y).1 e)
    have HCY := Lib.hid CY
    have HcY := Lib.hid (sgz_neg y)
    generalize sgz y = cy at *
    clear CY
    refine (HD.out _).mono ?_
    rintro e w1 ⟨rfl, h1⟩
    replace b0 := b0.call h1
    replace b1 := b1.call h1
    replace hb := bthen hb h1
    clear h1
    have f5 := (Blk.new w1 (wd false 0) 25 rfl).old (.cells (wd false 0).toArray 25)
    have f6 := (Blk.new (w1.alloc (.cells (wd false 0).toArray 25)) (wd false 0) 25 (b := w1.heap.size + 1) (by simp)).rowOther (g := w1.heap.size) (mk (q)).toArray (by omega)
    have b21 := (f5.row (mk (q))).rowOther (g := w1.heap.size + 1) (mk (r)).toArray (by omega)
    have b22 := f6.row (mk (r))
    replace b0 := laid_two b0 (q) (r)
    replace b1 := laid_two b1 (q) (r)
    replace hb := laid_below2 hb (q) (r)
    go_wp2_with (first | (with_reducible refine alW2 rfl rfl ?_) | (with_reducible refine alW rfl rfl ?_) | (with_reducible refine stM rfl rfl rfl rfl f5 (wd_length _ _) ?_) | (with_reducible refine stM rfl rfl rfl rfl f6 (wd_length _ _) ?_))
    clear f5 f6
    generalize (((w1.alloc (.cells (wd false 0).toArray 25)).alloc (.cells (wd false 0).toArray 25)).setRow w1.heap.size (mk (q)).toArray).setRow (w1.heap.size + 1) (mk (r)).toArray = W at *
    generalize w1.heap.size + 1 = pl_b22 at *
    generalize w1.heap.size = pl_b21 at *
    refine rg_start [] (by kernel_rfl) (fun hS => ?_)
    replace hb := hb.drew
    refine rg_ld 0 rfl (by kernel_rfl) (by kernel_rfl) (by kernel_rfl) (by rfl) hS rfl rfl b1 (by simp <;> omega) (wholeM _) ?_
    try simp only [Act.put, List.setIfInBounds_toArray, List.set_cons_zero, List.set_cons_succ]
    refine rg_eff 1 rfl (by kernel_rfl) (by rfl) (fun K hK => ?_)
    go_simp
    refine (k_from 0 (by decide) (by decide) _).mono ?_
    rintro e w1 ⟨rfl, h1⟩
    refine hK _ _ (hS.call h1) (fun hS => ?_)
    clear hK K
    replace hb := bthen hb h1
    clear h1
    try simp only [Act.put, List.setIfInBounds_toArray, List.set_cons_zero, List.set_cons_succ]
    refine rg_eff 2 rfl (by kernel_rfl) (by rfl) (fun K hK => ?_)
    go_simp
    refine (HCY.out _).mono ?_
    rintro e w1 ⟨rfl, h1⟩
    refine hK _ _ (hS.call h1) (fun hS => ?_)
    clear hK K
    replace hb := bthen hb h1
    clear h1
    try simp only [Act.put, List.setIfInBounds_toArray, List.set_cons_zero, List.set_cons_succ]
    refine rg_take 3 rfl (by kernel_rfl) (by kernel_rfl) (by kernel_rfl) (by rfl) hS (v := ?_) ?_ ?_
    rotate_left
    · (intro w' hS'; go_simp <;> try with_reducible rfl)
    try simp only [Act.put, List.setIfInBounds_toArray, List.set_cons_zero, List.set_cons_succ]
    refine rg_done (by kernel_rfl) ?_
    replace b0 := b0.keep hS (by simp)
    replace b1 := b1.keep hS (by simp)
    replace b21 := b21.keep hS (by simp)
    replace b22 := b22.keep hS (by simp)
    clear hS
    go_wp2_with (first | (with_reducible refine ldM rfl rfl rfl b21 ?_) | (with_reducible refine ldM rfl rfl rfl b1 ?_))
    refine (HM.out _).mono ?_
    rintro e w1 ⟨rfl, h1⟩
    replace b0 := b0.call h1
    replace b1 := b1.call h1
    replace b21 := b21.call h1
    replace b22 := b22.call h1
    replace hb := bthen hb h1
    clear h1
    have f := Blk.new w1 (wd false 0) 25 rfl
    have b24 := laid_new w1 (m)
    replace b0 := laid_old b0 (m)
    replace b1 := laid_old b1 (m)
    replace b22 := laid_old b22 (m)
    replace hb := laid_below hb (m)
    go_wp2_with (first | (with_reducible refine alW rfl rfl ?_) | (with_reducible refine stM rfl rfl rfl rfl f (wd_length _ _) ?_) | (with_reducible refine ldM rfl rfl rfl b24 ?_) | (with_reducible refine ldM rfl rfl rfl b22 ?_))
    clear f
    generalize (w1.alloc (.cells (wd false 0).toArray 25)).setRow w1.heap.size (mk (m)).toArray = W at *
    generalize w1.heap.size = pl_b24 at *
    refine (HA.out _).mono ?_
    rintro e w1 ⟨rfl, h1⟩
    replace b0 := b0.call h1
    replace b1 := b1.call h1
    replace b22 := b22.call h1
    replace hb := bthen hb h1
    clear h1
    have lb26_b28 := Nat.lt_add_one w1.heap.size
    have f := Blk.new w1 (wd false 0) 25 rfl
    have b26 := laid_new w1 (x)
    have lb0 := b0.lt
    have lb1 := b1.lt
    have lb22 := b22.lt
    replace b0 := laid_old b0 (x)
    replace b1 := laid_old b1 (x)
    replace b22 := laid_old b22 (x)
    replace hb := laid_below hb (x)
    have f8 := Blk.new ((w1.alloc (.cells (wd false 0).toArray 25)).setRow w1.heap.size (mk (x)).toArray) (wd false 0) 25 (b := w1.heap.size + 1) (by simp)
    have f9 := Blk.new ((w1.alloc (.cells (wd false 0).toArray 25)).setRow w1.heap.size (mk (x)).toArray) (wd false 0) 25 rfl
    have b28 := f8.row (mk (r))
    have hs := hb.size
    have bsrc := b22
    replace b0 := (b0.old (.cells (wd false 0).toArray 25)).rowOther (g := w1.heap.size + 1) (mk (r)).toArray (by omega)
    replace b1 := (b1.old (.cells (wd false 0).toArray 25)).rowOther (g := w1.heap.size + 1) (mk (r)).toArray (by omega)
    replace b22 := (b22.old (.cells (wd false 0).toArray 25)).rowOther (g := w1.heap.size + 1) (mk (r)).toArray (by omega)
    replace b26 := (b26.old (.cells (wd false 0).toArray 25)).rowOther (g := w1.heap.size + 1) (mk (r)).toArray (by omega)
    replace hb := below_row (hb.alloc hs (.cells (wd false 0).toArray 25)) (g := w1.heap.size + 1) (by omega) (mk (r)).toArray
    go_wp2_with (first | (with_reducible refine alW rfl rfl ?_) | (with_reducible refine stM rfl rfl rfl rfl f (wd_length _ _) ?_) | (with_reducible refine ldM rfl rfl rfl bsrc ?_) | (with_reducible refine stM rfl rfl rfl rfl f8 (wd_length _ _) ?_) | (with_reducible refine stM rfl rfl rfl rfl f9 (wd_length _ _) ?_))
    clear f f8 f9 bsrc hs
    try rw [show ((w1.alloc (.cells (wd false 0).toArray 25)).setRow w1.heap.size (mk (x)).toArray).heap.size = w1.heap.size + 1 by simp]
    generalize (((w1.alloc (.cells (wd false 0).toArray 25)).setRow w1.heap.size (mk (x)).toArray).alloc (.cells (wd false 0).toArray 25)).setRow (w1.heap.size + 1) (mk (r)).toArray = W at *
    generalize w1.heap.size + 1 = pl_b28 at *
    generalize w1.heap.size = pl_b26 at *
    have CR := fun w => cmp0 (wd_of FR.out) w
    have HCR := Lib.hid CR
    clear CR
    have HcR := Lib.hid (sgz_neg r)
    refine rg_start [] (by kernel_rfl) (fun hS => ?_)
    replace hb := hb.drew
    refine rg_ld 0 rfl (by kernel_rfl) (by kernel_rfl) (by kernel_rfl) (by rfl) hS rfl rfl b22 (by simp <;> omega) (wholeM _) ?_
    try simp only [Act.put, List.setIfInBounds_toArray, List.set_cons_zero, List.set_cons_succ]
    refine rg_eff 1 rfl (by kernel_rfl) (by rfl) (fun K hK => ?_)
    go_simp
    refine (k_from 0 (by decide) (by decide) _).mono ?_
    rintro e w1 ⟨rfl, h1⟩
    refine hK _ _ (hS.call h1) (fun hS => ?_)
    clear hK K
    replace hb := bthen hb h1
    clear h1
    try simp only [Act.put, List.setIfInBounds_toArray, List.set_cons_zero, List.set_cons_succ]
    refine rg_eff 2 rfl (by kernel_rfl) (by rfl) (fun K hK => ?_)
    go_simp
    refine (HCR.out _).mono ?_
    rintro e w1 ⟨rfl, h1⟩
    refine hK _ _ (hS.call h1) (fun hS => ?_)
    clear hK K
    replace hb := bthen hb h1
    clear h1
    try simp only [Act.put, List.setIfInBounds_toArray, List.set_cons_zero, List.set_cons_succ]
    refine rg_take 3 rfl (by kernel_rfl) (by kernel_rfl) (by kernel_rfl) (by rfl) hS (v := ?_) ?_ ?_
    rotate_left
    · (intro w' hS'; go_simp <;> try with_reducible rfl)
    try simp only [Act.put, List.setIfInBounds_toArray, List.set_cons_zero, List.set_cons_succ]
    refine rg_done (by kernel_rfl) ?_
    replace b0 := b0.keep hS (by simp)
    replace b1 := b1.keep hS (by simp)
    replace b22 := b22.keep hS (by simp)
    replace b26 := b26.keep hS (by simp)
    replace b28 := b28.keep hS (by simp)
    clear hS
    go_upto_if 172 with fail
    have CB := fun w => Cmp_w (wd_of (z := (r.natAbs : Int)) (by rw [fits, Int.natAbs_natCast]; exact FR.out)) (wd_of (z := (y.natAbs : Int)) (by rw [fits, Int.natAbs_natCast]; exact HY.out)) w
    rw [if_pos (show (r.natAbs : Int) < (y.natAbs : Int) by have := G3.out.1; omega)] at CB
    have rn : r < 0 → -r = (r.natAbs : Int) := fun h => by omega
    have rp : ¬ r < 0 → r = (r.natAbs : Int) := fun h => by omega
    have yn : y < 0 → -y = (y.natAbs : Int) := fun h => by omega
    have yp : ¬ y < 0 → y = (y.natAbs : Int) := fun h => by omega
    have HCB := Lib.hid CB
    have RN := Lib.hid rn
    have RP := Lib.hid rp
    have YN := Lib.hid yn
    have YP := Lib.hid yp
    clear CB rn rp yn yp
    obtain ⟨ra, hra⟩ : ∃ ra : Int, (r.natAbs : Int) = ra := ⟨_, rfl⟩
    obtain ⟨ya, hya⟩ : ∃ ya : Int, (y.natAbs : Int) = ya := ⟨_, rfl⟩
    rw [hra] at HCB RN RP
    rw [hya] at HCB YN YP
    clear hra hya
    go_cut [] (fun wx => Below w.heap.size w wx ∧ Blk wx w.heap.size (mk x) 25 ∧ Blk wx (w.heap.size + 1) (mk y) 25 ∧ Blk wx pl_b22 (mk r) 25 ∧ Blk wx pl_b26 (mk x) 25 ∧ Blk wx pl_b28 (mk ra) 25)
    case first =>
      by_cases hr : r < 0
      · have hr2 : sgz r < 0 := HcR.out.2 hr
        go_wp2_with (first | (with_reducible refine ldM rfl rfl rfl b22 ?_))
        refine (Neg_w (wd_of FR.out) _).mono ?_
        rintro e w1 ⟨rfl, h1⟩
        replace b0 := b0.call h1
        replace b1 := b1.call h1
        replace b22 := b22.call h1
        replace b26 := b26.call h1
        replace b28 := b28.call h1
        replace hb := bthen hb h1
        clear h1
        rw [RN.out hr]
        go_wp2_with (first | (with_reducible refine stM rfl rfl rfl rfl b28 (mk_length _) ?_))
        go_meet
        case rel => exact ⟨below_row hb (by have := hb.size; omega) _, b0.rowOther _ (by omega), b1.rowOther _ (by omega), b22.rowOther _ (by omega), b26.rowOther _ (by omega), b28.row _⟩
      · have hr2 : ¬ sgz r < 0 := fun h => hr (HcR.out.1 h)
        go_wp2
        go_meet
        case rel => exact ⟨hb, b0, b1, b22, b26, by rw [← RP.out hr]; exact b28⟩
    case rest =>
      clear hb b0 b1 b22 b26 b28
      obtain ⟨hb, b0, b1, b22, b26, b28⟩ := hcut
      clear HD HM HA lb0 lb1 lb22 lb26_b28 HcR RN RP
      have bsrc := b1
      have f := Blk.new wc (wd false 0) 25 rfl
      have b29 := laid_new wc (y)
      have lb0_b29 := b0.lt
      have lb1_b29 := b1.lt
      have lb22_b29 := b22.lt
      have lb26_b29 := b26.lt
      have lb28_b29 := b28.lt
      replace b0 := laid_old b0 (y)
      replace b1 := laid_old b1 (y)
      replace b22 := laid_old b22 (y)
      replace b26 := laid_old b26 (y)
      replace b28 := laid_old b28 (y)
      replace hb := laid_below hb (y)
      go_wp2_with (first | (with_reducible refine alW rfl rfl ?_) | (with_reducible refine stM rfl rfl rfl rfl f (wd_length _ _) ?_) | (with_reducible refine ldM rfl rfl rfl bsrc ?_))
      clear f
      generalize (wc.alloc (.cells (wd false 0).toArray 25)).setRow wc.heap.size (mk (y)).toArray = W at *
      generalize wc.heap.size = pl_b29 at *
      clear bsrc
      refine rg_start [] (by kernel_rfl) (fun hS => ?_)
      replace hb := hb.drew
      refine rg_ld 0 rfl (by kernel_rfl) (by kernel_rfl) (by kernel_rfl) (by rfl) hS rfl rfl b1 (by simp <;> omega) (wholeM _) ?_
      try simp only [Act.put, List.setIfInBounds_toArray, List.set_cons_zero, List.set_cons_succ]
      refine rg_eff 1 rfl (by kernel_rfl) (by rfl) (fun K hK => ?_)
      go_simp
      refine (k_from 0 (by decide) (by decide) _).mono ?_
      rintro e w1 ⟨rfl, h1⟩
      refine hK _ _ (hS.call h1) (fun hS => ?_)
      clear hK K
      replace hb := bthen hb h1
      clear h1
      try simp only [Act.put, List.setIfInBounds_toArray, List.set_cons_zero, List.set_cons_succ]
      refine rg_eff 2 rfl (by kernel_rfl) (by rfl) (fun K hK => ?_)
      go_simp
      refine (HCY.out _).mono ?_
      rintro e w1 ⟨rfl, h1⟩
      refine hK _ _ (hS.call h1) (fun hS => ?_)
      clear hK K
      replace hb := bthen hb h1
      clear h1
      try simp only [Act.put, List.setIfInBounds_toArray, List.set_cons_zero, List.set_cons_succ]
      refine rg_take 3 rfl (by kernel_rfl) (by kernel_rfl) (by kernel_rfl) (by rfl) hS (v := ?_) ?_ ?_
      rotate_left
      · (intro w' hS'; go_simp <;> try with_reducible rfl)
      try simp only [Act.put, List.setIfInBounds_toArray, List.set_cons_zero, List.set_cons_succ]
      refine rg_done (by kernel_rfl) ?_
      replace b0 := b0.keep hS (by simp)
      replace b1 := b1.keep hS (by simp)
      replace b22 := b22.keep hS (by simp)
      replace b26 := b26.keep hS (by simp)
      replace b28 := b28.keep hS (by simp)
      replace b29 := b29.keep hS (by simp)
      clear hS
      go_upto_if 179 with fail
      go_cut [] (fun wx => Below w.heap.size w wx ∧ Blk wx w.heap.size (mk x) 25 ∧ Blk wx pl_b22 (mk r) 25 ∧ Blk wx pl_b26 (mk x) 25 ∧ Blk wx pl_b28 (mk ra) 25 ∧ Blk wx pl_b29 (mk ya) 25)
      case first =>
        by_cases hy : y < 0
        · have hy2 : cy < 0 := HcY.out.2 hy
          go_wp2_with (first | (with_reducible refine ldM rfl rfl rfl b1 ?_))
          refine (Neg_w (wd_of HY.out) _).mono ?_
          rintro e w1 ⟨rfl, h1⟩
          replace b0 := b0.call h1
          replace b22 := b22.call h1
          replace b26 := b26.call h1
          replace b28 := b28.call h1
          replace b29 := b29.call h1
          replace hb := bthen hb h1
          clear h1
          rw [YN.out hy]
          go_wp2_with (first | (with_reducible refine stM rfl rfl rfl rfl b29 (mk_length _) ?_))
          go_meet
          case rel => exact ⟨below_row hb (by omega) _, b0.rowOther _ (by omega), b22.rowOther _ (by omega), b26.rowOther _ (by omega), b28.rowOther _ (by omega), b29.row _⟩
        · have hy2 : ¬ cy < 0 := fun h => hy (HcY.out.1 h)
          go_wp2
          go_meet
          case rel => exact ⟨hb, b0, b22, b26, b28, by rw [← YP.out hy]; exact b29⟩
      case rest =>
        clear hb b0 b1 b22 b26 b28 b29
        obtain ⟨hb, b0, b22, b26, b28, b29⟩ := hcut
        clear lb0_b29 lb1_b29 lb22_b29 lb26_b29 lb28_b29 HcY YN YP
        go_wp2_with fail
        have CX := fun w => cmp0 (wd_of HX.out) w
        by_cases hr : r = 0
        · rw [(sgz_zero r).2 hr] at HCR
          clear CX G3 hr
          refine rg_start [] (by kernel_rfl) (fun hS => ?_)
          replace hb := hb.drew
          refine rg_take 0 rfl (by kernel_rfl) (by kernel_rfl) (by kernel_rfl) (by rfl) hS (v := ?_) ?_ ?_
          rotate_left
          · (intro w' hS'; go_simp <;> try with_reducible rfl)
          try simp only [Act.put, List.setIfInBounds_toArray, List.set_cons_zero, List.set_cons_succ]
          refine rg_take 1 rfl (by kernel_rfl) (by kernel_rfl) (by kernel_rfl) (by rfl) hS (v := ?_) ?_ ?_
          rotate_left
          · (intro w' hS'; go_simp <;> try with_reducible rfl)
          try simp only [Act.put, List.setIfInBounds_toArray, List.set_cons_zero, List.set_cons_succ]
          refine rg_take 2 rfl (by kernel_rfl) (by kernel_rfl) (by kernel_rfl) (by rfl) hS (v := ?_) ?_ ?_
          rotate_left
          · (intro w' hS'; go_simp <;> try with_reducible rfl)
          try simp only [Act.put, List.setIfInBounds_toArray, List.set_cons_zero, List.set_cons_succ]
          refine rg_take 3 rfl (by kernel_rfl) (by kernel_rfl) (by kernel_rfl) (by rfl) hS (v := ?_) ?_ ?_
          rotate_left
          · (intro w' hS'; go_simp <;> try with_reducible rfl)
          try simp only [Act.put, List.setIfInBounds_toArray, List.set_cons_zero, List.set_cons_succ]
          refine rg_take 4 rfl (by kernel_rfl) (by kernel_rfl) (by kernel_rfl) (by rfl) hS (v := ?_) ?_ ?_
          rotate_left
          · (intro w' hS'; go_simp <;> try with_reducible rfl)
          try simp only [Act.put, List.setIfInBounds_toArray, List.set_cons_zero, List.set_cons_succ]
          refine rg_take 5 rfl (by kernel_rfl) (by kernel_rfl) (by kernel_rfl) (by rfl) hS (v := ?_) ?_ ?_
          rotate_left
          · (intro w' hS'; go_simp <;> try with_reducible rfl)
          try simp only [Act.put, List.setIfInBounds_toArray, List.set_cons_zero, List.set_cons_succ]
          refine rg_take 6 rfl (by kernel_rfl) (by kernel_rfl) (by kernel_rfl) (by rfl) hS (v := ?_) ?_ ?_
          rotate_left
          · (intro w' hS'; go_simp <;> try with_reducible rfl)
          try simp only [Act.put, List.setIfInBounds_toArray, List.set_cons_zero, List.set_cons_succ]
          refine rg_take 7 rfl (by kernel_rfl) (by kernel_rfl) (by kernel_rfl) (by rfl) hS (v := ?_) ?_ ?_
          rotate_left
          · (intro w' hS'; go_simp <;> try with_reducible rfl)
          try simp only [Act.put, List.setIfInBounds_toArray, List.set_cons_zero, List.set_cons_succ]
          refine rg_ld 8 rfl (by kernel_rfl) (by kernel_rfl) (by kernel_rfl) (by rfl) hS rfl rfl b26 (by simp <;> omega) (wholeM _) ?_
          try simp only [Act.put, List.setIfInBounds_toArray, List.set_cons_zero, List.set_cons_succ]
          refine rg_ld 9 rfl (by kernel_rfl) (by kernel_rfl) (by kernel_rfl) (by rfl) hS rfl rfl b0 (by simp <;> omega) (wholeM _) ?_
          try simp only [Act.put, List.setIfInBounds_toArray, List.set_cons_zero, List.set_cons_succ]
          refine rg_take 10 rfl (by kernel_rfl) (by kernel_rfl) (by kernel_rfl) (by rfl) hS (v := .bool true) (fun w' _ => op_eqM (z := x) HX.out rfl rfl rfl w') ?_
          try simp only [Act.put, List.setIfInBounds_toArray, List.set_cons_zero, List.set_cons_succ]
          refine rg_take 11 rfl (by kernel_rfl) (by kernel_rfl) (by kernel_rfl) (by rfl) hS (v := ?_) ?_ ?_
          rotate_left
          · (intro w' hS'; go_simp <;> try with_reducible rfl)
          try simp only [Act.put, List.setIfInBounds_toArray, List.set_cons_zero, List.set_cons_succ]
          refine rg_take 12 rfl (by kernel_rfl) (by kernel_rfl) (by kernel_rfl) (by rfl) hS (v := ?_) ?_ ?_
          rotate_left
          · (intro w' hS'; go_simp <;> try with_reducible rfl)
          try simp only [Act.put, List.setIfInBounds_toArray, List.set_cons_zero, List.set_cons_succ]
          refine rg_ld 13 rfl (by kernel_rfl) (by kernel_rfl) (by kernel_rfl) (by rfl) hS rfl rfl b28 (by simp <;> omega) (wholeM _) ?_
          try simp only [Act.put, List.setIfInBounds_toArray, List.set_cons_zero, List.set_cons_succ]
          refine rg_ld 14 rfl (by kernel_rfl) (by kernel_rfl) (by kernel_rfl) (by rfl) hS rfl rfl b29 (by simp <;> omega) (wholeM _) ?_
          try simp only [Act.put, List.setIfInBounds_toArray, List.set_cons_zero, List.set_cons_succ]
          refine rg_eff 15 rfl (by kernel_rfl) (by rfl) (fun K hK => ?_)
          go_simp
          refine (HCB.out _).mono ?_
          rintro e w1 ⟨rfl, h1⟩
          refine hK _ _ (hS.call h1) (fun hS => ?_)
          clear hK K
          replace hb := bthen hb h1
          clear h1
          try simp only [Act.put, List.setIfInBounds_toArray, List.set_cons_zero, List.set_cons_succ]
          refine rg_take 16 rfl (by kernel_rfl) (by kernel_rfl) (by kernel_rfl) (by rfl) hS (v := ?_) ?_ ?_
          rotate_left
          · (intro w' hS'; go_simp <;> try with_reducible rfl)
          try simp only [Act.put, List.setIfInBounds_toArray, List.set_cons_zero, List.set_cons_succ]
          refine rg_take 17 rfl (by kernel_rfl) (by kernel_rfl) (by kernel_rfl) (by rfl) hS (v := ?_) ?_ ?_
          rotate_left
          · (intro w' hS'; go_simp <;> try with_reducible rfl)
          try simp only [Act.put, List.setIfInBounds_toArray, List.set_cons_zero, List.set_cons_succ]
          refine rg_take 18 rfl (by kernel_rfl) (by kernel_rfl) (by kernel_rfl) (by rfl) hS (v := ?_) ?_ ?_
          rotate_left
          · (intro w' hS'; go_simp <;> try with_reducible rfl)
          try simp only [Act.put, List.setIfInBounds_toArray, List.set_cons_zero, List.set_cons_succ]
          refine rg_ld 19 rfl (by kernel_rfl) (by kernel_rfl) (by kernel_rfl) (by rfl) hS rfl rfl b22 (by simp <;> omega) (wholeM _) ?_
          try simp only [Act.put, List.setIfInBounds_toArray, List.set_cons_zero, List.set_cons_succ]
          refine rg_eff 20 rfl (by kernel_rfl) (by rfl) (fun K hK => ?_)
          go_simp
          refine (k_from 0 (by decide) (by decide) _).mono ?_
          rintro e w1 ⟨rfl, h1⟩
          refine hK _ _ (hS.call h1) (fun hS => ?_)
          clear hK K
          replace hb := bthen hb h1
          clear h1
          try simp only [Act.put, List.setIfInBounds_toArray, List.set_cons_zero, List.set_cons_succ]
          refine rg_eff 21 rfl (by kernel_rfl) (by rfl) (fun K hK => ?_)
          go_simp
          refine (HCR.out _).mono ?_
          rintro e w1 ⟨rfl, h1⟩
          refine hK _ _ (hS.call h1) (fun hS => ?_)
          clear hK K
          replace hb := bthen hb h1
          clear h1
          try simp only [Act.put, List.setIfInBounds_toArray, List.set_cons_zero, List.set_cons_succ]
          refine rg_take 22 rfl (by kernel_rfl) (by kernel_rfl) (by kernel_rfl) (by rfl) hS (v := ?_) ?_ ?_
          rotate_left
          · (intro w' hS'; go_simp <;> try with_reducible rfl)
          try simp only [Act.put, List.setIfInBounds_toArray, List.set_cons_zero, List.set_cons_succ]
          refine rg_take 23 rfl (by kernel_rfl) (by kernel_rfl) (by kernel_rfl) (by rfl) hS (v := ?_) ?_ ?_
          rotate_left
          · (intro w' hS'; go_simp <;> try with_reducible rfl)
          try simp only [Act.put, List.setIfInBounds_toArray, List.set_cons_zero, List.set_cons_succ]
          refine rg_skip 24 rfl (by kernel_rfl) (by kernel_rfl) (by kernel_rfl) (by rfl) hS ?_
          try simp only [Act.put, List.setIfInBounds_toArray, List.set_cons_zero, List.set_cons_succ]
          refine rg_skip 27 rfl (by kernel_rfl) (by kernel_rfl) (by kernel_rfl) (by rfl) hS ?_
          try simp only [Act.put, List.setIfInBounds_toArray, List.set_cons_zero, List.set_cons_succ]
          refine rg_skip 25 rfl (by kernel_rfl) (by kernel_rfl) (by kernel_rfl) (by rfl) hS ?_
          try simp only [Act.put, List.setIfInBounds_toArray, List.set_cons_zero, List.set_cons_succ]
          refine rg_skip 26 rfl (by kernel_rfl) (by kernel_rfl) (by kernel_rfl) (by rfl) hS ?_
          try simp only [Act.put, List.setIfInBounds_toArray, List.set_cons_zero, List.set_cons_succ]
          refine rg_skip 28 rfl (by kernel_rfl) (by kernel_rfl) (by kernel_rfl) (by rfl) hS ?_
          try simp only [Act.put, List.setIfInBounds_toArray, List.set_cons_zero, List.set_cons_succ]
          refine rg_skip 29 rfl (by kernel_rfl) (by kernel_rfl) (by kernel_rfl) (by rfl) hS ?_
          try simp only [Act.put, List.setIfInBounds_toArray, List.set_cons_zero, List.set_cons_succ]
          refine rg_skip 30 rfl (by kernel_rfl) (by kernel_rfl) (by kernel_rfl) (by rfl) hS ?_
          try simp only [Act.put, List.setIfInBounds_toArray, List.set_cons_zero, List.set_cons_succ]
          refine rg_take 31 rfl (by kernel_rfl) (by kernel_rfl) (by kernel_rfl) (by rfl) hS (v := ?_) ?_ ?_
          rotate_left
          · (intro w' hS'; go_simp <;> try with_reducible rfl)
          try simp only [Act.put, List.setIfInBounds_toArray, List.set_cons_zero, List.set_cons_succ]
          refine rg_take 32 rfl (by kernel_rfl) (by kernel_rfl) (by kernel_rfl) (by rfl) hS (v := ?_) ?_ ?_
          rotate_left
          · (intro w' hS'; go_simp <;> try with_reducible rfl)
          try simp only [Act.put, List.setIfInBounds_toArray, List.set_cons_zero, List.set_cons_succ]
          refine rg_take 33 rfl (by kernel_rfl) (by kernel_rfl) (by kernel_rfl) (by rfl) hS (v := ?_) ?_ ?_
          rotate_left
          · (intro w' hS'; go_simp <;> try with_reducible rfl)
          try simp only [Act.put, List.setIfInBounds_toArray, List.set_cons_zero, List.set_cons_succ]
          refine rg_done (by kernel_rfl) ?_
          go_wp2
          go_ret
          exact ⟨rfl, hb⟩
        · rw [← sgz_same hr G3.out.2.1 G3.out.2.2] at CX
          have HCX := Lib.hid CX
          have hcr : ¬ sgz r = 0 := fun h => hr ((sgz_zero r).1 h)
          generalize sgz r = cr at *
          clear CX G3
          refine rg_start [] (by kernel_rfl) (fun hS => ?_)
          replace hb := hb.drew
          refine rg_take 0 rfl (by kernel_rfl) (by kernel_rfl) (by kernel_rfl) (by rfl) hS (v := ?_) ?_ ?_
          rotate_left
          · (intro w' hS'; go_simp <;> try with_reducible rfl)
          try simp only [Act.put, List.setIfInBounds_toArray, List.set_cons_zero, List.set_cons_succ]
          refine rg_take 1 rfl (by kernel_rfl) (by kernel_rfl) (by kernel_rfl) (by rfl) hS (v := ?_) ?_ ?_
          rotate_left
          · (intro w' hS'; go_simp <;> try with_reducible rfl)
          try simp only [Act.put, List.setIfInBounds_toArray, List.set_cons_zero, List.set_cons_succ]
          refine rg_take 2 rfl (by kernel_rfl) (by kernel_rfl) (by kernel_rfl) (by rfl) hS (v := ?_) ?_ ?_
          rotate_left
          · (intro w' hS'; go_simp <;> try with_reducible rfl)
          try simp only [Act.put, List.setIfInBounds_toArray, List.set_cons_zero, List.set_cons_succ]
          refine rg_take 3 rfl (by kernel_rfl) (by kernel_rfl) (by kernel_rfl) (by rfl) hS (v := ?_) ?_ ?_
          rotate_left
          · (intro w' hS'; go_simp <;> try with_reducible rfl)
          try simp only [Act.put, List.setIfInBounds_toArray, List.set_cons_zero, List.set_cons_succ]
          refine rg_take 4 rfl (by kernel_rfl) (by kernel_rfl) (by kernel_rfl) (by rfl) hS (v := ?_) ?_ ?_
          rotate_left
          · (intro w' hS'; go_simp <;> try with_reducible rfl)
          try simp only [Act.put, List.setIfInBounds_toArray, List.set_cons_zero, List.set_cons_succ]
          refine rg_take 5 rfl (by kernel_rfl) (by kernel_rfl) (by kernel_rfl) (by rfl) hS (v := ?_) ?_ ?_
          rotate_left
          · (intro w' hS'; go_simp <;> try with_reducible rfl)
          try simp only [Act.put, List.setIfInBounds_toArray, List.set_cons_zero, List.set_cons_succ]
          refine rg_take 6 rfl (by kernel_rfl) (by kernel_rfl) (by kernel_rfl) (by rfl) hS (v := ?_) ?_ ?_
          rotate_left
          · (intro w' hS'; go_simp <;> try with_reducible rfl)
          try simp only [Act.put, List.setIfInBounds_toArray, List.set_cons_zero, List.set_cons_succ]
          refine rg_take 7 rfl (by kernel_rfl) (by kernel_rfl) (by kernel_rfl) (by rfl) hS (v := ?_) ?_ ?_
          rotate_left
          · (intro w' hS'; go_simp <;> try with_reducible rfl)
          try simp only [Act.put, List.setIfInBounds_toArray, List.set_cons_zero, List.set_cons_succ]
          refine rg_ld 8 rfl (by kernel_rfl) (by kernel_rfl) (by kernel_rfl) (by rfl) hS rfl rfl b26 (by simp <;> omega) (wholeM _) ?_
          try simp only [Act.put, List.setIfInBounds_toArray, List.set_cons_zero, List.set_cons_succ]
          refine rg_ld 9 rfl (by kernel_rfl) (by kernel_rfl) (by kernel_rfl) (by rfl) hS rfl rfl b0 (by simp <;> omega) (wholeM _) ?_
          try simp only [Act.put, List.setIfInBounds_toArray, List.set_cons_zero, List.set_cons_succ]
          refine rg_take 10 rfl (by kernel_rfl) (by kernel_rfl) (by kernel_rfl) (by rfl) hS (v := .bool true) (fun w' _ => op_eqM (z := x) HX.out rfl rfl rfl w') ?_
          try simp only [Act.put, List.setIfInBounds_toArray, List.set_cons_zero, List.set_cons_succ]
          refine rg_take 11 rfl (by kernel_rfl) (by kernel_rfl) (by kernel_rfl) (by rfl) hS (v := ?_) ?_ ?_
          rotate_left
          · (intro w' hS'; go_simp <;> try with_reducible rfl)
          try simp only [Act.put, List.setIfInBounds_toArray, List.set_cons_zero, List.set_cons_succ]
          refine rg_take 12 rfl (by kernel_rfl) (by kernel_rfl) (by kernel_rfl) (by rfl) hS (v := ?_) ?_ ?_
          rotate_left
          · (intro w' hS'; go_simp <;> try with_reducible rfl)
          try simp only [Act.put, List.setIfInBounds_toArray, List.set_cons_zero, List.set_cons_succ]
          refine rg_ld 13 rfl (by kernel_rfl) (by kernel_rfl) (by kernel_rfl) (by rfl) hS rfl rfl b28 (by simp <;> omega) (wholeM _) ?_
          try simp only [Act.put, List.setIfInBounds_toArray, List.set_cons_zero, List.set_cons_succ]
          refine rg_ld 14 rfl (by kernel_rfl) (by kernel_rfl) (by kernel_rfl) (by rfl) hS rfl rfl b29 (by simp <;> omega) (wholeM _) ?_
          try simp only [Act.put, List.setIfInBounds_toArray, List.set_cons_zero, List.set_cons_succ]
          refine rg_eff 15 rfl (by kernel_rfl) (by rfl) (fun K hK => ?_)
          go_simp
          refine (HCB.out _).mono ?_
          rintro e w1 ⟨rfl, h1⟩
          refine hK _ _ (hS.call h1) (fun hS => ?_)
          clear hK K
          replace hb := bthen hb h1
          clear h1
          try simp only [Act.put, List.setIfInBounds_toArray, List.set_cons_zero, List.set_cons_succ]
          refine rg_take 16 rfl (by kernel_rfl) (by kernel_rfl) (by kernel_rfl) (by rfl) hS (v := ?_) ?_ ?_
          rotate_left
          · (intro w' hS'; go_simp <;> try with_reducible rfl)
          try simp only [Act.put, List.setIfInBounds_toArray, List.set_cons_zero, List.set_cons_succ]
          refine rg_take 17 rfl (by kernel_rfl) (by kernel_rfl) (by kernel_rfl) (by rfl) hS (v := ?_) ?_ ?_
          rotate_left
          · (intro w' hS'; go_simp <;> try with_reducible rfl)
          try simp only [Act.put, List.setIfInBounds_toArray, List.set_cons_zero, List.set_cons_succ]
          refine rg_take 18 rfl (by kernel_rfl) (by kernel_rfl) (by kernel_rfl) (by rfl) hS (v := ?_) ?_ ?_
          rotate_left
          · (intro w' hS'; go_simp <;> try with_reducible rfl)
          try simp only [Act.put, List.setIfInBounds_toArray, List.set_cons_zero, List.set_cons_succ]
          refine rg_ld 19 rfl (by kernel_rfl) (by kernel_rfl) (by kernel_rfl) (by rfl) hS rfl rfl b22 (by simp <;> omega) (wholeM _) ?_
          try simp only [Act.put, List.setIfInBounds_toArray, List.set_cons_zero, List.set_cons_succ]
          refine rg_eff 20 rfl (by kernel_rfl) (by rfl) (fun K hK => ?_)
          go_simp
          refine (k_from 0 (by decide) (by decide) _).mono ?_
          rintro e w1 ⟨rfl, h1⟩
          refine hK _ _ (hS.call h1) (fun hS => ?_)
          clear hK K
          replace hb := bthen hb h1
          clear h1
          try simp only [Act.put, List.setIfInBounds_toArray, List.set_cons_zero, List.set_cons_succ]
          refine rg_eff 21 rfl (by kernel_rfl) (by rfl) (fun K hK => ?_)
          go_simp
          refine (HCR.out _).mono ?_
          rintro e w1 ⟨rfl, h1⟩
          refine hK _ _ (hS.call h1) (fun hS => ?_)
          clear hK K
          replace hb := bthen hb h1
          clear h1
          try simp only [Act.put, List.setIfInBounds_toArray, List.set_cons_zero, List.set_cons_succ]
          refine rg_take 22 rfl (by kernel_rfl) (by kernel_rfl) (by kernel_rfl) (by rfl) hS (v := .bool false) (fun w' _ => op_eqi (decide_eq_false hcr) rfl rfl rfl w') ?_
          try simp only [Act.put, List.setIfInBounds_toArray, List.set_cons_zero, List.set_cons_succ]
          refine rg_take 23 rfl (by kernel_rfl) (by kernel_rfl) (by kernel_rfl) (by rfl) hS (v := ?_) ?_ ?_
          rotate_left
          · (intro w' hS'; go_simp <;> try with_reducible rfl)
          try simp only [Act.put, List.setIfInBounds_toArray, List.set_cons_zero, List.set_cons_succ]
          refine rg_ld 24 rfl (by kernel_rfl) (by kernel_rfl) (by kernel_rfl) (by rfl) hS rfl rfl b22 (by simp <;> omega) (wholeM _) ?_
          try simp only [Act.put, List.setIfInBounds_toArray, List.set_cons_zero, List.set_cons_succ]
          refine rg_ld 27 rfl (by kernel_rfl) (by kernel_rfl) (by kernel_rfl) (by rfl) hS rfl rfl b0 (by simp <;> omega) (wholeM _) ?_
          try simp only [Act.put, List.setIfInBounds_toArray, List.set_cons_zero, List.set_cons_succ]
          refine rg_eff 25 rfl (by kernel_rfl) (by rfl) (fun K hK => ?_)
          go_simp
          refine (k_from 0 (by decide) (by decide) _).mono ?_
          rintro e w1 ⟨rfl, h1⟩
          refine hK _ _ (hS.call h1) (fun hS => ?_)
          clear hK K
          replace hb := bthen hb h1
          clear h1
          try simp only [Act.put, List.setIfInBounds_toArray, List.set_cons_zero, List.set_cons_succ]
          refine rg_eff 26 rfl (by kernel_rfl) (by rfl) (fun K hK => ?_)
          go_simp
          refine (HCR.out _).mono ?_
          rintro e w1 ⟨rfl, h1⟩
          refine hK _ _ (hS.call h1) (fun hS => ?_)
          clear hK K
          replace hb := bthen hb h1
          clear h1
          try simp only [Act.put, List.setIfInBounds_toArray, List.set_cons_zero, List.set_cons_succ]
          refine rg_eff 28 rfl (by kernel_rfl) (by rfl) (fun K hK => ?_)
          go_simp
          refine (k_from 0 (by decide) (by decide) _).mono ?_
          rintro e w1 ⟨rfl, h1⟩
          refine hK _ _ (hS.call h1) (fun hS => ?_)
          clear hK K
          replace hb := bthen hb h1
          clear h1
          try simp only [Act.put, List.setIfInBounds_toArray, List.set_cons_zero, List.set_cons_succ]
          refine rg_eff 29 rfl (by kernel_rfl) (by rfl) (fun K hK => ?_)
          go_simp
          refine (HCX.out _).mono ?_
          rintro e w1 ⟨rfl, h1⟩
          refine hK _ _ (hS.call h1) (fun hS => ?_)
          clear hK K
          replace hb := bthen hb h1
          clear h1
          try simp only [Act.put, List.setIfInBounds_toArray, List.set_cons_zero, List.set_cons_succ]
          refine rg_take 30 rfl (by kernel_rfl) (by kernel_rfl) (by kernel_rfl) (by rfl) hS (v := .bool true) (fun w' _ => op_eqi (decide_eq_true rfl) rfl rfl rfl w') ?_
          try simp only [Act.put, List.setIfInBounds_toArray, List.set_cons_zero, List.set_cons_succ]
          refine rg_take 31 rfl (by kernel_rfl) (by kernel_rfl) (by kernel_rfl) (by rfl) hS (v := ?_) ?_ ?_
          rotate_left
          · (intro w' hS'; go_simp <;> try with_reducible rfl)
          try simp only [Act.put, List.setIfInBounds_toArray, List.set_cons_zero, List.set_cons_succ]
          refine rg_take 32 rfl (by kernel_rfl) (by kernel_rfl) (by kernel_rfl) (by rfl) hS (v := ?_) ?_ ?_
          rotate_left
          · (intro w' hS'; go_simp <;> try with_reducible rfl)
          try simp only [Act.put, List.setIfInBounds_toArray, List.set_cons_zero, List.set_cons_succ]
          refine rg_take 33 rfl (by kernel_rfl) (by kernel_rfl) (by kernel_rfl) (by rfl) hS (v := ?_) ?_ ?_
          rotate_left
          · (intro w' hS'; go_simp <;> try with_reducible rfl)
          try simp only [Act.put, List.setIfInBounds_toArray, List.set_cons_zero, List.set_cons_succ]
          refine rg_done (by kernel_rfl) ?_
          go_wp2
          go_ret
          exact ⟨rfl, hb⟩
end Go.Proofs.Ytcfncekphdkphaa
