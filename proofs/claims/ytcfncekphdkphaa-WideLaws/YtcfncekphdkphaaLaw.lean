/- What WideLaws answers. -/
import Derived.Test.YtcfncekphdkphaaGcw
import Derived.Deep.DeepCutAuto
namespace Go.Proofs.Ytcfncekphdkphaa
set_option linter.unusedSimpArgs false
set_option linter.unusedVariables false
open Go.RowKit
set_option maxRecDepth 100000
theorem fits_pow {z : Int} {L E : Nat} (hE : E = 32 * 32) (h : z.natAbs < 2 ^ L) (hL : L ≤ E) : fits z := by
  rw [fits, bp_two, ← hE]
  exact Nat.lt_of_lt_of_le h (Nat.pow_le_pow_right (by decide) hL)
theorem laws_fits {x y z : Int} {L : Nat} (hx : bitLen x.natAbs ≤ L) (hy : bitLen y.natAbs ≤ L) (hz : bitLen z.natAbs ≤ L) (hL : L ≤ 300) : fits (x + y) ∧ fits (z * (x + y)) ∧ fits (z * x) ∧ fits (z * y) := by
  have a : ∀ v : Int, bitLen v.natAbs ≤ L → v.natAbs < 2 ^ L := fun v h => Nat.lt_of_lt_of_le (bitLen_spec v.natAbs).1 (Nat.pow_le_pow_right (by decide) h)
  have ax := a x hx
  have ay := a y hy
  have az := a z hz
  have sx : (x + y).natAbs < 2 ^ (L + 1) := by rw [Nat.pow_succ]; omega
  have m : ∀ (v : Int) (k : Nat), v.natAbs < 2 ^ k → (z * v).natAbs < 2 ^ (L + k) := fun v k h => by
    rw [Int.natAbs_mul, Nat.pow_add]
    exact Nat.mul_lt_mul_of_lt_of_le az (Nat.le_of_lt h) (Nat.two_pow_pos k)
  exact ⟨fits_pow (E := 1024) rfl sx (by omega), fits_pow (E := 1024) rfl (m _ _ sx) (by omega), fits_pow (E := 1024) rfl (m _ _ ax) (by omega), fits_pow (E := 1024) rfl (m _ _ ay) (by omega)⟩
theorem laws_div {x y : Int} (h0 : y ≠ 0) (hx : fits x) : fits (x.tdiv y * y) ∧ x.tdiv y * y + x.tmod y = x ∧ (x.tmod y).natAbs < y.natAbs ∧ (0 ≤ x → 0 ≤ x.tmod y) ∧ (x ≤ 0 → x.tmod y ≤ 0) := by
  refine ⟨?_, ?_, ?_, fun h => Int.tmod_nonneg _ h, fun h => ?_⟩
  · rw [fits, Int.natAbs_mul, Int.natAbs_tdiv]
    exact Nat.lt_of_le_of_lt (Nat.div_mul_le_self _ _) hx
  · rw [Int.mul_comm]; exact Int.mul_tdiv_add_tmod x y
  · rw [Int.natAbs_tmod]; exact Nat.mod_lt _ (by omega)
  · have := Int.tmod_nonneg (a := -x) y (by omega)
    rw [Int.neg_tmod] at this
    omega
section
variable {ops : Array Oper} {rest : List Oper} {o : Oper} {a : Act} {w : World} {Q : Exit → Act → World → Prop}
theorem ldWg {t : TypeId} {x : Operand} {b : Nat} {s : Bool} {N : Nat} (hw : Region.wanted o (yielded ops a.tmps) = true) (ho : o.op = .load 25 x) (hx : a.eval x = .pointer (some ⟨b, 0, none⟩)) (h : Blk w b (wd s N) t)
    (hr : wpList Try.prog ops Q rest (a.put o.dst (.agg (wd s N).toArray)) w) : wpList Try.prog ops Q (o :: rest) a w :=
  BigFrame.wpList_want hw fun _ hK => wp_ldB ho hx h (whole25 _ _) (hK _ _ hr)
end
theorem wd_w (s : Bool) {N : Nat} (h : N < bb ^ 32) : Wd (wd s N) (zn s N) := ⟨s, N, rfl, rfl, h⟩
theorem Bits_r (s : Bool) {N : Nat} (h : N < bb ^ 32) (w : World) : Calls Try.prog 33 #[.agg (wd s N).toArray] w fun e w' => e = .returned (.int .i64 (bitLen N : Nat)) ∧ Below w.heap.size w w' := by
  have := Bits_w (wd_w s h) w
  rwa [zn_abs] at this
theorem is_cases (s : Bool) {N : Nat} (hN : N < bb ^ 32) : (∀ w, Calls Try.prog 31 #[.agg (wd s N).toArray] w fun e w' => e = .returned (.bool false) ∧ Below w.heap.size w w') ∨
    ∃ z, fits z ∧ z.natAbs = N ∧ wd s N = mk z ∧ (∀ w, Calls Try.prog 31 #[.agg (wd s N).toArray] w fun e w' => e = .returned (.bool true) ∧ Below w.heap.size w w') := by
  rcases wide_cases s hN with h | ⟨z, hz, h⟩
  · rw [h]; exact .inl k_isn
  · refine .inr ⟨z, hz, ?_, h, fun w => by rw [h]; exact is_mk hz w⟩
    have h2 : wc N = wc z.natAbs := (List.cons.inj h).2
    rw [← Nat.mod_eq_of_lt hz, ← Nat.mod_eq_of_lt hN]
    refine (mod_eq_of_dig _ _ 32 fun i hi => ?_).symm
    have := congrArg (fun l => l[i]?) h2
    simp only [wc_get _ i hi, Option.some.injEq, Value.int.injEq] at this
    omega
set_option maxHeartbeats 2000000 in
theorem laws_walk (known : ∀ w, Calls Try.prog 12 #[] w fun e w' => e = .returned (.bool true) ∧ Below w.heap.size w w')
    (laws_main : ∀ {x y z : Int} (hx : fits x) (hy : fits y) (hz : fits z) (lx : bitLen x.natAbs ≤ 300) (ly : bitLen y.natAbs ≤ 300) (lz : bitLen z.natAbs ≤ 300) (w : World), Calls Try.prog 4 #[.agg (mk x).toArray, .agg (mk y).toArray, .agg (mk z).toArray] w fun e w' => e = .returned (.bool true) ∧ Below w.heap.size w w')
    (s0 : Bool) (N0 : Nat) (hN0 : N0 < bb ^ 32) (s1 : Bool) (N1 : Nat) (hN1 : N1 < bb ^ 32) (s2 : Bool) (N2 : Nat) (hN2 : N2 < bb ^ 32) (w : World) :
    Calls Try.prog 4 #[.agg (wd s0 N0).toArray, .agg (wd s1 N1).toArray, .agg (wd s2 N2).toArray] w fun e w' => e = .returned (.bool true) ∧ Below w.heap.size w w' := by
  by_cases good : bitLen N0 ≤ 300 ∧ bitLen N1 ≤ 300 ∧ bitLen N2 ≤ 300 ∧ (∃ x, fits x ∧ x.natAbs = N0 ∧ wd s0 N0 = mk x) ∧ (∃ x, fits x ∧ x.natAbs = N1 ∧ wd s1 N1 = mk x) ∧ (∃ x, fits x ∧ x.natAbs = N2 ∧ wd s2 N2 = mk x)
  · obtain ⟨l0, l1, l2, ⟨x, hx, ex, e0⟩, ⟨y, hy, ey, e1⟩, z, hz, ez, e2⟩ := good
    rw [e0, e1, e2]
    exact laws_main hx hy hz (ex ▸ l0) (ey ▸ l1) (ez ▸ l2) w
  clear laws_main
  have GOOD := Lib.hid good
  have H0 := Lib.hid hN0
  have H1 := Lib.hid hN1
  have H2 := Lib.hid hN2
  clear hN0 hN1 hN2 good
  have b0 := ((Blk.new w (wd s0 N0) 25 rfl).old (.cells (wd s1 N1).toArray 25)).old (.cells (wd s2 N2).toArray 25)
  have b1 := (Blk.new (w.alloc (.cells (wd s0 N0).toArray 25)) (wd s1 N1) 25 (b := w.heap.size + 1) (by simp)).old (.cells (wd s2 N2).toArray 25)
  have b2 := Blk.new ((w.alloc (.cells (wd s0 N0).toArray 25)).alloc (.cells (wd s1 N1).toArray 25)) (wd s2 N2) 25 (b := w.heap.size + 1 + 1) (by simp)
  have hb : Below w.heap.size w (((w.alloc (.cells (wd s0 N0).toArray 25)).alloc (.cells (wd s1 N1).toArray 25)).alloc (.cells (wd s2 N2).toArray 25)) := (((Below.refl _ _).alloc (Nat.le_refl _) _).alloc (by simp) _).alloc (by simp; omega) _
  go_enter Try.func4, Try.ntmps4
  go_wp2_with fail
  refine (known _).mono ?_
  rintro e w1 ⟨rfl, h1⟩
  replace b0 := b0.call h1
  replace b1 := b1.call h1
  replace b2 := b2.call h1
  replace hb := bthen hb h1
  clear h1
  go_wp2_with (first | (with_reducible refine ldW rfl rfl rfl b0 ?_))
  refine (Bits_r s0 H0.out _).mono ?_
  rintro e w1 ⟨rfl, h1⟩
  replace b0 := b0.call h1
  replace b1 := b1.call h1
  replace b2 := b2.call h1
  replace hb := bthen hb h1
  clear h1
  by_cases l0 : (300 : Int) < (bitLen N0 : Int)
  · generalize (bitLen N0 : Int) = l at *
    go_wp2
    go_ret
    exact ⟨rfl, hb⟩
  have d0 : decide ((300 : Int) < (bitLen N0 : Int)) = false := decide_eq_false l0
  go_wp2_with (first | (refine ldWg (by rfl) rfl rfl b1 ?_))
  refine (Bits_r s1 H1.out _).mono ?_
  rintro e w1 ⟨rfl, h1⟩
  replace b0 := b0.call h1
  replace b1 := b1.call h1
  replace b2 := b2.call h1
  replace hb := bthen hb h1
  clear h1
  by_cases l1 : (300 : Int) < (bitLen N1 : Int)
  · generalize (bitLen N1 : Int) = l at *
    go_wp2
    go_ret
    exact ⟨rfl, hb⟩
  have d1 : decide ((300 : Int) < (bitLen N1 : Int)) = false := decide_eq_false l1
  go_wp2_with (first | (refine ldWg (by rfl) rfl rfl b2 ?_))
  refine (Bits_r s2 H2.out _).mono ?_
  rintro e w1 ⟨rfl, h1⟩
  replace b0 := b0.call h1
  replace b1 := b1.call h1
  replace b2 := b2.call h1
  replace hb := bthen hb h1
  clear h1
  by_cases l2 : (300 : Int) < (bitLen N2 : Int)
  · generalize (bitLen N2 : Int) = l at *
    go_wp2
    go_ret
    exact ⟨rfl, hb⟩
  have d2 : decide ((300 : Int) < (bitLen N2 : Int)) = false := decide_eq_false l2
  go_wp2_with (first | (refine ldWg (by rfl) rfl rfl b0 ?_))
  rcases is_cases s0 H0.out with C0 | ⟨x, hx, ex, e0, C0⟩
  · refine (C0 _).mono ?_
    rintro e w1 ⟨rfl, h1⟩
    replace b0 := b0.call h1
    replace b1 := b1.call h1
    replace b2 := b2.call h1
    replace hb := bthen hb h1
    clear h1
    go_wp2
    go_ret
    exact ⟨rfl, hb⟩
  refine (C0 _).mono ?_
  rintro e w1 ⟨rfl, h1⟩
  replace b0 := b0.call h1
  replace b1 := b1.call h1
  replace b2 := b2.call h1
  replace hb := bthen hb h1
  clear h1
  have HC0 := Lib.hid (And.intro hx (And.intro ex e0))
  clear hx ex e0 C0
  go_wp2_with (first | (refine ldWg (by rfl) rfl rfl b1 ?_))
  rcases is_cases s1 H1.out with C1 | ⟨y, hy, ey, e1, C1⟩
  · refine (C1 _).mono ?_
    rintro e w1 ⟨rfl, h1⟩
    replace b0 := b0.call h1
    replace b1 := b1.call h1
    replace b2 := b2.call h1
    replace hb := bthen hb h1
    clear h1
    go_wp2
    go_ret
    exact ⟨rfl, hb⟩
  refine (C1 _).mono ?_
  rintro e w1 ⟨rfl, h1⟩
  replace b0 := b0.call h1
  replace b1 := b1.call h1
  replace b2 := b2.call h1
  replace hb := bthen hb h1
  clear h1
  have HC1 := Lib.hid (And.intro hy (And.intro ey e1))
  clear hy ey e1 C1
  go_wp2_with (first | (refine ldWg (by rfl) rfl rfl b2 ?_))
  rcases is_cases s2 H2.out with C2 | ⟨z, hz, ez, e2, C2⟩
  · refine (C2 _).mono ?_
    rintro e w1 ⟨rfl, h1⟩
    replace b0 := b0.call h1
    replace b1 := b1.call h1
    replace b2 := b2.call h1
    replace hb := bthen hb h1
    clear h1
    go_wp2
    go_ret
    exact ⟨rfl, hb⟩
  exact absurd ⟨by omega, by omega, by omega, ⟨x, HC0.out⟩, ⟨y, HC1.out⟩, z, hz, ez, e2⟩ GOOD.out
end Go.Proofs.Ytcfncekphdkphaa
