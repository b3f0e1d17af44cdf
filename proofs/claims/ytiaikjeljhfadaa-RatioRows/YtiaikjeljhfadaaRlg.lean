/- Package ratio: Least, of a row anywhere, with room behind it. -/
import Derived.Test.YtiaikjeljhfadaaRle
namespace Go.Proofs.Ytiaikjeljhfadaa
set_option linter.unusedSimpArgs false
set_option linter.unusedVariables false
open Go.RowKit
set_option maxRecDepth 100000
set_option maxHeartbeats 1000000 in
theorem Least_gen (n b f c0 : Nat) (N D LN LD c : Nat → Int) (w : World) (hn : n ≤ 1000) (hc0 : n + 1 ≤ c0) (hcm : c0 ≤ 9223372036854775807) (h0 : LN 0 = N 0 ∧ LD 0 = D 0)
    (hC : ∀ k, k < n → Tl 47 #[vf (N (k + 1)) (D (k + 1)), vf (LN k) (LD k)] (.tuple #[.int .i64 (c k), .bool true]) ∧ (c k < 0 → LN (k + 1) = N (k + 1) ∧ LD (k + 1) = D (k + 1)) ∧ (¬ c k < 0 → LN (k + 1) = LN k ∧ LD (k + 1) = LD k))
    (hbw : b < w.heap.size) (hr : ∀ k, k < n + 1 → w.rangeAt b (f + k * 66) (fr (N k) (D k))) :
    Calls Try.prog 52 #[.slice (some ⟨b, f, none⟩) (n + 1) c0] w fun e w' => e = .returned (.tuple #[vf (LN n) (LD n), .bool true]) ∧ Below w.heap.size w w' := by
  have H0 := Lib.hid h0
  have HC := Lib.hid hC
  have Hr := Lib.hid hr
  unfold Tl vf at HC
  unfold vf
  have r00 : w.rangeAt b f (fr (LN 0) (LD 0)) := by
    have := hr 0 (by omega)
    rw [Nat.zero_mul, Nat.add_zero] at this
    rw [h0.1, h0.2]; exact this
  clear h0 hC hr
  have b2 := Blk.new w (rr false 0 false 0) 45 rfl
  have hb : Below w.heap.size w (w.alloc (.cells (rr false 0 false 0).toArray 45)) := (Below.refl _ _).alloc (Nat.le_refl _) _
  have r0 : (w.alloc (.cells (rr false 0 false 0).toArray 45)).rangeAt b f (fr (LN 0) (LD 0)) := fun j v hv => by
    rw [hb.cell (p := ⟨b, f + j, none⟩) hbw]
    exact r00 j v hv
  have f4 := Blk.new (w.alloc (.cells (rr false 0 false 0).toArray 45)) (rr false 0 false 0) 45 (b := w.heap.size + 1) (by simp)
  have f4' := Blk.new (w.alloc (.cells (rr false 0 false 0).toArray 45)) (rr false 0 false 0) 45 rfl
  have b4 := f4.row (fr (LN 0) (LD 0))
  have c2 := (b2.old (.cells (rr false 0 false 0).toArray 45)).rowOther (g := w.heap.size + 1) (fr (LN 0) (LD 0)).toArray (by omega)
  have hc := below_row (hb.alloc hb.size (.cells (rr false 0 false 0).toArray 45)) (g := w.heap.size + 1) (by omega) (fr (LN 0) (LD 0)).toArray
  have hn0 : ¬ (n : Int) + 1 = 0 := by omega
  by_cases hc1 : c0 = 1
  · obtain rfl : n = 0 := by omega
    subst hc1
    go_enter Try.func52, Try.ntmps52
    go_wp2_with (first | (with_reducible refine alR rfl rfl ?_) | (with_reducible refine ldRR rfl rfl rfl r0 ?_) | (with_reducible refine stR rfl rfl rfl rfl f4 (rr_length _ _ _ _) ?_) | (with_reducible refine stR rfl rfl rfl rfl f4' (rr_length _ _ _ _) ?_))
    clear f4 f4' b2 hb r0 r00
    generalize ((w.alloc (.cells (rr false 0 false 0).toArray 45)).alloc (.cells (rr false 0 false 0).toArray 45)).setRow (w.heap.size + 1) (fr (LN 0) (LD 0)).toArray = W at *
    go_loopw [19] (fun i wr => i = .int .i64 0 ∧ Below w.heap.size w wr ∧ Blk wr w.heap.size (rr false 0 false 0) 45 ∧ Blk wr (w.heap.size + 1) (fr (LN 0) (LD 0)) 45) (fun i _ => 0)
    case atStart => exact ⟨rfl, hc, c2, b4⟩
    case round =>
      clear hc c2 b4
      obtain ⟨rfl, hb, b2, b4⟩ := hrel
      go_wp2_with (first | (with_reducible refine ldFr rfl rfl rfl b4 ?_) | (with_reducible refine stR rfl rfl rfl rfl b2 (rr_length _ _ _ _) ?_))
      exact ret_ct (cs := fr (LN 0) (LD 0)) (v := .bool true) rfl rfl rfl rfl (wholeF _ _) (b2.row _) ⟨rfl, below_row hb (Nat.le_refl _) _⟩
  · have hc2 : ¬ (c0 : Int) = 1 := by omega
    go_enter Try.func52, Try.ntmps52
    go_wp2_with (first | (with_reducible refine alR rfl rfl ?_) | (with_reducible refine ldRR rfl rfl rfl r0 ?_) | (with_reducible refine stR rfl rfl rfl rfl f4 (rr_length _ _ _ _) ?_) | (with_reducible refine stR rfl rfl rfl rfl f4' (rr_length _ _ _ _) ?_))
    clear f4 f4' b2 hb r0 r00
    generalize ((w.alloc (.cells (rr false 0 false 0).toArray 45)).alloc (.cells (rr false 0 false 0).toArray 45)).setRow (w.heap.size + 1) (fr (LN 0) (LD 0)).toArray = W at *
    go_loopw [19] (fun i wr => ∃ k : Nat, k ≤ n ∧ i = .int .i64 k ∧ Below w.heap.size w wr ∧ Blk wr w.heap.size (rr false 0 false 0) 45 ∧ Blk wr (w.heap.size + 1) (fr (LN k) (LD k)) 45) (fun i _ => n - (intOf i).toNat)
    case atStart => exact ⟨0, Nat.zero_le _, rfl, hc, c2, b4⟩
    case round =>
      clear hc c2 b4
      obtain ⟨k, hk, rfl, hb, b2, b4⟩ := hrel
      by_cases hlt : k < n
      · have r0 : wr.rangeAt b (f + 66 + k * 66) (fr (N (k + 1)) (D (k + 1))) := fun j v hv => by
          rw [hb.cell (p := ⟨b, f + 66 + k * 66 + j, none⟩) hbw]
          have := Hr.out (k + 1) (by omega) j v hv
          rwa [show f + (k + 1) * 66 = f + 66 + k * 66 by omega] at this
        obtain ⟨q1, q2, q3⟩ := HC.out k hlt
        have HF := Lib.hid q1
        have Q2 := Lib.hid q2
        have Q3 := Lib.hid q3
        clear q1 q2 q3
        have hlt' : (k : Int) < (n : Int) := by omega
        generalize N (k + 1) = x at *
        generalize D (k + 1) = y at *
        generalize c k = cc at *
        have l4 := b4.lt
        have a3 := Blk.new wr (rr false 0 false 0) 45 rfl
        have d3 := a3.row (fr x y)
        have d2 := (b2.old (.cells (rr false 0 false 0).toArray 45)).rowOther (g := wr.heap.size) (fr x y).toArray (by omega)
        have d4 := (b4.old (.cells (rr false 0 false 0).toArray 45)).rowOther (g := wr.heap.size) (fr x y).toArray (by omega)
        have hb' := below_row (hb.alloc hb.size (.cells (rr false 0 false 0).toArray 45)) (g := wr.heap.size) hb.size (fr x y).toArray
        go_wp2_with (first | (with_reducible refine ldRR rfl rfl rfl r0 ?_) | (with_reducible refine alR rfl rfl ?_) | (with_reducible refine stR rfl rfl rfl rfl a3 (rr_length _ _ _ _) ?_) | (with_reducible refine ldFr rfl rfl rfl d4 ?_) | (with_reducible refine ldFr rfl rfl rfl d3 ?_))
        refine (HF.out _).mono ?_
        rintro e w1 ⟨rfl, h1⟩
        replace hb' := bthen hb' h1
        replace d2 := d2.call h1
        replace d4 := d4.call h1
        replace d3 := d3.call h1
        by_cases hcc : cc < 0
        · have E := Lib.hid (Q2.out hcc)
          go_wp2_with (first | (with_reducible refine ldFr rfl rfl rfl d3 ?_) | (with_reducible refine stR rfl rfl rfl rfl d4 (fr_length _ _) ?_))
          go_roundw
          case rel => exact ⟨k + 1, by omega, by go_num, below_row hb' (by omega) _, d2.rowOther _ (by omega), by rw [E.out.1, E.out.2]; exact d4.row _⟩
          case measure => simp [intOf]; omega
        · have E := Lib.hid (Q3.out (by omega))
          go_wp2
          go_roundw
          case rel => exact ⟨k + 1, by omega, by go_num, hb', d2, by rw [E.out.1, E.out.2]; exact d4⟩
          case measure => simp [intOf]; omega
      · obtain rfl : k = n := by omega
        go_wp2_with (first | (with_reducible refine ldFr rfl rfl rfl b4 ?_) | (with_reducible refine stR rfl rfl rfl rfl b2 (rr_length _ _ _ _) ?_))
        exact ret_ct (cs := fr (LN k) (LD k)) (v := .bool true) rfl rfl rfl rfl (wholeF _ _) (b2.row _) ⟨rfl, below_row hb (Nat.le_refl _) _⟩
end Go.Proofs.Ytiaikjeljhfadaa
