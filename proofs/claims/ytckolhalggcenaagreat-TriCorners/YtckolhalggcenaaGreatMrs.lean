/- The reference's fractions: IsRat. -/
import Derived.Test.YtckolhalggcenaaGreatMri
namespace Go.Proofs.YtckolhalggcenaaGreat
set_option linter.unusedSimpArgs false
set_option linter.unusedVariables false
open Go.RowKit
set_option maxRecDepth 100000
set_option maxHeartbeats 1000000 in
theorem IsRat_tiny {q : Rat} (h : Bq 31 q) : Tl 61 #[vq q] (.bool true) := fun w => by
  have T := Lib.hid (tiny_q h)
  unfold Tl at T
  show Calls Tryz.prog 61 #[.agg (fr q.num q.den).toArray] w fun e w' => e = .returned (.bool true) ∧ Below w.heap.size w w'
  have e0 : vq q = .agg (fr q.num q.den).toArray := rfl
  rw [e0] at T
  clear h e0
  generalize q.num = n at *
  generalize (q.den : Int) = d at *
  have b1 := Blk.new w (fr n d) 27 rfl
  have hb : Below w.heap.size w (w.alloc (.cells (fr n d).toArray 27)) := (Below.refl _ _).alloc (Nat.le_refl _) _
  go_enter Tryz.func61, Tryz.ntmps61
  go_wp2_with (first | (with_reducible refine ldP rfl rfl rfl b1 (part_all _) (wholeF _ _) ?_))
  refine (T.out _).mono ?_
  rintro e w1 ⟨rfl, h1⟩
  replace hb := bthen hb h1
  clear h1
  go_wp2
  go_ret
  exact ⟨rfl, hb⟩
theorem wd_inj {s t : Bool} {N M : Nat} (hN : N < bb ^ 32) (hM : M < bb ^ 32) (e : wd s N = wd t M) : s = t ∧ N = M := by
  obtain ⟨e1, e2⟩ := List.cons.inj e
  refine ⟨by injection e1, ?_⟩
  rw [← Nat.mod_eq_of_lt hN, ← Nat.mod_eq_of_lt hM]
  refine mod_eq_of_dig _ _ 32 fun i hi => ?_
  have := congrArg (fun l => l[i]?) e2
  simp only [wc_get _ i hi, Option.some.injEq, Value.int.injEq] at this
  omega
/-- IsRat of whatever cells: a rational number, or it is told that it is none. -/
theorem israt_cases (s : Bool) {N : Nat} (t : Bool) {M : Nat} (hN : N < bb ^ 32) (hM : M < bb ^ 32) :
    (Tl 61 #[.agg (rr s N t M).toArray] (.bool false) ∧ ¬ ∃ q : Rat, rr s N t M = fr q.num q.den ∧ fits q.num ∧ fits q.den) ∨
    ∃ q : Rat, rr s N t M = fr q.num q.den ∧ fits q.num ∧ fits q.den ∧ Tl 61 #[vq q] (.bool true) := by
  by_cases hty : Ty s N t M
  · obtain ⟨q, e, hq⟩ := ty_q hty
    exact .inr ⟨q, e, hq.fn (by omega), hq.fd (by omega), IsRat_tiny hq⟩
  · have H := IsRat_raw s t hN hM hty rfl
    by_cases hc : ((!s || decide (N ≠ 0)) && !t && decide (M ≠ 0) && decide (Nat.gcd N M = 1)) = true
    · rw [hc] at H
      simp only [Bool.and_eq_true, Bool.or_eq_true, Bool.not_eq_true', decide_eq_true_eq] at hc
      obtain ⟨⟨⟨h1, rfl⟩, h3⟩, h4⟩ := hc
      have e1 : mk (M : Int) = wd false M := by unfold mk; rw [decide_eq_false (by omega), Int.natAbs_natCast]
      have e2 : mk (zn s N) = wd s N := by
        unfold mk; rw [zn_abs]
        cases s
        · rw [decide_eq_false (by unfold zn; simp)]
        · have : N ≠ 0 := by rcases h1 with h | h; cases h; exact h
          rw [decide_eq_true (by unfold zn; simp; omega)]
      have e : rr s N false M = fr (zn s N) (M : Int) := by
        show wd s N ++ wd false M = mk (zn s N) ++ mk (M : Int)
        rw [e1, e2]
      refine .inr ⟨⟨zn s N, M, h3, by rw [zn_abs]; exact h4⟩, e, by show (zn s N).natAbs < bb ^ 32; rw [zn_abs]; exact hN, by show (M : Int).natAbs < bb ^ 32; rw [Int.natAbs_natCast]; exact hM, ?_⟩
      rw [e] at H
      exact H
    · have hf : ((!s || decide (N ≠ 0)) && !t && decide (M ≠ 0) && decide (Nat.gcd N M = 1)) = false := by simpa using hc
      rw [hf] at H
      refine .inl ⟨H, fun ⟨q, e, f1, f2⟩ => hc ?_⟩
      obtain ⟨a1, a2⟩ : wd s N = mk q.num ∧ wd t M = mk q.den := List.append_inj e (by rw [wd_length, mk_length])
      obtain ⟨c1, c2⟩ := wd_inj hN f1 a1
      obtain ⟨c3, c4⟩ := wd_inj hM f2 a2
      have hd := q.den_nz
      have hr := q.reduced
      have c5 : M = q.den := by rw [c4, Int.natAbs_natCast]
      have c6 : t = false := by rw [c3]; exact decide_eq_false (by omega)
      rw [c6]
      simp only [Bool.and_eq_true, Bool.or_eq_true, Bool.not_eq_true', decide_eq_true_eq]
      refine ⟨⟨⟨?_, trivial⟩, by rw [c5]; exact hd⟩, by rw [c2, c5]; exact hr⟩
      by_cases h0 : N = 0
      · left
        rw [c1]
        refine decide_eq_false ?_
        omega
      · exact .inr h0
set_option maxHeartbeats 1000000 in
/-- Safe, over what its three tests answer. -/
theorem Saferef_walk (s : Bool) {N : Nat} (t : Bool) {M : Nat} (k : Int) {b : Bool} (hN : N < bb ^ 32) (hM : M < bb ^ 32) (h : Tl 61 #[.agg (rr s N t M).toArray] (.bool b)) :
    Tl 39 #[.agg (rr s N t M).toArray, .int .i64 k] (.bool (decide (((bitLen N : Nat) : Int) ≤ k) && (decide (((bitLen M : Nat) : Int) ≤ k) && b))) := fun w => by
  have I := Lib.hid h
  have B1 := Lib.hid (fun w => Bitsref_any s hN w)
  have B2 := Lib.hid (fun w => Bitsref_any t hM w)
  unfold Tl at I
  clear h hN hM
  generalize ((bitLen N : Nat) : Int) = x at *
  generalize ((bitLen M : Nat) : Int) = y at *
  have b1 := Blk.new w (rr s N t M) 27 rfl
  have hb : Below w.heap.size w (w.alloc (.cells (rr s N t M).toArray 27)) := (Below.refl _ _).alloc (Nat.le_refl _) _
  by_cases h1 : x ≤ k
  · have d1 : decide (x ≤ k) = true := decide_eq_true h1
    by_cases h2 : y ≤ k
    · have d2 : decide (y ≤ k) = true := decide_eq_true h2
      rw [d1, d2]
      go_enter Tryz.func39, Tryz.ntmps39
      go_wp2_with (first | (with_reducible refine ldP rfl rfl rfl b1 (part_n _ _ _ _) (whole25 _ _) ?_))
      refine (B1.out _).mono ?_
      rintro e w1 ⟨rfl, h1⟩
      replace b1 := b1.call h1
      replace hb := bthen hb h1
      clear h1
      go_wp2_with (first | (refine ldPg (by rfl) rfl rfl b1 (part_d _ _ _ _) (whole25 _ _) ?_))
      refine (B2.out _).mono ?_
      rintro e w1 ⟨rfl, h1⟩
      replace b1 := b1.call h1
      replace hb := bthen hb h1
      clear h1
      go_wp2_with (first | (refine ldPg (by rfl) rfl rfl b1 (part_all _) (wholeR _ _ _ _) ?_))
      refine (I.out _).mono ?_
      rintro e w1 ⟨rfl, h1⟩
      replace hb := bthen hb h1
      clear h1
      go_wp2
      go_ret
      exact ⟨by simp, hb⟩
    · have d2 : decide (y ≤ k) = false := decide_eq_false h2
      rw [d1, d2]
      go_enter Tryz.func39, Tryz.ntmps39
      go_wp2_with (first | (with_reducible refine ldP rfl rfl rfl b1 (part_n _ _ _ _) (whole25 _ _) ?_))
      refine (B1.out _).mono ?_
      rintro e w1 ⟨rfl, h1⟩
      replace b1 := b1.call h1
      replace hb := bthen hb h1
      clear h1
      go_wp2_with (first | (refine ldPg (by rfl) rfl rfl b1 (part_d _ _ _ _) (whole25 _ _) ?_))
      refine (B2.out _).mono ?_
      rintro e w1 ⟨rfl, h1⟩
      replace hb := bthen hb h1
      clear h1
      go_wp2
      go_ret
      exact ⟨by simp, hb⟩
  · have d1 : decide (x ≤ k) = false := decide_eq_false h1
    rw [d1]
    go_enter Tryz.func39, Tryz.ntmps39
    go_wp2_with (first | (with_reducible refine ldP rfl rfl rfl b1 (part_n _ _ _ _) (whole25 _ _) ?_))
    refine (B1.out _).mono ?_
    rintro e w1 ⟨rfl, h1⟩
    replace hb := bthen hb h1
    clear h1
    go_wp2
    go_ret
    exact ⟨by simp, hb⟩
end Go.Proofs.YtckolhalggcenaaGreat
