/- The reference's Is of points. -/
import Derived.Test.YtckolhalggcenaaGreatPke
import Derived.Test.YtckolhalggcenaaGreatMrs
namespace Go.Proofs.YtckolhalggcenaaGreat
set_option linter.unusedSimpArgs false
set_option linter.unusedVariables false
open Go.RowKit
set_option maxRecDepth 100000
set_option maxHeartbeats 1000000 in
theorem Isr3_walk {A B : List Value} {s t : Bool} (hA : Rc A) (hB : Rc B) (T : Tl 39 #[vl A, .int .i64 60] (.bool s)) (T' : Tl 39 #[vl B, .int .i64 60] (.bool t)) : Tl 29 #[vl (A ++ B)] (.bool (s && t)) := fun w => by
  unfold vl at *
  have HT := Lib.hid T
  have HT' := Lib.hid T'
  have HA := Lib.hid hA
  have HB := Lib.hid hB
  unfold Tl at HT HT'
  clear T T' hA hB
  have b1 := Blk.new w (A ++ B) 29 rfl
  have hb : Below w.heap.size w (w.alloc (.cells (A ++ B).toArray 29)) := (Below.refl _ _).alloc (Nat.le_refl _) _
  cases s with
  | false =>
    go_enter Tryz.func29, Tryz.ntmps29
    go_wp2_with (first | (with_reducible refine ldX rfl rfl rfl b1 HA.out HB.out ?_) | (with_reducible refine ldY rfl rfl rfl b1 HA.out HB.out ?_))
    refine (HT.out _).mono ?_
    rintro e w1 ⟨rfl, h1⟩
    replace b1 := b1.call h1
    replace hb := bthen hb h1
    clear h1
    go_wp2
    go_ret
    exact ⟨rfl, hb⟩
  | true =>
    go_enter Tryz.func29, Tryz.ntmps29
    go_wp2_with (first | (with_reducible refine ldX rfl rfl rfl b1 HA.out HB.out ?_) | (with_reducible refine ldY rfl rfl rfl b1 HA.out HB.out ?_))
    refine (HT.out _).mono ?_
    rintro e w1 ⟨rfl, h1⟩
    replace b1 := b1.call h1
    replace hb := bthen hb h1
    clear h1
    go_wp2_with (first | (refine ldYg (by rfl) rfl rfl b1 HA.out HB.out ?_))
    refine (HT'.out _).mono ?_
    rintro e w1 ⟨rfl, h1⟩
    replace b1 := b1.call h1
    replace hb := bthen hb h1
    clear h1
    go_wp2
    go_ret
    exact ⟨rfl, hb⟩
theorem safer_cases (s : Bool) {N : Nat} (t : Bool) {M : Nat} (hN : N < bb ^ 32) (hM : M < bb ^ 32) :
    Tl 39 #[vl (rr s N t M), .int .i64 60] (.bool false) ∨ ∃ q : Rat, rr s N t M = fq q ∧ Bq 60 q ∧ Tl 39 #[vl (fq q), .int .i64 60] (.bool true) := by
  rcases israt_cases s t hN hM with ⟨h, _⟩ | ⟨q, e, f1, f2, h⟩
  · have W := Saferef_walk s t 60 hN hM h
    rw [Bool.and_false, Bool.and_false] at W
    exact .inl W
  · have h' : Tl 61 #[.agg (rr s N t M).toArray] (.bool true) := by rw [e]; exact h
    have W := Saferef_walk s t 60 hN hM h'
    obtain ⟨a1, a2⟩ : wd s N = mk q.num ∧ wd t M = mk q.den := List.append_inj e (by rw [wd_length, mk_length])
    obtain ⟨_, c2⟩ := wd_inj hN f1 a1
    obtain ⟨_, c4⟩ := wd_inj hM f2 a2
    by_cases h1 : ((bitLen N : Nat) : Int) ≤ 60
    · by_cases h2 : ((bitLen M : Nat) : Int) ≤ 60
      · rw [decide_eq_true h1, decide_eq_true h2] at W
        refine .inr ⟨q, e, ⟨sz_bits.1 (by rw [← c2]; omega), sz_bits.1 (by rw [← c4]; omega)⟩, ?_⟩
        rw [e] at W
        exact W
      · rw [decide_eq_false h2, Bool.false_and, Bool.and_false] at W
        exact .inl W
    · rw [decide_eq_false h1, Bool.false_and] at W
      exact .inl W
theorem isr3_cases (s : Bool) {N : Nat} (t : Bool) {M : Nat} (hN : N < bb ^ 32) (hM : M < bb ^ 32) (s' : Bool) {N' : Nat} (t' : Bool) {M' : Nat} (hN' : N' < bb ^ 32) (hM' : M' < bb ^ 32) :
    Tl 29 #[vl (rr s N t M ++ rr s' N' t' M')] (.bool false) ∨ ∃ x y : Rat, rr s N t M ++ rr s' N' t' M' = fq x ++ fq y ∧ Gd x y ∧ Tl 29 #[vp x y] (.bool true) := by
  have ra := rc_rr s N t M
  have rb := rc_rr s' N' t' M'
  rcases safer_cases s t hN hM with h | ⟨x, e, hx, h⟩
  · rcases safer_cases s' t' hN' hM' with h' | ⟨y, e', hy, h'⟩
    · exact .inl (Isr3_walk (s := false) (t := false) ra rb h h')
    · rw [e']; exact .inl (Isr3_walk (s := false) (t := true) ra (rc_q _) h h')
  · rcases safer_cases s' t' hN' hM' with h' | ⟨y, e', hy, h'⟩
    · rw [e]; exact .inl (Isr3_walk (s := true) (t := false) (rc_q _) rb h h')
    · exact .inr ⟨x, y, by rw [e, e'], ⟨hx, hy⟩, Isr3_walk (s := true) (t := true) (rc_q _) (rc_q _) h h'⟩
end Go.Proofs.YtckolhalggcenaaGreat
