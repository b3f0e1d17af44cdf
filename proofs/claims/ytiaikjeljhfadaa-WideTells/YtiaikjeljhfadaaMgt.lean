/- The reference's numbers: sum, Add, Sub, Mul. -/
import Derived.Test.YtiaikjeljhfadaaMga
import Derived.Test.YtiaikjeljhfadaaMgm
import Derived.Test.YtiaikjeljhfadaaMgo
namespace Go.Proofs.Ytiaikjeljhfadaa
set_option linter.unusedSimpArgs false
set_option linter.unusedVariables false
open Go.RowKit
set_option maxRecDepth 100000
theorem nw32 {M : Nat} : nw M ≤ 32 ↔ M < bb ^ 32 := ⟨fun h => Nat.lt_of_lt_of_le (nw_lt M) (bp_mono h), fun h => nw_le_of h⟩
set_option maxHeartbeats 1000000 in
theorem wideN_any {v : Value} {M : Nat} {w : World} (s : Bool) (h : Mv w v M) (h32 : ¬ nw M ≤ 32) (hn : nw M ≤ 1000000) : Calls Try.prog 74 #[.bool s, v] w fun e w' => e = .returned (.tuple #[.agg (wd false 0).toArray, .bool false]) ∧ Below w.heap.size w w' := by
  rcases h with ⟨rfl, rfl⟩ | ⟨b, c, rfl, hc, hl, hx⟩
  · exact absurd (show nw 0 ≤ 32 by rw [nw_zero.2 rfl]; omega) h32
  · have HT : Hid (∀ w, Mg w b (nw M) M → Calls Try.prog 118 #[.slice (some ⟨b, 0, none⟩) (nw M) c] w fun e w' => e = .returned (.slice (some ⟨b, 0, none⟩) (nw M) c) ∧ w' = w) := fun w h => trim_any w h hc hn
    have b4 := Blk.new w (wd false 0) 25 rfl
    have hb : Below w.heap.size w (w.alloc (.cells (wd false 0).toArray 25)) := (Below.refl _ _).alloc (Nat.le_refl _) _
    have H : Hid (Mg (w.alloc (.cells (wd false 0).toArray 25)) b (nw M) M) := Mg.call ⟨nw_lt M, hx⟩ hl hb
    clear hx
    generalize nw M = m at *
    have h33 : (32 : Int) < (m : Int) := by omega
    go_enter Try.func74, Try.ntmps74
    go_wp2_with (first | (with_reducible refine alW rfl rfl ?_))
    refine (HT.out _ H.out).mono ?_
    rintro e w1 ⟨rfl, rfl⟩
    go_wp2_with (first | (with_reducible refine bdW0 rfl rfl ?_) | (with_reducible refine stW rfl rfl rfl rfl b4 ?_))
    exact ret_ct (cs := wd false 0) (v := .bool false) rfl rfl rfl rfl (whole25 _ _) (b4.row _) ⟨rfl, below_row hb (by omega) _⟩
/-- wide of an amount: the number, or that it is too great. -/
theorem wideB_any {M : Nat} (s : Bool) (hn : nw M ≤ 1000000) : ∃ (z : Int) (o : Bool), fits z ∧ ((M < bb ^ 32 ∧ z = zn s M ∧ o = true) ∨ (¬ M < bb ^ 32 ∧ z = 0 ∧ o = false)) ∧ ∀ (w : World) (v : Value), Mv w v M → Calls Try.prog 74 #[.bool s, v] w fun e w' => e = .returned (.tuple #[.agg (mk z).toArray, .bool o]) ∧ Below w.heap.size w w' := by
  by_cases h : M < bb ^ 32
  · exact ⟨zn s M, true, by rw [fits, zn_abs]; exact h, .inl ⟨h, rfl, rfl⟩, fun w v hv => wideZ_any s hv (nw32.2 h)⟩
  · exact ⟨0, false, bp_pos 32, .inr ⟨h, rfl, rfl⟩, fun w v hv => wideN_any s hv (fun h' => h (nw32.1 h')) hn⟩
set_option maxHeartbeats 1000000 in
theorem sum_any {u v : Value} {A B : Nat} {w : World} (x y : Bool) (h : Mv w u A) (h' : Mv w v B) (hn : nw A ≤ 900) (hm : nw B ≤ 900) : Calls Try.prog 71 #[.bool x, u, .bool y, v] w fun e w' => ∃ n v' M, e = .returned (.tuple #[.bool n, v']) ∧ Mv w' v' M ∧ zn n M = zn x A + zn y B ∧ Below w.heap.size w w' := by
  have HA := Lib.hid h
  have HB := Lib.hid h'
  have hb := Below.refl w.heap.size w
  have HN : Hid (nw A ≤ 1000 ∧ nw B ≤ 1000) := ⟨by omega, by omega⟩
  clear h h' hn hm
  cases x <;> cases y
  · go_enter Try.func71, Try.ntmps71
    go_wp2_with fail
    refine (add_any HA.out HB.out HN.out.1 HN.out.2).mono ?_
    rintro e w1 ⟨v', rfl, hv, h1⟩
    go_wp2
    go_ret2
    exact ⟨false, v', _, rfl, hv, by unfold zn; simp, h1⟩
  · go_enter Try.func71, Try.ntmps71
    go_wp2_with fail
    refine (cmp_any HA.out HB.out HN.out.1 HN.out.2).mono ?_
    rintro e w1 ⟨rfl, h1⟩
    by_cases hlt : A < B
    · have e1 : cmpv A B = -1 := by unfold cmpv; rw [if_pos hlt]
      rw [e1]
      go_wp2_with fail
      refine (sub_any (HB.out.call h1) (HA.out.call h1) HN.out.2 (Nat.le_of_lt hlt)).mono ?_
      rintro e w2 ⟨v', rfl, hv, hf, h2⟩
      go_wp2
      go_ret2
      exact ⟨true, v', _, rfl, hv, by unfold zn; simp; omega, bthen h1 h2⟩
    · have e1 : 0 ≤ cmpv A B := by unfold cmpv; rw [if_neg hlt]; split <;> omega
      generalize cmpv A B = cc at *
      go_wp2_with fail
      refine (sub_any (HA.out.call h1) (HB.out.call h1) HN.out.1 (by omega)).mono ?_
      rintro e w2 ⟨v', rfl, hv, hf, h2⟩
      go_wp2
      go_ret2
      exact ⟨false, v', _, rfl, hv, by unfold zn; simp; omega, bthen h1 h2⟩
  · go_enter Try.func71, Try.ntmps71
    go_wp2_with fail
    refine (cmp_any HA.out HB.out HN.out.1 HN.out.2).mono ?_
    rintro e w1 ⟨rfl, h1⟩
    by_cases hlt : A < B
    · have e1 : cmpv A B = -1 := by unfold cmpv; rw [if_pos hlt]
      rw [e1]
      go_wp2_with fail
      refine (sub_any (HB.out.call h1) (HA.out.call h1) HN.out.2 (Nat.le_of_lt hlt)).mono ?_
      rintro e w2 ⟨v', rfl, hv, hf, h2⟩
      go_wp2
      go_ret2
      exact ⟨false, v', _, rfl, hv, by unfold zn; simp; omega, bthen h1 h2⟩
    · have e1 : 0 ≤ cmpv A B := by unfold cmpv; rw [if_neg hlt]; split <;> omega
      generalize cmpv A B = cc at *
      go_wp2_with fail
      refine (sub_any (HA.out.call h1) (HB.out.call h1) HN.out.1 (by omega)).mono ?_
      rintro e w2 ⟨v', rfl, hv, hf, h2⟩
      go_wp2
      go_ret2
      exact ⟨true, v', _, rfl, hv, by unfold zn; simp; omega, bthen h1 h2⟩
  · go_enter Try.func71, Try.ntmps71
    go_wp2_with fail
    refine (add_any HA.out HB.out HN.out.1 HN.out.2).mono ?_
    rintro e w1 ⟨v', rfl, hv, h1⟩
    go_wp2
    go_ret2
    exact ⟨true, v', _, rfl, hv, by unfold zn; simp; omega, h1⟩
end Go.Proofs.Ytiaikjeljhfadaa
