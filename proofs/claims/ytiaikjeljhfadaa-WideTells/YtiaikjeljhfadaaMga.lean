/- The reference's amounts: add. -/
import Derived.Test.YtiaikjeljhfadaaMgs
namespace Go.Proofs.Ytiaikjeljhfadaa
set_option linter.unusedSimpArgs false
set_option linter.unusedVariables false
open Go.RowKit
set_option maxRecDepth 100000
set_option maxHeartbeats 4000000 in
theorem add_any {u v : Value} {A B : Nat} {w : World} (h : Mv w u A) (h' : Mv w v B) (hn : nw A ≤ 1000) (hm : nw B ≤ 1000) : Calls Try.prog 116 #[u, v] w fun e w' => ∃ v', e = .returned v' ∧ Mv w' v' (A + B) ∧ Below w.heap.size w w' := by
  obtain ⟨p, c, rfl, hc, hx⟩ := h.old
  obtain ⟨q, d, rfl, hd, hy⟩ := h'.old
  have hA := nw_lt A
  have hB := nw_lt B
  have HO : Hid (∀ i, nw A ≤ i → dig A i = 0) := fun i hi => dig_of_lt (Nat.lt_of_lt_of_le hA (bp_mono hi))
  have HP : Hid (∀ i, nw B ≤ i → dig B i = 0) := fun i hi => dig_of_lt (Nat.lt_of_lt_of_le hB (bp_mono hi))
  have HE : Hid (∀ k, nw A ≤ k → nw B ≤ k → cy A B k = 0 → sm A B k = A + B ∧ A + B < bb ^ k) := fun k h1 h2 h3 => by
    have a1 := Nat.lt_of_lt_of_le hA (bp_mono h1)
    have a2 := Nat.lt_of_lt_of_le hB (bp_mono h2)
    have a3 := (cy_all a1 a2).1 h3
    exact ⟨by rw [sm_all a1 a2, Nat.mod_eq_of_lt a3], a3⟩
  have HC : Hid (∀ k, nw A < k → nw B < k → cy A B k = 0) := fun k h1 h2 => by
    obtain ⟨j, rfl⟩ : ∃ j, k = j + 1 := ⟨k - 1, by omega⟩
    have := cy_le A B j
    rw [cy_succ, HO.out j (by omega), HP.out j (by omega), bb_eq]; omega
  have HX := Lib.hid hx
  have HY := Lib.hid hy
  clear hx hy hA hB
  generalize nw A = n at *
  generalize nw B = m at *
  obtain ⟨i0, hi, hz0, hz1, hz2⟩ := info_parts info_u32
  go_enter Try.func116, Try.ntmps116
  go_wp2_with fail
  go_loopw [5, 6, 7] (fun v c i wr => ∃ k : Nat, (k ≤ n ∨ k ≤ m ∨ k ≤ max n m + 1) ∧ i = .int .i64 k ∧ c = .int .u64 (cy A B k : Nat) ∧ wr.ownsRow w.heap.size 22 1 v k (ds (sm A B k) k) ∧ Below w.heap.size w wr ∧ w.heap.size ≤ wr.heap.size) (fun _ _ i _ => n + m + 2 - (intOf i).toNat)
  case atStart => exact ⟨0, by omega, rfl, by rw [cy_zero]; rfl, World.ownsRow_nil _ _ _ _, Below.refl _ _, Nat.le_refl _⟩
  case round =>
    obtain ⟨k, hk, rfl, rfl, hown, hb, hz⟩ := hrel
    have hcy := cy_le A B k
    obtain ⟨cc, hcc⟩ : ∃ cc, cy A B k = cc := ⟨_, rfl⟩
    by_cases hla : k < n
    · have hla' : (k : Int) < (n : Int) := by omega
      have hlad : decide ((k : Int) < (n : Int)) = true := decide_eq_true hla'
      obtain ⟨b0, rfl, l0, x0⟩ := HX.out (by omega)
      have c0 := (hb.cell (p := ⟨b0, k, none⟩) l0).trans (x0 k hla)
      have d0 := dig_le A k
      obtain ⟨D, hD⟩ : ∃ D, dig A k = D := ⟨_, rfl⟩
      rw [hD] at c0 d0
      clear x0 HX
      rw [hcc] at hcy ⊢
      by_cases hlb : k < m
      · have hlb' : (k : Int) < (m : Int) := by omega
        obtain ⟨b1, rfl, l1, x1⟩ := HY.out (by omega)
        have c1 := (hb.cell (p := ⟨b1, k, none⟩) l1).trans (x1 k hlb)
        have d1 := dig_le B k
        obtain ⟨E, hE⟩ : ∃ E, dig B k = E := ⟨_, rfl⟩
        rw [hE] at c1 d1
        clear x1 HY
        obtain ⟨d, hd'⟩ : ∃ d, (D + E + cc) % 4294967296 = d := ⟨_, rfl⟩
        obtain ⟨q, hq'⟩ : ∃ q, (D + E + cc) / 4294967296 = q := ⟨_, rfl⟩
        have HS : Hid (sm A B (k + 1) = sm A B k + bb ^ k * d ∧ cy A B (k + 1) = q) := ⟨by rw [sm_succ, hD, hE, hcc, show bb = 4294967296 from rfl, hd'], by rw [cy_succ, hD, hE, hcc, show bb = 4294967296 from rfl, hq']⟩
        have HD : Hid (d < bb) := by show d < bb; rw [bb_eq]; omega
        have hx2 : (cc + D + E : Int) % 4294967296 = (d : Int) := by omega
        have hx3 : (cc + D + E : Int) / 4294967296 = (q : Int) := by omega
        have hx4 : (cc + D + E : Int) % 18446744073709551616 = (cc + D + E : Int) := by omega
        have hd4 : d ≤ 4294967295 := by omega
        have hq4 : q ≤ 1 := by omega
        clear hD hE hcc hd' hq'
        go_wp2_with (at_builtin; refine wpList_append_own _ rfl _ _ 86 rfl w.heap.size 22 i0 (.int .u32 0) 1 4 Try.underlying86 hi hz0 hz1 hz2 rfl (by decide) _ _ _ rfl (hown.alloc _) ⟨wr.heap.size, 0, none⟩ 1 1 [.int .u32 (d : Nat)] rfl rfl ?c1a ?c2a ?c3a ?c4a ?c5a ?_)
        try (case c1a => intro j u hj; rcases j with _ | j <;> simp at hj; subst hj; simp [Addr.add])
        case c2a => first | rfl | (intro u hu; simp at hu; subst hu; rfl)
        case c3a => first | omega | (unfold maxLen; omega)
        case c4a => omega
        case c5a => first | omega | (simp; omega)
        intro v' w1 hown' hgrow _
        obtain ⟨R1, R2, R3⟩ := own_put (sm_lt _ _ _) HD.out (Nat.le_refl _) hz hown hb hown' hgrow
        rw [← HS.out.1] at R1
        clear hown' hgrow hown hb hz
        go_wp2
        go_roundw
        case rel => exact ⟨k + 1, by omega, by go_num, by rw [HS.out.2] <;> (try (congr 1; omega)), R1, R2, R3⟩
        case measure => simp [intOf]; omega
      · have hlb' : ¬ (k : Int) < (m : Int) := by omega
        have hE := HP.out k (by omega)
        obtain ⟨d, hd'⟩ : ∃ d, (D + 0 + cc) % 4294967296 = d := ⟨_, rfl⟩
        obtain ⟨q, hq'⟩ : ∃ q, (D + 0 + cc) / 4294967296 = q := ⟨_, rfl⟩
        have HS : Hid (sm A B (k + 1) = sm A B k + bb ^ k * d ∧ cy A B (k + 1) = q) := ⟨by rw [sm_succ, hD, hE, hcc, show bb = 4294967296 from rfl, hd'], by rw [cy_succ, hD, hE, hcc, show bb = 4294967296 from rfl, hq']⟩
        have HD : Hid (d < bb) := by show d < bb; rw [bb_eq]; omega
        have hx2 : (cc + D : Int) % 4294967296 = (d : Int) := by omega
        have hx3 : (cc + D : Int) / 4294967296 = (q : Int) := by omega
        have hx4 : (cc + D : Int) % 18446744073709551616 = (cc + D : Int) := by omega
        have hd4 : d ≤ 4294967295 := by omega
        have hq4 : q ≤ 1 := by omega
        clear hD hE hcc hd' hq'
        go_wp2_with (at_builtin; refine wpList_append_own _ rfl _ _ 86 rfl w.heap.size 22 i0 (.int .u32 0) 1 4 Try.underlying86 hi hz0 hz1 hz2 rfl (by decide) _ _ _ rfl (hown.alloc _) ⟨wr.heap.size, 0, none⟩ 1 1 [.int .u32 (d : Nat)] rfl rfl ?c1b ?c2b ?c3b ?c4b ?c5b ?_)
        try (case c1b => intro j u hj; rcases j with _ | j <;> simp at hj; subst hj; simp [Addr.add])
        case c2b => first | rfl | (intro u hu; simp at hu; subst hu; rfl)
        case c3b => first | omega | (unfold maxLen; omega)
        case c4b => omega
        case c5b => first | omega | (simp; omega)
        intro v' w1 hown' hgrow _
        obtain ⟨R1, R2, R3⟩ := own_put (sm_lt _ _ _) HD.out (Nat.le_refl _) hz hown hb hown' hgrow
        rw [← HS.out.1] at R1
        clear hown' hgrow hown hb hz
        go_wp2
        go_roundw
        case rel => exact ⟨k + 1, by omega, by go_num, by rw [HS.out.2] <;> (try (congr 1; omega)), R1, R2, R3⟩
        case measure => simp [intOf]; omega
    · have hla' : ¬ (k : Int) < (n : Int) := by omega
      have hlad : decide ((k : Int) < (n : Int)) = false := decide_eq_false hla'
      have hD := HO.out k (by omega)
      by_cases hlb : k < m
      · have hlb' : (k : Int) < (m : Int) := by omega
        have hlbd : decide ((k : Int) < (m : Int)) = true := decide_eq_true hlb'
        obtain ⟨b1, rfl, l1, x1⟩ := HY.out (by omega)
        have c1 := (hb.cell (p := ⟨b1, k, none⟩) l1).trans (x1 k hlb)
        have d1 := dig_le B k
        obtain ⟨E, hE⟩ : ∃ E, dig B k = E := ⟨_, rfl⟩
        rw [hE] at c1 d1
        clear x1 HY
        rw [hcc] at hcy ⊢
        obtain ⟨d, hd'⟩ : ∃ d, (0 + E + cc) % 4294967296 = d := ⟨_, rfl⟩
        obtain ⟨q, hq'⟩ : ∃ q, (0 + E + cc) / 4294967296 = q := ⟨_, rfl⟩
        have HS : Hid (sm A B (k + 1) = sm A B k + bb ^ k * d ∧ cy A B (k + 1) = q) := ⟨by rw [sm_succ, hD, hE, hcc, show bb = 4294967296 from rfl, hd'], by rw [cy_succ, hD, hE, hcc, show bb = 4294967296 from rfl, hq']⟩
        have HD : Hid (d < bb) := by show d < bb; rw [bb_eq]; omega
        have hx2 : (cc + E : Int) % 4294967296 = (d : Int) := by omega
        have hx3 : (cc + E : Int) / 4294967296 = (q : Int) := by omega
        have hx4 : (cc + E : Int) % 18446744073709551616 = (cc + E : Int) := by omega
        have hd4 : d ≤ 4294967295 := by omega
        have hq4 : q ≤ 1 := by omega
        clear hD hE hcc hd' hq'
        go_wp2_with (at_builtin; refine wpList_append_own _ rfl _ _ 86 rfl w.heap.size 22 i0 (.int .u32 0) 1 4 Try.underlying86 hi hz0 hz1 hz2 rfl (by decide) _ _ _ rfl (hown.alloc _) ⟨wr.heap.size, 0, none⟩ 1 1 [.int .u32 (d : Nat)] rfl rfl ?c1c ?c2c ?c3c ?c4c ?c5c ?_)
        try (case c1c => intro j u hj; rcases j with _ | j <;> simp at hj; subst hj; simp [Addr.add])
        case c2c => first | rfl | (intro u hu; simp at hu; subst hu; rfl)
        case c3c => first | omega | (unfold maxLen; omega)
        case c4c => omega
        case c5c => first | omega | (simp; omega)
        intro v' w1 hown' hgrow _
        obtain ⟨R1, R2, R3⟩ := own_put (sm_lt _ _ _) HD.out (Nat.le_refl _) hz hown hb hown' hgrow
        rw [← HS.out.1] at R1
        clear hown' hgrow hown hb hz
        go_wp2
        go_roundw
        case rel => exact ⟨k + 1, by omega, by go_num, by rw [HS.out.2] <;> (try (congr 1; omega)), R1, R2, R3⟩
        case measure => simp [intOf]; omega
      · have hlb' : ¬ (k : Int) < (m : Int) := by omega
        have hlbd : decide ((k : Int) < (m : Int)) = false := decide_eq_false hlb'
        have hE := HP.out k (by omega)
        by_cases h0 : cc = 0
        · subst h0
          obtain ⟨e1, e2⟩ := HE.out k (by omega) (by omega) hcc
          rw [e1] at hown
          have E2 := Lib.hid e2
          rw [hcc]
          clear hcc e1 e2
          go_wp2_with fail
          refine (trim_own hown E2.out (by omega)).mono ?_
          rintro e w1 ⟨v', rfl, hv, hf, rfl⟩
          go_wp2
          go_ret
          exact ⟨v', rfl, hv, hb⟩
        · have hkn : k ≤ max n m := by
            rcases Nat.lt_or_ge (max n m) k with h | h
            · exact absurd (HC.out k (by omega) (by omega)) (by omega)
            · exact h
          rw [hcc] at hcy ⊢
          have hc1 : (0 : Int) < (cc : Int) := by omega
          have hc2 : decide ((0 : Int) < (cc : Int)) = true := decide_eq_true hc1
          obtain ⟨d, rfl⟩ : ∃ d, d = cc := ⟨_, rfl⟩
          have hd' : (0 + 0 + d) % 4294967296 = d := by omega
          obtain ⟨q, hq'⟩ : ∃ q, (0 + 0 + d) / 4294967296 = q := ⟨_, rfl⟩
          have HS : Hid (sm A B (k + 1) = sm A B k + bb ^ k * d ∧ cy A B (k + 1) = q) := ⟨by rw [sm_succ, hD, hE, hcc, show bb = 4294967296 from rfl, hd'], by rw [cy_succ, hD, hE, hcc, show bb = 4294967296 from rfl, hq']⟩
          have HD : Hid (d < bb) := by show d < bb; rw [bb_eq]; omega
          have hx2 : (d : Int) % 4294967296 = (d : Int) := by omega
          have hx3 : (d : Int) / 4294967296 = (q : Int) := by omega
          have hx4 : (d : Int) % 18446744073709551616 = (d : Int) := by omega
          have hd4 : d ≤ 4294967295 := by omega
          have hq4 : q ≤ 1 := by omega
          clear hD hE hcc hd' hq'
          go_wp2_with (at_builtin; refine wpList_append_own _ rfl _ _ 86 rfl w.heap.size 22 i0 (.int .u32 0) 1 4 Try.underlying86 hi hz0 hz1 hz2 rfl (by decide) _ _ _ rfl (hown.alloc _) ⟨wr.heap.size, 0, none⟩ 1 1 [.int .u32 (d : Nat)] rfl rfl ?c1d ?c2d ?c3d ?c4d ?c5d ?_)
          try (case c1d => intro j u hj; rcases j with _ | j <;> simp at hj; subst hj; simp [Addr.add])
          case c2d => first | rfl | (intro u hu; simp at hu; subst hu; rfl)
          case c3d => first | omega | (unfold maxLen; omega)
          case c4d => omega
          case c5d => first | omega | (simp; omega)
          intro v' w1 hown' hgrow _
          obtain ⟨R1, R2, R3⟩ := own_put (sm_lt _ _ _) HD.out (Nat.le_refl _) hz hown hb hown' hgrow
          rw [← HS.out.1] at R1
          clear hown' hgrow hown hb hz
          go_wp2
          go_roundw
          case rel => exact ⟨k + 1, by omega, by go_num, by rw [HS.out.2] <;> (try (congr 1; omega)), R1, R2, R3⟩
          case measure => simp [intOf]; omega
end Go.Proofs.Ytiaikjeljhfadaa
