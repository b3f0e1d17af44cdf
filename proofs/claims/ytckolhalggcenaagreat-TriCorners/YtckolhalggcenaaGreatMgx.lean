/- Joined of: Mga Mgm Mgt Mgu Mgx. -/
import Derived.Test.YtckolhalggcenaaGreatMgs
import Derived.Test.YtckolhalggcenaaGreatMgh
import Derived.Test.YtckolhalggcenaaGreatShl
import Derived.BigQuiet
import Derived.Deep.QuietTactic
import Derived.Test.YtckolhalggcenaaGreatMgo
import Derived.Deep.DeepCutAuto
/- The reference's amounts: add. -/
namespace Go.Proofs.YtckolhalggcenaaGreat
set_option linter.unusedSimpArgs false
set_option linter.unusedVariables false
open Go.RowKit
set_option maxRecDepth 100000
set_option maxHeartbeats 4000000 in
theorem add_any {u v : Value} {A B : Nat} {w : World} (h : Mv w u A) (h' : Mv w v B) (hn : nw A ≤ 1000) (hm : nw B ≤ 1000) : Calls Tryz.prog 104 #[u, v] w fun e w' => ∃ v', e = .returned v' ∧ Mv w' v' (A + B) ∧ Below w.heap.size w w' := by
  obtain ⟨p, c, rfl, hc, hx⟩ := h.old
  obtain ⟨q, d, rfl, hd, hy⟩ := h'.old
  have hA := nw_lt A
  have hB := nw_lt B
  have HO : Hid (∀ i, nw A ≤ i → dig A i = 0) := fun i hi => dig_of_lt (Nat.lt_of_lt_of_le hA (bp_mono hi))
  have HP : Hid (∀ i, nw B ≤ i → dig B i = 0) := fun i hi => dig_of_lt (Nat.lt_of_lt_of_le hB (bp_mono hi))
  have HE : Hid (∀ k, nw A ≤ k → nw B ≤ k → cy A B k = 0 → sm A B k = A + B ∧ A + B < bb ^ k) := fun k h1 h2 h3 => by
    have a1 := Nat.lt_of_lt_of_le hA (bp_mono h1)
    have a2 := Nat.lt_of_lt_of_le hB (bp_mono h2)
    have a3 := (cy_all a1 a2).1 h3
    exact ⟨by rw [sm_all a1 a2, Nat.mod_eq_of_lt a3], a3⟩
  have HC : Hid (∀ k, nw A < k → nw B < k → cy A B k = 0) := fun k h1 h2 => by
    obtain ⟨j, rfl⟩ : ∃ j, k = j + 1 := ⟨k - 1, by omega⟩
    have := cy_le A B j
    rw [cy_succ, HO.out j (by omega), HP.out j (by omega), bb_eq]; omega
  have HX := Lib.hid hx
  have HY := Lib.hid hy
  clear hx hy hA hB
  generalize nw A = n at *
  generalize nw B = m at *
  obtain ⟨i0, hi, hz0, hz1, hz2⟩ := info_parts info_u32
  go_enter Tryz.func104, Tryz.ntmps104
  go_wp2_with fail
  go_loopw [5, 6, 7] (fun v c i wr => ∃ k : Nat, (k ≤ n ∨ k ≤ m ∨ k ≤ max n m + 1) ∧ i = .int .i64 k ∧ c = .int .u64 (cy A B k : Nat) ∧ wr.ownsRow w.heap.size 22 1 v k (ds (sm A B k) k) ∧ Below w.heap.size w wr ∧ w.heap.size ≤ wr.heap.size) (fun _ _ i _ => n + m + 2 - (intOf i).toNat)
  case atStart => exact ⟨0, by omega, rfl, by rw [cy_zero]; rfl, World.ownsRow_nil _ _ _ _, Below.refl _ _, Nat.le_refl _⟩
  case round =>
    obtain ⟨k, hk, rfl, rfl, hown, hb, hz⟩ := hrel
    have hcy := cy_le A B k
    obtain ⟨cc, hcc⟩ : ∃ cc, cy A B k = cc := ⟨_, rfl⟩
    by_cases hla : k < n
    · have hla' : (k : Int) < (n : Int) := by omega
      have hlad : decide ((k : Int) < (n : Int)) = true := decide_eq_true hla'
      obtain ⟨b0, rfl, l0, x0⟩ := HX.out (by omega)
      have c0 := (hb.cell (p := ⟨b0, k, none⟩) l0).trans (x0 k hla)
      have d0 := dig_le A k
      obtain ⟨D, hD⟩ : ∃ D, dig A k = D := ⟨_, rfl⟩
      rw [hD] at c0 d0
      clear x0 HX
      rw [hcc] at hcy ⊢
      by_cases hlb : k < m
      · have hlb' : (k : Int) < (m : Int) := by omega
        obtain ⟨b1, rfl, l1, x1⟩ := HY.out (by omega)
        have c1 := (hb.cell (p := ⟨b1, k, none⟩) l1).trans (x1 k hlb)
        have d1 := dig_le B k
        obtain ⟨E, hE⟩ : ∃ E, dig B k = E := ⟨_, rfl⟩
        rw [hE] at c1 d1
        clear x1 HY
        obtain ⟨d, hd'⟩ : ∃ d, (D + E + cc) % 4294967296 = d := ⟨_, rfl⟩
        obtain ⟨q, hq'⟩ : ∃ q, (D + E + cc) / 4294967296 = q := ⟨_, rfl⟩
        have HS : Hid (sm A B (k + 1) = sm A B k + bb ^ k * d ∧ cy A B (k + 1) = q) := ⟨by rw [sm_succ, hD, hE, hcc, show bb = 4294967296 from rfl, hd'], by rw [cy_succ, hD, hE, hcc, show bb = 4294967296 from rfl, hq']⟩
        have HD : Hid (d < bb) := by show d < bb; rw [bb_eq]; omega
        have hx2 : (cc + D + E : Int) % 4294967296 = (d : Int) := by omega
        have hx3 : (cc + D + E : Int) / 4294967296 = (q : Int) := by omega
        have hx4 : (cc + D + E : Int) % 18446744073709551616 = (cc + D + E : Int) := by omega
        have hd4 : d ≤ 4294967295 := by omega
        have hq4 : q ≤ 1 := by omega
        clear hD hE hcc hd' hq'
        go_wp2_with (at_builtin; refine wpList_append_own _ rfl _ _ 71 rfl w.heap.size 22 i0 (.int .u32 0) 1 4 Tryz.underlying71 hi hz0 hz1 hz2 rfl (by decide) _ _ _ rfl (hown.alloc _) ⟨wr.heap.size, 0, none⟩ 1 1 [.int .u32 (d : Nat)] rfl rfl ?c1a ?c2a ?c3a ?c4a ?c5a ?_)
        try (case c1a => intro j u hj; rcases j with _ | j <;> simp at hj; subst hj; simp [Addr.add])
        case c2a => first | rfl | (intro u hu; simp at hu; subst hu; rfl)
        case c3a => first | omega | (unfold maxLen; omega)
        case c4a => omega
        case c5a => first | omega | (simp; omega)
        intro v' w1 hown' hgrow _
        obtain ⟨R1, R2, R3⟩ := own_put (sm_lt _ _ _) HD.out (Nat.le_refl _) hz hown hb hown' hgrow
        rw [← HS.out.1] at R1
        clear hown' hgrow hown hb hz
        go_wp2
        go_roundw
        case rel => exact ⟨k + 1, by omega, by go_num, by rw [HS.out.2] <;> (try (congr 1; omega)), R1, R2, R3⟩
        case measure => simp [intOf]; omega
      · have hlb' : ¬ (k : Int) < (m : Int) := by omega
        have hE := HP.out k (by omega)
        obtain ⟨d, hd'⟩ : ∃ d, (D + 0 + cc) % 4294967296 = d := ⟨_, rfl⟩
        obtain ⟨q, hq'⟩ : ∃ q, (D + 0 + cc) / 4294967296 = q := ⟨_, rfl⟩
        have HS : Hid (sm A B (k + 1) = sm A B k + bb ^ k * d ∧ cy A B (k + 1) = q) := ⟨by rw [sm_succ, hD, hE, hcc, show bb = 4294967296 from rfl, hd'], by rw [cy_succ, hD, hE, hcc, show bb = 4294967296 from rfl, hq']⟩
        have HD : Hid (d < bb) := by show d < bb; rw [bb_eq]; omega
        have hx2 : (cc + D : Int) % 4294967296 = (d : Int) := by omega
        have hx3 : (cc + D : Int) / 4294967296 = (q : Int) := by omega
        have hx4 : (cc + D : Int) % 18446744073709551616 = (cc + D : Int) := by omega
        have hd4 : d ≤ 4294967295 := by omega
        have hq4 : q ≤ 1 := by omega
        clear hD hE hcc hd' hq'
        go_wp2_with (at_builtin; refine wpList_append_own _ rfl _ _ 71 rfl w.heap.size 22 i0 (.int .u32 0) 1 4 Tryz.underlying71 hi hz0 hz1 hz2 rfl (by decide) _ _ _ rfl (hown.alloc _) ⟨wr.heap.size, 0, none⟩ 1 1 [.int .u32 (d : Nat)] rfl rfl ?c1b ?c2b ?c3b ?c4b ?c5b ?_)
        try (case c1b => intro j u hj; rcases j with _ | j <;> simp at hj; subst hj; simp [Addr.add])
        case c2b => first | rfl | (intro u hu; simp at hu; subst hu; rfl)
        case c3b => first | omega | (unfold maxLen; omega)
        case c4b => omega
        case c5b => first | omega | (simp; omega)
        intro v' w1 hown' hgrow _
        obtain ⟨R1, R2, R3⟩ := own_put (sm_lt _ _ _) HD.out (Nat.le_refl _) hz hown hb hown' hgrow
        rw [← HS.out.1] at R1
        clear hown' hgrow hown hb hz
        go_wp2
        go_roundw
        case rel => exact ⟨k + 1, by omega, by go_num, by rw [HS.out.2] <;> (try (congr 1; omega)), R1, R2, R3⟩
        case measure => simp [intOf]; omega
    · have hla' : ¬ (k : Int) < (n : Int) := by omega
      have hlad : decide ((k : Int) < (n : Int)) = false := decide_eq_false hla'
      have hD := HO.out k (by omega)
      by_cases hlb : k < m
      · have hlb' : (k : Int) < (m : Int) := by omega
        have hlbd : decide ((k : Int) < (m : Int)) = true := decide_eq_true hlb'
        obtain ⟨b1, rfl, l1, x1⟩ := HY.out (by omega)
        have c1 := (hb.cell (p := ⟨b1, k, none⟩) l1).trans (x1 k hlb)
        have d1 := dig_le B k
        obtain ⟨E, hE⟩ : ∃ E, dig B k = E := ⟨_, rfl⟩
        rw [hE] at c1 d1
        clear x1 HY
        rw [hcc] at hcy ⊢
        obtain ⟨d, hd'⟩ : ∃ d, (0 + E + cc) % 4294967296 = d := ⟨_, rfl⟩
        obtain ⟨q, hq'⟩ : ∃ q, (0 + E + cc) / 4294967296 = q := ⟨_, rfl⟩
        have HS : Hid (sm A B (k + 1) = sm A B k + bb ^ k * d ∧ cy A B (k + 1) = q) := ⟨by rw [sm_succ, hD, hE, hcc, show bb = 4294967296 from rfl, hd'], by rw [cy_succ, hD, hE, hcc, show bb = 4294967296 from rfl, hq']⟩
        have HD : Hid (d < bb) := by show d < bb; rw [bb_eq]; omega
        have hx2 : (cc + E : Int) % 4294967296 = (d : Int) := by omega
        have hx3 : (cc + E : Int) / 4294967296 = (q : Int) := by omega
        have hx4 : (cc + E : Int) % 18446744073709551616 = (cc + E : Int) := by omega
        have hd4 : d ≤ 4294967295 := by omega
        have hq4 : q ≤ 1 := by omega
        clear hD hE hcc hd' hq'
        go_wp2_with (at_builtin; refine wpList_append_own _ rfl _ _ 71 rfl w.heap.size 22 i0 (.int .u32 0) 1 4 Tryz.underlying71 hi hz0 hz1 hz2 rfl (by decide) _ _ _ rfl (hown.alloc _) ⟨wr.heap.size, 0, none⟩ 1 1 [.int .u32 (d : Nat)] rfl rfl ?c1c ?c2c ?c3c ?c4c ?c5c ?_)
        try (case c1c => intro j u hj; rcases j with _ | j <;> simp at hj; subst hj; simp [Addr.add])
        case c2c => first | rfl | (intro u hu; simp at hu; subst hu; rfl)
        case c3c => first | omega | (unfold maxLen; omega)
        case c4c => omega
        case c5c => first | omega | (simp; omega)
        intro v' w1 hown' hgrow _
        obtain ⟨R1, R2, R3⟩ := own_put (sm_lt _ _ _) HD.out (Nat.le_refl _) hz hown hb hown' hgrow
        rw [← HS.out.1] at R1
        clear hown' hgrow hown hb hz
        go_wp2
        go_roundw
        case rel => exact ⟨k + 1, by omega, by go_num, by rw [HS.out.2] <;> (try (congr 1; omega)), R1, R2, R3⟩
        case measure => simp [intOf]; omega
      · have hlb' : ¬ (k : Int) < (m : Int) := by omega
        have hlbd : decide ((k : Int) < (m : Int)) = false := decide_eq_false hlb'
        have hE := HP.out k (by omega)
        by_cases h0 : cc = 0
        · subst h0
          obtain ⟨e1, e2⟩ := HE.out k (by omega) (by omega) hcc
          rw [e1] at hown
          have E2 := Lib.hid e2
          rw [hcc]
          clear hcc e1 e2
          go_wp2_with fail
          refine (trim_own hown E2.out (by omega)).mono ?_
          rintro e w1 ⟨v', rfl, hv, hf, rfl⟩
          go_wp2
          go_ret
          exact ⟨v', rfl, hv, hb⟩
        · have hkn : k ≤ max n m := by
            rcases Nat.lt_or_ge (max n m) k with h | h
            · exact absurd (HC.out k (by omega) (by omega)) (by omega)
            · exact h
          rw [hcc] at hcy ⊢
          have hc1 : (0 : Int) < (cc : Int) := by omega
          have hc2 : decide ((0 : Int) < (cc : Int)) = true := decide_eq_true hc1
          obtain ⟨d, rfl⟩ : ∃ d, d = cc := ⟨_, rfl⟩
          have hd' : (0 + 0 + d) % 4294967296 = d := by omega
          obtain ⟨q, hq'⟩ : ∃ q, (0 + 0 + d) / 4294967296 = q := ⟨_, rfl⟩
          have HS : Hid (sm A B (k + 1) = sm A B k + bb ^ k * d ∧ cy A B (k + 1) = q) := ⟨by rw [sm_succ, hD, hE, hcc, show bb = 4294967296 from rfl, hd'], by rw [cy_succ, hD, hE, hcc, show bb = 4294967296 from rfl, hq']⟩
          have HD : Hid (d < bb) := by show d < bb; rw [bb_eq]; omega
          have hx2 : (d : Int) % 4294967296 = (d : Int) := by omega
          have hx3 : (d : Int) / 4294967296 = (q : Int) := by omega
          have hx4 : (d : Int) % 18446744073709551616 = (d : Int) := by omega
          have hd4 : d ≤ 4294967295 := by omega
          have hq4 : q ≤ 1 := by omega
          clear hD hE hcc hd' hq'
          go_wp2_with (at_builtin; refine wpList_append_own _ rfl _ _ 71 rfl w.heap.size 22 i0 (.int .u32 0) 1 4 Tryz.underlying71 hi hz0 hz1 hz2 rfl (by decide) _ _ _ rfl (hown.alloc _) ⟨wr.heap.size, 0, none⟩ 1 1 [.int .u32 (d : Nat)] rfl rfl ?c1d ?c2d ?c3d ?c4d ?c5d ?_)
          try (case c1d => intro j u hj; rcases j with _ | j <;> simp at hj; subst hj; simp [Addr.add])
          case c2d => first | rfl | (intro u hu; simp at hu; subst hu; rfl)
          case c3d => first | omega | (unfold maxLen; omega)
          case c4d => omega
          case c5d => first | omega | (simp; omega)
          intro v' w1 hown' hgrow _
          obtain ⟨R1, R2, R3⟩ := own_put (sm_lt _ _ _) HD.out (Nat.le_refl _) hz hown hb hown' hgrow
          rw [← HS.out.1] at R1
          clear hown' hgrow hown hb hz
          go_wp2
          go_roundw
          case rel => exact ⟨k + 1, by omega, by go_num, by rw [HS.out.2] <;> (try (congr 1; omega)), R1, R2, R3⟩
          case measure => simp [intOf]; omega
end Go.Proofs.YtckolhalggcenaaGreat

/- The reference's amounts: mul. -/
namespace Go.Proofs.YtckolhalggcenaaGreat
set_option linter.unusedSimpArgs false
set_option linter.unusedVariables false
open Go.RowKit
set_option maxRecDepth 100000
theorem ds_top {X K L v : Nat} (hX : X < bb ^ K) (hv : v < bb) : (ds X L).set K (.int .u32 (v : Nat)) = ds (X + bb ^ K * v) L := by
  rw [ds_set hv, put_new hX]
set_option maxHeartbeats 4000000 in
theorem mul_any {u v : Value} {A B : Nat} {w : World} (h : Mv w u A) (h' : Mv w v B) (hn : nw A ≤ 400) (hm : nw B ≤ 400) : Calls Tryz.prog 42 #[u, v] w fun e w' => ∃ v', e = .returned v' ∧ Mv w' v' (A * B) ∧ Below w.heap.size w w' := by
  obtain ⟨p, c, rfl, hc, hx⟩ := h.old
  obtain ⟨q, d, rfl, hd, hy⟩ := h'.old
  have hA := nw_lt A
  have hB := nw_lt B
  have HX := Lib.hid hx
  have HY := Lib.hid hy
  have HMm := Lib.hid hB
  have HNn := Lib.hid hA
  clear hx hy hA hB
  generalize nw A = n at *
  generalize nw B = m at *
  obtain ⟨i0, hi, hz0, hz1, hz2⟩ := info_parts info_u32
  go_enter Tryz.func42, Tryz.ntmps42
  go_wp2_with (first | (with_reducible refine wpList_make_full _ rfl _ _ 71 rfl w.heap.size 22 i0 (.int .u32 0) 1 Tryz.underlying71 hi hz0 hz1 _ _ _ _ (n + m) rfl rfl (by omega) (by omega) (by rw [hz2]; omega) (by unfold maxLen; omega) (Nat.le_refl _) ?_))
  intro w1 ho hg
  obtain ⟨b1, hb⟩ := made_blk ho hg
  clear ho hg
  go_wp2_with fail
  go_loopw [6] (fun i wr => ∃ k : Nat, k ≤ n ∧ i = .int .i64 k ∧ Blk wr w.heap.size (ds (px A B k) (n + m)) 22 ∧ Below w.heap.size w wr) (fun i _ => n - (intOf i).toNat)
  case atStart => exact ⟨0, by omega, rfl, by rw [px_zero]; exact b1, hb⟩
  case round =>
    clear b1 hb
    obtain ⟨k, hk, rfl, b3, hb⟩ := hrel
    have B3 := Lib.hid b3
    clear b3
    by_cases hlt : k < n
    · have hlt' : (k : Int) < (n : Int) := by omega
      obtain ⟨b0, rfl, l0, x0⟩ := HX.out (by omega)
      have X0 := Lib.hid (x0 k hlt)
      have d0 := dig_le A k
      have d0' := Lib.hid (dig_lt A k)
      clear x0 HX
      go_wp2_with fail
      go_loopw [7, 8] (fun c i wr => ∃ l : Nat, l ≤ m ∧ i = .int .i64 l ∧ c = .int .u64 (pc (px A B k) (dig A k) B k l : Nat) ∧ Blk wr w.heap.size (ds (pl (px A B k) (dig A k) B k l) (n + m)) 22 ∧ Below w.heap.size w wr) (fun _ i _ => m - (intOf i).toNat)
      case atStart => exact ⟨0, by omega, rfl, by rw [pc_zero]; rfl, by rw [pl_zero]; exact B3.out, hb⟩
      case round =>
        clear hb B3
        obtain ⟨l, hl, rfl, rfl, b3, hb⟩ := hrel
        have hcl : pc (px A B k) (dig A k) B k l ≤ 4294967295 := by have := pc_lt (X := px A B k) (M := B) (i := k) (j := l) d0'.out; rw [bb_eq] at this; omega
        by_cases hlt2 : l < m
        · obtain ⟨b1, rfl, l1, x1⟩ := HY.out (by omega)
          have c1 := (hb.cell (p := ⟨b1, l, none⟩) l1).trans (x1 l hlt2)
          have c0 := (hb.cell (p := ⟨b0, k, none⟩) l0).trans X0.out
          have d1 := dig_le B l
          have d2 := dig_le (px A B k) (k + l)
          have c3 := b3.cell (i := k + l) (ds_get (by omega))
          rw [dig_pl] at c3
          have f3 := b3.frozen (k + l)
          have HC := Lib.hid (pc_succ (px A B k) (dig A k) B k l)
          have HL := Lib.hid (pl_succ (px A B k) (dig A k) B k l)
          have hmul : dig A k * dig B l ≤ 4294967295 * 4294967295 := Nat.mul_le_mul d0 d1
          clear x1 HY
          have e1 : IntKind.u64.wrap ((dig A k : Int) * (dig B l : Int)) = (dig A k : Int) * (dig B l : Int) := by
            rw [IntKind.wrap_u64]; omega
          have e2 : IntKind.u64.wrap ((pc (px A B k) (dig A k) B k l : Int) + (dig A k : Int) * (dig B l : Int)) = (pc (px A B k) (dig A k) B k l : Int) + (dig A k : Int) * (dig B l : Int) := by
            rw [IntKind.wrap_u64]; omega
          have e3 : IntKind.u64.wrap ((pc (px A B k) (dig A k) B k l : Int) + (dig A k : Int) * (dig B l : Int) + (dig (px A B k) (k + l) : Int)) = (pc (px A B k) (dig A k) B k l : Int) + (dig A k : Int) * (dig B l : Int) + (dig (px A B k) (k + l) : Int) := by
            rw [IntKind.wrap_u64]; omega
          have e4 : IntKind.i64.wrap ((k : Int) + l) = (k : Int) + l := IntWalk.i64_in _ (by omega)
          have e5 : ((k : Int) + l).toNat = k + l := by omega
          have hl1 : (l : Int) < (m : Int) := by omega
          have hkl : (k : Int) + l < (n : Int) + m := by omega
          have hkl0 : (0 : Int) ≤ (k : Int) + l := by omega
          go_wp2_with fail
          go_quiet (fail)
          clear e1 e2 e3 e4 e5
          have hT : dig A k * dig B l + dig (px A B k) (k + l) + pc (px A B k) (dig A k) B k l ≤ 18446744073709551615 := by omega
          rw [show (pc (px A B k) (dig A k) B k l : Int) + (dig A k : Int) * (dig B l : Int) + (dig (px A B k) (k + l) : Int) = ((dig A k * dig B l + dig (px A B k) (k + l) + pc (px A B k) (dig A k) B k l : Nat) : Int) by push_cast; omega]
          generalize dig A k * dig B l + dig (px A B k) (k + l) + pc (px A B k) (dig A k) B k l = T at *
          have HT1 : Hid ((T : Int) % 4294967296 = ((T % bb : Nat) : Int)) := by
            show (T : Int) % 4294967296 = ((T % bb : Nat) : Int)
            rw [bb_eq]; omega
          have HT2 : Hid ((T : Int) / 4294967296 = ((T / bb : Nat) : Int)) := by
            show (T : Int) / 4294967296 = ((T / bb : Nat) : Int)
            rw [bb_eq]; omega
          clear hmul
          go_wp2
          rw [HT1.out, HT2.out]
          go_roundw
          case rel =>
            refine ⟨l + 1, by omega, by go_num, int_eq (by rw [HC.out]), ?_, (below_drewN hb _).setCell (by exact Nat.le_refl _) _⟩
            have := (b3.drewN nq).set (k + l) (.int .u32 (T % bb : Nat))
            rw [ds_set (Nat.mod_lt _ bb_pos), ← HL.out] at this
            exact this
          case measure => simp [intOf]; omega
        · obtain rfl : l = m := by omega
          have HC := Lib.hid (pc_all (N := A) (i := k) HMm.out)
          have HL := Lib.hid (pl_all (N := A) (i := k) HMm.out)
          have HE := Lib.hid (Nat.mod_add_div (px A B (k + 1)) (bb ^ (k + l)))
          have c3 := b3.cell (i := k + l) (ds_get (by omega))
          have f3 := b3.frozen (k + l)
          have hkl : (k : Int) + l < (n : Int) + l := by omega
          go_wp2
          go_roundw
          case rel =>
            refine ⟨k + 1, by omega, by go_num, ?_, hb.setCell (by exact Nat.le_refl _) _⟩
            have := b3.set (k + l) (.int .u32 (pc (px A B k) (dig A k) B k l : Nat))
            rw [HL.out] at this
            rw [ds_top (Nat.mod_lt _ (bp_pos _)) (pc_lt d0'.out), HC.out, HE.out] at this
            rw [HC.out]
            exact this
          case measure => simp [intOf]; omega
    · obtain rfl : k = n := by omega
      have b1 := B3.out
      rw [px_all (M := B) HNn.out] at b1
      have HV : Hid (A * B < bb ^ (k + m)) := by
        have := px_lt (N := A) (i := k) HMm.out
        rw [px_all HNn.out] at this
        exact this
      go_wp2_with fail
      refine (trim_blk (c := 0) b1 HV.out (by omega)).mono ?_
      rintro e w1 ⟨v', rfl, hv, rfl⟩
      go_wp2
      go_ret
      exact ⟨v', rfl, hv, hb⟩
end Go.Proofs.YtckolhalggcenaaGreat

/- The reference's numbers: sum, Add, Sub, Mul. -/
namespace Go.Proofs.YtckolhalggcenaaGreat
set_option linter.unusedSimpArgs false
set_option linter.unusedVariables false
open Go.RowKit
set_option maxRecDepth 100000
theorem nw32 {M : Nat} : nw M ≤ 32 ↔ M < bb ^ 32 := ⟨fun h => Nat.lt_of_lt_of_le (nw_lt M) (bp_mono h), fun h => nw_le_of h⟩
set_option maxHeartbeats 1000000 in
theorem wideN_any {v : Value} {M : Nat} {w : World} (s : Bool) (h : Mv w v M) (h32 : ¬ nw M ≤ 32) (hn : nw M ≤ 1000000) : Calls Tryz.prog 40 #[.bool s, v] w fun e w' => e = .returned (.tuple #[.agg (wd false 0).toArray, .bool false]) ∧ Below w.heap.size w w' := by
  rcases h with ⟨rfl, rfl⟩ | ⟨b, c, rfl, hc, hl, hx⟩
  · exact absurd (show nw 0 ≤ 32 by rw [nw_zero.2 rfl]; omega) h32
  · have HT : Hid (∀ w, Mg w b (nw M) M → Calls Tryz.prog 51 #[.slice (some ⟨b, 0, none⟩) (nw M) c] w fun e w' => e = .returned (.slice (some ⟨b, 0, none⟩) (nw M) c) ∧ w' = w) := fun w h => trim_any w h hc hn
    have b4 := Blk.new w (wd false 0) 25 rfl
    have hb : Below w.heap.size w (w.alloc (.cells (wd false 0).toArray 25)) := (Below.refl _ _).alloc (Nat.le_refl _) _
    have H : Hid (Mg (w.alloc (.cells (wd false 0).toArray 25)) b (nw M) M) := Mg.call ⟨nw_lt M, hx⟩ hl hb
    clear hx
    generalize nw M = m at *
    have h33 : (32 : Int) < (m : Int) := by omega
    go_enter Tryz.func40, Tryz.ntmps40
    go_wp2_with (first | (with_reducible refine alW rfl rfl ?_))
    refine (HT.out _ H.out).mono ?_
    rintro e w1 ⟨rfl, rfl⟩
    go_wp2_with (first | (with_reducible refine bdW0 rfl rfl ?_) | (with_reducible refine stW rfl rfl rfl rfl b4 ?_))
    exact ret_ct (cs := wd false 0) (v := .bool false) rfl rfl rfl rfl (whole25 _ _) (b4.row _) ⟨rfl, below_row hb (by omega) _⟩
/-- wide of an amount: the number, or that it is too great. -/
theorem wideB_any {M : Nat} (s : Bool) (hn : nw M ≤ 1000000) : ∃ (z : Int) (o : Bool), fits z ∧ ((M < bb ^ 32 ∧ z = zn s M ∧ o = true) ∨ (¬ M < bb ^ 32 ∧ z = 0 ∧ o = false)) ∧ ∀ (w : World) (v : Value), Mv w v M → Calls Tryz.prog 40 #[.bool s, v] w fun e w' => e = .returned (.tuple #[.agg (mk z).toArray, .bool o]) ∧ Below w.heap.size w w' := by
  by_cases h : M < bb ^ 32
  · exact ⟨zn s M, true, by rw [fits, zn_abs]; exact h, .inl ⟨h, rfl, rfl⟩, fun w v hv => wideZ_any s hv (nw32.2 h)⟩
  · exact ⟨0, false, bp_pos 32, .inr ⟨h, rfl, rfl⟩, fun w v hv => wideN_any s hv (fun h' => h (nw32.1 h')) hn⟩
set_option maxHeartbeats 1000000 in
theorem sum_any {u v : Value} {A B : Nat} {w : World} (x y : Bool) (h : Mv w u A) (h' : Mv w v B) (hn : nw A ≤ 900) (hm : nw B ≤ 900) : Calls Tryz.prog 89 #[.bool x, u, .bool y, v] w fun e w' => ∃ n v' M, e = .returned (.tuple #[.bool n, v']) ∧ Mv w' v' M ∧ zn n M = zn x A + zn y B ∧ Below w.heap.size w w' := by
  have HA := Lib.hid h
  have HB := Lib.hid h'
  have hb := Below.refl w.heap.size w
  have HN : Hid (nw A ≤ 1000 ∧ nw B ≤ 1000) := ⟨by omega, by omega⟩
  clear h h' hn hm
  cases x <;> cases y
  · go_enter Tryz.func89, Tryz.ntmps89
    go_wp2_with fail
    refine (add_any HA.out HB.out HN.out.1 HN.out.2).mono ?_
    rintro e w1 ⟨v', rfl, hv, h1⟩
    go_wp2
    go_ret2
    exact ⟨false, v', _, rfl, hv, by unfold zn; simp, h1⟩
  · go_enter Tryz.func89, Tryz.ntmps89
    go_wp2_with fail
    refine (cmp_any HA.out HB.out HN.out.1 HN.out.2).mono ?_
    rintro e w1 ⟨rfl, h1⟩
    by_cases hlt : A < B
    · have e1 : cmpv A B = -1 := by unfold cmpv; rw [if_pos hlt]
      rw [e1]
      go_wp2_with fail
      refine (sub_any (HB.out.call h1) (HA.out.call h1) HN.out.2 (Nat.le_of_lt hlt)).mono ?_
      rintro e w2 ⟨v', rfl, hv, hf, h2⟩
      go_wp2
      go_ret2
      exact ⟨true, v', _, rfl, hv, by unfold zn; simp; omega, bthen h1 h2⟩
    · have e1 : 0 ≤ cmpv A B := by unfold cmpv; rw [if_neg hlt]; split <;> omega
      generalize cmpv A B = cc at *
      go_wp2_with fail
      refine (sub_any (HA.out.call h1) (HB.out.call h1) HN.out.1 (by omega)).mono ?_
      rintro e w2 ⟨v', rfl, hv, hf, h2⟩
      go_wp2
      go_ret2
      exact ⟨false, v', _, rfl, hv, by unfold zn; simp; omega, bthen h1 h2⟩
  · go_enter Tryz.func89, Tryz.ntmps89
    go_wp2_with fail
    refine (cmp_any HA.out HB.out HN.out.1 HN.out.2).mono ?_
    rintro e w1 ⟨rfl, h1⟩
    by_cases hlt : A < B
    · have e1 : cmpv A B = -1 := by unfold cmpv; rw [if_pos hlt]
      rw [e1]
      go_wp2_with fail
      refine (sub_any (HB.out.call h1) (HA.out.call h1) HN.out.2 (Nat.le_of_lt hlt)).mono ?_
      rintro e w2 ⟨v', rfl, hv, hf, h2⟩
      go_wp2
      go_ret2
      exact ⟨false, v', _, rfl, hv, by unfold zn; simp; omega, bthen h1 h2⟩
    · have e1 : 0 ≤ cmpv A B := by unfold cmpv; rw [if_neg hlt]; split <;> omega
      generalize cmpv A B = cc at *
      go_wp2_with fail
      refine (sub_any (HA.out.call h1) (HB.out.call h1) HN.out.1 (by omega)).mono ?_
      rintro e w2 ⟨v', rfl, hv, hf, h2⟩
      go_wp2
      go_ret2
      exact ⟨true, v', _, rfl, hv, by unfold zn; simp; omega, bthen h1 h2⟩
  · go_enter Tryz.func89, Tryz.ntmps89
    go_wp2_with fail
    refine (add_any HA.out HB.out HN.out.1 HN.out.2).mono ?_
    rintro e w1 ⟨v', rfl, hv, h1⟩
    go_wp2
    go_ret2
    exact ⟨true, v', _, rfl, hv, by unfold zn; simp; omega, h1⟩
end Go.Proofs.YtckolhalggcenaaGreat

/- The reference's numbers: Add, Sub, Mul. -/
namespace Go.Proofs.YtckolhalggcenaaGreat
set_option linter.unusedSimpArgs false
set_option linter.unusedVariables false
open Go.RowKit
set_option maxRecDepth 100000
/-- A number as it is answered, if it may be: z, o. -/
def Fz (K z : Int) (o : Bool) : Prop := fits z ∧ ((fits K ∧ z = K ∧ o = true) ∨ (¬ fits K ∧ z = 0 ∧ o = false))
theorem fz_ex (K : Int) : ∃ z o, Fz K z o := by
  by_cases h : fits K
  · exact ⟨K, true, h, .inl ⟨h, rfl, rfl⟩⟩
  · exact ⟨0, false, bp_pos 32, .inr ⟨h, rfl, rfl⟩⟩
theorem wideK {K z : Int} {o n : Bool} {w : World} {v : Value} (hf : Fz K z o) (hn : nw K.natAbs ≤ 1000000) (hz : zn n K.natAbs = K) (hv : Mv w v K.natAbs) : Calls Tryz.prog 40 #[.bool n, v] w fun e w' => e = .returned (.tuple #[.agg (mk z).toArray, .bool o]) ∧ Below w.heap.size w w' := by
  rcases hf.2 with ⟨h, rfl, rfl⟩ | ⟨h, rfl, rfl⟩
  · have := wideZ_any n hv (nw32.2 h)
    rwa [hz] at this
  · exact wideN_any n hv (fun h' => h (nw32.1 h')) hn
theorem zn_neg (s : Bool) (N : Nat) : zn (s && decide (N ≠ 0)) N = zn s N := by
  unfold zn
  by_cases h : N = 0
  · subst h; cases s <;> simp
  · cases s <;> simp [h]
theorem lt_add {A B k : Nat} (hA : A < bb ^ k) (hB : B < bb ^ k) : A + B < bb ^ (k + 1) := by
  rw [bp_succ]
  generalize bb ^ k = X at *
  unfold bb; omega
theorem nw_abs {x y : Int} {A B k : Nat} (hx : x.natAbs = A) (hy : y.natAbs = B) (hA : A < bb ^ k) (hB : B < bb ^ k) : nw (x + y).natAbs ≤ k + 1 ∧ nw (x - y).natAbs ≤ k + 1 := by
  have := lt_add hA hB
  exact ⟨nw_le_of (by omega), nw_le_of (by omega)⟩
theorem zn_flip (t : Bool) (M : Nat) : zn (!t) M = - zn t M := by unfold zn; cases t <;> simp
set_option maxHeartbeats 2000000 in
theorem Mulref_any (s : Bool) {N : Nat} (t : Bool) {M : Nat} (hN : N < bb ^ 32) (hM : M < bb ^ 32) {z : Int} {o : Bool} (hz : Fz (zn s N * zn t M) z o) : Tl 21 #[.agg (wd s N).toArray, .agg (wd t M).toArray] (.tuple #[vw z, .bool o]) := fun w => by
  have HZ := Lib.hid hz
  have EK : Hid ((zn s N * zn t M).natAbs = N * M) := by
    show (zn s N * zn t M).natAbs = N * M
    rw [Int.natAbs_mul, zn_abs, zn_abs]
  have HK : Hid (nw (zn s N * zn t M).natAbs ≤ 1000000) := by
    have h2 : N * M < bb ^ 64 := by
      have := Nat.mul_lt_mul'' hN hM
      rwa [← Nat.pow_add] at this
    have := nw_le_of h2
    show nw (zn s N * zn t M).natAbs ≤ 1000000
    rw [EK.out]; omega
  clear hz
  have HN := Lib.hid hN
  have HM := Lib.hid hM
  have N1 := Lib.hid (fun w => negref_any s hN w)
  have N2 := Lib.hid (fun w => negref_any t hM w)
  have O1 := Lib.hid (fun w => of_any s hN w)
  have O2 := Lib.hid (fun w => of_any t hM w)
  obtain ⟨sn, hsn⟩ : ∃ sn : Bool, (s && decide (N ≠ 0)) = sn := ⟨_, rfl⟩
  obtain ⟨tn, htn⟩ : ∃ tn : Bool, (t && decide (M ≠ 0)) = tn := ⟨_, rfl⟩
  have ES : Hid (zn sn N = zn s N) := by rw [← hsn]; exact zn_neg s N
  have ET : Hid (zn tn M = zn t M) := by rw [← htn]; exact zn_neg t M
  rw [hsn] at N1
  rw [htn] at N2
  clear hsn htn hN hM
  unfold vw
  have b2 := ((Blk.new w (wd s N) 25 rfl).old (.cells (wd t M).toArray 25)).old (.cells (wd false 0).toArray 25)
  have b3 := (Blk.new (w.alloc (.cells (wd s N).toArray 25)) (wd t M) 25 (b := w.heap.size + 1) (by simp)).old (.cells (wd false 0).toArray 25)
  have b4 := Blk.new ((w.alloc (.cells (wd s N).toArray 25)).alloc (.cells (wd t M).toArray 25)) (wd false 0) 25 (b := w.heap.size + 1 + 1) (by simp)
  have hb : Below w.heap.size w (((w.alloc (.cells (wd s N).toArray 25)).alloc (.cells (wd t M).toArray 25)).alloc (.cells (wd false 0).toArray 25)) := (((Below.refl _ _).alloc (Nat.le_refl _) _).alloc (by simp) _).alloc (by simp; omega) _
  have EZ : Hid (zn (sn != tn) (zn s N * zn t M).natAbs = zn s N * zn t M) := by
    show zn (sn != tn) (zn s N * zn t M).natAbs = zn s N * zn t M
    rw [EK.out, ← zn_mul, ES.out, ET.out]
  go_enter Tryz.func21, Tryz.ntmps21
  go_wp2_with (first | (with_reducible refine alW2 rfl rfl ?_) | (with_reducible refine alW rfl rfl ?_))
  try rw [show ((w.alloc (.cells (wd s N).toArray 25)).alloc (.cells (wd t M).toArray 25)).heap.size = w.heap.size + 1 + 1 by simp]
  refine rg_start [w.heap.size + 1 + 1] (by kernel_rfl) (fun hS => ?_)
  replace hb := hb.drew
  replace b4 := b4.drew
  refine rg_ld 0 rfl (by kernel_rfl) (by kernel_rfl) (by kernel_rfl) (by rfl) hS rfl rfl b2 (by simp <;> omega) (whole25 _ _) ?_
  try simp only [Act.put, List.setIfInBounds_toArray, List.set_cons_zero, List.set_cons_succ]
  refine rg_ld 2 rfl (by kernel_rfl) (by kernel_rfl) (by kernel_rfl) (by rfl) hS rfl rfl b3 (by simp <;> omega) (whole25 _ _) ?_
  try simp only [Act.put, List.setIfInBounds_toArray, List.set_cons_zero, List.set_cons_succ]
  refine rg_ld 5 rfl (by kernel_rfl) (by kernel_rfl) (by kernel_rfl) (by rfl) hS rfl rfl b2 (by simp <;> omega) (whole25 _ _) ?_
  try simp only [Act.put, List.setIfInBounds_toArray, List.set_cons_zero, List.set_cons_succ]
  refine rg_ld 7 rfl (by kernel_rfl) (by kernel_rfl) (by kernel_rfl) (by rfl) hS rfl rfl b3 (by simp <;> omega) (whole25 _ _) ?_
  try simp only [Act.put, List.setIfInBounds_toArray, List.set_cons_zero, List.set_cons_succ]
  refine rg_eff 1 rfl (by kernel_rfl) (by rfl) (fun K hK => ?_)
  go_simp
  refine (N1.out _).mono ?_
  rintro e w1 ⟨rfl, h1⟩
  refine hK _ _ (hS.call h1) (fun hS => ?_)
  clear hK K
  replace b4 := b4.call h1
  replace hb := bthen hb h1
  clear h1
  try simp only [Act.put, List.setIfInBounds_toArray, List.set_cons_zero, List.set_cons_succ]
  refine rg_eff 3 rfl (by kernel_rfl) (by rfl) (fun K hK => ?_)
  go_simp
  refine (N2.out _).mono ?_
  rintro e w1 ⟨rfl, h1⟩
  refine hK _ _ (hS.call h1) (fun hS => ?_)
  clear hK K
  replace b4 := b4.call h1
  replace hb := bthen hb h1
  clear h1
  try simp only [Act.put, List.setIfInBounds_toArray, List.set_cons_zero, List.set_cons_succ]
  refine rg_take 4 rfl (by kernel_rfl) (by kernel_rfl) (by kernel_rfl) (by rfl) hS (v := .bool (sn != tn)) (fun w' _ => op_neb rfl rfl rfl w') ?_
  try simp only [Act.put, List.setIfInBounds_toArray, List.set_cons_zero, List.set_cons_succ]
  refine rg_eff 6 rfl (by kernel_rfl) (by rfl) (fun K hK => ?_)
  go_simp
  refine (O1.out _).mono ?_
  rintro e w1 ⟨va, rfl, ma, h1⟩
  refine hK _ _ (hS.call h1) (fun hS => ?_)
  clear hK K
  replace b4 := b4.call h1
  replace hb := bthen hb h1
  clear h1
  try simp only [Act.put, List.setIfInBounds_toArray, List.set_cons_zero, List.set_cons_succ]
  refine rg_eff 8 rfl (by kernel_rfl) (by rfl) (fun K hK => ?_)
  go_simp
  refine (O2.out _).mono ?_
  rintro e w1 ⟨vb, rfl, mb, h1⟩
  refine hK _ _ (hS.call h1) (fun hS => ?_)
  clear hK K
  replace b4 := b4.call h1
  replace ma := ma.call h1
  replace hb := bthen hb h1
  clear h1
  try simp only [Act.put, List.setIfInBounds_toArray, List.set_cons_zero, List.set_cons_succ]
  refine rg_eff 9 rfl (by kernel_rfl) (by rfl) (fun K hK => ?_)
  go_simp
  refine (mul_any ma mb (by have := nw32.2 HN.out; omega) (by have := nw32.2 HM.out; omega)).mono ?_
  rintro e w1 ⟨vp, rfl, mp, h1⟩
  refine hK _ _ (hS.call h1) (fun hS => ?_)
  clear hK K
  replace b4 := b4.call h1
  replace hb := bthen hb h1
  clear h1
  rw [← EK.out] at mp
  clear ma mb
  try simp only [Act.put, List.setIfInBounds_toArray, List.set_cons_zero, List.set_cons_succ]
  refine rg_eff 10 rfl (by kernel_rfl) (by rfl) (fun K hK => ?_)
  go_simp
  refine (wideK HZ.out HK.out EZ.out mp).mono ?_
  rintro e w1 ⟨rfl, h1⟩
  refine hK _ _ (hS.call h1) (fun hS => ?_)
  clear hK K
  replace b4 := b4.call h1
  replace hb := bthen hb h1
  clear h1 mp
  try simp only [Act.put, List.setIfInBounds_toArray, List.set_cons_zero, List.set_cons_succ]
  refine rg_take 11 rfl (by kernel_rfl) (by kernel_rfl) (by kernel_rfl) (by rfl) hS (v := ?_) ?_ ?_
  rotate_left
  · (intro w' hS'; go_simp <;> try with_reducible rfl)
  try simp only [Act.put, List.setIfInBounds_toArray, List.set_cons_zero, List.set_cons_succ]
  refine rg_take 12 rfl (by kernel_rfl) (by kernel_rfl) (by kernel_rfl) (by rfl) hS (v := ?_) ?_ ?_
  rotate_left
  · (intro w' hS'; go_simp <;> try with_reducible rfl)
  try simp only [Act.put, List.setIfInBounds_toArray, List.set_cons_zero, List.set_cons_succ]
  refine rg_eff 13 rfl (by kernel_rfl) (by rfl) (fun K hK => ?_)
  refine wp_st (vs := mk z) rfl rfl rfl b4 (by rw [wd_length, mk_length]) (wholeM _) (mk_one _) ?_
  refine hK _ _ (hS.row (.inl (by simp)) _) (fun hS => ?_)
  clear hK K
  try simp only [Act.put, List.setIfInBounds_toArray, List.set_cons_zero, List.set_cons_succ]
  refine rg_take 14 rfl (by kernel_rfl) (by kernel_rfl) (by kernel_rfl) (by rfl) hS (v := ?_) ?_ ?_
  rotate_left
  · (intro w' hS'; go_simp <;> try with_reducible rfl)
  try simp only [Act.put, List.setIfInBounds_toArray, List.set_cons_zero, List.set_cons_succ]
  refine rg_done (by kernel_rfl) ?_
  go_wp2
  exact ret_ct (cs := mk z) (v := .bool o) rfl rfl rfl rfl (wholeM _) (b4.row _) ⟨rfl, below_row hb (by omega) _⟩
end Go.Proofs.YtckolhalggcenaaGreat

/- The reference's numbers: Neg, Gcd, Shl, DivMod, Cmp. -/
namespace Go.Proofs.YtckolhalggcenaaGreat
set_option linter.unusedSimpArgs false
set_option linter.unusedVariables false
open Go.RowKit
set_option maxRecDepth 100000
theorem op_minc {o : Oper} {a : Act} {x : Operand} {n c m : Int} (hm : min n c = m) (ho : o.op = .call { callee := .builtin .min, args := #[x, .const (.int .i64 c)], argTypes := #[3, 3] }) (hx : a.eval x = .int .i64 n) (w : World) :
    (execOp a.eval o).run Tryz.prog w = .ok (.value (.int .i64 m)) w := by
  subst hm
  obtain ⟨dst, op, ty, pos, af, gd⟩ := o
  subst ho
  rw [BigFrame.execOp_builtin, BigFrame.builtin_min, show (#[x, Operand.const (.int .i64 c)] : Array Operand).map a.eval = #[.int .i64 n, .int .i64 c] by simp [hx, BigFrame.eval_const]]
  simp only [Sem.run_bind, run_min]
  rfl
theorem op_maxc {o : Oper} {a : Act} {x : Operand} {n c m : Int} (hm : max c n = m) (ho : o.op = .call { callee := .builtin .max, args := #[.const (.int .i64 c), x], argTypes := #[3, 3] }) (hx : a.eval x = .int .i64 n) (w : World) :
    (execOp a.eval o).run Tryz.prog w = .ok (.value (.int .i64 m)) w := by
  subst hm
  obtain ⟨dst, op, ty, pos, af, gd⟩ := o
  subst ho
  rw [BigFrame.execOp_builtin, BigFrame.builtin_max, show (#[Operand.const (.int .i64 c), x] : Array Operand).map a.eval = #[.int .i64 c, .int .i64 n] by simp [hx, BigFrame.eval_const]]
  simp only [Sem.run_bind, run_max]
  rfl
theorem two_le_bb {k e : Nat} (h : k ≤ e) (he : e = 32 * 32) : 2 ^ k ≤ bb ^ 32 := by rw [bb_pow e he]; exact two_le h
theorem fz_self {z : Int} (h : fits z) : Fz z z true := ⟨h, .inl ⟨h, rfl, rfl⟩⟩
set_option maxHeartbeats 2000000 in
theorem Cmpref_any (s : Bool) {N : Nat} (t : Bool) {M : Nat} (hN : N < bb ^ 32) (hM : M < bb ^ 32) : Tl 22 #[.agg (wd s N).toArray, .agg (wd t M).toArray] (.int .i64 (if zn s N < zn t M then -1 else if zn t M < zn s N then 1 else 0)) := fun w => by
  have N1 := Lib.hid (fun w => negref_any s hN w)
  have N2 := Lib.hid (fun w => negref_any t hM w)
  have O1 := Lib.hid (fun w => of_any s hN w)
  have O2 := Lib.hid (fun w => of_any t hM w)
  have HL : Hid (nw N ≤ 1000 ∧ nw M ≤ 1000) := ⟨Nat.le_trans (nw32.2 hN) (by omega), Nat.le_trans (nw32.2 hM) (by omega)⟩
  obtain ⟨sn, hsn⟩ : ∃ sn : Bool, (s && decide (N ≠ 0)) = sn := ⟨_, rfl⟩
  obtain ⟨tn, htn⟩ : ∃ tn : Bool, (t && decide (M ≠ 0)) = tn := ⟨_, rfl⟩
  have hs1 := zn_neg s N
  have ht1 := zn_neg t M
  have hs2 : sn = true → N ≠ 0 := fun h => by rw [h] at hsn; simp at hsn; exact hsn.2
  have ht2 : tn = true → M ≠ 0 := fun h => by rw [h] at htn; simp at htn; exact htn.2
  rw [hsn] at N1 hs1
  rw [htn] at N2 ht1
  rw [← hs1, ← ht1]
  clear hsn htn hs1 ht1 hN hM
  have b2 := (Blk.new w (wd s N) 25 rfl).old (.cells (wd t M).toArray 25)
  have b3 := Blk.new (w.alloc (.cells (wd s N).toArray 25)) (wd t M) 25 (b := w.heap.size + 1) (by simp)
  have hb : Below w.heap.size w ((w.alloc (.cells (wd s N).toArray 25)).alloc (.cells (wd t M).toArray 25)) := ((Below.refl _ _).alloc (Nat.le_refl _) _).alloc (by simp) _
  obtain ⟨r, hr⟩ : ∃ r : Int, (if zn sn N < zn tn M then -1 else if zn tn M < zn sn N then 1 else 0) = r := ⟨_, rfl⟩
  have HR := Lib.hid hr
  have HS2 := Lib.hid hs2
  have HT2 := Lib.hid ht2
  rw [hr]
  clear hr hs2 ht2
  go_enter Tryz.func22, Tryz.ntmps22
  go_wp2_with fail
  refine rg_start [] (by kernel_rfl) (fun hS => ?_)
  replace hb := hb.drew
  refine rg_ld 0 rfl (by kernel_rfl) (by kernel_rfl) (by kernel_rfl) (by rfl) hS rfl rfl b2 (by simp <;> omega) (whole25 _ _) ?_
  try simp only [Act.put, List.setIfInBounds_toArray, List.set_cons_zero, List.set_cons_succ]
  refine rg_ld 2 rfl (by kernel_rfl) (by kernel_rfl) (by kernel_rfl) (by rfl) hS rfl rfl b3 (by simp <;> omega) (whole25 _ _) ?_
  try simp only [Act.put, List.setIfInBounds_toArray, List.set_cons_zero, List.set_cons_succ]
  refine rg_eff 1 rfl (by kernel_rfl) (by rfl) (fun K hK => ?_)
  go_simp
  refine (N1.out _).mono ?_
  rintro e w1 ⟨rfl, h1⟩
  refine hK _ _ (hS.call h1) (fun hS => ?_)
  clear hK K
  replace hb := bthen hb h1
  clear h1
  try simp only [Act.put, List.setIfInBounds_toArray, List.set_cons_zero, List.set_cons_succ]
  refine rg_eff 3 rfl (by kernel_rfl) (by rfl) (fun K hK => ?_)
  go_simp
  refine (N2.out _).mono ?_
  rintro e w1 ⟨rfl, h1⟩
  refine hK _ _ (hS.call h1) (fun hS => ?_)
  clear hK K
  replace hb := bthen hb h1
  clear h1
  try simp only [Act.put, List.setIfInBounds_toArray, List.set_cons_zero, List.set_cons_succ]
  refine rg_take 4 rfl (by kernel_rfl) (by kernel_rfl) (by kernel_rfl) (by rfl) hS (v := ?_) ?_ ?_
  rotate_left
  · (intro w' hS'; go_simp <;> try with_reducible rfl)
  try simp only [Act.put, List.setIfInBounds_toArray, List.set_cons_zero, List.set_cons_succ]
  refine rg_take 5 rfl (by kernel_rfl) (by kernel_rfl) (by kernel_rfl) (by rfl) hS (v := ?_) ?_ ?_
  rotate_left
  · (intro w' hS'; go_simp <;> try with_reducible rfl)
  try simp only [Act.put, List.setIfInBounds_toArray, List.set_cons_zero, List.set_cons_succ]
  refine rg_done (by kernel_rfl) ?_
  replace b2 := b2.keep hS (by simp)
  replace b3 := b3.keep hS (by simp)
  clear hS
  cases sn <;> cases tn
  · go_wp2_with fail
    refine rg_start [] (by kernel_rfl) (fun hS => ?_)
    replace hb := hb.drew
    refine rg_ld 0 rfl (by kernel_rfl) (by kernel_rfl) (by kernel_rfl) (by rfl) hS rfl rfl b2 (by simp <;> omega) (whole25 _ _) ?_
    try simp only [Act.put, List.setIfInBounds_toArray, List.set_cons_zero, List.set_cons_succ]
    refine rg_ld 2 rfl (by kernel_rfl) (by kernel_rfl) (by kernel_rfl) (by rfl) hS rfl rfl b3 (by simp <;> omega) (whole25 _ _) ?_
    try simp only [Act.put, List.setIfInBounds_toArray, List.set_cons_zero, List.set_cons_succ]
    refine rg_eff 1 rfl (by kernel_rfl) (by rfl) (fun K hK => ?_)
    go_simp
    refine (O1.out _).mono ?_
    rintro e w1 ⟨va, rfl, ma, h1⟩
    refine hK _ _ (hS.call h1) (fun hS => ?_)
    clear hK K
    replace hb := bthen hb h1
    clear h1
    try simp only [Act.put, List.setIfInBounds_toArray, List.set_cons_zero, List.set_cons_succ]
    refine rg_eff 3 rfl (by kernel_rfl) (by rfl) (fun K hK => ?_)
    go_simp
    refine (O2.out _).mono ?_
    rintro e w1 ⟨vb, rfl, mb, h1⟩
    refine hK _ _ (hS.call h1) (fun hS => ?_)
    clear hK K
    replace ma := ma.call h1
    replace hb := bthen hb h1
    clear h1
    try simp only [Act.put, List.setIfInBounds_toArray, List.set_cons_zero, List.set_cons_succ]
    refine rg_eff 4 rfl (by kernel_rfl) (by rfl) (fun K hK => ?_)
    go_simp
    refine (cmp_any ma mb HL.out.1 HL.out.2).mono ?_
    rintro e w1 ⟨rfl, h1⟩
    refine hK _ _ (hS.call h1) (fun hS => ?_)
    clear hK K
    replace hb := bthen hb h1
    clear h1
    try simp only [Act.put, List.setIfInBounds_toArray, List.set_cons_zero, List.set_cons_succ]
    refine rg_take 5 rfl (by kernel_rfl) (by kernel_rfl) (by kernel_rfl) (by rfl) hS (v := ?_) ?_ ?_
    rotate_left
    · (intro w' hS'; go_simp <;> try with_reducible rfl)
    try simp only [Act.put, List.setIfInBounds_toArray, List.set_cons_zero, List.set_cons_succ]
    refine rg_done (by kernel_rfl) ?_
    go_wp2
    go_ret
    refine ⟨?_, hb⟩
    rw [← HR.out]; unfold cmpv zn; simp
  · have h1 := HT2.out rfl
    obtain rfl : r = 1 := by rw [← HR.out]; unfold zn; rw [if_neg (by simp <;> omega), if_pos (by simp <;> omega)]
    go_wp2
    go_ret
    exact ⟨rfl, hb⟩
  · have h1 := HS2.out rfl
    obtain rfl : r = -1 := by rw [← HR.out]; unfold zn; rw [if_pos (by simp <;> omega)]
    go_wp2
    go_ret
    exact ⟨rfl, hb⟩
  · go_wp2_with fail
    refine rg_start [] (by kernel_rfl) (fun hS => ?_)
    replace hb := hb.drew
    refine rg_ld 0 rfl (by kernel_rfl) (by kernel_rfl) (by kernel_rfl) (by rfl) hS rfl rfl b3 (by simp <;> omega) (whole25 _ _) ?_
    try simp only [Act.put, List.setIfInBounds_toArray, List.set_cons_zero, List.set_cons_succ]
    refine rg_ld 2 rfl (by kernel_rfl) (by kernel_rfl) (by kernel_rfl) (by rfl) hS rfl rfl b2 (by simp <;> omega) (whole25 _ _) ?_
    try simp only [Act.put, List.setIfInBounds_toArray, List.set_cons_zero, List.set_cons_succ]
    refine rg_eff 1 rfl (by kernel_rfl) (by rfl) (fun K hK => ?_)
    go_simp
    refine (O2.out _).mono ?_
    rintro e w1 ⟨vb, rfl, mb, h1⟩
    refine hK _ _ (hS.call h1) (fun hS => ?_)
    clear hK K
    replace hb := bthen hb h1
    clear h1
    try simp only [Act.put, List.setIfInBounds_toArray, List.set_cons_zero, List.set_cons_succ]
    refine rg_eff 3 rfl (by kernel_rfl) (by rfl) (fun K hK => ?_)
    go_simp
    refine (O1.out _).mono ?_
    rintro e w1 ⟨va, rfl, ma, h1⟩
    refine hK _ _ (hS.call h1) (fun hS => ?_)
    clear hK K
    replace mb := mb.call h1
    replace hb := bthen hb h1
    clear h1
    try simp only [Act.put, List.setIfInBounds_toArray, List.set_cons_zero, List.set_cons_succ]
    refine rg_eff 4 rfl (by kernel_rfl) (by rfl) (fun K hK => ?_)
    go_simp
    refine (cmp_any mb ma HL.out.2 HL.out.1).mono ?_
    rintro e w1 ⟨rfl, h1⟩
    refine hK _ _ (hS.call h1) (fun hS => ?_)
    clear hK K
    replace hb := bthen hb h1
    clear h1
    try simp only [Act.put, List.setIfInBounds_toArray, List.set_cons_zero, List.set_cons_succ]
    refine rg_take 5 rfl (by kernel_rfl) (by kernel_rfl) (by kernel_rfl) (by rfl) hS (v := ?_) ?_ ?_
    rotate_left
    · (intro w' hS'; go_simp <;> try with_reducible rfl)
    try simp only [Act.put, List.setIfInBounds_toArray, List.set_cons_zero, List.set_cons_succ]
    refine rg_done (by kernel_rfl) ?_
    go_wp2
    go_ret
    refine ⟨?_, hb⟩
    rw [← HR.out]; unfold cmpv zn; simp
end Go.Proofs.YtckolhalggcenaaGreat
