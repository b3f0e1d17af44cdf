/- The reference's amounts: sub. -/
import Derived.Test.YtckolhalggcenaaGreatMgc
namespace Go.Proofs.YtckolhalggcenaaGreat
set_option linter.unusedSimpArgs false
set_option linter.unusedVariables false
open Go.RowKit
set_option maxRecDepth 100000
theorem ds_push {X k d : Nat} (hX : X < bb ^ k) (hd : d < bb) : ds (X + bb ^ k * d) (k + 1) = ds X k ++ [.int .u32 (d : Nat)] := by
  rw [ds_succ, dig_add_same hX hd]
  congr 1
  unfold ds
  refine List.map_congr_left fun i hi => ?_
  rw [dig_add_low (by simpa using hi)]
/-- Behind an append to a row of one's own. -/
theorem own_put {w wr w1 : World} {B base k X d : Nat} {v v' : Value} {o : Obj} (hX : X < bb ^ k) (hd : d < bb) (hB : B ≤ base) (hbr : base ≤ wr.heap.size) (hown : wr.ownsRow base 22 1 v k (ds X k)) (hb : Below B w wr)
    (hown' : w1.ownsRow base 22 1 v' (k + 1) (ds X k ++ [.int .u32 (d : Nat)])) (hg : (wr.alloc o).grownBy w1 v.ownBlock) :
    w1.ownsRow base 22 1 v' (k + 1) (ds (X + bb ^ k * d) (k + 1)) ∧ Below B w w1 ∧ base ≤ w1.heap.size := by
  have h1 : ∀ j, v.ownBlock = some j → base ≤ j := fun j hj => (hown.lt j hj).1
  have hs := hg.size
  simp only [World.size_alloc] at hs
  exact ⟨by rw [ds_push hX hd]; exact hown', (hb.alloc (by omega) o).grown hg (by simp; omega) (fun j hj => Nat.le_trans hB (h1 j hj)), by omega⟩
set_option maxHeartbeats 2000000 in
theorem sub_any {u v : Value} {A B : Nat} {w : World} (h : Mv w u A) (h' : Mv w v B) (hn : nw A ≤ 1000) (hle : B ≤ A) : Calls Tryz.prog 105 #[u, v] w fun e w' => ∃ v', e = .returned v' ∧ Mv w' v' (A - B) ∧ Fr w.heap.size v' ∧ Below w.heap.size w w' := by
  obtain ⟨p, c, rfl, hc, hx⟩ := h.old
  obtain ⟨q, d, rfl, hd, hy⟩ := h'.old
  have hAB : B < bb ^ nw A := Nat.lt_of_le_of_lt hle (nw_lt A)
  have hm : nw B ≤ nw A := nw_le_of hAB
  have HE := Lib.hid (df_all (nw_lt A) hAB hle)
  have HL : Hid (A - B < bb ^ nw A) := Nat.lt_of_le_of_lt (Nat.sub_le _ _) (nw_lt A)
  have HO : Hid (∀ i, nw B ≤ i → dig B i = 0) := fun i hi => dig_of_lt (Nat.lt_of_lt_of_le (nw_lt B) (bp_mono hi))
  have HX := Lib.hid hx
  have HY := Lib.hid hy
  clear hx hy hAB hle
  generalize nw A = n at *
  generalize nw B = m at *
  obtain ⟨i0, hi, hz0, hz1, hz2⟩ := info_parts info_u32
  go_enter Tryz.func105, Tryz.ntmps105
  go_wp2_with fail
  go_loopw [5, 6, 7] (fun v c i wr => ∃ k : Nat, k ≤ n ∧ i = .int .i64 k ∧ c = .int .i64 (br A B k : Nat) ∧ wr.ownsRow w.heap.size 22 1 v k (ds (df A B k) k) ∧ Below w.heap.size w wr ∧ w.heap.size ≤ wr.heap.size) (fun _ _ i _ => n - (intOf i).toNat)
  case atStart => exact ⟨0, by omega, rfl, by rw [br_zero]; rfl, World.ownsRow_nil _ _ _ _, Below.refl _ _, Nat.le_refl _⟩
  case round =>
    obtain ⟨k, hk, rfl, rfl, hown, hb, hz⟩ := hrel
    by_cases hlt : k < n
    · have hlt' : (k : Int) < (n : Int) := by omega
      obtain ⟨b0, rfl, l0, x0⟩ := HX.out (by omega)
      have c0 := (hb.cell (p := ⟨b0, k, none⟩) l0).trans (x0 k hlt)
      have d0 := dig_le A k
      have d1 := dig_le B k
      have hcy := br_le A B k
      obtain ⟨cc, hcc⟩ : ∃ cc, br A B k = cc := ⟨_, rfl⟩
      rw [hcc] at hcy ⊢
      obtain ⟨D, hD⟩ : ∃ D, dig A k = D := ⟨_, rfl⟩
      rw [hD] at c0 d0
      clear x0 HX
      by_cases hlb : k < m
      · have hlb' : (k : Int) < (m : Int) := by omega
        obtain ⟨b1, rfl, l1, x1⟩ := HY.out (by omega)
        have c1 := (hb.cell (p := ⟨b1, k, none⟩) l1).trans (x1 k hlb)
        obtain ⟨E, hE⟩ : ∃ E, dig B k = E := ⟨_, rfl⟩
        rw [hE] at c1 d1
        clear x1 HY
        by_cases hneg : D < cc + E
        · obtain ⟨d, hd'⟩ : ∃ d, D + 4294967296 - cc - E = d := ⟨_, rfl⟩
          have HD : Hid (d < bb) := by show d < bb; rw [bb_eq]; omega
          have HS := Lib.hid (df_step (N := A) (M := B) (k := k) (c := 1) HD.out (by rw [hD, hE, hcc, bb_eq]; omega))
          have hx1 : (D : Int) - cc - E < 0 := by omega
          have hx2 : (D : Int) - cc - E + 4294967296 = (d : Int) := by omega
          have hd4 : d ≤ 4294967295 := by omega
          clear hD hE hcc hd' hneg
          go_wp2_with (at_builtin; refine wpList_append_own _ rfl _ _ 71 rfl w.heap.size 22 i0 (.int .u32 0) 1 4 Tryz.underlying71 hi hz0 hz1 hz2 rfl (by decide) _ _ _ rfl (hown.alloc _) ⟨wr.heap.size, 0, none⟩ 1 1 [.int .u32 (d : Nat)] rfl rfl ?c1a ?c2a ?c3a ?c4a ?c5a ?_)
          try (case c1a => intro j u hj; rcases j with _ | j <;> simp at hj; subst hj; simp [Addr.add])
          case c2a => first | rfl | (intro u hu; simp at hu; subst hu; rfl)
          case c3a => first | omega | (unfold maxLen; omega)
          case c4a => omega
          case c5a => first | omega | (simp; omega)
          intro v' w1 hown' hgrow _
          obtain ⟨R1, R2, R3⟩ := own_put (df_lt _ _ _) HD.out (Nat.le_refl _) hz hown hb hown' hgrow
          rw [← HS.out.1] at R1
          clear hown' hgrow hown hb hz c0
          go_wp2
          go_roundw
          case rel => exact ⟨k + 1, by omega, by go_num, by rw [HS.out.2]; rfl, R1, R2, R3⟩
          case measure => simp [intOf]; omega
        · obtain ⟨d, hd'⟩ : ∃ d, D - cc - E = d := ⟨_, rfl⟩
          have HD : Hid (d < bb) := by show d < bb; rw [bb_eq]; omega
          have HS := Lib.hid (df_step (N := A) (M := B) (k := k) (c := 0) HD.out (by rw [hD, hE, hcc, bb_eq]; omega))
          have hx2 : (D : Int) - cc - E = (d : Int) := by omega
          have hx3 : ¬ (d : Int) < 0 := by omega
          have hd4 : d ≤ 4294967295 := by omega
          clear hD hE hcc hd' hneg
          go_wp2_with (at_builtin; refine wpList_append_own _ rfl _ _ 71 rfl w.heap.size 22 i0 (.int .u32 0) 1 4 Tryz.underlying71 hi hz0 hz1 hz2 rfl (by decide) _ _ _ rfl (hown.alloc _) ⟨wr.heap.size, 0, none⟩ 1 1 [.int .u32 (d : Nat)] rfl rfl ?c1b ?c2b ?c3b ?c4b ?c5b ?_)
          try (case c1b => intro j u hj; rcases j with _ | j <;> simp at hj; subst hj; simp [Addr.add])
          case c2b => first | rfl | (intro u hu; simp at hu; subst hu; rfl)
          case c3b => first | omega | (unfold maxLen; omega)
          case c4b => omega
          case c5b => first | omega | (simp; omega)
          intro v' w1 hown' hgrow _
          obtain ⟨R1, R2, R3⟩ := own_put (df_lt _ _ _) HD.out (Nat.le_refl _) hz hown hb hown' hgrow
          rw [← HS.out.1] at R1
          clear hown' hgrow hown hb hz c0
          go_wp2
          go_roundw
          case rel => exact ⟨k + 1, by omega, by go_num, by rw [HS.out.2]; rfl, R1, R2, R3⟩
          case measure => simp [intOf]; omega
      · have hlb' : ¬ (k : Int) < (m : Int) := by omega
        have hlbd : decide ((k : Int) < (m : Int)) = false := decide_eq_false hlb'
        have hlbe : (m : Int) ≤ (k : Int) := by omega
        have hE := HO.out k (by omega)
        by_cases hneg : D < cc
        · obtain ⟨d, hd'⟩ : ∃ d, D + 4294967296 - cc = d := ⟨_, rfl⟩
          have HD : Hid (d < bb) := by show d < bb; rw [bb_eq]; omega
          have HS := Lib.hid (df_step (N := A) (M := B) (k := k) (c := 1) HD.out (by rw [hD, hE, hcc, bb_eq]; omega))
          have hx1 : (D : Int) - cc < 0 := by omega
          have hx2 : (D : Int) - cc + 4294967296 = (d : Int) := by omega
          have hd4 : d ≤ 4294967295 := by omega
          clear hD hE hcc hd' hneg
          go_wp2_with (at_builtin; refine wpList_append_own _ rfl _ _ 71 rfl w.heap.size 22 i0 (.int .u32 0) 1 4 Tryz.underlying71 hi hz0 hz1 hz2 rfl (by decide) _ _ _ rfl (hown.alloc _) ⟨wr.heap.size, 0, none⟩ 1 1 [.int .u32 (d : Nat)] rfl rfl ?c1c ?c2c ?c3c ?c4c ?c5c ?_)
          try (case c1c => intro j u hj; rcases j with _ | j <;> simp at hj; subst hj; simp [Addr.add])
          case c2c => first | rfl | (intro u hu; simp at hu; subst hu; rfl)
          case c3c => first | omega | (unfold maxLen; omega)
          case c4c => omega
          case c5c => first | omega | (simp; omega)
          intro v' w1 hown' hgrow _
          obtain ⟨R1, R2, R3⟩ := own_put (df_lt _ _ _) HD.out (Nat.le_refl _) hz hown hb hown' hgrow
          rw [← HS.out.1] at R1
          clear hown' hgrow hown hb hz c0
          go_wp2
          go_roundw
          case rel => exact ⟨k + 1, by omega, by go_num, by rw [HS.out.2]; rfl, R1, R2, R3⟩
          case measure => simp [intOf]; omega
        · obtain ⟨d, hd'⟩ : ∃ d, D - cc = d := ⟨_, rfl⟩
          have HD : Hid (d < bb) := by show d < bb; rw [bb_eq]; omega
          have HS := Lib.hid (df_step (N := A) (M := B) (k := k) (c := 0) HD.out (by rw [hD, hE, hcc, bb_eq]; omega))
          have hx2 : (D : Int) - cc = (d : Int) := by omega
          have hx3 : ¬ (d : Int) < 0 := by omega
          have hd4 : d ≤ 4294967295 := by omega
          clear hD hE hcc hd' hneg
          go_wp2_with (at_builtin; refine wpList_append_own _ rfl _ _ 71 rfl w.heap.size 22 i0 (.int .u32 0) 1 4 Tryz.underlying71 hi hz0 hz1 hz2 rfl (by decide) _ _ _ rfl (hown.alloc _) ⟨wr.heap.size, 0, none⟩ 1 1 [.int .u32 (d : Nat)] rfl rfl ?c1d ?c2d ?c3d ?c4d ?c5d ?_)
          try (case c1d => intro j u hj; rcases j with _ | j <;> simp at hj; subst hj; simp [Addr.add])
          case c2d => first | rfl | (intro u hu; simp at hu; subst hu; rfl)
          case c3d => first | omega | (unfold maxLen; omega)
          case c4d => omega
          case c5d => first | omega | (simp; omega)
          intro v' w1 hown' hgrow _
          obtain ⟨R1, R2, R3⟩ := own_put (df_lt _ _ _) HD.out (Nat.le_refl _) hz hown hb hown' hgrow
          rw [← HS.out.1] at R1
          clear hown' hgrow hown hb hz c0
          go_wp2
          go_roundw
          case rel => exact ⟨k + 1, by omega, by go_num, by rw [HS.out.2]; rfl, R1, R2, R3⟩
          case measure => simp [intOf]; omega
    · obtain rfl : k = n := by omega
      rw [HE.out.1] at hown
      go_wp2_with fail
      refine (trim_own hown HL.out (by omega)).mono ?_
      rintro e w1 ⟨v', rfl, hv, hf, rfl⟩
      go_wp2
      go_ret
      exact ⟨v', rfl, hv, hf, hb⟩
end Go.Proofs.YtckolhalggcenaaGreat
