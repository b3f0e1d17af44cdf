/- Package point: whole, At, Is, are, Cmp, less, times. -/
import Derived.Test.YtckolhalggcenaaGreatPnt
namespace Go.Proofs.YtckolhalggcenaaGreat
set_option linter.unusedSimpArgs false
set_option linter.unusedVariables false
open Go.RowKit
set_option maxRecDepth 100000
/-- The cells of a fraction, as a value. -/
def vl (A : List Value) : Value := .agg A.toArray
set_option maxHeartbeats 1000000 in
theorem Isp_walk {A B : List Value} {s t : Bool} (hA : Rc A) (hB : Rc B) (T : Tl 52 #[vl A, .int .i64 60] (.bool s)) (T' : Tl 52 #[vl B, .int .i64 60] (.bool t)) : Tl 33 #[vl (A ++ B)] (.bool (s && t)) := fun w => by
  unfold vl at *
  have HT := Lib.hid T
  have HT' := Lib.hid T'
  have HA := Lib.hid hA
  have HB := Lib.hid hB
  unfold Tl at HT HT'
  clear T T' hA hB
  have b1 := Blk.new w (A ++ B) 29 rfl
  have hb : Below w.heap.size w (w.alloc (.cells (A ++ B).toArray 29)) := (Below.refl _ _).alloc (Nat.le_refl _) _
  cases s with
  | false =>
    go_enter Tryz.func33, Tryz.ntmps33
    go_wp2_with (first | (with_reducible refine ldX rfl rfl rfl b1 HA.out HB.out ?_) | (with_reducible refine ldY rfl rfl rfl b1 HA.out HB.out ?_))
    refine (HT.out _).mono ?_
    rintro e w1 ⟨rfl, h1⟩
    replace b1 := b1.call h1
    replace hb := bthen hb h1
    clear h1
    go_wp2
    go_ret
    exact ⟨rfl, hb⟩
  | true =>
    go_enter Tryz.func33, Tryz.ntmps33
    go_wp2_with (first | (with_reducible refine ldX rfl rfl rfl b1 HA.out HB.out ?_) | (with_reducible refine ldY rfl rfl rfl b1 HA.out HB.out ?_))
    refine (HT.out _).mono ?_
    rintro e w1 ⟨rfl, h1⟩
    replace b1 := b1.call h1
    replace hb := bthen hb h1
    clear h1
    go_wp2_with (first | (refine ldYg (by rfl) rfl rfl b1 HA.out HB.out ?_))
    refine (HT'.out _).mono ?_
    rintro e w1 ⟨rfl, h1⟩
    replace b1 := b1.call h1
    replace hb := bthen hb h1
    clear h1
    go_wp2
    go_ret
    exact ⟨rfl, hb⟩
/-- are: all of a row. -/
theorem are_walk (n b f c : Nat) (A B : Nat → List Value) (s : Nat → Bool) (w : World) (hn : n ≤ 1000) (hA : ∀ k, k < n → Rc (A k) ∧ Rc (B k)) (hT : ∀ k, k < n → Tl 33 #[vl (A k ++ B k)] (.bool (s k))) (hbw : b < w.heap.size) (hr : ∀ k, k < n → w.rangeAt b (f + k * 132) (A k ++ B k)) (r : Bool) (hs : (r = true ∧ ∀ k, k < n → s k = true) ∨ (r = false ∧ ∃ k, k < n ∧ s k = false)) :
    Calls Tryz.prog 66 #[.slice (some ⟨b, f, none⟩) n c] w fun e w' => e = .returned (.bool r) ∧ Below w.heap.size w w' := by
  have HA := Lib.hid hA
  have HT := Lib.hid hT
  have Hr := Lib.hid hr
  have HS := Lib.hid hs
  unfold Tl vl at HT
  clear hA hT hr hs
  go_enter Tryz.func66, Tryz.ntmps66
  go_wp2
  go_loopw [7] (fun i wr => ∃ k : Nat, k ≤ n ∧ i = .int .i64 k ∧ (∀ j, j < k → s j = true) ∧ Below w.heap.size w wr) (fun i _ => n - (intOf i).toNat)
  case atStart => exact ⟨0, Nat.zero_le _, rfl, fun j hj => absurd hj (by omega), Below.refl _ _⟩
  case round =>
    obtain ⟨k, hk, rfl, hall, hb⟩ := hrel
    have HL := Lib.hid hall
    clear hall
    by_cases hlt : k < n
    · have r0 : wr.rangeAt b (f + k * 132) (A k ++ B k) := fun j v hv => by
        rw [hb.cell (p := ⟨b, f + k * 132 + j, none⟩) hbw]
        exact Hr.out k hlt j v hv
      have HF := Lib.hid (HT.out k hlt)
      have hlt' : (k : Int) < (n : Int) := by omega
      obtain ⟨ha, hb2⟩ := HA.out k hlt
      have HX := Lib.hid ha
      have HY := Lib.hid hb2
      clear ha hb2
      generalize A k = X at *
      generalize B k = Y at *
      have a3 := Blk.new wr p0 29 rfl
      have d3 := a3.row (X ++ Y)
      have hb' := below_row (hb.alloc hb.size (.cells p0.toArray 29)) (g := wr.heap.size) hb.size (X ++ Y).toArray
      go_wp2_with (first | (with_reducible refine ldPr rfl rfl rfl r0 HX.out HY.out ?_) | (with_reducible refine alP rfl rfl ?_) | (with_reducible refine stPt rfl rfl rfl rfl a3 p0_len HX.out HY.out ?_) | (with_reducible refine ldPt rfl rfl rfl d3 HX.out HY.out ?_))
      refine (HF.out _).mono ?_
      rintro e w1 ⟨rfl, h1⟩
      replace hb' := bthen hb' h1
      obtain ⟨sk, hsk⟩ : ∃ sk, s k = sk := ⟨_, rfl⟩
      rw [hsk]
      cases sk with
      | true =>
        have EK := Lib.hid hsk
        clear hsk
        go_wp2
        go_roundw
        case rel => exact ⟨k + 1, by omega, by go_num, fun j hj => by
          rcases Nat.lt_or_ge j k with h | h
          · exact HL.out j h
          · obtain rfl : j = k := by omega
            exact EK.out, hb'⟩
        case measure => simp [intOf]; omega
      | false =>
        have ER : r = false := by
          rcases HS.out with ⟨_, h⟩ | ⟨h, _⟩
          · rw [h k hlt] at hsk; cases hsk
          · exact h
        subst ER
        clear hsk
        go_wp2
        go_ret
        exact ⟨rfl, hb'⟩
    · obtain rfl : k = n := by omega
      have ER : r = true := by
        rcases HS.out with ⟨h, _⟩ | ⟨_, j, hj, h⟩
        · exact h
        · rw [HL.out j hj] at h; cases h
      subst ER
      go_wp2
      go_ret
      exact ⟨rfl, hb⟩
end Go.Proofs.YtckolhalggcenaaGreat
