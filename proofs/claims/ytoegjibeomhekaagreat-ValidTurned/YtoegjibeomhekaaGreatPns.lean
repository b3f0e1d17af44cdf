/- Package point: whole, At, Is, are, Cmp, less, times. -/
import Derived.Test.YtoegjibeomhekaaGreatPnt
namespace Go.Proofs.YtoegjibeomhekaaGreat
set_option linter.unusedSimpArgs false
set_option linter.unusedVariables false
open Go.RowKit
set_option maxRecDepth 100000
/-- The cells of a fraction, as a value. -/
def vl (A : List Value) : Value := .agg A.toArray
set_option maxHeartbeats 1000000 in
theorem pwhole_walk {n : Int} {A : List Value} (hA : Rc A) (hn : -9223372036854775808 ≤ n ∧ n ≤ 9223372036854775807) (T : Tl 42 #[.int .i64 n, .int .i64 1] (.tuple #[vl A, .bool true])) : Tl 32 #[.int .i64 n] (vl A) := fun w => by
  unfold vl at *
  have HT := Lib.hid T
  have HA := Lib.hid hA
  unfold Tl at HT
  clear T hA
  have b2 := Blk.new w (rr false 0 false 0) 45 rfl
  have hb : Below w.heap.size w (w.alloc (.cells (rr false 0 false 0).toArray 45)) := (Below.refl _ _).alloc (Nat.le_refl _) _
  go_enter Tryz.func32, Tryz.ntmps32
  go_wp2_with (first | (with_reducible refine alR rfl rfl ?_))
  refine (HT.out _).mono ?_
  rintro e w1 ⟨rfl, h1⟩
  replace b2 := b2.call h1
  replace hb := bthen hb h1
  clear h1
  have l2 := b2.lt
  have f := Blk.new w1 (rr false 0 false 0) 45 rfl
  have b3 := laid_n w1 (rr false 0 false 0) (A) 45
  replace b2 := laid_o b2 (rr false 0 false 0) (A) 45
  replace hb := laid_b hb (rr false 0 false 0) (A) 45
  go_wp2_with (first | (with_reducible refine alR rfl rfl ?_) | (with_reducible refine stQ rfl rfl rfl rfl f (rr_length _ _ _ _) HA.out ?_) | (with_reducible refine ldA' rfl rfl rfl b3 HA.out ?_) | (with_reducible refine stQ rfl rfl rfl rfl b2 (rr_length _ _ _ _) HA.out ?_))
  clear f
  generalize (w1.alloc (.cells (rr false 0 false 0).toArray 45)).setRow w1.heap.size (A).toArray = W at *
  generalize w1.heap.size = pl_b3 at *
  exact ret_c (cs := A) rfl rfl rfl HA.out.whole (b2.row _) ⟨rfl, below_row hb (by omega) _⟩
set_option maxHeartbeats 1000000 in
theorem At_walk {n m : Int} {A B : List Value} (hA : Rc A) (hB : Rc B) (T : Tl 32 #[.int .i64 n] (vl A)) (T' : Tl 32 #[.int .i64 m] (vl B)) : Tl 19 #[.int .i64 n, .int .i64 m] (vl (A ++ B)) := fun w => by
  unfold vl at *
  have HT := Lib.hid T
  have HT' := Lib.hid T'
  have HA := Lib.hid hA
  have HB := Lib.hid hB
  unfold Tl at HT HT'
  clear T T' hA hB
  have b4 := Blk.new w p0 47 rfl
  have hb : Below w.heap.size w (w.alloc (.cells p0.toArray 47)) := (Below.refl _ _).alloc (Nat.le_refl _) _
  go_enter Tryz.func19, Tryz.ntmps19
  go_wp2_with (first | (with_reducible refine alP rfl rfl ?_))
  refine (HT.out _).mono ?_
  rintro e w1 ⟨rfl, h1⟩
  replace b4 := b4.call h1
  replace hb := bthen hb h1
  clear h1
  go_wp2_with fail
  refine (HT'.out _).mono ?_
  rintro e w1 ⟨rfl, h1⟩
  replace b4 := b4.call h1
  replace hb := bthen hb h1
  clear h1
  go_wp2_with (first | (with_reducible refine bdP rfl rfl rfl rfl HA.out HB.out ?_) | (with_reducible refine stPt rfl rfl rfl rfl b4 p0_len HA.out HB.out ?_))
  exact ret_c (cs := A ++ B) rfl rfl rfl (wholeP HA.out HB.out) (b4.row _) ⟨rfl, below_row hb (by omega) _⟩
set_option maxHeartbeats 1000000 in
theorem Isp_walk {A B : List Value} {s t : Bool} (hA : Rc A) (hB : Rc B) (T : Tl 43 #[vl A, .int .i64 60] (.bool s)) (T' : Tl 43 #[vl B, .int .i64 60] (.bool t)) : Tl 34 #[vl (A ++ B)] (.bool (s && t)) := fun w => by
  unfold vl at *
  have HT := Lib.hid T
  have HT' := Lib.hid T'
  have HA := Lib.hid hA
  have HB := Lib.hid hB
  unfold Tl at HT HT'
  clear T T' hA hB
  have b1 := Blk.new w (A ++ B) 47 rfl
  have hb : Below w.heap.size w (w.alloc (.cells (A ++ B).toArray 47)) := (Below.refl _ _).alloc (Nat.le_refl _) _
  cases s with
  | false =>
    go_enter Tryz.func34, Tryz.ntmps34
    go_wp2_with (first | (with_reducible refine ldX rfl rfl rfl b1 HA.out HB.out ?_) | (with_reducible refine ldY rfl rfl rfl b1 HA.out HB.out ?_))
    refine (HT.out _).mono ?_
    rintro e w1 ⟨rfl, h1⟩
    replace b1 := b1.call h1
    replace hb := bthen hb h1
    clear h1
    go_wp2
    go_ret
    exact ⟨rfl, hb⟩
  | true =>
    go_enter Tryz.func34, Tryz.ntmps34
    go_wp2_with (first | (with_reducible refine ldX rfl rfl rfl b1 HA.out HB.out ?_) | (with_reducible refine ldY rfl rfl rfl b1 HA.out HB.out ?_))
    refine (HT.out _).mono ?_
    rintro e w1 ⟨rfl, h1⟩
    replace b1 := b1.call h1
    replace hb := bthen hb h1
    clear h1
    go_wp2_with (first | (refine ldYg (by rfl) rfl rfl b1 HA.out HB.out ?_))
    refine (HT'.out _).mono ?_
    rintro e w1 ⟨rfl, h1⟩
    replace b1 := b1.call h1
    replace hb := bthen hb h1
    clear h1
    go_wp2
    go_ret
    exact ⟨rfl, hb⟩
/-- are: all of a row. -/
theorem are_walk (n b f c : Nat) (A B : Nat → List Value) (s : Nat → Bool) (w : World) (hn : n ≤ 1000) (hA : ∀ k, k < n → Rc (A k) ∧ Rc (B k)) (hT : ∀ k, k < n → Tl 34 #[vl (A k ++ B k)] (.bool (s k))) (hbw : b < w.heap.size) (hr : ∀ k, k < n → w.rangeAt b (f + k * 132) (A k ++ B k)) (r : Bool) (hs : (r = true ∧ ∀ k, k < n → s k = true) ∨ (r = false ∧ ∃ k, k < n ∧ s k = false)) :
    Calls Tryz.prog 57 #[.slice (some ⟨b, f, none⟩) n c] w fun e w' => e = .returned (.bool r) ∧ Below w.heap.size w w' := by
  have HA := Lib.hid hA
  have HT := Lib.hid hT
  have Hr := Lib.hid hr
  have HS := Lib.hid hs
  unfold Tl vl at HT
  clear hA hT hr hs
  go_enter Tryz.func57, Tryz.ntmps57
  go_wp2
  go_loopw [7] (fun i wr => ∃ k : Nat, k ≤ n ∧ i = .int .i64 k ∧ (∀ j, j < k → s j = true) ∧ Below w.heap.size w wr) (fun i _ => n - (intOf i).toNat)
  case atStart => exact ⟨0, Nat.zero_le _, rfl, fun j hj => absurd hj (by omega), Below.refl _ _⟩
  case round =>
    obtain ⟨k, hk, rfl, hall, hb⟩ := hrel
    have HL := Lib.hid hall
    clear hall
    by_cases hlt : k < n
    · have r0 : wr.rangeAt b (f + k * 132) (A k ++ B k) := fun j v hv => by
        rw [hb.cell (p := ⟨b, f + k * 132 + j, none⟩) hbw]
        exact Hr.out k hlt j v hv
      have HF := Lib.hid (HT.out k hlt)
      have hlt' : (k : Int) < (n : Int) := by omega
      obtain ⟨ha, hb2⟩ := HA.out k hlt
      have HX := Lib.hid ha
      have HY := Lib.hid hb2
      clear ha hb2
      generalize A k = X at *
      generalize B k = Y at *
      have a3 := Blk.new wr p0 47 rfl
      have d3 := a3.row (X ++ Y)
      have hb' := below_row (hb.alloc hb.size (.cells p0.toArray 47)) (g := wr.heap.size) hb.size (X ++ Y).toArray
      go_wp2_with (first | (with_reducible refine ldPr rfl rfl rfl r0 HX.out HY.out ?_) | (with_reducible refine alP rfl rfl ?_) | (with_reducible refine stPt rfl rfl rfl rfl a3 p0_len HX.out HY.out ?_) | (with_reducible refine ldPt rfl rfl rfl d3 HX.out HY.out ?_))
      refine (HF.out _).mono ?_
      rintro e w1 ⟨rfl, h1⟩
      replace hb' := bthen hb' h1
      obtain ⟨sk, hsk⟩ : ∃ sk, s k = sk := ⟨_, rfl⟩
      rw [hsk]
      cases sk with
      | true =>
        have EK := Lib.hid hsk
        clear hsk
        go_wp2
        go_roundw
        case rel => exact ⟨k + 1, by omega, by go_num, fun j hj => by
          rcases Nat.lt_or_ge j k with h | h
          · exact HL.out j h
          · obtain rfl : j = k := by omega
            exact EK.out, hb'⟩
        case measure => simp [intOf]; omega
      | false =>
        have ER : r = false := by
          rcases HS.out with ⟨_, h⟩ | ⟨h, _⟩
          · rw [h k hlt] at hsk; cases hsk
          · exact h
        subst ER
        clear hsk
        go_wp2
        go_ret
        exact ⟨rfl, hb'⟩
    · obtain rfl : k = n := by omega
      have ER : r = true := by
        rcases HS.out with ⟨h, _⟩ | ⟨_, j, hj, h⟩
        · exact h
        · rw [HL.out j hj] at h; cases h
      subst ER
      go_wp2
      go_ret
      exact ⟨rfl, hb⟩
end Go.Proofs.YtoegjibeomhekaaGreat
