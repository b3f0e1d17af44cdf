/- Package point: Turn, Far, mean. -/
import Derived.Test.YtkknaigpdnokkaaGreatPne
namespace Go.Proofs.YtkknaigpdnokkaaGreat
set_option linter.unusedSimpArgs false
set_option linter.unusedVariables false
open Go.RowKit
set_option maxRecDepth 100000
set_option maxHeartbeats 1000000 in
theorem Turn_walk {A B C D E F N : List Value} {c : Int} (hA : Rc A) (hB : Rc B) (hC : Rc C) (hD : Rc D) (hE : Rc E) (hF : Rc F) (hN : Rc N) (T : Tl 155 #[vl (A ++ B), vl (C ++ D), vl (E ++ F)] (.tuple #[vl N, .bool true])) (S : Tl 41 #[vl N] (.int .i64 c)) :
    Tl 154 #[vl (A ++ B), vl (C ++ D), vl (E ++ F)] (.tuple #[.int .i64 c, .bool true]) := by
  intro w
  unfold vl at *
  have HA := Lib.hid hA
  have HB := Lib.hid hB
  have HC := Lib.hid hC
  have HD := Lib.hid hD
  have HE := Lib.hid hE
  have HF := Lib.hid hF
  have HN := Lib.hid hN
  have HT := Lib.hid T
  have HS := Lib.hid S
  unfold Tl at HT HS
  clear hA hB hC hD hE hF hN T S
  have b3 := ((Blk.new w (A ++ B) 40 rfl).old (.cells (C ++ D).toArray 40)).old (.cells (E ++ F).toArray 40)
  have b4 := (Blk.new (w.alloc (.cells (A ++ B).toArray 40)) (C ++ D) 40 (b := w.heap.size + 1) (by simp)).old (.cells (E ++ F).toArray 40)
  have b5 := Blk.new ((w.alloc (.cells (A ++ B).toArray 40)).alloc (.cells (C ++ D).toArray 40)) (E ++ F) 40 (b := w.heap.size + 1 + 1) (by simp)
  have hb : Below w.heap.size w (((w.alloc (.cells (A ++ B).toArray 40)).alloc (.cells (C ++ D).toArray 40)).alloc (.cells (E ++ F).toArray 40)) := (((Below.refl _ _).alloc (Nat.le_refl _) _).alloc (by simp) _).alloc (by simp; omega) _
  go_enter Tryz.func154, Tryz.ntmps154
  go_wp2_with (first | (with_reducible refine ldPt rfl rfl rfl b3 HA.out HB.out ?_) | (with_reducible refine ldPt rfl rfl rfl b4 HC.out HD.out ?_) | (with_reducible refine ldPt rfl rfl rfl b5 HE.out HF.out ?_))
  refine (HT.out _).mono ?_
  rintro e w1 ⟨rfl, h1⟩
  replace hb := bthen hb h1
  clear h1
  have f := Blk.new w1 (rr false 0 false 0) 27 rfl
  have b8 := laid_n w1 (rr false 0 false 0) (N) 27
  replace hb := laid_b hb (rr false 0 false 0) (N) 27
  go_wp2_with (first | (with_reducible refine alR rfl rfl ?_) | (with_reducible refine stQ rfl rfl rfl rfl f (rr_length _ _ _ _) HN.out ?_) | (with_reducible refine ldA' rfl rfl rfl b8 HN.out ?_))
  clear f
  generalize (w1.alloc (.cells (rr false 0 false 0).toArray 27)).setRow w1.heap.size (N).toArray = W at *
  generalize w1.heap.size = pl_b8 at *
  refine (HS.out _).mono ?_
  rintro e w1 ⟨rfl, h1⟩
  replace hb := bthen hb h1
  clear h1
  go_wp2
  go_ret2
  exact ⟨rfl, hb⟩
set_option maxHeartbeats 1000000 in
theorem Far_walk {A B C D N : List Value} (hA : Rc A) (hB : Rc B) (hC : Rc C) (hD : Rc D) (hN : Rc N) (T : Tl 158 #[vl (A ++ B), vl (C ++ D), vl (C ++ D)] (.tuple #[vl N, .bool true])) :
    Tl 160 #[vl (A ++ B), vl (C ++ D)] (.tuple #[vl N, .bool true]) := by
  intro w
  unfold vl at *
  have HA := Lib.hid hA
  have HB := Lib.hid hB
  have HC := Lib.hid hC
  have HD := Lib.hid hD
  have HN := Lib.hid hN
  have HT := Lib.hid T
  unfold Tl at HT
  clear hA hB hC hD hN T
  have b2 := ((Blk.new w (A ++ B) 40 rfl).old (.cells (C ++ D).toArray 40)).old (.cells (rr false 0 false 0).toArray 27)
  have b3 := (Blk.new (w.alloc (.cells (A ++ B).toArray 40)) (C ++ D) 40 (b := w.heap.size + 1) (by simp)).old (.cells (rr false 0 false 0).toArray 27)
  have b4 := Blk.new ((w.alloc (.cells (A ++ B).toArray 40)).alloc (.cells (C ++ D).toArray 40)) (rr false 0 false 0) 27 (b := w.heap.size + 1 + 1) (by simp)
  have hb : Below w.heap.size w (((w.alloc (.cells (A ++ B).toArray 40)).alloc (.cells (C ++ D).toArray 40)).alloc (.cells (rr false 0 false 0).toArray 27)) := (((Below.refl _ _).alloc (Nat.le_refl _) _).alloc (by simp) _).alloc (by simp; omega) _
  go_enter Tryz.func160, Tryz.ntmps160
  go_wp2_with (first | (with_reducible refine alR rfl rfl ?_) | (with_reducible refine ldPt rfl rfl rfl b2 HA.out HB.out ?_) | (with_reducible refine ldPt rfl rfl rfl b3 HC.out HD.out ?_))
  try rw [show ((w.alloc (.cells (A ++ B).toArray 40)).alloc (.cells (C ++ D).toArray 40)).heap.size = w.heap.size + 1 + 1 by simp]
  refine (HT.out _).mono ?_
  rintro e w1 ⟨rfl, h1⟩
  replace b4 := b4.call h1
  replace hb := bthen hb h1
  clear h1
  go_wp2_with (first | (with_reducible refine stQ rfl rfl rfl rfl b4 (rr_length _ _ _ _) HN.out ?_))
  exact ret_ct (cs := N) (v := .bool true) rfl rfl rfl rfl HN.out.whole (b4.row _) ⟨rfl, below_row hb (by omega) _⟩
set_option maxHeartbeats 1000000 in
theorem Sum_cap (n b f c : Nat) (N D SN SD : Nat → Int) (w : World) (hn : n ≤ 1000) (h0 : SN 0 = 0 ∧ SD 0 = 1) (hA : ∀ k, k < n → Tl 33 #[vf (SN k) (SD k), vf (N k) (D k)] (.tuple #[vf (SN (k + 1)) (SD (k + 1)), .bool true])) (hbw : b < w.heap.size) (hr : ∀ k, k < n → w.rangeAt b (f + k * 66) (fr (N k) (D k))) :
    Calls Tryz.prog 38 #[.slice (some ⟨b, f, none⟩) n c] w fun e w' => e = .returned (.tuple #[vf (SN n) (SD n), .bool true]) ∧ Below w.heap.size w w' := by
  have H0 := Lib.hid h0
  have HA := Lib.hid hA
  have Hr := Lib.hid hr
  have HW := Lib.hid (whole_any 0)
  unfold Tl vw vf at HW
  unfold Tl vf at HA
  unfold vf
  clear h0 hA hr
  have b2 := Blk.new w (rr false 0 false 0) 27 rfl
  have hb : Below w.heap.size w (w.alloc (.cells (rr false 0 false 0).toArray 27)) := (Below.refl _ _).alloc (Nat.le_refl _) _
  go_enter Tryz.func38, Tryz.ntmps38
  go_wp2_with (first | (with_reducible refine alR rfl rfl ?_) | (with_reducible refine bdW0 rfl rfl ?_))
  rw [mk0]
  refine (HW.out _).mono ?_
  rintro e w1 ⟨rfl, h1⟩
  replace b2 := b2.call h1
  replace hb := bthen hb h1
  clear h1
  clear HW
  have f4 := Blk.new w1 (rr false 0 false 0) 27 rfl
  have l2 := b2.lt
  have b4 := f4.row (fr 0 1)
  have c2 := (b2.old (.cells (rr false 0 false 0).toArray 27)).rowOther (g := w1.heap.size) (fr 0 1).toArray (by omega)
  have hc := below_row (hb.alloc hb.size (.cells (rr false 0 false 0).toArray 27)) (g := w1.heap.size) (by omega) (fr 0 1).toArray
  go_wp2_with (first | (with_reducible refine alR rfl rfl ?_) | (with_reducible refine stR rfl rfl rfl rfl f4 (rr_length _ _ _ _) ?_))
  clear f4 b2 hb
  generalize (w1.alloc (.cells (rr false 0 false 0).toArray 27)).setRow w1.heap.size (fr 0 1).toArray = W at *
  generalize w1.heap.size = p4 at *
  go_loopw [5, 12] (fun ok i wr => ∃ k : Nat, k ≤ n ∧ i = .int .i64 k ∧ ok = .bool true ∧ Below w.heap.size w wr ∧ Blk wr w.heap.size (rr false 0 false 0) 27 ∧ Blk wr p4 (fr (SN k) (SD k)) 27) (fun _ i _ => n - (intOf i).toNat)
  case atStart => exact ⟨0, Nat.zero_le _, rfl, rfl, hc, c2, by rw [H0.out.1, H0.out.2]; exact b4⟩
  case round =>
    clear hc c2 b4
    obtain ⟨k, hk, rfl, rfl, hb, b2, b4⟩ := hrel
    by_cases hlt : k < n
    · have r0 : wr.rangeAt b (f + k * 66) (fr (N k) (D k)) := fun j v hv => by
        rw [hb.cell (p := ⟨b, f + k * 66 + j, none⟩) hbw]
        exact Hr.out k hlt j v hv
      have HF := Lib.hid (HA.out k hlt)
      have hlt' : (k : Int) < (n : Int) := by omega
      generalize N k = x at *
      generalize D k = y at *
      have l4 := b4.lt
      have a3 := Blk.new wr (rr false 0 false 0) 27 rfl
      have d3 := a3.row (fr x y)
      have d2 := (b2.old (.cells (rr false 0 false 0).toArray 27)).rowOther (g := wr.heap.size) (fr x y).toArray (by omega)
      have d4 := (b4.old (.cells (rr false 0 false 0).toArray 27)).rowOther (g := wr.heap.size) (fr x y).toArray (by omega)
      have hb' := below_row (hb.alloc hb.size (.cells (rr false 0 false 0).toArray 27)) (g := wr.heap.size) hb.size (fr x y).toArray
      go_wp2_with (first | (with_reducible refine ldRR rfl rfl rfl r0 ?_) | (with_reducible refine alR rfl rfl ?_) | (with_reducible refine stR rfl rfl rfl rfl a3 (rr_length _ _ _ _) ?_) | (with_reducible refine ldFr rfl rfl rfl d4 ?_) | (with_reducible refine ldFr rfl rfl rfl d3 ?_))
      refine (HF.out _).mono ?_
      rintro e w1 ⟨rfl, h1⟩
      replace hb' := bthen hb' h1
      replace d2 := d2.call h1
      replace d4 := d4.call h1
      go_wp2_with (first | (with_reducible refine stR rfl rfl rfl rfl d4 (fr_length _ _) ?_))
      go_roundw
      case rel => exact ⟨k + 1, by omega, by go_num, rfl, below_row hb' (by omega) _, d2.rowOther _ (by omega), d4.row _⟩
      case measure => simp [intOf]; omega
    · obtain rfl : k = n := by omega
      go_wp2_with (first | (with_reducible refine ldFr rfl rfl rfl b4 ?_) | (with_reducible refine stR rfl rfl rfl rfl b2 (rr_length _ _ _ _) ?_))
      exact ret_ct (cs := fr (SN k) (SD k)) (v := .bool true) rfl rfl rfl rfl (wholeF _ _) (b2.row _) ⟨rfl, below_row hb (Nat.le_refl _) _⟩
end Go.Proofs.YtkknaigpdnokkaaGreat
