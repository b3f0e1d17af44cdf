/- The reference's IsOptions: the same. -/
import Derived.Test.YthcgbchgfdkhiaaDoorZsd
namespace Go.Proofs.YthcgbchgfdkhiaaDoor
set_option linter.unusedSimpArgs false
set_option linter.unusedVariables false
open Go.RowKit
set_option maxRecDepth 100000
theorem inI_no {lo hi n : Int} (h : inI lo hi n = false) : n < lo ∨ (¬ n < lo ∧ hi < n) := by
  rcases inI_not h with h | h
  · exact .inl h
  · by_cases k : n < lo
    · exact .inl k
    · exact .inr ⟨k, h⟩
theorem xy_no {x y : Int} (h : (inI 0 64 x && inI 0 64 y) = false) : x < 0 ∨ (¬ x < 0 ∧ y < 0) ∨ (¬ x < 0 ∧ ¬ y < 0 ∧ 64 < x) ∨ (¬ x < 0 ∧ ¬ y < 0 ∧ ¬ 64 < x ∧ 64 < y) := by
  rw [Bool.and_eq_false_iff] at h
  rcases h with h | h <;> rcases inI_not h with h | h <;> omega
theorem xy_yes {x y : Int} (h : (inI 0 64 x && inI 0 64 y) = true) : ¬ x < 0 ∧ ¬ y < 0 ∧ ¬ 64 < x ∧ ¬ 64 < y := by
  rw [Bool.and_eq_true, inI_iff, inI_iff] at h
  omega
set_option maxHeartbeats 4000000 in
theorem ris_any (h c : Int) (za : Option Addr) (zc : Nat) (Z : List (Int × Int × Int)) (w : World) (hZ : RdZ w (.slice za Z.length zc) Z) (lZ : Z.length ≤ 1000000) :
    Calls Tryd.prog 11 #[.agg #[.int .i64 h, .int .i64 c, .slice za Z.length zc]] w fun e w' => e = .returned (.bool (opOk h c Z)) ∧ Below w.heap.size w w' := by
  have B1 := Blk.new w [.int .i64 h, .int .i64 c, .slice za Z.length zc] 25 rfl
  have hb : Below w.heap.size w (w.alloc (.cells #[.int .i64 h, .int .i64 c, .slice za Z.length zc] 25)) := (Below.refl _ _).alloc (Nat.le_refl _) _
  have hz1 : (w.alloc (.cells #[.int .i64 h, .int .i64 c, .slice za Z.length zc] 25)).heap.size = w.heap.size + 1 := by simp
  have HZ := Lib.hid hZ
  clear hZ
  go_enter Tryd.func11, Tryd.ntmps11
  go_wp2_with fail
  generalize w.alloc (.cells #[.int .i64 h, .int .i64 c, .slice za Z.length zc] 25) = W1 at *
  have HS := Lib.hid (rside_any h W1)
  have c0 := B1.cell (i := 0) rfl
  have c1 := B1.cell (i := 1) rfl
  have c2 := B1.cell (i := 2) rfl
  cases hs : sideI h
  · rw [hs] at HS
    have E : Hid (opOk h c Z = false) := by show _ = _; unfold opOk; rw [hs]; simp
    clear hs
    go_wp2_with fail
    refine HS.out.mono ?_
    rintro e w1 ⟨rfl, rfl⟩
    go_wp2
    go_ret
    exact ⟨by rw [E.out]; rfl, hb⟩
  · rw [hs] at HS
    have HS1 := Lib.hid hs
    clear hs
    cases hin : inI 1 4096 c
    · have E : Hid (opOk h c Z = false) := by show _ = _; unfold opOk; rw [hin]; simp
      rcases inI_no hin with g1 | ⟨g1, g2⟩
      all_goals
        clear hin
        go_wp2_with fail
        refine HS.out.mono ?_
        rintro e w2 ⟨rfl, rfl⟩
        go_wp2
        go_ret
        exact ⟨by rw [E.out]; rfl, hb⟩
    · have HIN := Lib.hid hin
      have g1 : ¬ c < 1 := by have := (inI_iff _ _ _).1 hin; omega
      have g2 : ¬ 4096 < c := by have := (inI_iff _ _ _).1 hin; omega
      clear hin
      by_cases hl : Z.length ≤ 4
      · have g4 : ¬ (4 : Int) < (Z.length : Int) := by omega
        have HBB := Lib.hid hb
        clear hb
        go_wp2_with fail
        refine HS.out.mono ?_
        rintro e w2 ⟨rfl, rfl⟩
        clear HS
        go_wp2_with fail
        clear c0 c1 c2
        go_loopw [3] (fun j wr => ∃ i : Nat, i ≤ Z.length ∧ j = .int .i64 (i : Int) ∧ (Z.take i).all szOk = true ∧ Blk wr w.heap.size [.int .i64 h, .int .i64 c, .slice za Z.length zc] 25 ∧ Below w.heap.size w wr) (fun j _ => Z.length - (intOf j).toNat)
        case atStart => exact ⟨0, Nat.zero_le _, rfl, rfl, B1, HBB.out⟩
        case round =>
          obtain ⟨i, hi, rfl, ha, B2, hb⟩ := hrel
          have c2 := B2.cell (i := 2) rfl
          have HAL := Lib.hid ha
          clear ha HBB B1
          by_cases hlt : i < Z.length
          · obtain ⟨⟨x, y, z⟩, hx⟩ : ∃ p, Z[i]? = some p := ⟨_, List.getElem?_eq_getElem hlt⟩
            obtain ⟨gv, ov, rfl, p1, p2, p3⟩ := HZ.out.at hx
            replace p1 := cell_below hb p1
            replace p2 := cell_below hb p2
            replace p3 := cell_below hb p3
            simp only at p1 p2 p3
            have HX := Lib.hid hx
            have BB := Blk.new wr [.int .i64 x, .int .i64 y, .int .i64 z] 40 rfl
            have B3 := B2.old (.cells #[.int .i64 x, .int .i64 y, .int .i64 z] 40)
            have hb3 := hb.alloc hb.size (.cells #[.int .i64 x, .int .i64 y, .int .i64 z] 40)
            have HSZ := Lib.hid (rside_any z (wr.alloc (.cells #[.int .i64 x, .int .i64 y, .int .i64 z] 40)))
            clear hx
            cases hs : sideI z
            · rw [hs] at HSZ
              have E : Hid (opOk h c Z = false) := opOk_no (all_take_no HX.out (by unfold szOk; simp [hs]))
              clear hs
              go_wp2_with fail
              refine HSZ.out.mono ?_
              rintro e w3 ⟨rfl, rfl⟩
              go_wp2
              go_ret
              exact ⟨by first | rfl | (rw [E.out]; rfl), hb3⟩
            · rw [hs] at HSZ
              have HS2 := Lib.hid hs
              have q0 := BB.cell (i := 0) rfl
              have q1 := BB.cell (i := 1) rfl
              clear hs
              cases hxy : (inI 0 64 x && inI 0 64 y)
              · have E : Hid (opOk h c Z = false) := opOk_no (all_take_no HX.out (by unfold szOk; simp only [hxy, HS2.out]; rfl))
                rcases xy_no hxy with k1 | ⟨k1, k2⟩ | ⟨k1, k2, k3⟩ | ⟨k1, k2, k3, k4⟩
                all_goals
                  clear hxy
                  go_wp2_with fail
                  refine HSZ.out.mono ?_
                  rintro e w4 ⟨rfl, rfl⟩
                  go_wp2
                  go_ret
                  exact ⟨by first | rfl | (rw [E.out]; rfl), hb3⟩
              · have HAL2 := Lib.hid (all_take_yes HX.out (by unfold szOk; simp only [hxy, HS2.out]; rfl) HAL.out)
                obtain ⟨k1, k2, k3, k4⟩ := xy_yes hxy
                clear hxy
                go_wp2_with fail
                refine HSZ.out.mono ?_
                rintro e w4 ⟨rfl, rfl⟩
                go_wp2_with fail
                go_roundw
                case rel => exact ⟨i + 1, by omega, by go_num, HAL2.out, B3, hb3⟩
                case measure => simp [intOf]; omega
          · obtain rfl : Z.length = i := by omega
            have E : Hid (opOk h c Z = true) := by
              have ha := HAL.out
              rw [List.take_length] at ha
              show _ = _
              unfold opOk; rw [ha, HIN.out, HS1.out]; simp [hl]
            go_wp2
            go_ret
            exact ⟨by first | rfl | (rw [E.out]; rfl), hb⟩
      · have E : Hid (opOk h c Z = false) := by show _ = _; unfold opOk; simp [hl]
        have g4 : (4 : Int) < (Z.length : Int) := by omega
        clear hl
        go_wp2_with fail
        refine HS.out.mono ?_
        rintro e w2 ⟨rfl, rfl⟩
        go_wp2
        go_ret
        exact ⟨by first | rfl | (rw [E.out]; rfl), hb⟩
end Go.Proofs.YthcgbchgfdkhiaaDoor
