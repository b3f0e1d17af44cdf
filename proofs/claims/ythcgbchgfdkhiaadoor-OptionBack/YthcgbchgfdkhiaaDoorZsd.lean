/- option.side, option.Is; the reference's IsOptions. -/
import Derived.Test.YthcgbchgfdkhiaaDoorZis
namespace Go.Proofs.YthcgbchgfdkhiaaDoor
set_option linter.unusedSimpArgs false
set_option linter.unusedVariables false
open Go.RowKit
set_option maxRecDepth 100000
theorem among1 (lo hi x : Int) (g : Nat) (w : World) (h : w.cell? ⟨g, 0, none⟩ = some (.int .i64 x)) : Calls Tryd.prog 19 #[.int .i64 lo, .int .i64 hi, .slice (some ⟨g, 0, none⟩) 1 1] w fun e w' => e = .returned (.bool (inI lo hi x)) ∧ w' = w := by
  have := among_any lo hi [x] g 0 1 w (by simp) (by intro i y hy; match i, hy with | 0, hy => (simp at hy; subst hy; exact h) | n + 1, hy => simp at hy)
  simpa using this
theorem and_all : ((List.range 65).all fun k => k == 0 || ((bits .and .i64 (k : Int) ((k : Int) - 1) == 0) == sideI k)) = true := by kernel_rfl
theorem and_side {n : Int} (h : 1 ≤ n ∧ n ≤ 64) : (bits .and .i64 n (n - 1) == 0) = sideI n := by
  obtain ⟨k, rfl⟩ : ∃ k : Nat, n = k := ⟨n.toNat, by omega⟩
  have := List.all_eq_true.1 and_all k (List.mem_range.2 (by omega))
  have h0 : (k == 0) = false := by rw [beq_eq_false_iff_ne]; omega
  rw [h0, Bool.false_or] at this
  exact eq_of_beq this
theorem side_any (n : Int) (w : World) : Calls Tryd.prog 18 #[.int .i64 n] w fun e w' => e = .returned (.bool (sideI n)) ∧ Below w.heap.size w w' := by
  have HA := Lib.hid (among1 1 64 n w.heap.size (w.alloc (.cells #[.int .i64 n] 3)) (World.cell?_alloc_at _ _ _ _ rfl))
  have hb : Below w.heap.size w (w.alloc (.cells #[.int .i64 n] 3)) := (Below.refl _ _).alloc (Nat.le_refl _) _
  cases hin : inI 1 64 n
  · have e : sideI n = false := by
      cases hs : sideI n
      · rfl
      · rw [(inI_iff 1 64 n).2 (side_in hs)] at hin; cases hin
    rw [e]
    rw [hin] at HA
    clear e hin
    go_enter Tryd.func18, Tryd.ntmps18
    go_wp2_with fail
    refine HA.out.mono ?_
    rintro e w1 ⟨rfl, rfl⟩
    go_wp2
    go_ret
    exact ⟨rfl, hb⟩
  · rw [hin] at HA
    have hr := (inI_iff 1 64 n).1 hin
    have k1 : IntKind.i64.wrap (n - 1) = n - 1 := by rw [IntKind.wrap_i64]; omega
    clear hin
    go_enter Tryd.func18, Tryd.ntmps18
    go_wp2_with fail
    refine HA.out.mono ?_
    rintro e w1 ⟨rfl, rfl⟩
    go_wp2
    go_ret
    exact ⟨by rw [← and_side hr]; rfl, hb⟩
theorem among2 (lo hi x y : Int) (g : Nat) (w : World) (h : w.cell? ⟨g, 0, none⟩ = some (.int .i64 x)) (k : w.cell? ⟨g, 1, none⟩ = some (.int .i64 y)) : Calls Tryd.prog 19 #[.int .i64 lo, .int .i64 hi, .slice (some ⟨g, 0, none⟩) 2 2] w fun e w' => e = .returned (.bool (inI lo hi x && inI lo hi y)) ∧ w' = w := by
  have := among_any lo hi [x, y] g 0 2 w (by simp) (by intro i z hz; match i, hz with | 0, hz => (simp at hz; subst hz; exact h) | 1, hz => (simp at hz; subst hz; exact k) | n + 2, hz => simp at hz)
  simpa using this
theorem all_take_no {Z : List (Int × Int × Int)} {i : Nat} {p : Int × Int × Int} (h : Z[i]? = some p) (hp : szOk p = false) : Z.all szOk = false := by
  rw [List.all_eq_false]
  exact ⟨p, List.mem_of_getElem? h, by rw [hp]; simp⟩
theorem all_take_yes {Z : List (Int × Int × Int)} {i : Nat} {p : Int × Int × Int} (h : Z[i]? = some p) (hp : szOk p = true) (ha : (Z.take i).all szOk = true) : (Z.take (i + 1)).all szOk = true := by
  rw [List.take_add_one, h, List.all_append, ha]; simp [hp]
theorem opOk_no {h c : Int} {Z : List (Int × Int × Int)} (hz : Z.all szOk = false) : opOk h c Z = false := by unfold opOk; rw [hz]; simp
set_option maxHeartbeats 4000000 in
theorem is_any (h c : Int) (za : Option Addr) (zc : Nat) (Z : List (Int × Int × Int)) (w : World) (hZ : RdZ w (.slice za Z.length zc) Z) (lZ : Z.length ≤ 1000000) :
    Calls Tryd.prog 10 #[.agg #[.int .i64 h, .int .i64 c, .slice za Z.length zc]] w fun e w' => e = .returned (.bool (opOk h c Z)) ∧ Below w.heap.size w w' := by
  have B1 := Blk.new w [.int .i64 h, .int .i64 c, .slice za Z.length zc] 25 rfl
  have hb : Below w.heap.size w (w.alloc (.cells #[.int .i64 h, .int .i64 c, .slice za Z.length zc] 25)) := (Below.refl _ _).alloc (Nat.le_refl _) _
  have hz1 : (w.alloc (.cells #[.int .i64 h, .int .i64 c, .slice za Z.length zc] 25)).heap.size = w.heap.size + 1 := by simp
  have HZ := Lib.hid hZ
  clear hZ
  go_enter Tryd.func10, Tryd.ntmps10
  go_wp2_with fail
  generalize w.alloc (.cells #[.int .i64 h, .int .i64 c, .slice za Z.length zc] 25) = W1 at *
  have HS := Lib.hid (side_any h W1)
  cases hs : sideI h
  · rw [hs] at HS
    have E : Hid (opOk h c Z = false) := by show _ = _; unfold opOk; rw [hs]; simp
    have c0 := B1.cell (i := 0) rfl
    clear hs
    go_wp2_with fail
    refine HS.out.mono ?_
    rintro e w1 ⟨rfl, h1⟩
    have HB := Lib.hid (bthen hb h1)
    clear h1 hb
    go_wp2
    go_ret
    exact ⟨by rw [E.out]; rfl, HB.out⟩
  · rw [hs] at HS
    have c0 := B1.cell (i := 0) rfl
    have HS1 := Lib.hid hs
    clear hs
    go_wp2_with fail
    refine HS.out.mono ?_
    rintro e w1 ⟨rfl, h1⟩
    replace B1 := B1.call h1
    have c1 := B1.cell (i := 1) rfl
    have c2 := B1.cell (i := 2) rfl
    replace hb := bthen hb h1
    have HA := Lib.hid (among1 1 4096 c w1.heap.size (w1.alloc (.cells #[.int .i64 c] 3)) (World.cell?_alloc_at _ _ _ _ rfl))
    have hb2 := hb.alloc hb.size (.cells #[.int .i64 c] 3)
    have B2 := B1.old (.cells #[.int .i64 c] 3)
    clear h1 c0 HS hb
    cases hin : inI 1 4096 c
    · rw [hin] at HA
      have E : Hid (opOk h c Z = false) := by show _ = _; unfold opOk; rw [hin]; simp
      clear hin
      go_wp2_with fail
      refine HA.out.mono ?_
      rintro e w2 ⟨rfl, rfl⟩
      go_wp2
      go_ret
      exact ⟨by rw [E.out]; rfl, hb2⟩
    · rw [hin] at HA
      have HIN := Lib.hid hin
      clear hin
      by_cases hl : Z.length ≤ 4
      · have g4 : ¬ (4 : Int) < (Z.length : Int) := by omega
        have c3 := B2.cell (i := 2) rfl
        have HB2 := Lib.hid hb2
        clear hb2 c2 B1
        go_wp2_with fail
        refine HA.out.mono ?_
        rintro e w2 ⟨rfl, rfl⟩
        generalize w1.alloc (.cells #[.int .i64 c] 3) = W2 at *
        clear HA c1
        go_wp2_with fail
        clear c3 B2
        go_loopw [25] (fun j wr => ∃ i : Nat, i ≤ Z.length ∧ j = .int .i64 (i : Int) ∧ (Z.take i).all szOk = true ∧ Below w.heap.size w wr) (fun j _ => Z.length - (intOf j).toNat)
        case atStart => exact ⟨0, Nat.zero_le _, rfl, rfl, HB2.out⟩
        case round =>
          obtain ⟨i, hi, rfl, ha, hb⟩ := hrel
          have HAL := Lib.hid ha
          clear ha HB2
          by_cases hlt : i < Z.length
          · obtain ⟨⟨x, y, z⟩, hx⟩ : ∃ p, Z[i]? = some p := ⟨_, List.getElem?_eq_getElem hlt⟩
            obtain ⟨gv, ov, rfl, p1, p2, p3⟩ := HZ.out.at hx
            replace p1 := cell_below hb p1
            replace p2 := cell_below hb p2
            replace p3 := cell_below hb p3
            simp only at p1 p2 p3
            have HX := Lib.hid hx
            have BB := Blk.new wr [.int .i64 x, .int .i64 y, .int .i64 z] 40 rfl
            have hb3 := hb.alloc hb.size (.cells #[.int .i64 x, .int .i64 y, .int .i64 z] 40)
            have HSZ := Lib.hid (side_any z (wr.alloc (.cells #[.int .i64 x, .int .i64 y, .int .i64 z] 40)))
            clear hx
            cases hs : sideI z
            · rw [hs] at HSZ
              have E : Hid (opOk h c Z = false) := opOk_no (all_take_no HX.out (by unfold szOk; simp [hs]))
              clear hs
              go_wp2_with fail
              refine HSZ.out.mono ?_
              rintro e w3 ⟨rfl, h1⟩
              have HB3 := Lib.hid (bthen hb3 h1)
              clear h1 hb3
              go_wp2
              go_ret
              exact ⟨by first | rfl | (rw [E.out]; rfl), HB3.out⟩
            · rw [hs] at HSZ
              have HS2 := Lib.hid hs
              clear hs
              go_wp2_with fail
              refine HSZ.out.mono ?_
              rintro e w3 ⟨rfl, h1⟩
              have hb4 := bthen hb3 h1
              have B3 := BB.call h1
              have q0 := B3.cell (i := 0) rfl
              have q1 := B3.cell (i := 1) rfl
              have HAA := Lib.hid (among2 0 64 x y w3.heap.size (w3.alloc (.cells #[.int .i64 x, .int .i64 y] 3)) (World.cell?_alloc_at _ _ _ _ rfl) (World.cell?_alloc_at _ _ _ _ rfl))
              have hb5 := hb4.alloc hb4.size (.cells #[.int .i64 x, .int .i64 y] 3)
              clear h1 hb3 hb4 HSZ BB B3 p1 p2 p3
              cases hxy : (inI 0 64 x && inI 0 64 y)
              · rw [hxy] at HAA
                have E : Hid (opOk h c Z = false) := opOk_no (all_take_no HX.out (by unfold szOk; simp only [hxy, HS2.out]; rfl))
                clear hxy
                go_wp2_with fail
                refine HAA.out.mono ?_
                rintro e w4 ⟨rfl, rfl⟩
                go_wp2
                go_ret
                exact ⟨by first | rfl | (rw [E.out]; rfl), hb5⟩
              · rw [hxy] at HAA
                have HAL2 := Lib.hid (all_take_yes HX.out (by unfold szOk; simp only [hxy, HS2.out]; rfl) HAL.out)
                clear hxy
                go_wp2_with fail
                refine HAA.out.mono ?_
                rintro e w4 ⟨rfl, rfl⟩
                go_wp2_with fail
                go_roundw
                case rel => exact ⟨i + 1, by omega, by go_num, HAL2.out, hb5⟩
                case measure => simp [intOf]; omega
          · obtain rfl : Z.length = i := by omega
            have E : Hid (opOk h c Z = true) := by
              have ha := HAL.out
              rw [List.take_length] at ha
              show _ = _
              unfold opOk; rw [ha, HIN.out, HS1.out]; simp [hl]
            go_wp2
            go_ret
            exact ⟨by first | rfl | (rw [E.out]; rfl), hb⟩
      · have E : Hid (opOk h c Z = false) := by show _ = _; unfold opOk; simp [hl]
        have g4 : (4 : Int) < (Z.length : Int) := by omega
        have c3 := B2.cell (i := 2) rfl
        have HB2 := Lib.hid hb2
        clear hb2 c2 B1 hl
        go_wp2_with fail
        refine HA.out.mono ?_
        rintro e w2 ⟨rfl, rfl⟩
        go_wp2
        go_ret
        exact ⟨by first | rfl | (rw [E.out]; rfl), HB2.out⟩
end Go.Proofs.YthcgbchgfdkhiaaDoor
