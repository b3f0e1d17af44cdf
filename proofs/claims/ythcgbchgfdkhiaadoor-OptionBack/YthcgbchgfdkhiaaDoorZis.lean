/- Options that are any: among, side, Is; the reference's side, IsOptions. -/
import Derived.Test.YthcgbchgfdkhiaaDoorZpr
namespace Go.Proofs.YthcgbchgfdkhiaaDoor
set_option linter.unusedSimpArgs false
set_option linter.unusedVariables false
open Go.RowKit
set_option maxRecDepth 100000
/-- A square's side. -/
def sideI (n : Int) : Bool := n == 1 || n == 2 || n == 4 || n == 8 || n == 16 || n == 32 || n == 64
def inI (lo hi n : Int) : Bool := decide (lo ≤ n) && decide (n ≤ hi)
theorem inI_iff (lo hi n : Int) : inI lo hi n = true ↔ lo ≤ n ∧ n ≤ hi := by unfold inI; simp
theorem inI_not {lo hi n : Int} (h : inI lo hi n = false) : n < lo ∨ hi < n := by
  unfold inI at h
  simp only [Bool.and_eq_false_iff, decide_eq_false_iff_not] at h
  omega
def szOk (p : Int × Int × Int) : Bool := sideI p.2.2 && (inI 0 64 p.1 && inI 0 64 p.2.1)
def opOk (h c : Int) (Z : List (Int × Int × Int)) : Bool := sideI h && inI 1 4096 c && decide (Z.length ≤ 4) && Z.all szOk
theorem side_in {n : Int} (h : sideI n = true) : 1 ≤ n ∧ n ≤ 64 := by
  unfold sideI at h
  simp at h
  omega
theorem rside_any (n : Int) (w : World) : Calls Tryd.prog 20 #[.int .i64 n] w fun e w' => e = .returned (.bool (sideI n)) ∧ w' = w := by
  by_cases h1 : n = 1
  · subst h1; go_enter Tryd.func20, Tryd.ntmps20; go_wp2; go_ret; exact ⟨rfl, rfl⟩
  by_cases h2 : n = 2
  · subst h2; go_enter Tryd.func20, Tryd.ntmps20; go_wp2; go_ret; exact ⟨rfl, rfl⟩
  by_cases h3 : n = 4
  · subst h3; go_enter Tryd.func20, Tryd.ntmps20; go_wp2; go_ret; exact ⟨rfl, rfl⟩
  by_cases h4 : n = 8
  · subst h4; go_enter Tryd.func20, Tryd.ntmps20; go_wp2; go_ret; exact ⟨rfl, rfl⟩
  by_cases h5 : n = 16
  · subst h5; go_enter Tryd.func20, Tryd.ntmps20; go_wp2; go_ret; exact ⟨rfl, rfl⟩
  by_cases h6 : n = 32
  · subst h6; go_enter Tryd.func20, Tryd.ntmps20; go_wp2; go_ret; exact ⟨rfl, rfl⟩
  by_cases h7 : n = 64
  · subst h7; go_enter Tryd.func20, Tryd.ntmps20; go_wp2; go_ret; exact ⟨rfl, rfl⟩
  have e : sideI n = false := by unfold sideI; simp [h1, h2, h3, h4, h5, h6, h7]
  rw [e]
  have g1 : (n == 1) = false := by simp [h1]
  have g2 : (n == 2) = false := by simp [h2]
  have g3 : (n == 4) = false := by simp [h3]
  have g4 : (n == 8) = false := by simp [h4]
  have g5 : (n == 16) = false := by simp [h5]
  have g6 : (n == 32) = false := by simp [h6]
  have g7 : (n == 64) = false := by simp [h7]
  clear h1 h2 h3 h4 h5 h6 h7 e
  go_enter Tryd.func20, Tryd.ntmps20
  go_wp2
  go_ret
  exact ⟨rfl, rfl⟩
set_option maxHeartbeats 2000000 in
theorem among_any (lo hi : Int) (xs : List Int) (g o c : Nat) (w : World) (hl : xs.length ≤ 1000) (hc : ∀ (i : Nat) x, xs[i]? = some x → w.cell? ⟨g, o + i, none⟩ = some (.int .i64 x)) :
    Calls Tryd.prog 19 #[.int .i64 lo, .int .i64 hi, .slice (some ⟨g, o, none⟩) xs.length c] w fun e w' => e = .returned (.bool (xs.all (inI lo hi))) ∧ w' = w := by
  have HC := Lib.hid hc
  clear hc
  go_enter Tryd.func19, Tryd.ntmps19
  go_wp2_with fail
  go_loop [11] (fun j => ∃ i : Nat, i ≤ xs.length ∧ j = .int .i64 (i : Int) ∧ (xs.take i).all (inI lo hi) = true) (fun j => xs.length - (intOf j).toNat)
  case atStart => exact ⟨0, Nat.zero_le _, rfl, rfl⟩
  case round =>
    obtain ⟨i, hi', rfl, ha⟩ := hrel
    by_cases hlt : i < xs.length
    · obtain ⟨x, hx⟩ : ∃ x, xs[i]? = some x := ⟨_, List.getElem?_eq_getElem hlt⟩
      have c1 := HC.out i x hx
      have HX := Lib.hid hx
      have HA := Lib.hid ha
      clear hx ha
      cases hin : inI lo hi x
      · have hno : Hid (xs.all (inI lo hi) = false) := by
          show _ = _
          rw [List.all_eq_false]
          exact ⟨x, List.mem_of_getElem? HX.out, by rw [hin]; simp⟩
        rcases inI_not hin with h | h
        · clear hin
          go_wp2
          go_ret
          exact ⟨by first | rfl | (rw [hno.out]; rfl), rfl⟩
        · by_cases h' : x < lo
          · clear hin
            go_wp2
            go_ret
            exact ⟨by first | rfl | (rw [hno.out]; rfl), rfl⟩
          · clear hin
            go_wp2
            go_ret
            exact ⟨by first | rfl | (rw [hno.out]; rfl), rfl⟩
      · have hin2 := (inI_iff _ _ _).1 hin
        have h1 : ¬ x < lo := by omega
        have h2 : ¬ hi < x := by omega
        have HIN := Lib.hid hin
        clear hin hin2
        go_wp2_with fail
        go_round
        case rel => exact ⟨i + 1, by omega, by go_num, by rw [List.take_add_one, HX.out]; simp [HA.out, HIN.out]⟩
        case measure => simp [intOf]; omega
    · obtain rfl : i = xs.length := by omega
      rw [List.take_length] at ha
      go_wp2
      go_ret
      exact ⟨by first | rfl | (rw [ha]; rfl), rfl⟩
end Go.Proofs.YthcgbchgfdkhiaaDoor
