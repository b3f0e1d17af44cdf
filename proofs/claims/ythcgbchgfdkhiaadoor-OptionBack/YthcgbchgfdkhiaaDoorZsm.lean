/- The reference's SameOptions of equal ones. -/
import Derived.Test.YthcgbchgfdkhiaaDoorZpb
import Derived.BigQuiet
import Derived.Deep.QuietTactic
namespace Go.Proofs.YthcgbchgfdkhiaaDoor
set_option linter.unusedSimpArgs false
set_option linter.unusedVariables false
open Go.RowKit
set_option maxRecDepth 100000
set_option maxHeartbeats 4000000 in
theorem same_any (h c : Int) (za zb : Value) (Z : List (Int × Int × Int)) (w : World) (hA : RdZ w za Z) (hB : RdZ w zb Z) (lZ : Z.length ≤ 1000000) :
    Calls Tryd.prog 9 #[.agg #[.int .i64 h, .int .i64 c, za], .agg #[.int .i64 h, .int .i64 c, zb]] w fun e w' => e = .returned (.bool true) ∧ Below w.heap.size w w' := by
  obtain ⟨aa, ac, rfl⟩ := hA.shape
  obtain ⟨ba, bc, rfl⟩ := hB.shape
  have B1 := (Blk.new w [.int .i64 h, .int .i64 c, .slice aa Z.length ac] 25 rfl).old (.cells #[.int .i64 h, .int .i64 c, .slice ba Z.length bc] 25)
  have B2 := Blk.new (w.alloc (.cells #[.int .i64 h, .int .i64 c, .slice aa Z.length ac] 25)) [.int .i64 h, .int .i64 c, .slice ba Z.length bc] 25 (show w.heap.size + 1 = _ by simp)
  have hb : Below w.heap.size w ((w.alloc (.cells #[.int .i64 h, .int .i64 c, .slice aa Z.length ac] 25)).alloc (.cells #[.int .i64 h, .int .i64 c, .slice ba Z.length bc] 25)) := ((Below.refl w.heap.size w).alloc (Nat.le_refl _) _).alloc (by simp) _
  have HA := Lib.hid hA
  have HB := Lib.hid hB
  have HB1 := Lib.hid B1
  have HB2 := Lib.hid B2
  have HHb := Lib.hid hb
  have g1 : (h == h) = true := by simp
  have g2 : (c == c) = true := by simp
  have g3 : ((Z.length : Int) == (Z.length : Int)) = true := by simp
  clear hA hB B1 B2 hb
  go_enter Tryd.func9, Tryd.ntmps9
  go_wp2_with fail
  generalize (w.alloc (.cells #[.int .i64 h, .int .i64 c, .slice aa Z.length ac] 25)).alloc (.cells #[.int .i64 h, .int .i64 c, .slice ba Z.length bc] 25) = W1 at *
  go_loopw [5] (fun j wr => ∃ i : Nat, i ≤ Z.length ∧ j = .int .i64 (i : Int) ∧ Blk wr w.heap.size [.int .i64 h, .int .i64 c, .slice aa Z.length ac] 25 ∧ Blk wr (w.heap.size + 1) [.int .i64 h, .int .i64 c, .slice ba Z.length bc] 25 ∧ Below w.heap.size w wr) (fun j _ => Z.length - (intOf j).toNat)
  case atStart => exact ⟨0, Nat.zero_le _, rfl, HB1.out, HB2.out, HHb.out⟩
  case round =>
    obtain ⟨i, hi, rfl, D1, D2, hb⟩ := hrel
    have c1 := D1.cell (i := 2) rfl
    have c2 := D2.cell (i := 2) rfl
    have HD1 := Lib.hid D1
    have HD2 := Lib.hid D2
    clear D1 D2 HB1 HB2
    by_cases hlt : i < Z.length
    · obtain ⟨⟨x, y, z⟩, hx⟩ : ∃ p, Z[i]? = some p := ⟨_, List.getElem?_eq_getElem hlt⟩
      obtain ⟨ga, oa, rfl, p1, p2, p3⟩ := HA.out.at hx
      obtain ⟨gb, ob, rfl, q1, q2, q3⟩ := HB.out.at hx
      replace p1 := cell_below hb p1
      replace p2 := cell_below hb p2
      replace p3 := cell_below hb p3
      replace q1 := cell_below hb q1
      replace q2 := cell_below hb q2
      replace q3 := cell_below hb q3
      simp only at p1 p2 p3 q1 q2 q3
      clear hx
      go_wp2_with fail
      go_quiet (fail)
      go_wp2_with fail
      go_roundw
      case rel => exact ⟨i + 1, by omega, by go_num, HD1.out, HD2.out, below_drewN hb _⟩
      case measure => simp [intOf]; omega
    · go_wp2_with fail
      go_ret
      exact ⟨rfl, hb⟩
end Go.Proofs.YthcgbchgfdkhiaaDoor
