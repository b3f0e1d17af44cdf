/- What each statement of stage 8 asks first: a few options. -/
import Derived.Test.YthcgbchgfdkhiaaDoorZsm
import Derived.Test.YthcgbchgfdkhiaaDoorZrp
namespace Go.Proofs.YthcgbchgfdkhiaaDoor
set_option linter.unusedSimpArgs false
set_option linter.unusedVariables false
open Go.RowKit
set_option maxRecDepth 100000
theorem rds_nil (w : World) : RdS w (.slice none 0 0) [] := .inl ⟨rfl, none, 0, rfl⟩
theorem rds_at {w : World} {g : Nat} {ws : List (List UInt8)} {t : TypeId} (h : Blk w g (strs ws) t) : RdS w (.slice (some ⟨g, 0, none⟩) ws.length ws.length) ws :=
  .inr ⟨g, 0, ws.length, rfl, Nat.le_refl _, fun j u hj => by
    rw [Nat.zero_add]
    exact h.cell (by unfold strs; rw [List.getElem?_map, hj]; rfl)⟩
def kw1 : List (List UInt8) := [[104, 52], [99, 49, 48, 48], [115, 49, 44, 50, 44, 56]]
theorem kp1 : prs kw1 = some ⟨4, 100, [(1, 2, 8)]⟩ := by kernel_rfl
theorem kp2 : prs [[104, 51]] = none := by kernel_rfl
theorem kp3 : prs [] = some ⟨64, 4096, []⟩ := by kernel_rfl
theorem kt1 : Lib.join (ows 4 100 [(1, 2, 8)]) [32] = [104, 52, 32, 99, 49, 48, 48, 32, 115, 49, 44, 50, 44, 56] := by kernel_rfl
theorem kb1 : opOk 4 100 [(1, 2, 8)] = true := by kernel_rfl
theorem kb2 : opOk 0 0 [] = false := by kernel_rfl
set_option maxHeartbeats 8000000 in
theorem known8_any (w : World) (hE : Env w) : Calls Tryd.prog 6 #[] w fun e w' => e = .returned (.bool true) ∧ Below w.heap.size w w' := by
  have hb1 : Below w.heap.size w (w.alloc (.cells (strs kw1).toArray 9)) := (Below.refl _ _).alloc (Nat.le_refl _) _
  have HP := parse_any kw1 _ _ (rds_at (Blk.new w (strs kw1) 9 rfl)) (by decide) (by decide) (hE.below hb1)
  rw [kp1] at HP
  have HP1 := Lib.hid HP
  have HB1 := Lib.hid hb1
  have HE := Lib.hid hE
  clear HP hb1 hE
  go_enter Tryd.func6, Tryd.ntmps6
  go_wp2_with fail
  refine HP1.out.mono ?_
  rintro e w1 ⟨h1, zv, rfl, hown⟩
  obtain ⟨g, cap, rfl, hcap, _, gl, hc⟩ := owns_cells hown (by decide)
  have hbw := bthen HB1.out h1
  have z0 : w1.cell? ⟨g, 0, none⟩ = some (.int .i64 1) := hc 0 _ rfl
  have z1 : w1.cell? ⟨g, 1, none⟩ = some (.int .i64 2) := hc 1 _ rfl
  have z2 : w1.cell? ⟨g, 2, none⟩ = some (.int .i64 8) := hc 2 _ rfl
  have B1 := Blk.new w1 [.int .i64 4, .int .i64 100, .slice (some ⟨g, 0, none⟩) 1 cap] 25 rfl
  have hb2 := (hbw.alloc hbw.size (.cells #[.int .i64 4, .int .i64 100, .slice (some ⟨g, 0, none⟩) 1 cap] 25)).alloc (by have := hbw.size; simp; omega) (.cells (strs [[104, 51]]).toArray 9)
  have ha2 : Below w1.heap.size w1 ((w1.alloc (.cells #[.int .i64 4, .int .i64 100, .slice (some ⟨g, 0, none⟩) 1 cap] 25)).alloc (.cells (strs [[104, 51]]).toArray 9)) := ((Below.refl _ _).alloc (Nat.le_refl _) _).alloc (by simp) _
  replace B1 := B1.old (.cells (strs [[104, 51]]).toArray 9)
  have HP := parse_any [[104, 51]] _ _ (rds_at (Blk.new (w1.alloc (.cells #[.int .i64 4, .int .i64 100, .slice (some ⟨g, 0, none⟩) 1 cap] 25)) (strs [[104, 51]]) 9 (show w1.heap.size + 1 = _ by simp))) (by decide) (by decide) (HE.out.below hb2)
  rw [kp2] at HP
  have HP2 := Lib.hid HP
  replace z0 := cell_below ha2 z0
  replace z1 := cell_below ha2 z1
  replace z2 := cell_below ha2 z2
  have HB2 := Lib.hid hb2
  clear HP hb2 hc hown HP1 hbw h1 HB1 ha2
  go_wp2_with fail
  refine HP2.out.mono ?_
  rintro e w2 ⟨h2, hA⟩
  obtain rfl : e = .returned (.tuple #[.agg #[.int .i64 0, .int .i64 0, .slice none 0 0], .bool false]) := hA
  have hbw := bthen HB2.out h2
  replace B1 := B1.call h2
  replace z0 := cell_below h2 z0
  replace z1 := cell_below h2 z1
  replace z2 := cell_below h2 z2
  have hb3 := hbw.alloc hbw.size (.cells zO.toArray 25)
  have ha3 : Below w2.heap.size w2 (w2.alloc (.cells zO.toArray 25)) := (Below.refl _ _).alloc (Nat.le_refl _) _
  have HP := parse_any [] _ _ (rds_nil (w2.alloc (.cells zO.toArray 25))) (by decide) (by decide) (HE.out.below hb3)
  rw [kp3] at HP
  have HP3 := Lib.hid HP
  replace B1 := B1.old (.cells zO.toArray 25)
  replace z0 := cell_below ha3 z0
  replace z1 := cell_below ha3 z1
  replace z2 := cell_below ha3 z2
  have HB3 := Lib.hid hb3
  clear HP hb3 HP2 hbw h2 HB2 ha3
  go_wp2_with fail
  refine HP3.out.mono ?_
  rintro e w3 ⟨h3, zv, rfl, hown⟩
  have hbw := bthen HB3.out h3
  replace B1 := B1.call h3
  replace z0 := cell_below h3 z0
  replace z1 := cell_below h3 z1
  replace z2 := cell_below h3 z2
  obtain ⟨sa, sc, rfl⟩ := (RdZ.of_owns (Z := []) hown).shape
  have B3 := Blk.new w3 [.int .i64 64, .int .i64 4096, .slice sa 0 sc] 25 rfl
  have hb4 := hbw.alloc hbw.size (.cells #[.int .i64 64, .int .i64 4096, .slice sa 0 sc] 25)
  have ha4 : Below w3.heap.size w3 (w3.alloc (.cells #[.int .i64 64, .int .i64 4096, .slice sa 0 sc] 25)) := (Below.refl _ _).alloc (Nat.le_refl _) _
  replace B1 := B1.old (.cells #[.int .i64 64, .int .i64 4096, .slice sa 0 sc] 25)
  replace z0 := cell_below ha4 z0
  replace z1 := cell_below ha4 z1
  replace z2 := cell_below ha4 z2
  have b0 := B1.cell (i := 0) rfl
  have b1 := B1.cell (i := 1) rfl
  have b2 := B1.cell (i := 2) rfl
  have d0 := B3.cell (i := 0) rfl
  have d1 := B3.cell (i := 1) rfl
  have hz : RdZ (w3.alloc (.cells #[.int .i64 64, .int .i64 4096, .slice sa 0 sc] 25)) (.slice (some ⟨g, 0, none⟩) 1 cap) [(1, 2, 8)] := .inr ⟨g, 0, cap, rfl, hcap, fun i p hi => by
    match i, hi with
    | 0, hi => (have : (1, 2, 8) = p := by simpa using hi); subst this; exact ⟨z0, z1, z2⟩
    | n + 1, hi => simp at hi⟩
  have HI1 := Lib.hid (kb1 ▸ is_any 4 100 _ _ [(1, 2, 8)] _ hz (by decide))
  have HB4 := Lib.hid hb4
  have HZ := Lib.hid hz
  clear hb4 hbw h3 ha4 hz hown HP3 HB3
  go_wp2_with fail
  refine HI1.out.mono ?_
  rintro e w4 ⟨rfl, h4⟩
  have HI2 := Lib.hid (kb2 ▸ is_any 0 0 none 0 [] w4 (.inl ⟨rfl, none, 0, rfl⟩) (by decide))
  have hb5 := bthen HB4.out h4
  have b0 := (B1.call h4).cell (i := 0) rfl
  have b1 := (B1.call h4).cell (i := 1) rfl
  have b2 := (B1.call h4).cell (i := 2) rfl
  have HZ5 := Lib.hid (HZ.out.below h4)
  have BB := B1.call h4
  clear HI1 h4
  go_wp2_with fail
  refine HI2.out.mono ?_
  rintro e w5 ⟨rfl, h5⟩
  have hb6 := bthen hb5 h5
  have b0 := (BB.call h5).cell (i := 0) rfl
  have b1 := (BB.call h5).cell (i := 1) rfl
  have b2 := (BB.call h5).cell (i := 2) rfl
  have HPR := print_any 4 100 _ _ [(1, 2, 8)] w5 (HZ5.out.below h5) (by decide) ⟨by decide, by decide⟩ ⟨by decide, by decide⟩ (by intro p hp; simp at hp; subst hp; exact ⟨⟨by decide, by decide⟩, ⟨by decide, by decide⟩, ⟨by decide, by decide⟩⟩) (HE.out.below hb6)
  rw [kt1] at HPR
  have HPR1 := Lib.hid HPR
  clear HPR HI2 h5
  go_wp2_with fail
  refine HPR1.out.mono ?_
  rintro e w6 ⟨rfl, h6⟩
  have HF := Lib.hid (bthen hb6 h6)
  have t1 : (tx [104, 52, 32, 99, 49, 48, 48, 32, 115, 49, 44, 50, 44, 56]).toList = [104, 52, 32, 99, 49, 48, 48, 32, 115, 49, 44, 50, 44, 56] := tx_toList _
  clear h6
  go_wp2
  go_ret
  exact ⟨rfl, HF.out⟩
end Go.Proofs.YthcgbchgfdkhiaaDoor
