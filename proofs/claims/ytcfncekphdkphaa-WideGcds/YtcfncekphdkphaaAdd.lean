/- wide.Add, wide.Sub. -/
import Derived.Test.YtcfncekphdkphaaLow
namespace Go.Proofs.Ytcfncekphdkphaa
set_option linter.unusedSimpArgs false
set_option linter.unusedVariables false
open Go.RowKit
set_option maxRecDepth 100000
/-- Whether a whole number has an amount of 1024 bits at most. -/
def fits (z : Int) : Prop := z.natAbs < bb ^ 32
theorem zn_abs (s : Bool) (N : Nat) : (zn s N).natAbs = N := by unfold zn; cases s <;> simp
theorem zn_add (s : Bool) (N M : Nat) : zn s N + zn s M = zn s (N + M) := by unfold zn; cases s <;> simp <;> omega
theorem zn_sub {s t : Bool} (h : s ≠ t) {N M : Nat} (hle : M ≤ N) : zn s N + zn t M = zn s (N - M) := by
  unfold zn; cases s <;> cases t <;> simp at h ⊢ <;> omega
set_option maxHeartbeats 1000000 in
set_option maxRecDepth 100000 in
theorem Add_same (s : Bool) (N M : Nat) (w : World) (hN : N < bb ^ 32) (hM : M < bb ^ 32) (h : N + M < bb ^ 32) :
    Calls Try.prog 13 #[.agg (wd s N).toArray, .agg (wd s M).toArray] w fun e w' => e = .returned (.tuple #[.agg (mk (zn s N + zn s M)).toArray, .bool true]) ∧ Below w.heap.size w w' := by
  have HN := Lib.hid hN
  have HM := Lib.hid hM
  have H := Lib.hid h
  clear hN hM h
  have b0 := ((Blk.new w (wd s N) 25 rfl).old (.cells (wd s M).toArray 25)).old (.cells (wd false 0).toArray 25)
  have b1 := (Blk.new (w.alloc (.cells (wd s N).toArray 25)) (wd s M) 25 (b := w.heap.size + 1) (by simp)).old (.cells (wd false 0).toArray 25)
  have b2 := Blk.new ((w.alloc (.cells (wd s N).toArray 25)).alloc (.cells (wd s M).toArray 25)) (wd false 0) 25 (b := w.heap.size + 1 + 1) (by simp)
  have hb : Below w.heap.size w (((w.alloc (.cells (wd s N).toArray 25)).alloc (.cells (wd s M).toArray 25)).alloc (.cells (wd false 0).toArray 25)) := (((Below.refl _ _).alloc (Nat.le_refl _) _).alloc (by simp) _).alloc (by simp; omega) _
  have c0 := b0.cell (wd_sign s N)
  have c1 := b1.cell (wd_sign s M)
  have hs : (s == s) = true := by simp
  go_enter Try.func13, Try.ntmps13
  go_wp2_with (first | (with_reducible refine alW rfl rfl ?_) | (with_reducible refine ldD rfl rfl rfl b0 ?_) | (with_reducible refine ldD rfl rfl rfl b1 ?_))
  refine (plus_yes N M _ HN.out HM.out H.out).mono ?_
  rintro e w1 ⟨rfl, hb1⟩
  have a0 := (b0.call hb1).old (.cells (wc 0).toArray 23)
  have a2 := (b2.call hb1).old (.cells (wc 0).toArray 23)
  have a3 := Blk.new w1 (wc 0) 23 rfl
  have hsz : w.heap.size + 1 + 1 < w1.heap.size := (b2.call hb1).lt
  have hb' := (bthen hb hb1).alloc (Nat.le_trans hb.size hb1.size) (.cells (wc 0).toArray 23)
  have d0 := a0.rowOther (g := w1.heap.size) (wc (N + M)).toArray (by omega)
  have d2 := a2.rowOther (g := w1.heap.size) (wc (N + M)).toArray (by omega)
  have d3 := a3.row (wc (N + M))
  have hb'' := below_row hb' (g := w1.heap.size) (by omega) (wc (N + M)).toArray
  have e0 := d0.cell (wd_sign s N)
  clear c0 c1
  go_wp2_with (first | (with_reducible refine alA rfl rfl ?_) | (with_reducible refine stA rfl rfl rfl rfl a3 ?_) | (with_reducible refine ldA rfl rfl rfl d3 ?_))
  refine (fitting_yes s (N + M) _ H.out).mono ?_
  rintro e w2 ⟨rfl, hb2⟩
  have f2 := d2.call hb2
  go_wp2_with (first | (with_reducible refine stM rfl rfl rfl rfl f2 (wd_length _ _) ?_))
  refine ret_ct (v := .bool true) rfl rfl rfl rfl (wholeM _) (f2.row _) ⟨?_, below_row (bthen hb'' hb2) (by omega) _⟩
  rw [zn_add]
set_option maxHeartbeats 1000000 in
set_option maxRecDepth 100000 in
theorem Add_over (s : Bool) (N M : Nat) (w : World) (hN : N < bb ^ 32) (hM : M < bb ^ 32) (h : ¬ N + M < bb ^ 32) :
    Calls Try.prog 13 #[.agg (wd s N).toArray, .agg (wd s M).toArray] w fun e w' => e = .returned (.tuple #[.agg (mk 0).toArray, .bool false]) ∧ Below w.heap.size w w' := by
  have HN := Lib.hid hN
  have HM := Lib.hid hM
  have H := Lib.hid h
  clear hN hM h
  have b0 := ((Blk.new w (wd s N) 25 rfl).old (.cells (wd s M).toArray 25)).old (.cells (wd false 0).toArray 25)
  have b1 := (Blk.new (w.alloc (.cells (wd s N).toArray 25)) (wd s M) 25 (b := w.heap.size + 1) (by simp)).old (.cells (wd false 0).toArray 25)
  have b2 := Blk.new ((w.alloc (.cells (wd s N).toArray 25)).alloc (.cells (wd s M).toArray 25)) (wd false 0) 25 (b := w.heap.size + 1 + 1) (by simp)
  have hb : Below w.heap.size w (((w.alloc (.cells (wd s N).toArray 25)).alloc (.cells (wd s M).toArray 25)).alloc (.cells (wd false 0).toArray 25)) := (((Below.refl _ _).alloc (Nat.le_refl _) _).alloc (by simp) _).alloc (by simp; omega) _
  have c0 := b0.cell (wd_sign s N)
  have c1 := b1.cell (wd_sign s M)
  have hs : (s == s) = true := by simp
  go_enter Try.func13, Try.ntmps13
  go_wp2_with (first | (with_reducible refine alW rfl rfl ?_) | (with_reducible refine ldD rfl rfl rfl b0 ?_) | (with_reducible refine ldD rfl rfl rfl b1 ?_))
  refine (plus_no N M _ HN.out HM.out H.out).mono ?_
  rintro e w1 ⟨rfl, hb1⟩
  generalize (N + M) % bb ^ 32 = X
  have a0 := (b0.call hb1).old (.cells (wc 0).toArray 23)
  have a2 := (b2.call hb1).old (.cells (wc 0).toArray 23)
  have a3 := Blk.new w1 (wc 0) 23 rfl
  have hsz : w.heap.size + 1 + 1 < w1.heap.size := (b2.call hb1).lt
  have hb' := (bthen hb hb1).alloc (Nat.le_trans hb.size hb1.size) (.cells (wc 0).toArray 23)
  have d0 := a0.rowOther (g := w1.heap.size) (wc X).toArray (by omega)
  have d2 := a2.rowOther (g := w1.heap.size) (wc X).toArray (by omega)
  have d3 := a3.row (wc X)
  have hb'' := below_row hb' (g := w1.heap.size) (by omega) (wc X).toArray
  have e0 := d0.cell (wd_sign s N)
  clear c0 c1
  go_wp2_with (first | (with_reducible refine alA rfl rfl ?_) | (with_reducible refine stA rfl rfl rfl rfl a3 ?_) | (with_reducible refine ldA rfl rfl rfl d3 ?_))
  refine (fitting_no s X _).mono ?_
  rintro e w2 ⟨rfl, hb2⟩
  have f2 := d2.call hb2
  go_wp2_with (first | (with_reducible refine stM rfl rfl rfl rfl f2 (wd_length _ _) ?_))
  exact ret_ct (v := .bool false) rfl rfl rfl rfl (wholeM _) (f2.row _) ⟨rfl, below_row (bthen hb'' hb2) (by omega) _⟩
set_option maxHeartbeats 1000000 in
set_option maxRecDepth 100000 in
theorem Add_diff_ge (s t : Bool) (N M : Nat) (w : World) (hN : N < bb ^ 32) (hM : M < bb ^ 32) (hst : s ≠ t) (hle : M ≤ N) :
    Calls Try.prog 13 #[.agg (wd s N).toArray, .agg (wd t M).toArray] w fun e w' => e = .returned (.tuple #[.agg (mk (zn s N + zn t M)).toArray, .bool true]) ∧ Below w.heap.size w w' := by
  have HN := Lib.hid hN
  have HM := Lib.hid hM
  have HL := Lib.hid hle
  have HD : Hid (N - M < bb ^ 32) := by
    show N - M < bb ^ 32
    omega
  have HZ := Lib.hid (zn_sub hst hle)
  have hcn : ¬ cmpv N M < 0 := by unfold cmpv; split <;> (try split) <;> omega
  have hs : (s == t) = false := by simpa using hst
  clear hN hM hle hst
  have b0 := ((Blk.new w (wd s N) 25 rfl).old (.cells (wd t M).toArray 25)).old (.cells (wd false 0).toArray 25)
  have b1 := (Blk.new (w.alloc (.cells (wd s N).toArray 25)) (wd t M) 25 (b := w.heap.size + 1) (by simp)).old (.cells (wd false 0).toArray 25)
  have b2 := Blk.new ((w.alloc (.cells (wd s N).toArray 25)).alloc (.cells (wd t M).toArray 25)) (wd false 0) 25 (b := w.heap.size + 1 + 1) (by simp)
  have hb : Below w.heap.size w (((w.alloc (.cells (wd s N).toArray 25)).alloc (.cells (wd t M).toArray 25)).alloc (.cells (wd false 0).toArray 25)) := (((Below.refl _ _).alloc (Nat.le_refl _) _).alloc (by simp) _).alloc (by simp; omega) _
  have c0 := b0.cell (wd_sign s N)
  have c1 := b1.cell (wd_sign t M)
  go_enter Try.func13, Try.ntmps13
  go_wp2_with (first | (with_reducible refine alW rfl rfl ?_) | (with_reducible refine ldD rfl rfl rfl b0 ?_) | (with_reducible refine ldD rfl rfl rfl b1 ?_))
  refine (compare_any N M _ HN.out HM.out).mono ?_
  rintro e W ⟨rfl, hbW⟩
  replace b0 := b0.call hbW
  replace b1 := b1.call hbW
  replace b2 := b2.call hbW
  replace hb := bthen hb hbW
  clear c0 c1 hbW
  go_wp2_with fail
  refine rg_start [w.heap.size + 1 + 1] (by kernel_rfl) (fun hS => ?_)
  replace b2 := b2.drew
  have hb := hb.drew
  refine rg_take 0 rfl (by kernel_rfl) (by kernel_rfl) (by kernel_rfl) (by rfl) hS (v := ?_) ?_ ?_
  rotate_left
  · (intro w' hS'; go_simp <;> try with_reducible rfl)
  try simp only [Act.put, List.setIfInBounds_toArray, List.set_cons_zero, List.set_cons_succ]
  refine rg_take 1 rfl (by kernel_rfl) (by kernel_rfl) (by kernel_rfl) (by rfl) hS (v := ?_) ?_ ?_
  rotate_left
  · (intro w' hS'; have hc := (b0.keep hS' (by simp <;> omega)).cell (i := 0) (v := .bool s) (wd_sign s N); go_simp <;> try with_reducible rfl)
  try simp only [Act.put, List.setIfInBounds_toArray, List.set_cons_zero, List.set_cons_succ]
  refine rg_take 2 rfl (by kernel_rfl) (by kernel_rfl) (by kernel_rfl) (by rfl) hS (v := ?_) ?_ ?_
  rotate_left
  · (intro w' hS'; go_simp <;> try with_reducible rfl)
  try simp only [Act.put, List.setIfInBounds_toArray, List.set_cons_zero, List.set_cons_succ]
  refine rg_ldT 3 rfl (by kernel_rfl) (by kernel_rfl) (by kernel_rfl) (by rfl) hS rfl rfl b0 (by simp <;> omega) (whole23 _) ?_
  try simp only [Act.put, List.setIfInBounds_toArray, List.set_cons_zero, List.set_cons_succ]
  refine rg_take 4 rfl (by kernel_rfl) (by kernel_rfl) (by kernel_rfl) (by rfl) hS (v := ?_) ?_ ?_
  rotate_left
  · (intro w' hS'; go_simp <;> try with_reducible rfl)
  try simp only [Act.put, List.setIfInBounds_toArray, List.set_cons_zero, List.set_cons_succ]
  refine rg_ldT 5 rfl (by kernel_rfl) (by kernel_rfl) (by kernel_rfl) (by rfl) hS rfl rfl b1 (by simp <;> omega) (whole23 _) ?_
  try simp only [Act.put, List.setIfInBounds_toArray, List.set_cons_zero, List.set_cons_succ]
  refine rg_eff 6 rfl (by kernel_rfl) (by rfl) (fun K hK => ?_)
  go_simp
  refine (minus_any N M _ HN.out HM.out HL.out).mono ?_
  rintro e w1 ⟨rfl, hb1⟩
  refine hK _ _ (hS.call hb1) (fun hS => ?_)
  clear hK K
  replace b2 := b2.call hb1
  try simp only [Act.put, List.setIfInBounds_toArray, List.set_cons_zero, List.set_cons_succ]
  refine rg_eff 7 rfl (by kernel_rfl) (by rfl) (fun K hK => ?_)
  go_simp
  refine (signed_mk s (N - M) _ HD.out).mono ?_
  rintro e w2 ⟨rfl, hb2⟩
  refine hK _ _ (hS.call hb2) (fun hS => ?_)
  clear hK K
  replace b2 := b2.call hb2
  try simp only [Act.put, List.setIfInBounds_toArray, List.set_cons_zero, List.set_cons_succ]
  refine rg_eff 8 rfl (by kernel_rfl) (by rfl) (fun K hK => ?_)
  refine wp_st (vs := mk (zn s (N - M))) rfl rfl rfl b2 (by rw [wd_length, mk_length]) (wholeM _) (mk_one _) ?_
  refine hK _ _ (hS.row (.inl (by simp)) _) (fun hS => ?_)
  clear hK K
  try simp only [Act.put, List.setIfInBounds_toArray, List.set_cons_zero, List.set_cons_succ]
  refine rg_take 9 rfl (by kernel_rfl) (by kernel_rfl) (by kernel_rfl) (by rfl) hS (v := ?_) ?_ ?_
  rotate_left
  · (intro w' hS'; go_simp <;> try with_reducible rfl)
  try simp only [Act.put, List.setIfInBounds_toArray, List.set_cons_zero, List.set_cons_succ]
  refine rg_done (by kernel_rfl) ?_
  go_wp2
  refine ret_ct (cs := mk (zn s (N - M))) (v := .bool true) rfl rfl rfl rfl (wholeM _) (b2.row _) ⟨?_, below_row (bthen (bthen hb hb1) hb2) (by omega) _⟩
  rw [HZ.out]
set_option maxHeartbeats 1000000 in
set_option maxRecDepth 100000 in
theorem Add_diff_lt (s t : Bool) (N M : Nat) (w : World) (hN : N < bb ^ 32) (hM : M < bb ^ 32) (hst : s ≠ t) (hlt : N < M) :
    Calls Try.prog 13 #[.agg (wd s N).toArray, .agg (wd t M).toArray] w fun e w' => e = .returned (.tuple #[.agg (mk (zn s N + zn t M)).toArray, .bool true]) ∧ Below w.heap.size w w' := by
  have HN := Lib.hid hN
  have HM := Lib.hid hM
  have HL : Hid (N ≤ M) := Nat.le_of_lt hlt
  have HD : Hid (M - N < bb ^ 32) := by
    show M - N < bb ^ 32
    omega
  have HZ : Hid (zn s N + zn t M = zn t (M - N)) := by
    show zn s N + zn t M = zn t (M - N)
    rw [Int.add_comm]; exact zn_sub hst.symm (Nat.le_of_lt hlt)
  have hcn : cmpv N M < 0 := by unfold cmpv; rw [if_pos hlt]; omega
  have hs : (s == t) = false := by simpa using hst
  clear hN hM hlt hst
  have b0 := ((Blk.new w (wd s N) 25 rfl).old (.cells (wd t M).toArray 25)).old (.cells (wd false 0).toArray 25)
  have b1 := (Blk.new (w.alloc (.cells (wd s N).toArray 25)) (wd t M) 25 (b := w.heap.size + 1) (by simp)).old (.cells (wd false 0).toArray 25)
  have b2 := Blk.new ((w.alloc (.cells (wd s N).toArray 25)).alloc (.cells (wd t M).toArray 25)) (wd false 0) 25 (b := w.heap.size + 1 + 1) (by simp)
  have hb : Below w.heap.size w (((w.alloc (.cells (wd s N).toArray 25)).alloc (.cells (wd t M).toArray 25)).alloc (.cells (wd false 0).toArray 25)) := (((Below.refl _ _).alloc (Nat.le_refl _) _).alloc (by simp) _).alloc (by simp; omega) _
  have c0 := b0.cell (wd_sign s N)
  have c1 := b1.cell (wd_sign t M)
  go_enter Try.func13, Try.ntmps13
  go_wp2_with (first | (with_reducible refine alW rfl rfl ?_) | (with_reducible refine ldD rfl rfl rfl b0 ?_) | (with_reducible refine ldD rfl rfl rfl b1 ?_))
  refine (compare_any N M _ HN.out HM.out).mono ?_
  rintro e W ⟨rfl, hbW⟩
  replace b0 := b0.call hbW
  replace b1 := b1.call hbW
  replace b2 := b2.call hbW
  replace hb := bthen hb hbW
  clear c0 c1 hbW
  have b1' := b1.rowOther (g := w.heap.size) (wd t M).toArray (by omega)
  go_wp2_with (first | (with_reducible refine ldW rfl rfl rfl b0 ?_) | (with_reducible refine ldW rfl rfl rfl b1 ?_) | (with_reducible refine stW rfl rfl rfl rfl b0 ?_) | (with_reducible refine stW rfl rfl rfl rfl b1' ?_))
  replace b0 := (b0.row (wd t M)).rowOther (g := w.heap.size + 1) (wd s N).toArray (by omega)
  replace b1 := b1'.row (wd s N)
  replace b2 := (b2.rowOther (g := w.heap.size) (wd t M).toArray (by omega)).rowOther (g := w.heap.size + 1) (wd s N).toArray (by omega)
  replace hb := below_row (below_row hb (g := w.heap.size) (by omega) (wd t M).toArray) (g := w.heap.size + 1) (by omega) (wd s N).toArray
  clear b1'
  generalize (W.setRow w.heap.size (wd t M).toArray).setRow (w.heap.size + 1) (wd s N).toArray = W at *
  refine rg_start [w.heap.size + 1 + 1] (by kernel_rfl) (fun hS => ?_)
  replace b2 := b2.drew
  have hb := hb.drew
  refine rg_take 0 rfl (by kernel_rfl) (by kernel_rfl) (by kernel_rfl) (by rfl) hS (v := ?_) ?_ ?_
  rotate_left
  · (intro w' hS'; go_simp <;> try with_reducible rfl)
  try simp only [Act.put, List.setIfInBounds_toArray, List.set_cons_zero, List.set_cons_succ]
  refine rg_take 1 rfl (by kernel_rfl) (by kernel_rfl) (by kernel_rfl) (by rfl) hS (v := ?_) ?_ ?_
  rotate_left
  · (intro w' hS'; have hc := (b0.keep hS' (by simp <;> omega)).cell (i := 0) (v := .bool t) (wd_sign t M); go_simp <;> try with_reducible rfl)
  try simp only [Act.put, List.setIfInBounds_toArray, List.set_cons_zero, List.set_cons_succ]
  refine rg_take 2 rfl (by kernel_rfl) (by kernel_rfl) (by kernel_rfl) (by rfl) hS (v := ?_) ?_ ?_
  rotate_left
  · (intro w' hS'; go_simp <;> try with_reducible rfl)
  try simp only [Act.put, List.setIfInBounds_toArray, List.set_cons_zero, List.set_cons_succ]
  refine rg_ldT 3 rfl (by kernel_rfl) (by kernel_rfl) (by kernel_rfl) (by rfl) hS rfl rfl b0 (by simp <;> omega) (whole23 _) ?_
  try simp only [Act.put, List.setIfInBounds_toArray, List.set_cons_zero, List.set_cons_succ]
  refine rg_take 4 rfl (by kernel_rfl) (by kernel_rfl) (by kernel_rfl) (by rfl) hS (v := ?_) ?_ ?_
  rotate_left
  · (intro w' hS'; go_simp <;> try with_reducible rfl)
  try simp only [Act.put, List.setIfInBounds_toArray, List.set_cons_zero, List.set_cons_succ]
  refine rg_ldT 5 rfl (by kernel_rfl) (by kernel_rfl) (by kernel_rfl) (by rfl) hS rfl rfl b1 (by simp <;> omega) (whole23 _) ?_
  try simp only [Act.put, List.setIfInBounds_toArray, List.set_cons_zero, List.set_cons_succ]
  refine rg_eff 6 rfl (by kernel_rfl) (by rfl) (fun K hK => ?_)
  go_simp
  refine (minus_any M N _ HM.out HN.out HL.out).mono ?_
  rintro e w1 ⟨rfl, hb1⟩
  refine hK _ _ (hS.call hb1) (fun hS => ?_)
  clear hK K
  replace b2 := b2.call hb1
  try simp only [Act.put, List.setIfInBounds_toArray, List.set_cons_zero, List.set_cons_succ]
  refine rg_eff 7 rfl (by kernel_rfl) (by rfl) (fun K hK => ?_)
  go_simp
  refine (signed_mk t (M - N) _ HD.out).mono ?_
  rintro e w2 ⟨rfl, hb2⟩
  refine hK _ _ (hS.call hb2) (fun hS => ?_)
  clear hK K
  replace b2 := b2.call hb2
  try simp only [Act.put, List.setIfInBounds_toArray, List.set_cons_zero, List.set_cons_succ]
  refine rg_eff 8 rfl (by kernel_rfl) (by rfl) (fun K hK => ?_)
  refine wp_st (vs := mk (zn t (M - N))) rfl rfl rfl b2 (by rw [wd_length, mk_length]) (wholeM _) (mk_one _) ?_
  refine hK _ _ (hS.row (.inl (by simp)) _) (fun hS => ?_)
  clear hK K
  try simp only [Act.put, List.setIfInBounds_toArray, List.set_cons_zero, List.set_cons_succ]
  refine rg_take 9 rfl (by kernel_rfl) (by kernel_rfl) (by kernel_rfl) (by rfl) hS (v := ?_) ?_ ?_
  rotate_left
  · (intro w' hS'; go_simp <;> try with_reducible rfl)
  try simp only [Act.put, List.setIfInBounds_toArray, List.set_cons_zero, List.set_cons_succ]
  refine rg_done (by kernel_rfl) ?_
  go_wp2
  refine ret_ct (cs := mk (zn t (M - N))) (v := .bool true) rfl rfl rfl rfl (wholeM _) (b2.row _) ⟨?_, below_row (bthen (bthen hb hb1) hb2) (by omega) _⟩
  rw [HZ.out]
/-- Add, where the sum fits. -/
theorem Add_yes (s t : Bool) (N M : Nat) (w : World) (hN : N < bb ^ 32) (hM : M < bb ^ 32) (h : fits (zn s N + zn t M)) :
    Calls Try.prog 13 #[.agg (wd s N).toArray, .agg (wd t M).toArray] w fun e w' => e = .returned (.tuple #[.agg (mk (zn s N + zn t M)).toArray, .bool true]) ∧ Below w.heap.size w w' := by
  by_cases hst : s = t
  · subst hst
    refine Add_same s N M w hN hM ?_
    rwa [fits, zn_add, zn_abs] at h
  · rcases Nat.lt_or_ge N M with h1 | h1
    · exact Add_diff_lt s t N M w hN hM hst h1
    · exact Add_diff_ge s t N M w hN hM hst h1
/-- Add, where it doesn't. -/
theorem Add_no (s t : Bool) (N M : Nat) (w : World) (hN : N < bb ^ 32) (hM : M < bb ^ 32) (h : ¬ fits (zn s N + zn t M)) :
    Calls Try.prog 13 #[.agg (wd s N).toArray, .agg (wd t M).toArray] w fun e w' => e = .returned (.tuple #[.agg (mk 0).toArray, .bool false]) ∧ Below w.heap.size w w' := by
  by_cases hst : s = t
  · subst hst
    refine Add_over s N M w hN hM ?_
    rwa [fits, zn_add, zn_abs] at h
  · exfalso
    apply h
    rcases Nat.lt_or_ge N M with h1 | h1
    · rw [fits, Int.add_comm, zn_sub (Ne.symm hst) (Nat.le_of_lt h1), zn_abs]; omega
    · rw [fits, zn_sub hst h1, zn_abs]; omega
end Go.Proofs.Ytcfncekphdkphaa
