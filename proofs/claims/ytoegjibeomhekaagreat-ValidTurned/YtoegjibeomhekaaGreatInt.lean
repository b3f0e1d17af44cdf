/- Joined of: Div Gcd Int. -/
import Derived.Test.YtoegjibeomhekaaGreatShl
import Derived.Deep.LoopGhost
/- wide.divide, its short ways. -/
namespace Go.Proofs.YtoegjibeomhekaaGreat
set_option linter.unusedSimpArgs false
set_option linter.unusedVariables false
open Go.RowKit
set_option maxRecDepth 100000
/-- What divide's walk has behind its first statement: four rows, two lengths. -/
def DivPost (w : World) (N M : Nat) (e : Ending) (w' : World) : Prop :=
  e = .returned (.tuple #[.agg (wc (N / M)).toArray, .agg (wc (N % M)).toArray]) ∧ Below w.heap.size w w'
set_option maxHeartbeats 1000000 in
set_option maxRecDepth 100000 in
theorem divide_less (N M : Nat) (w : World) (hN : N < bb ^ 32) (hM : M < bb ^ 32) (hlt : nw N < nw M) :
    Calls Tryz.prog 91 #[.agg (wc N).toArray, .agg (wc M).toArray] w (DivPost w N M) := by
  have HN := Lib.hid hN
  have HM := Lib.hid hM
  have hlt' : (nw N : Int) < (nw M : Int) := by omega
  have HE : Hid (N / M = 0 ∧ N % M = N) := by
    have h1 : M ≠ 0 := by rintro rfl; have : nw 0 = 0 := rfl; omega
    have h2 := nw_le M h1
    have h3 := nw_lt N
    have h4 : N < M := Nat.lt_of_lt_of_le (Nat.lt_of_lt_of_le h3 (bp_mono (show nw N ≤ nw M - 1 by omega))) h2
    exact ⟨Nat.div_eq_of_lt h4, Nat.mod_eq_of_lt h4⟩
  clear hN hM hlt
  have b0 := (((Blk.new w (wc N) 41 rfl).old (.cells (wc M).toArray 41)).old (.cells (wc 0).toArray 41)).old (.cells (wc 0).toArray 41)
  have b1 := ((Blk.new (w.alloc (.cells (wc N).toArray 41)) (wc M) 41 (b := w.heap.size + 1) (by simp)).old (.cells (wc 0).toArray 41)).old (.cells (wc 0).toArray 41)
  have b2 := (Blk.new ((w.alloc (.cells (wc N).toArray 41)).alloc (.cells (wc M).toArray 41)) (wc 0) 41 (b := w.heap.size + 1 + 1) (by simp)).old (.cells (wc 0).toArray 41)
  have b3 := Blk.new (((w.alloc (.cells (wc N).toArray 41)).alloc (.cells (wc M).toArray 41)).alloc (.cells (wc 0).toArray 41)) (wc 0) 41 (b := w.heap.size + 1 + 1 + 1) (by simp)
  have hb : Below w.heap.size w ((((w.alloc (.cells (wc N).toArray 41)).alloc (.cells (wc M).toArray 41)).alloc (.cells (wc 0).toArray 41)).alloc (.cells (wc 0).toArray 41)) := ((((Below.refl _ _).alloc (Nat.le_refl _) _).alloc (by simp) _).alloc (by simp; omega) _).alloc (by simp; omega) _
  go_enter Tryz.func91, Tryz.ntmps91
  go_wp2_with (first | (with_reducible refine alA rfl rfl ?_))
  try rw [show (((w.alloc (.cells (wc N).toArray 41)).alloc (.cells (wc M).toArray 41)).alloc (.cells (wc 0).toArray 41)).heap.size = w.heap.size + 1 + 1 + 1 by simp]
  generalize (((w.alloc (.cells (wc N).toArray 41)).alloc (.cells (wc M).toArray 41)).alloc (.cells (wc 0).toArray 41)).alloc (.cells (wc 0).toArray 41) = W at *
  refine rg_start [] (by kernel_rfl) (fun hS => ?_)
  replace b0 := b0.drew
  replace b1 := b1.drew
  replace b2 := b2.drew
  replace b3 := b3.drew
  refine rg_ld 0 rfl (by kernel_rfl) (by kernel_rfl) (by kernel_rfl) (by rfl) hS rfl rfl b0 (by simp <;> omega) (whole23 _) ?_
  try simp only [Act.put, List.setIfInBounds_toArray, List.set_cons_zero, List.set_cons_succ]
  refine rg_ld 2 rfl (by kernel_rfl) (by kernel_rfl) (by kernel_rfl) (by rfl) hS rfl rfl b1 (by simp <;> omega) (whole23 _) ?_
  try simp only [Act.put, List.setIfInBounds_toArray, List.set_cons_zero, List.set_cons_succ]
  refine rg_eff 1 rfl (by kernel_rfl) (by rfl) (fun K hK => ?_)
  go_simp
  refine (length_any N _ HN.out).mono ?_
  rintro e w1 ⟨rfl, hb1⟩
  refine hK _ _ (hS.call hb1) (fun hS => ?_)
  clear hK K
  replace b0 := b0.call hb1
  replace b1 := b1.call hb1
  replace b2 := b2.call hb1
  replace b3 := b3.call hb1
  try simp only [Act.put, List.setIfInBounds_toArray, List.set_cons_zero, List.set_cons_succ]
  refine rg_eff 3 rfl (by kernel_rfl) (by rfl) (fun K hK => ?_)
  go_simp
  refine (length_any M _ HM.out).mono ?_
  rintro e w2 ⟨rfl, hb2⟩
  refine hK _ _ (hS.call hb2) (fun hS => ?_)
  clear hK K
  replace b0 := b0.call hb2
  replace b1 := b1.call hb2
  replace b2 := b2.call hb2
  replace b3 := b3.call hb2
  try simp only [Act.put, List.setIfInBounds_toArray, List.set_cons_zero, List.set_cons_succ]
  refine rg_take 4 rfl (by kernel_rfl) (by kernel_rfl) (by kernel_rfl) (by rfl) hS (v := ?_) ?_ ?_
  rotate_left
  · (intro w' hS'; go_simp <;> try with_reducible rfl)
  try simp only [Act.put, List.setIfInBounds_toArray, List.set_cons_zero, List.set_cons_succ]
  refine rg_take 5 rfl (by kernel_rfl) (by kernel_rfl) (by kernel_rfl) (by rfl) hS (v := ?_) ?_ ?_
  rotate_left
  · (intro w' hS'; go_simp <;> try with_reducible rfl)
  try simp only [Act.put, List.setIfInBounds_toArray, List.set_cons_zero, List.set_cons_succ]
  refine rg_done (by kernel_rfl) ?_
  have hb' := bthen (bthen hb.drew hb1) hb2
  clear hb hb1 hb2 hS
  go_wp2_with fail
  refine rg_start [w.heap.size + 1 + 1, w.heap.size + 1 + 1 + 1] (by kernel_rfl) (fun hS => ?_)
  replace b2 := b2.drew
  replace b3 := b3.drew
  have hb := hb'.drew
  refine rg_build 0 rfl (by kernel_rfl) (by kernel_rfl) (by kernel_rfl) (by rfl) hS rfl built23e (by simp [Act.eval]) ?_
  try simp only [Act.put, List.setIfInBounds_toArray, List.set_cons_zero, List.set_cons_succ]
  refine rg_ld 1 rfl (by kernel_rfl) (by kernel_rfl) (by kernel_rfl) (by rfl) hS rfl rfl b0 (by simp <;> omega) (whole23 _) ?_
  try simp only [Act.put, List.setIfInBounds_toArray, List.set_cons_zero, List.set_cons_succ]
  refine rg_eff 2 rfl (by kernel_rfl) (by rfl) (fun K hK => ?_)
  refine wp_st (vs := wc 0) rfl rfl rfl b2 (wc_len2 _ _) (whole23 _) (wc_one _) ?_
  refine hK _ _ (hS.row (.inl (by simp)) _) (fun hS => ?_)
  clear hK K
  replace b3 := b3.rowOther (g := w.heap.size + 1 + 1) (wc 0).toArray (by omega)
  replace b2 := b2.row (wc 0)
  replace hb := below_row hb (g := w.heap.size + 1 + 1) (by omega) (wc 0).toArray
  try simp only [Act.put, List.setIfInBounds_toArray, List.set_cons_zero, List.set_cons_succ]
  refine rg_eff 3 rfl (by kernel_rfl) (by rfl) (fun K hK => ?_)
  refine wp_st (vs := wc N) rfl rfl rfl b3 (wc_len2 _ _) (whole23 _) (wc_one _) ?_
  refine hK _ _ (hS.row (.inl (by simp)) _) (fun hS => ?_)
  clear hK K
  try simp only [Act.put, List.setIfInBounds_toArray, List.set_cons_zero, List.set_cons_succ]
  refine rg_done (by kernel_rfl) ?_
  go_wp2
  refine ret_cc (cs := wc 0) (cs' := wc N) rfl rfl rfl rfl (whole23 _) (whole23 _) (b2.rowOther _ (by omega)) (b3.row _) ⟨?_, below_row hb (by omega) _⟩
  rw [HE.out.1, HE.out.2]
theorem lowUint_small (N : Nat) (h : N % bb ^ 2 = N) (w : World) :
    Calls Tryz.prog 93 #[.agg (wc N).toArray] w fun e w' => e = .returned (.int .u64 (N : Nat)) ∧ Below w.heap.size w w' :=
  (lowUint_any N w).mono fun _ _ ⟨he, hb⟩ => ⟨he.trans (by rw [h]), hb⟩
set_option maxHeartbeats 1000000 in
set_option maxRecDepth 100000 in
theorem divide_two (N M : Nat) (w : World) (hN : N < bb ^ 32) (hM : M < bb ^ 32) (h0 : M ≠ 0) (hge : nw M ≤ nw N) (h2 : nw N ≤ 2) :
    Calls Tryz.prog 91 #[.agg (wc N).toArray, .agg (wc M).toArray] w (DivPost w N M) := by
  have HN := Lib.hid hN
  have HM := Lib.hid hM
  have hge' : ¬ (nw N : Int) < (nw M : Int) := by omega
  have h2' : (nw N : Int) ≤ 2 := by omega
  have hN2 : N < bb ^ 2 := Nat.lt_of_lt_of_le (nw_lt N) (bp_mono h2)
  have hM2 : M < bb ^ 2 := Nat.lt_of_lt_of_le (nw_lt M) (bp_mono (by omega))
  have HN2 : Hid (N % bb ^ 2 = N) := Nat.mod_eq_of_lt hN2
  have HM2 : Hid (M % bb ^ 2 = M) := Nat.mod_eq_of_lt hM2
  have HNle : Hid (N ≤ 18446744073709551615) := by
    show N ≤ 18446744073709551615
    rw [bb_eq] at hN2; omega
  obtain ⟨q, hq⟩ : ∃ q, N / M = q := ⟨_, rfl⟩
  obtain ⟨r, hr⟩ : ∃ r, N % M = r := ⟨_, rfl⟩
  have HQ : Hid (q ≤ 18446744073709551615) := hq ▸ Nat.le_trans (Nat.div_le_self N M) HNle.out
  have HMod : Hid (r ≤ 18446744073709551615) := hr ▸ Nat.le_trans (Nat.mod_le N M) HNle.out
  have E1 : IntKind.u64.wrap ((N : Int) / (M : Int)) = (q : Int) := by
    rw [IntKind.wrap_u64, ← hq]
    have := HNle.out
    have h3 := Nat.div_le_self N M
    rw [show (N : Int) / (M : Int) = ((N / M : Nat) : Int) by push_cast; rfl]
    generalize N / M = x at *
    omega
  have E2 : (N : Int).tmod (M : Int) = (r : Int) := by rw [← hr]; exact (Int.ofNat_tmod N M).symm
  have HA : Hid (N / M = q) := hq
  have HB : Hid (N % M = r) := hr
  clear hN hM hge h2 hN2 hM2 hq hr
  have b0 := (((Blk.new w (wc N) 41 rfl).old (.cells (wc M).toArray 41)).old (.cells (wc 0).toArray 41)).old (.cells (wc 0).toArray 41)
  have b1 := ((Blk.new (w.alloc (.cells (wc N).toArray 41)) (wc M) 41 (b := w.heap.size + 1) (by simp)).old (.cells (wc 0).toArray 41)).old (.cells (wc 0).toArray 41)
  have b2 := (Blk.new ((w.alloc (.cells (wc N).toArray 41)).alloc (.cells (wc M).toArray 41)) (wc 0) 41 (b := w.heap.size + 1 + 1) (by simp)).old (.cells (wc 0).toArray 41)
  have b3 := Blk.new (((w.alloc (.cells (wc N).toArray 41)).alloc (.cells (wc M).toArray 41)).alloc (.cells (wc 0).toArray 41)) (wc 0) 41 (b := w.heap.size + 1 + 1 + 1) (by simp)
  have hb : Below w.heap.size w ((((w.alloc (.cells (wc N).toArray 41)).alloc (.cells (wc M).toArray 41)).alloc (.cells (wc 0).toArray 41)).alloc (.cells (wc 0).toArray 41)) := ((((Below.refl _ _).alloc (Nat.le_refl _) _).alloc (by simp) _).alloc (by simp; omega) _).alloc (by simp; omega) _
  go_enter Tryz.func91, Tryz.ntmps91
  go_wp2_with (first | (with_reducible refine alA rfl rfl ?_))
  try rw [show (((w.alloc (.cells (wc N).toArray 41)).alloc (.cells (wc M).toArray 41)).alloc (.cells (wc 0).toArray 41)).heap.size = w.heap.size + 1 + 1 + 1 by simp]
  generalize (((w.alloc (.cells (wc N).toArray 41)).alloc (.cells (wc M).toArray 41)).alloc (.cells (wc 0).toArray 41)).alloc (.cells (wc 0).toArray 41) = W at *
  refine rg_start [] (by kernel_rfl) (fun hS => ?_)
  replace b0 := b0.drew
  replace b1 := b1.drew
  replace b2 := b2.drew
  replace b3 := b3.drew
  refine rg_ld 0 rfl (by kernel_rfl) (by kernel_rfl) (by kernel_rfl) (by rfl) hS rfl rfl b0 (by simp <;> omega) (whole23 _) ?_
  try simp only [Act.put, List.setIfInBounds_toArray, List.set_cons_zero, List.set_cons_succ]
  refine rg_ld 2 rfl (by kernel_rfl) (by kernel_rfl) (by kernel_rfl) (by rfl) hS rfl rfl b1 (by simp <;> omega) (whole23 _) ?_
  try simp only [Act.put, List.setIfInBounds_toArray, List.set_cons_zero, List.set_cons_succ]
  refine rg_eff 1 rfl (by kernel_rfl) (by rfl) (fun K hK => ?_)
  go_simp
  refine (length_any N _ HN.out).mono ?_
  rintro e w1 ⟨rfl, hb1⟩
  refine hK _ _ (hS.call hb1) (fun hS => ?_)
  clear hK K
  replace b0 := b0.call hb1
  replace b1 := b1.call hb1
  replace b2 := b2.call hb1
  replace b3 := b3.call hb1
  try simp only [Act.put, List.setIfInBounds_toArray, List.set_cons_zero, List.set_cons_succ]
  refine rg_eff 3 rfl (by kernel_rfl) (by rfl) (fun K hK => ?_)
  go_simp
  refine (length_any M _ HM.out).mono ?_
  rintro e w2 ⟨rfl, hb2⟩
  refine hK _ _ (hS.call hb2) (fun hS => ?_)
  clear hK K
  replace b0 := b0.call hb2
  replace b1 := b1.call hb2
  replace b2 := b2.call hb2
  replace b3 := b3.call hb2
  try simp only [Act.put, List.setIfInBounds_toArray, List.set_cons_zero, List.set_cons_succ]
  refine rg_take 4 rfl (by kernel_rfl) (by kernel_rfl) (by kernel_rfl) (by rfl) hS (v := ?_) ?_ ?_
  rotate_left
  · (intro w' hS'; go_simp <;> try with_reducible rfl)
  try simp only [Act.put, List.setIfInBounds_toArray, List.set_cons_zero, List.set_cons_succ]
  refine rg_take 5 rfl (by kernel_rfl) (by kernel_rfl) (by kernel_rfl) (by rfl) hS (v := ?_) ?_ ?_
  rotate_left
  · (intro w' hS'; go_simp <;> try with_reducible rfl)
  try simp only [Act.put, List.setIfInBounds_toArray, List.set_cons_zero, List.set_cons_succ]
  refine rg_done (by kernel_rfl) ?_
  have hb' := bthen (bthen hb.drew hb1) hb2
  clear hb hb1 hb2 hS
  go_wp2_with fail
  refine rg_start [] (by kernel_rfl) (fun hS => ?_)
  replace b0 := b0.drew
  replace b1 := b1.drew
  replace b2 := b2.drew
  replace b3 := b3.drew
  refine rg_ld 0 rfl (by kernel_rfl) (by kernel_rfl) (by kernel_rfl) (by rfl) hS rfl rfl b0 (by simp <;> omega) (whole23 _) ?_
  try simp only [Act.put, List.setIfInBounds_toArray, List.set_cons_zero, List.set_cons_succ]
  refine rg_ld 2 rfl (by kernel_rfl) (by kernel_rfl) (by kernel_rfl) (by rfl) hS rfl rfl b1 (by simp <;> omega) (whole23 _) ?_
  try simp only [Act.put, List.setIfInBounds_toArray, List.set_cons_zero, List.set_cons_succ]
  refine rg_eff 1 rfl (by kernel_rfl) (by rfl) (fun K hK => ?_)
  go_simp
  refine (lowUint_small N HN2.out _).mono ?_
  rintro e w1 ⟨rfl, hb1⟩
  refine hK _ _ (hS.call hb1) (fun hS => ?_)
  clear hK K
  replace b0 := b0.call hb1
  replace b1 := b1.call hb1
  replace b2 := b2.call hb1
  replace b3 := b3.call hb1
  try simp only [Act.put, List.setIfInBounds_toArray, List.set_cons_zero, List.set_cons_succ]
  refine rg_eff 3 rfl (by kernel_rfl) (by rfl) (fun K hK => ?_)
  go_simp
  refine (lowUint_small M HM2.out _).mono ?_
  rintro e w2 ⟨rfl, hb2⟩
  refine hK _ _ (hS.call hb2) (fun hS => ?_)
  clear hK K
  replace b0 := b0.call hb2
  replace b1 := b1.call hb2
  replace b2 := b2.call hb2
  replace b3 := b3.call hb2
  try simp only [Act.put, List.setIfInBounds_toArray, List.set_cons_zero, List.set_cons_succ]
  refine rg_take 4 rfl (by kernel_rfl) (by kernel_rfl) (by kernel_rfl) (by rfl) hS (v := ?_) ?_ ?_
  rotate_left
  · (intro w' hS'; go_simp <;> try with_reducible rfl)
  try simp only [Act.put, List.setIfInBounds_toArray, List.set_cons_zero, List.set_cons_succ]
  refine rg_take 5 rfl (by kernel_rfl) (by kernel_rfl) (by kernel_rfl) (by rfl) hS (v := ?_) ?_ ?_
  rotate_left
  · (intro w' hS'; go_simp <;> try with_reducible rfl)
  try simp only [Act.put, List.setIfInBounds_toArray, List.set_cons_zero, List.set_cons_succ]
  refine rg_done (by kernel_rfl) ?_
  replace hb' := bthen (bthen hb'.drew hb1) hb2
  clear hb1 hb2 hS
  go_wp2_with fail
  refine rg_start [w.heap.size + 1 + 1, w.heap.size + 1 + 1 + 1] (by kernel_rfl) (fun hS => ?_)
  replace b2 := b2.drew
  replace b3 := b3.drew
  have hb := hb'.drew
  refine rg_take 0 rfl (by kernel_rfl) (by kernel_rfl) (by kernel_rfl) (by rfl) hS (v := ?_) ?_ ?_
  rotate_left
  · (intro w' hS'; go_simp <;> try with_reducible rfl)
  try simp only [Act.put, List.setIfInBounds_toArray, List.set_cons_zero, List.set_cons_succ]
  refine rg_take 1 rfl (by kernel_rfl) (by kernel_rfl) (by kernel_rfl) (by rfl) hS (v := ?_) ?_ ?_
  rotate_left
  · (intro w' hS'; go_simp <;> try with_reducible rfl)
  try simp only [Act.put, List.setIfInBounds_toArray, List.set_cons_zero, List.set_cons_succ]
  refine rg_take 2 rfl (by kernel_rfl) (by kernel_rfl) (by kernel_rfl) (by rfl) hS (v := ?_) ?_ ?_
  rotate_left
  · (intro w' hS'; go_simp <;> try with_reducible rfl)
  try simp only [Act.put, List.setIfInBounds_toArray, List.set_cons_zero, List.set_cons_succ]
  refine rg_take 4 rfl (by kernel_rfl) (by kernel_rfl) (by kernel_rfl) (by rfl) hS (v := ?_) ?_ ?_
  rotate_left
  · (intro w' hS'; go_simp <;> try with_reducible rfl)
  try simp only [Act.put, List.setIfInBounds_toArray, List.set_cons_zero, List.set_cons_succ]
  refine rg_take 5 rfl (by kernel_rfl) (by kernel_rfl) (by kernel_rfl) (by rfl) hS (v := ?_) ?_ ?_
  rotate_left
  · (intro w' hS'; go_simp <;> try with_reducible rfl)
  try simp only [Act.put, List.setIfInBounds_toArray, List.set_cons_zero, List.set_cons_succ]
  refine rg_take 6 rfl (by kernel_rfl) (by kernel_rfl) (by kernel_rfl) (by rfl) hS (v := ?_) ?_ ?_
  rotate_left
  · (intro w' hS'; go_simp <;> try with_reducible rfl)
  try simp only [Act.put, List.setIfInBounds_toArray, List.set_cons_zero, List.set_cons_succ]
  refine rg_eff 3 rfl (by kernel_rfl) (by rfl) (fun K hK => ?_)
  go_simp
  refine (fromUint_any q _ HQ.out).mono ?_
  rintro e w1 ⟨rfl, hb1⟩
  refine hK _ _ (hS.call hb1) (fun hS => ?_)
  clear hK K
  replace b2 := b2.call hb1
  replace b3 := b3.call hb1
  try simp only [Act.put, List.setIfInBounds_toArray, List.set_cons_zero, List.set_cons_succ]
  refine rg_eff 7 rfl (by kernel_rfl) (by rfl) (fun K hK => ?_)
  go_simp
  refine (fromUint_any r _ HMod.out).mono ?_
  rintro e w3 ⟨rfl, hb2⟩
  refine hK _ _ (hS.call hb2) (fun hS => ?_)
  clear hK K
  replace b2 := b2.call hb2
  replace b3 := b3.call hb2
  try simp only [Act.put, List.setIfInBounds_toArray, List.set_cons_zero, List.set_cons_succ]
  refine rg_eff 8 rfl (by kernel_rfl) (by rfl) (fun K hK => ?_)
  refine wp_st (vs := wc q) rfl rfl rfl b2 (wc_len2 _ _) (whole23 _) (wc_one _) ?_
  refine hK _ _ (hS.row (.inl (by simp)) _) (fun hS => ?_)
  clear hK K
  replace b3 := b3.rowOther (g := w.heap.size + 1 + 1) (wc q).toArray (by omega)
  replace b2 := b2.row (wc q)
  replace hb := below_row (bthen (bthen hb hb1) hb2) (g := w.heap.size + 1 + 1) (by omega) (wc q).toArray
  try simp only [Act.put, List.setIfInBounds_toArray, List.set_cons_zero, List.set_cons_succ]
  refine rg_eff 9 rfl (by kernel_rfl) (by rfl) (fun K hK => ?_)
  refine wp_st (vs := wc r) rfl rfl rfl b3 (wc_len2 _ _) (whole23 _) (wc_one _) ?_
  refine hK _ _ (hS.row (.inl (by simp)) _) (fun hS => ?_)
  clear hK K
  try simp only [Act.put, List.setIfInBounds_toArray, List.set_cons_zero, List.set_cons_succ]
  refine rg_done (by kernel_rfl) ?_
  go_wp2
  refine ret_cc (cs := wc q) (cs' := wc r) rfl rfl rfl rfl (whole23 _) (whole23 _) (b2.rowOther _ (by omega)) (b3.row _) ⟨?_, below_row hb (by omega) _⟩
  rw [HA.out, HB.out]
end Go.Proofs.YtoegjibeomhekaaGreat

/- wide.commonUint, wide.common where its second has two words at most, wide.Gcd, wide.DivMod, wide.Int. -/
namespace Go.Proofs.YtoegjibeomhekaaGreat
set_option linter.unusedSimpArgs false
set_option linter.unusedVariables false
open Go.RowKit
set_option maxRecDepth 100000
set_option maxHeartbeats 400000 in
set_option maxRecDepth 100000 in
theorem commonUint_any (x y : Nat) (w : World) (hx : x ≤ 18446744073709551615) (hy : y ≤ 18446744073709551615) :
    Calls Tryz.prog 92 #[.int .u64 x, .int .u64 y] w fun e w' => e = .returned (.int .u64 (Nat.gcd x y : Nat)) ∧ Below w.heap.size w w' := by
  have HX := Lib.hid hx
  have HY := Lib.hid hy
  clear hx hy
  go_enter Tryz.func92, Tryz.ntmps92
  go_wp2
  go_loopw [0, 1] (fun a b wr => ∃ u v : Nat, a = .int .u64 u ∧ b = .int .u64 v ∧ u ≤ 18446744073709551615 ∧ v ≤ 18446744073709551615 ∧ Nat.gcd u v = Nat.gcd x y ∧ Below w.heap.size w wr) (fun _ b _ => (intOf b).toNat)
  case atStart => exact ⟨x, y, rfl, rfl, HX.out, HY.out, rfl, Below.refl _ _⟩
  case round =>
    obtain ⟨u, v, rfl, rfl, hu, hv, hg, hb⟩ := hrel
    have HU := Lib.hid hu
    have HV := Lib.hid hv
    have HG := Lib.hid hg
    clear hu hv hg
    by_cases h0 : 0 < v
    · obtain ⟨r, hr⟩ : ∃ r, u % v = r := ⟨_, rfl⟩
      have E2 : (u : Int).tmod (v : Int) = (r : Int) := by rw [← hr]; exact (Int.ofNat_tmod u v).symm
      have HR : Hid (u % v = r) := hr
      clear hr
      have hv0 : ¬ v = 0 := by omega
      go_wp2_with fail
      refine rg_start [] (by kernel_rfl) (fun hS => ?_)
      refine rg_take 0 rfl (by kernel_rfl) (by kernel_rfl) (by kernel_rfl) (by rfl) hS (v := ?_) ?_ ?_
      rotate_left
      · (intro w' hS'; go_simp <;> try with_reducible rfl)
      try simp only [Act.put, List.setIfInBounds_toArray, List.set_cons_zero, List.set_cons_succ]
      refine rg_take 1 rfl (by kernel_rfl) (by kernel_rfl) (by kernel_rfl) (by rfl) hS (v := ?_) ?_ ?_
      rotate_left
      · (intro w' hS'; go_simp <;> try with_reducible rfl)
      try simp only [Act.put, List.setIfInBounds_toArray, List.set_cons_zero, List.set_cons_succ]
      refine rg_take 2 rfl (by kernel_rfl) (by kernel_rfl) (by kernel_rfl) (by rfl) hS (v := ?_) ?_ ?_
      rotate_left
      · (intro w' hS'; go_simp <;> try with_reducible rfl)
      try simp only [Act.put, List.setIfInBounds_toArray, List.set_cons_zero, List.set_cons_succ]
      refine rg_take 3 rfl (by kernel_rfl) (by kernel_rfl) (by kernel_rfl) (by rfl) hS (v := ?_) ?_ ?_
      rotate_left
      · (intro w' hS'; go_simp <;> try with_reducible rfl)
      try simp only [Act.put, List.setIfInBounds_toArray, List.set_cons_zero, List.set_cons_succ]
      refine rg_take 4 rfl (by kernel_rfl) (by kernel_rfl) (by kernel_rfl) (by rfl) hS (v := ?_) ?_ ?_
      rotate_left
      · (intro w' hS'; go_simp <;> try with_reducible rfl)
      try simp only [Act.put, List.setIfInBounds_toArray, List.set_cons_zero, List.set_cons_succ]
      refine rg_take 5 rfl (by kernel_rfl) (by kernel_rfl) (by kernel_rfl) (by rfl) hS (v := ?_) ?_ ?_
      rotate_left
      · (intro w' hS'; go_simp <;> try with_reducible rfl)
      try simp only [Act.put, List.setIfInBounds_toArray, List.set_cons_zero, List.set_cons_succ]
      refine rg_done (by kernel_rfl) ?_
      go_wp2
      go_roundw
      case rel =>
        refine ⟨v, r, rfl, rfl, HV.out, ?_, ?_, hb.drew⟩
        · have := HR.out; have := HV.out; have := Nat.mod_lt u h0; omega
        · rw [← HG.out, ← HR.out, Nat.gcd_comm u v, Nat.gcd_rec v u, Nat.gcd_comm]
      case measure => simp [intOf]; have := HR.out; have := Nat.mod_lt u h0; omega
    · obtain rfl : v = 0 := by omega
      go_wp2
      go_ret
      exact ⟨ret_int (by rw [← HG.out, Nat.gcd_zero_right]), hb⟩
/-- Division is right wherever no number is above B. -/
def DivOk (B : Nat) : Prop := ∀ N M w, N ≤ B → M ≤ B → M ≠ 0 → Calls Tryz.prog 91 #[.agg (wc N).toArray, .agg (wc M).toArray] w (DivPost w N M)
/-- Two rows that a division fills. -/
theorem div_rows {w1 : World} {q r : Nat} :
    Blk (((w1.alloc (.cells (wc 0).toArray 41)).alloc (.cells (wc 0).toArray 41)).setRow w1.heap.size (wc q).toArray |>.setRow (w1.heap.size + 1) (wc r).toArray) (w1.heap.size + 1) (wc r) 41 :=
  ((Blk.new _ _ _ (by simp)).rowOther _ (by omega)).row _
theorem div_other {w1 : World} {q r b : Nat} {cs : List Value} {t : TypeId} (h : Blk w1 b cs t) :
    Blk (((w1.alloc (.cells (wc 0).toArray 41)).alloc (.cells (wc 0).toArray 41)).setRow w1.heap.size (wc q).toArray |>.setRow (w1.heap.size + 1) (wc r).toArray) b cs t :=
  (((h.old _).old _).rowOther _ (by have := h.lt; omega)).rowOther _ (by have := h.lt; omega)
theorem div_below {w w1 : World} {q r : Nat} (h : Below w.heap.size w w1) :
    Below w.heap.size w (((w1.alloc (.cells (wc 0).toArray 41)).alloc (.cells (wc 0).toArray 41)).setRow w1.heap.size (wc q).toArray |>.setRow (w1.heap.size + 1) (wc r).toArray) :=
  below_row (below_row ((h.alloc h.size _).alloc (by have := h.size; simp; omega) _) h.size _) (by have := h.size; omega) _
set_option maxHeartbeats 1000000 in
set_option maxRecDepth 100000 in
theorem common_any (B N M : Nat) (w : World) (hB : B < bb ^ 32) (hN : N ≤ B) (hM : M ≤ B) (hdiv : DivOk B) :
    Calls Tryz.prog 82 #[.agg (wc N).toArray, .agg (wc M).toArray] w fun e w' => e = .returned (.agg (wc (Nat.gcd N M)).toArray) ∧ Below w.heap.size w w' := by
  have HB := Lib.hid hB
  have HN := Lib.hid hN
  have HM := Lib.hid hM
  clear hB hN hM
  have b0 := ((Blk.new w (wc N) 41 rfl).old (.cells (wc M).toArray 41)).old (.cells (wc 0).toArray 41)
  have b1 := (Blk.new (w.alloc (.cells (wc N).toArray 41)) (wc M) 41 (b := w.heap.size + 1) (by simp)).old (.cells (wc 0).toArray 41)
  have b2 := Blk.new ((w.alloc (.cells (wc N).toArray 41)).alloc (.cells (wc M).toArray 41)) (wc 0) 41 (b := w.heap.size + 1 + 1) (by simp)
  have hb : Below w.heap.size w (((w.alloc (.cells (wc N).toArray 41)).alloc (.cells (wc M).toArray 41)).alloc (.cells (wc 0).toArray 41)) := (((Below.refl _ _).alloc (Nat.le_refl _) _).alloc (by simp) _).alloc (by simp; omega) _
  go_enter Tryz.func82, Tryz.ntmps82
  go_wp2_with (first | (with_reducible refine alA rfl rfl ?_))
  try rw [show ((w.alloc (.cells (wc N).toArray 41)).alloc (.cells (wc M).toArray 41)).heap.size = w.heap.size + 1 + 1 by simp]
  simp only [Act.put, List.setIfInBounds_toArray, List.set_cons_zero, List.set_cons_succ]
  go_loopg [9] M (fun g u wr => ∃ X : Nat, X ≤ B ∧ g ≤ B ∧ Nat.gcd X g = Nat.gcd N M ∧ Below w.heap.size w wr ∧ Blk wr w.heap.size (wc X) 41 ∧ Blk wr (w.heap.size + 1) (wc g) 41 ∧ Blk wr (w.heap.size + 1 + 1) (wc 0) 41)
  case atStart => exact ⟨N, HN.out, HM.out, rfl, hb, b0, b1, b2⟩
  case round =>
    clear hb b0 b1 b2
    obtain ⟨X, hX, hg, hgcd, hb, b0, b1, b2⟩ := hrel
    have HX := Lib.hid hX
    have HG := Lib.hid hg
    have HE := Lib.hid hgcd
    clear hX hg hgcd
    have HGB : Hid (gk < bb ^ 32) := Nat.lt_of_le_of_lt HG.out HB.out
    go_wp2_with (first | (with_reducible refine ldA rfl rfl rfl b1 ?_))
    refine (length_any gk _ HGB.out).mono ?_
    rintro e w1 ⟨rfl, hb1⟩
    replace b0 := b0.call hb1
    replace b1 := b1.call hb1
    replace b2 := b2.call hb1
    replace hb := bthen hb hb1
    clear hb1
    by_cases h2 : 2 < nw gk
    · have h2' : (2 : Int) < (nw gk : Int) := by omega
      have hg0 : gk ≠ 0 := by rintro rfl; have : nw 0 = 0 := rfl; omega
      go_wp2_with (first | (with_reducible refine ldA rfl rfl rfl b0 ?_) | (with_reducible refine ldA rfl rfl rfl b1 ?_))
      refine (hdiv X gk _ HX.out HG.out hg0).mono ?_
      rintro e w2 ⟨rfl, hb2⟩
      replace b0 := b0.call hb2
      replace b1 := b1.call hb2
      replace b2 := b2.call hb2
      replace hb := bthen hb hb2
      clear hb2
      obtain ⟨q, hq⟩ : ∃ q, X / gk = q := ⟨_, rfl⟩
      obtain ⟨r, hr⟩ : ∃ r, X % gk = r := ⟨_, rfl⟩
      rw [hq, hr]
      have HR : Hid (X % gk = r) := hr
      clear hq hr
      have a5 := (Blk.new w2 (wc 0) 41 rfl).old (.cells (wc 0).toArray 41)
      have a6 := (Blk.new (w2.alloc (.cells (wc 0).toArray 41)) (wc 0) 41 (b := w2.heap.size + 1) (by simp)).rowOther (g := w2.heap.size) (wc q).toArray (by omega)
      go_wp2_with (first | (with_reducible refine alA2 rfl rfl ?_) | (with_reducible refine alA rfl rfl ?_) | (with_reducible refine stA rfl rfl rfl rfl a5 ?_) | (with_reducible refine stA rfl rfl rfl rfl a6 ?_))
      have d6 := div_rows (w1 := w2) (q := q) (r := r)
      have hsz : w.heap.size + 1 + 1 < w2.heap.size := b2.lt
      replace b0 := div_other (q := q) (r := r) b0
      replace b1 := div_other (q := q) (r := r) b1
      replace b2 := div_other (q := q) (r := r) b2
      replace hb := div_below (q := q) (r := r) hb
      clear a5 a6
      generalize (((w2.alloc (.cells (wc 0).toArray 41)).alloc (.cells (wc 0).toArray 41)).setRow w2.heap.size (wc q).toArray).setRow (w2.heap.size + 1) (wc r).toArray = W at *
      generalize w2.heap.size = z at *
      refine rg_start [w.heap.size, w.heap.size + 1] (by kernel_rfl) (fun hS => ?_)
      refine rg_ld 1 rfl (by kernel_rfl) (by kernel_rfl) (by kernel_rfl) (by rfl) hS rfl rfl d6 (by simp <;> omega) (whole23 _) ?_
      try simp only [Act.put, List.setIfInBounds_toArray, List.set_cons_zero, List.set_cons_succ]
      refine rg_eff 0 rfl (by kernel_rfl) (by rfl) (fun K hK => ?_)
      refine wp_ldB rfl rfl b1.drew (whole23 _) ?_
      refine hK _ _ hS (fun hS => ?_)
      clear hK K
      try simp only [Act.put, List.setIfInBounds_toArray, List.set_cons_zero, List.set_cons_succ]
      refine rg_eff 2 rfl (by kernel_rfl) (by rfl) (fun K hK => ?_)
      refine wp_st (vs := wc gk) rfl rfl rfl b0.drew (wc_len2 _ _) (whole23 _) (wc_one _) ?_
      refine hK _ _ (hS.row (.inl (by simp)) _) (fun hS => ?_)
      clear hK K
      have c1 := (b1.drew).rowOther (g := w.heap.size) (wc gk).toArray (by omega)
      try simp only [Act.put, List.setIfInBounds_toArray, List.set_cons_zero, List.set_cons_succ]
      refine rg_eff 3 rfl (by kernel_rfl) (by rfl) (fun K hK => ?_)
      refine wp_st (vs := wc r) rfl rfl rfl c1 (wc_len2 _ _) (whole23 _) (wc_one _) ?_
      refine hK _ _ (hS.row (.inl (by simp)) _) (fun hS => ?_)
      clear hK K
      try simp only [Act.put, List.setIfInBounds_toArray, List.set_cons_zero, List.set_cons_succ]
      refine rg_done (by kernel_rfl) ?_
      go_wp2
      go_roundg r
      case measure => have := HR.out; have := Nat.mod_lt X (Nat.pos_of_ne_zero hg0); omega
      case rel =>
        refine ⟨gk, HG.out, ?_, ?_, below_row (below_row hb.drew (g := w.heap.size) (by omega) _) (by omega) _, (b0.drew.row _).rowOther _ (by omega), c1.row _, (b2.drew.rowOther _ (by omega)).rowOther _ (by omega)⟩
        · have := HR.out; have := HX.out; have := Nat.mod_le X gk; omega
        · rw [← HE.out, ← HR.out, Nat.gcd_comm X gk, Nat.gcd_rec gk X, Nat.gcd_comm]
    · have h2' : ¬ (2 : Int) < (nw gk : Int) := by omega
      by_cases hg0 : gk = 0
      · subst hg0
        have hz : ((nw 0 : Nat) : Int) = 0 := rfl
        go_wp2_with (first | (with_reducible refine ldA rfl rfl rfl b1 ?_))
        refine (length_any 0 _ HGB.out).mono ?_
        rintro e w2 ⟨rfl, hb2⟩
        replace b0 := b0.call hb2
        replace b2 := b2.call hb2
        replace hb := bthen hb hb2
        rw [show ((nw 0 : Nat) : Int) = 0 from rfl]
        go_wp2_with (first | (with_reducible refine ldA rfl rfl rfl b0 ?_) | (with_reducible refine stA rfl rfl rfl rfl b2 ?_))
        refine ret_c (cs := wc X) rfl rfl rfl (whole23 _) (b2.row _) ⟨?_, below_row hb (by omega) _⟩
        rw [← HE.out, Nat.gcd_zero_right]
      · have hz : ((nw gk : Int) == 0) = false := by
          have := nw_zero (N := gk)
          rw [beq_eq_false_iff_ne]; omega
        have hg2 : gk < bb ^ 2 := Nat.lt_of_lt_of_le (nw_lt gk) (bp_mono (by omega))
        go_wp2_with (first | (with_reducible refine ldA rfl rfl rfl b1 ?_))
        refine (length_any gk _ HGB.out).mono ?_
        rintro e w2 ⟨rfl, hb2⟩
        replace b0 := b0.call hb2
        replace b1 := b1.call hb2
        replace b2 := b2.call hb2
        replace hb := bthen hb hb2
        clear hb2
        have HG2 : Hid (gk % bb ^ 2 = gk) := Nat.mod_eq_of_lt hg2
        have HGl : Hid (gk ≤ 18446744073709551615) := by
          show gk ≤ 18446744073709551615
          rw [bb_eq] at hg2; omega
        have HRl : Hid (X % gk ≤ 18446744073709551615) := Nat.le_trans (Nat.le_of_lt (Nat.mod_lt X (Nat.pos_of_ne_zero hg0))) HGl.out
        have HR2 : Hid (X % gk % bb ^ 2 = X % gk) := Nat.mod_eq_of_lt (Nat.lt_trans (Nat.mod_lt X (Nat.pos_of_ne_zero hg0)) hg2)
        have HF : Hid (Nat.gcd gk (X % gk) = Nat.gcd N M) := by
          show Nat.gcd gk (X % gk) = Nat.gcd N M
          rw [← HE.out, Nat.gcd_comm X gk, Nat.gcd_rec gk X, Nat.gcd_comm]
        clear hg2
        go_wp2_with (first | (with_reducible refine ldA rfl rfl rfl b0 ?_) | (with_reducible refine ldA rfl rfl rfl b1 ?_))
        refine (hdiv X gk _ HX.out HG.out hg0).mono ?_
        rintro e w3 ⟨rfl, hb3⟩
        replace b1 := b1.call hb3
        replace b2 := b2.call hb3
        replace hb := bthen hb hb3
        clear hb3 b0
        generalize X / gk = q at *
        generalize X % gk = r at *
        have a5 := (Blk.new w3 (wc 0) 41 rfl).old (.cells (wc 0).toArray 41)
        have a6 := (Blk.new (w3.alloc (.cells (wc 0).toArray 41)) (wc 0) 41 (b := w3.heap.size + 1) (by simp)).rowOther (g := w3.heap.size) (wc q).toArray (by omega)
        go_wp2_with (first | (with_reducible refine alA2 rfl rfl ?_) | (with_reducible refine alA rfl rfl ?_) | (with_reducible refine stA rfl rfl rfl rfl a5 ?_) | (with_reducible refine stA rfl rfl rfl rfl a6 ?_))
        have d6 := div_rows (w1 := w3) (q := q) (r := r)
        have hsz : w.heap.size + 1 + 1 < w3.heap.size := b2.lt
        replace b1 := div_other (q := q) (r := r) b1
        replace b2 := div_other (q := q) (r := r) b2
        replace hb := div_below (q := q) (r := r) hb
        clear a5 a6
        generalize (((w3.alloc (.cells (wc 0).toArray 41)).alloc (.cells (wc 0).toArray 41)).setRow w3.heap.size (wc q).toArray).setRow (w3.heap.size + 1) (wc r).toArray = W at *
        generalize w3.heap.size = z at *
        have HGl2 : Hid (Nat.gcd gk r ≤ 18446744073709551615) := Nat.le_trans (Nat.gcd_le_left r (Nat.pos_of_ne_zero hg0)) HGl.out
        refine rg_start [w.heap.size + 1 + 1] (by kernel_rfl) (fun hS => ?_)
        replace b2 := b2.drew
        replace hb := hb.drew
        refine rg_ld 0 rfl (by kernel_rfl) (by kernel_rfl) (by kernel_rfl) (by rfl) hS rfl rfl b1 (by simp <;> omega) (whole23 _) ?_
        try simp only [Act.put, List.setIfInBounds_toArray, List.set_cons_zero, List.set_cons_succ]
        refine rg_ld 2 rfl (by kernel_rfl) (by kernel_rfl) (by kernel_rfl) (by rfl) hS rfl rfl d6 (by simp <;> omega) (whole23 _) ?_
        try simp only [Act.put, List.setIfInBounds_toArray, List.set_cons_zero, List.set_cons_succ]
        refine rg_eff 1 rfl (by kernel_rfl) (by rfl) (fun K hK => ?_)
        go_simp
        refine (lowUint_small gk HG2.out _).mono ?_
        rintro e u1 ⟨rfl, hb1⟩
        refine hK _ _ (hS.call hb1) (fun hS => ?_)
        clear hK K
        replace b2 := b2.call hb1
        try simp only [Act.put, List.setIfInBounds_toArray, List.set_cons_zero, List.set_cons_succ]
        refine rg_eff 3 rfl (by kernel_rfl) (by rfl) (fun K hK => ?_)
        go_simp
        refine (lowUint_small r HR2.out _).mono ?_
        rintro e u2 ⟨rfl, hb2⟩
        refine hK _ _ (hS.call hb2) (fun hS => ?_)
        clear hK K
        replace b2 := b2.call hb2
        try simp only [Act.put, List.setIfInBounds_toArray, List.set_cons_zero, List.set_cons_succ]
        refine rg_eff 4 rfl (by kernel_rfl) (by rfl) (fun K hK => ?_)
        go_simp
        refine (commonUint_any gk r _ HGl.out HRl.out).mono ?_
        rintro e u3 ⟨rfl, hb3⟩
        refine hK _ _ (hS.call hb3) (fun hS => ?_)
        clear hK K
        replace b2 := b2.call hb3
        try simp only [Act.put, List.setIfInBounds_toArray, List.set_cons_zero, List.set_cons_succ]
        refine rg_eff 5 rfl (by kernel_rfl) (by rfl) (fun K hK => ?_)
        go_simp
        refine (fromUint_any (Nat.gcd gk r) _ HGl2.out).mono ?_
        rintro e u4 ⟨rfl, hb4⟩
        refine hK _ _ (hS.call hb4) (fun hS => ?_)
        clear hK K
        replace b2 := b2.call hb4
        try simp only [Act.put, List.setIfInBounds_toArray, List.set_cons_zero, List.set_cons_succ]
        refine rg_eff 6 rfl (by kernel_rfl) (by rfl) (fun K hK => ?_)
        refine wp_st (vs := wc (Nat.gcd gk r)) rfl rfl rfl b2 (wc_len2 _ _) (whole23 _) (wc_one _) ?_
        refine hK _ _ (hS.row (.inl (by simp)) _) (fun hS => ?_)
        clear hK K
        try simp only [Act.put, List.setIfInBounds_toArray, List.set_cons_zero, List.set_cons_succ]
        refine rg_done (by kernel_rfl) ?_
        go_wp2
        refine ret_c (cs := wc (Nat.gcd gk r)) rfl rfl rfl (whole23 _) (b2.row _) ⟨?_, below_row (bthen (bthen (bthen (bthen hb hb1) hb2) hb3) hb4) (by omega) _⟩
        rw [HF.out]
/-- Gcd, over whatever division serves. -/
theorem Gcd_w {cs ds : List Value} {x y : Int} (hx : Wd cs x) (hy : Wd ds y) (B : Nat) (hB : B < bb ^ 32) (hN : x.natAbs ≤ B) (hM : y.natAbs ≤ B) (hdiv : DivOk B) (w : World) :
    Calls Tryz.prog 69 #[.agg cs.toArray, .agg ds.toArray] w fun e w' => e = .returned (.agg (mk (Int.gcd x y : Nat)).toArray) ∧ Below w.heap.size w w' := by
  obtain ⟨s, N, rfl, rfl, hN'⟩ := hx
  obtain ⟨t, M, rfl, rfl, hM'⟩ := hy
  rw [zn_abs] at hN hM
  have HG : Hid (Int.gcd (zn s N) (zn t M) = Nat.gcd N M) := by
    show Int.gcd (zn s N) (zn t M) = Nat.gcd N M
    rw [Int.gcd, zn_abs, zn_abs]
  have HF : Hid (Nat.gcd N M < bb ^ 32) := by
    show Nat.gcd N M < bb ^ 32
    rcases Nat.eq_zero_or_pos N with h | h
    · subst h; rw [Nat.gcd_zero_left]; exact hM'
    · exact Nat.lt_of_le_of_lt (Nat.gcd_le_left M h) hN'
  have HC := Lib.hid (fun w => common_any B N M w hB hN hM hdiv)
  clear hN' hM' hN hM hB hdiv
  have b0 := ((Blk.new w (wd s N) 43 rfl).old (.cells (wd t M).toArray 43)).old (.cells (wd false 0).toArray 43)
  have b1 := (Blk.new (w.alloc (.cells (wd s N).toArray 43)) (wd t M) 43 (b := w.heap.size + 1) (by simp)).old (.cells (wd false 0).toArray 43)
  have b2 := Blk.new ((w.alloc (.cells (wd s N).toArray 43)).alloc (.cells (wd t M).toArray 43)) (wd false 0) 43 (b := w.heap.size + 1 + 1) (by simp)
  have hb : Below w.heap.size w (((w.alloc (.cells (wd s N).toArray 43)).alloc (.cells (wd t M).toArray 43)).alloc (.cells (wd false 0).toArray 43)) := (((Below.refl _ _).alloc (Nat.le_refl _) _).alloc (by simp) _).alloc (by simp; omega) _
  go_enter Tryz.func69, Tryz.ntmps69
  go_wp2_with (first | (with_reducible refine alW rfl rfl ?_) | (with_reducible refine ldD rfl rfl rfl b0 ?_) | (with_reducible refine ldD rfl rfl rfl b1 ?_))
  refine (HC.out _).mono ?_
  rintro e w1 ⟨rfl, hb1⟩
  go_wp2_with fail
  refine (signed_mk false (Nat.gcd N M) _ HF.out).mono ?_
  rintro e w2 ⟨rfl, hb2⟩
  have f2 := (b2.call hb1).call hb2
  go_wp2_with (first | (with_reducible refine stM rfl rfl rfl rfl f2 (wd_length _ _) ?_))
  refine ret_c (cs := mk (zn false (Nat.gcd N M))) rfl rfl rfl (wholeM _) (f2.row _) ⟨?_, below_row (bthen (bthen hb hb1) hb2) (by omega) _⟩
  rw [HG.out]; rfl
/-- DivMod by what isn't 0, over whatever division serves. -/
theorem DivMod_w {cs ds : List Value} {x y : Int} (hx : Wd cs x) (hy : Wd ds y) (h0 : y ≠ 0) (B : Nat) (hN : x.natAbs ≤ B) (hM : y.natAbs ≤ B) (hdiv : DivOk B) (w : World) :
    Calls Tryz.prog 90 #[.agg cs.toArray, .agg ds.toArray] w fun e w' => e = .returned (.tuple #[.agg (mk (x.tdiv y)).toArray, .agg (mk (x.tmod y)).toArray, .bool true]) ∧ Below w.heap.size w w' := by
  obtain ⟨s, N, rfl, rfl, hN'⟩ := hx
  obtain ⟨t, M, rfl, rfl, hM'⟩ := hy
  rw [zn_abs] at hN hM
  have hm0 : M ≠ 0 := by rintro rfl; apply h0; cases t <;> rfl
  have HD := Lib.hid (fun w => hdiv N M w hN hM hm0)
  have hz : ((nw M : Int) == 0) = false := by
    have := nw_zero (N := M)
    rw [beq_eq_false_iff_ne]; omega
  have HQ : Hid ((zn s N).tdiv (zn t M) = zn (s != t) (N / M)) := by
    show (zn s N).tdiv (zn t M) = zn (s != t) (N / M)
    unfold zn; cases s <;> cases t <;> simp [Int.neg_tdiv, Int.tdiv_neg]
  have HR : Hid ((zn s N).tmod (zn t M) = zn s (N % M)) := by
    show (zn s N).tmod (zn t M) = zn s (N % M)
    unfold zn; cases s <;> cases t <;> simp [Int.neg_tmod, Int.tmod_neg] <;> exact Int.tmod_eq_emod_of_nonneg (Int.natCast_nonneg _)
  have HM := Lib.hid hM'
  have HQf : Hid (N / M < bb ^ 32) := Nat.lt_of_le_of_lt (Nat.div_le_self N M) hN'
  have HRf : Hid (N % M < bb ^ 32) := Nat.lt_of_le_of_lt (Nat.mod_le N M) hN'
  clear hN' hM' hN hM hdiv h0
  have b0 := (((Blk.new w (wd s N) 43 rfl).old (.cells (wd t M).toArray 43)).old (.cells (wd false 0).toArray 43)).old (.cells (wd false 0).toArray 43)
  have b1 := ((Blk.new (w.alloc (.cells (wd s N).toArray 43)) (wd t M) 43 (b := w.heap.size + 1) (by simp)).old (.cells (wd false 0).toArray 43)).old (.cells (wd false 0).toArray 43)
  have b2 := (Blk.new ((w.alloc (.cells (wd s N).toArray 43)).alloc (.cells (wd t M).toArray 43)) (wd false 0) 43 (b := w.heap.size + 1 + 1) (by simp)).old (.cells (wd false 0).toArray 43)
  have b3 := Blk.new (((w.alloc (.cells (wd s N).toArray 43)).alloc (.cells (wd t M).toArray 43)).alloc (.cells (wd false 0).toArray 43)) (wd false 0) 43 (b := w.heap.size + 1 + 1 + 1) (by simp)
  have hb : Below w.heap.size w ((((w.alloc (.cells (wd s N).toArray 43)).alloc (.cells (wd t M).toArray 43)).alloc (.cells (wd false 0).toArray 43)).alloc (.cells (wd false 0).toArray 43)) := ((((Below.refl _ _).alloc (Nat.le_refl _) _).alloc (by simp) _).alloc (by simp; omega) _).alloc (by simp; omega) _
  go_enter Tryz.func90, Tryz.ntmps90
  go_wp2_with (first | (with_reducible refine alW rfl rfl ?_) | (with_reducible refine ldD rfl rfl rfl b1 ?_))
  refine (length_any M _ HM.out).mono ?_
  rintro e w1 ⟨rfl, hb1⟩
  replace b0 := b0.call hb1
  replace b1 := b1.call hb1
  replace b2 := b2.call hb1
  replace b3 := b3.call hb1
  replace hb := bthen hb hb1
  clear hb1
  go_wp2_with (first | (with_reducible refine ldD rfl rfl rfl b0 ?_) | (with_reducible refine ldD rfl rfl rfl b1 ?_))
  refine (HD.out _).mono ?_
  rintro e w2 ⟨rfl, hb2⟩
  replace b0 := b0.call hb2
  replace b1 := b1.call hb2
  replace b2 := b2.call hb2
  replace b3 := b3.call hb2
  replace hb := bthen hb hb2
  clear hb2
  generalize N / M = q at *
  generalize N % M = r at *
  have a5 := (Blk.new w2 (wc 0) 41 rfl).old (.cells (wc 0).toArray 41)
  have a6 := (Blk.new (w2.alloc (.cells (wc 0).toArray 41)) (wc 0) 41 (b := w2.heap.size + 1) (by simp)).rowOther (g := w2.heap.size) (wc q).toArray (by omega)
  go_wp2_with (first | (with_reducible refine alA2 rfl rfl ?_) | (with_reducible refine alA rfl rfl ?_) | (with_reducible refine stA rfl rfl rfl rfl a5 ?_) | (with_reducible refine stA rfl rfl rfl rfl a6 ?_))
  have d5 := (a5.row (wc q)).rowOther (g := w2.heap.size + 1) (wc r).toArray (by omega)
  have d6 := div_rows (w1 := w2) (q := q) (r := r)
  have hsz : w.heap.size + 1 + 1 + 1 < w2.heap.size := b3.lt
  replace b0 := div_other (q := q) (r := r) b0
  replace b1 := div_other (q := q) (r := r) b1
  replace b2 := div_other (q := q) (r := r) b2
  replace b3 := div_other (q := q) (r := r) b3
  replace hb := div_below (q := q) (r := r) hb
  clear a5 a6
  generalize (((w2.alloc (.cells (wc 0).toArray 41)).alloc (.cells (wc 0).toArray 41)).setRow w2.heap.size (wc q).toArray).setRow (w2.heap.size + 1) (wc r).toArray = W at *
  generalize w2.heap.size = z at *
  refine rg_start [w.heap.size + 1 + 1, w.heap.size + 1 + 1 + 1] (by kernel_rfl) (fun hS => ?_)
  replace b2 := b2.drew
  replace b3 := b3.drew
  replace hb := hb.drew
  refine rg_take 0 rfl (by kernel_rfl) (by kernel_rfl) (by kernel_rfl) (by rfl) hS (v := ?_) ?_ ?_
  rotate_left
  · (intro w' hS'; go_simp <;> try with_reducible rfl)
  try simp only [Act.put, List.setIfInBounds_toArray, List.set_cons_zero, List.set_cons_succ]
  refine rg_take 1 rfl (by kernel_rfl) (by kernel_rfl) (by kernel_rfl) (by rfl) hS (v := ?_) ?_ ?_
  rotate_left
  · (intro w' hS'; have hc := (b0.keep hS' (by simp <;> omega)).cell (i := 0) (v := .bool s) (wd_sign s N); go_simp <;> try with_reducible rfl)
  try simp only [Act.put, List.setIfInBounds_toArray, List.set_cons_zero, List.set_cons_succ]
  refine rg_take 2 rfl (by kernel_rfl) (by kernel_rfl) (by kernel_rfl) (by rfl) hS (v := ?_) ?_ ?_
  rotate_left
  · (intro w' hS'; go_simp <;> try with_reducible rfl)
  try simp only [Act.put, List.setIfInBounds_toArray, List.set_cons_zero, List.set_cons_succ]
  refine rg_take 3 rfl (by kernel_rfl) (by kernel_rfl) (by kernel_rfl) (by rfl) hS (v := ?_) ?_ ?_
  rotate_left
  · (intro w' hS'; have hc := (b1.keep hS' (by simp <;> omega)).cell (i := 0) (v := .bool t) (wd_sign t M); go_simp <;> try with_reducible rfl)
  try simp only [Act.put, List.setIfInBounds_toArray, List.set_cons_zero, List.set_cons_succ]
  refine rg_take 4 rfl (by kernel_rfl) (by kernel_rfl) (by kernel_rfl) (by rfl) hS (v := ?_) ?_ ?_
  rotate_left
  · (intro w' hS'; go_simp <;> try with_reducible rfl)
  try simp only [Act.put, List.setIfInBounds_toArray, List.set_cons_zero, List.set_cons_succ]
  refine rg_ld 5 rfl (by kernel_rfl) (by kernel_rfl) (by kernel_rfl) (by rfl) hS rfl rfl d5 (by simp <;> omega) (whole23 _) ?_
  try simp only [Act.put, List.setIfInBounds_toArray, List.set_cons_zero, List.set_cons_succ]
  refine rg_take 7 rfl (by kernel_rfl) (by kernel_rfl) (by kernel_rfl) (by rfl) hS (v := ?_) ?_ ?_
  rotate_left
  · (intro w' hS'; go_simp <;> try with_reducible rfl)
  try simp only [Act.put, List.setIfInBounds_toArray, List.set_cons_zero, List.set_cons_succ]
  refine rg_take 8 rfl (by kernel_rfl) (by kernel_rfl) (by kernel_rfl) (by rfl) hS (v := ?_) ?_ ?_
  rotate_left
  · (intro w' hS'; have hc := (b0.keep hS' (by simp <;> omega)).cell (i := 0) (v := .bool s) (wd_sign s N); go_simp <;> try with_reducible rfl)
  try simp only [Act.put, List.setIfInBounds_toArray, List.set_cons_zero, List.set_cons_succ]
  refine rg_ld 9 rfl (by kernel_rfl) (by kernel_rfl) (by kernel_rfl) (by rfl) hS rfl rfl d6 (by simp <;> omega) (whole23 _) ?_
  try simp only [Act.put, List.setIfInBounds_toArray, List.set_cons_zero, List.set_cons_succ]
  refine rg_eff 6 rfl (by kernel_rfl) (by rfl) (fun K hK => ?_)
  go_simp
  refine (signed_mk (s != t) q _ HQf.out).mono ?_
  rintro e u1 ⟨rfl, hb1⟩
  refine hK _ _ (hS.call hb1) (fun hS => ?_)
  clear hK K
  replace b2 := b2.call hb1
  replace b3 := b3.call hb1
  try simp only [Act.put, List.setIfInBounds_toArray, List.set_cons_zero, List.set_cons_succ]
  refine rg_eff 10 rfl (by kernel_rfl) (by rfl) (fun K hK => ?_)
  go_simp
  refine (signed_mk s r _ HRf.out).mono ?_
  rintro e u2 ⟨rfl, hb2⟩
  refine hK _ _ (hS.call hb2) (fun hS => ?_)
  clear hK K
  replace b2 := b2.call hb2
  replace b3 := b3.call hb2
  try simp only [Act.put, List.setIfInBounds_toArray, List.set_cons_zero, List.set_cons_succ]
  refine rg_eff 11 rfl (by kernel_rfl) (by rfl) (fun K hK => ?_)
  refine wp_st (vs := mk (zn (s != t) q)) rfl rfl rfl b2 (by rw [wd_length, mk_length]) (wholeM _) (mk_one _) ?_
  refine hK _ _ (hS.row (.inl (by simp)) _) (fun hS => ?_)
  clear hK K
  replace b3 := b3.rowOther (g := w.heap.size + 1 + 1) (mk (zn (s != t) q)).toArray (by omega)
  replace b2 := b2.row (mk (zn (s != t) q))
  replace hb := below_row (bthen (bthen hb hb1) hb2) (g := w.heap.size + 1 + 1) (by omega) (mk (zn (s != t) q)).toArray
  try simp only [Act.put, List.setIfInBounds_toArray, List.set_cons_zero, List.set_cons_succ]
  refine rg_eff 12 rfl (by kernel_rfl) (by rfl) (fun K hK => ?_)
  refine wp_st (vs := mk (zn s r)) rfl rfl rfl b3 (by rw [wd_length, mk_length]) (wholeM _) (mk_one _) ?_
  refine hK _ _ (hS.row (.inl (by simp)) _) (fun hS => ?_)
  clear hK K
  try simp only [Act.put, List.setIfInBounds_toArray, List.set_cons_zero, List.set_cons_succ]
  refine rg_take 13 rfl (by kernel_rfl) (by kernel_rfl) (by kernel_rfl) (by rfl) hS (v := ?_) ?_ ?_
  rotate_left
  · (intro w' hS'; go_simp <;> try with_reducible rfl)
  try simp only [Act.put, List.setIfInBounds_toArray, List.set_cons_zero, List.set_cons_succ]
  refine rg_done (by kernel_rfl) ?_
  go_wp2
  refine ret_cct (cs := mk (zn (s != t) q)) (cs' := mk (zn s r)) (v := .bool true) rfl rfl rfl rfl rfl (wholeM _) (wholeM _) (b2.rowOther _ (by omega)) (b3.row _) ⟨?_, below_row hb (by omega) _⟩
  rw [HQ.out, HR.out]
/-- DivMod by 0. -/
theorem DivMod_wz {cs ds : List Value} {x : Int} (hx : Wd cs x) (hy : Wd ds 0) (w : World) :
    Calls Tryz.prog 90 #[.agg cs.toArray, .agg ds.toArray] w fun e w' => e = .returned (.tuple #[.agg (mk 0).toArray, .agg (mk 0).toArray, .bool false]) ∧ Below w.heap.size w w' := by
  obtain ⟨t, M, rfl, h0, hM'⟩ := hy
  obtain rfl : M = 0 := by have := zn_abs t M; rw [← h0] at this; exact this.symm
  clear h0
  have HM := Lib.hid hM'
  clear hM'
  have b1 := ((Blk.new (w.alloc (.cells cs.toArray 43)) (wd t 0) 43 (b := w.heap.size + 1) (by simp)).old (.cells (wd false 0).toArray 43)).old (.cells (wd false 0).toArray 43)
  have b2 := (Blk.new ((w.alloc (.cells cs.toArray 43)).alloc (.cells (wd t 0).toArray 43)) (wd false 0) 43 (b := w.heap.size + 1 + 1) (by simp)).old (.cells (wd false 0).toArray 43)
  have b3 := Blk.new (((w.alloc (.cells cs.toArray 43)).alloc (.cells (wd t 0).toArray 43)).alloc (.cells (wd false 0).toArray 43)) (wd false 0) 43 (b := w.heap.size + 1 + 1 + 1) (by simp)
  have hb : Below w.heap.size w ((((w.alloc (.cells cs.toArray 43)).alloc (.cells (wd t 0).toArray 43)).alloc (.cells (wd false 0).toArray 43)).alloc (.cells (wd false 0).toArray 43)) := ((((Below.refl _ _).alloc (Nat.le_refl _) _).alloc (by simp) _).alloc (by simp; omega) _).alloc (by simp; omega) _
  go_enter Tryz.func90, Tryz.ntmps90
  go_wp2_with (first | (with_reducible refine alW rfl rfl ?_) | (with_reducible refine ldD rfl rfl rfl b1 ?_))
  refine (length_any 0 _ HM.out).mono ?_
  rintro e w1 ⟨rfl, hb1⟩
  rw [show ((nw 0 : Nat) : Int) = 0 from rfl]
  replace b2 := b2.call hb1
  replace b3 := (b3.call hb1)
  have b3' := b3.rowOther (g := w.heap.size + 1 + 1) (wd false 0).toArray (by omega)
  go_wp2_with (first | (with_reducible refine bdW0 rfl rfl ?_) | (with_reducible refine stW rfl rfl rfl rfl b2 ?_) | (with_reducible refine stW rfl rfl rfl rfl b3' ?_))
  exact ret_cct (cs := wd false 0) (cs' := wd false 0) (v := .bool false) rfl rfl rfl rfl rfl (whole25 _ _) (whole25 _ _) ((b2.row _).rowOther _ (by omega)) (b3'.row _) ⟨rfl, below_row (below_row (bthen hb hb1) (g := w.heap.size + 1 + 1) (by omega) _) (by omega) _⟩
end Go.Proofs.YtoegjibeomhekaaGreat

/- wide.Int, wide.Sum. -/
namespace Go.Proofs.YtoegjibeomhekaaGreat
open Go.RowKit
set_option maxRecDepth 100000
theorem ret_ib {k : IntKind} {a b : Int} {c : Bool} (h : a = b) : Ending.returned (.tuple #[.int k a, .bool c]) = .returned (.tuple #[.int k b, .bool c]) := by rw [h]
/-- A Wide is loaded out of the middle of a block. -/
theorem ldR {ops : Array Oper} {rest : List Oper} {o : Oper} {a : Act} {w : World} {Q : Exit → Act → World → Prop} {x : Operand} {b f : Nat} {cs : List Value} (hgd : o.guard = none) (ho : o.op = .load 43 x) (hx : a.eval x = .pointer (some ⟨b, f, none⟩)) (h : w.rangeAt b f cs) (hl : cs.length = 33)
    (hr : wpList Tryz.prog ops Q rest (a.put o.dst (.agg cs.toArray)) w) : wpList Tryz.prog ops Q (o :: rest) a w := by
  obtain ⟨d, hu, hd⟩ := under25
  exact wpList_load_mid hgd 43 x ho b f hx cs d h hu hd (by rw [hl]; exact size25) hr
end Go.Proofs.YtoegjibeomhekaaGreat
