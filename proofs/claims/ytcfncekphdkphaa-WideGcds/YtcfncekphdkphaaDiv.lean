/- wide.divide, its short ways. -/
import Derived.Test.YtcfncekphdkphaaShl
namespace Go.Proofs.Ytcfncekphdkphaa
set_option linter.unusedSimpArgs false
set_option linter.unusedVariables false
open Go.RowKit
set_option maxRecDepth 100000
/-- What divide's walk has behind its first statement: four rows, two lengths. -/
def DivPost (w : World) (N M : Nat) (e : Ending) (w' : World) : Prop :=
  e = .returned (.tuple #[.agg (wc (N / M)).toArray, .agg (wc (N % M)).toArray]) ∧ Below w.heap.size w w'
set_option maxHeartbeats 1000000 in
set_option maxRecDepth 100000 in
theorem divide_less (N M : Nat) (w : World) (hN : N < bb ^ 32) (hM : M < bb ^ 32) (hlt : nw N < nw M) :
    Calls Try.prog 69 #[.agg (wc N).toArray, .agg (wc M).toArray] w (DivPost w N M) := by
  have HN := Lib.hid hN
  have HM := Lib.hid hM
  have hlt' : (nw N : Int) < (nw M : Int) := by omega
  have HE : Hid (N / M = 0 ∧ N % M = N) := by
    have h1 : M ≠ 0 := by rintro rfl; have : nw 0 = 0 := rfl; omega
    have h2 := nw_le M h1
    have h3 := nw_lt N
    have h4 : N < M := Nat.lt_of_lt_of_le (Nat.lt_of_lt_of_le h3 (bp_mono (show nw N ≤ nw M - 1 by omega))) h2
    exact ⟨Nat.div_eq_of_lt h4, Nat.mod_eq_of_lt h4⟩
  clear hN hM hlt
  have b0 := (((Blk.new w (wc N) 23 rfl).old (.cells (wc M).toArray 23)).old (.cells (wc 0).toArray 23)).old (.cells (wc 0).toArray 23)
  have b1 := ((Blk.new (w.alloc (.cells (wc N).toArray 23)) (wc M) 23 (b := w.heap.size + 1) (by simp)).old (.cells (wc 0).toArray 23)).old (.cells (wc 0).toArray 23)
  have b2 := (Blk.new ((w.alloc (.cells (wc N).toArray 23)).alloc (.cells (wc M).toArray 23)) (wc 0) 23 (b := w.heap.size + 1 + 1) (by simp)).old (.cells (wc 0).toArray 23)
  have b3 := Blk.new (((w.alloc (.cells (wc N).toArray 23)).alloc (.cells (wc M).toArray 23)).alloc (.cells (wc 0).toArray 23)) (wc 0) 23 (b := w.heap.size + 1 + 1 + 1) (by simp)
  have hb : Below w.heap.size w ((((w.alloc (.cells (wc N).toArray 23)).alloc (.cells (wc M).toArray 23)).alloc (.cells (wc 0).toArray 23)).alloc (.cells (wc 0).toArray 23)) := ((((Below.refl _ _).alloc (Nat.le_refl _) _).alloc (by simp) _).alloc (by simp; omega) _).alloc (by simp; omega) _
  go_enter Try.func69, Try.ntmps69
  go_wp2_with (first | (with_reducible refine alA rfl rfl ?_))
  try rw [show (((w.alloc (.cells (wc N).toArray 23)).alloc (.cells (wc M).toArray 23)).alloc (.cells (wc 0).toArray 23)).heap.size = w.heap.size + 1 + 1 + 1 by simp]
  generalize (((w.alloc (.cells (wc N).toArray 23)).alloc (.cells (wc M).toArray 23)).alloc (.cells (wc 0).toArray 23)).alloc (.cells (wc 0).toArray 23) = W at *
  refine rg_start [] (by kernel_rfl) (fun hS => ?_)
  replace b0 := b0.drew
  replace b1 := b1.drew
  replace b2 := b2.drew
  replace b3 := b3.drew
  refine rg_ld 0 rfl (by kernel_rfl) (by kernel_rfl) (by kernel_rfl) (by rfl) hS rfl rfl b0 (by simp <;> omega) (whole23 _) ?_
  try simp only [Act.put, List.setIfInBounds_toArray, List.set_cons_zero, List.set_cons_succ]
  refine rg_ld 2 rfl (by kernel_rfl) (by kernel_rfl) (by kernel_rfl) (by rfl) hS rfl rfl b1 (by simp <;> omega) (whole23 _) ?_
  try simp only [Act.put, List.setIfInBounds_toArray, List.set_cons_zero, List.set_cons_succ]
  refine rg_eff 1 rfl (by kernel_rfl) (by rfl) (fun K hK => ?_)
  go_simp
  refine (length_any N _ HN.out).mono ?_
  rintro e w1 ⟨rfl, hb1⟩
  refine hK _ _ (hS.call hb1) (fun hS => ?_)
  clear hK K
  replace b0 := b0.call hb1
  replace b1 := b1.call hb1
  replace b2 := b2.call hb1
  replace b3 := b3.call hb1
  try simp only [Act.put, List.setIfInBounds_toArray, List.set_cons_zero, List.set_cons_succ]
  refine rg_eff 3 rfl (by kernel_rfl) (by rfl) (fun K hK => ?_)
  go_simp
  refine (length_any M _ HM.out).mono ?_
  rintro e w2 ⟨rfl, hb2⟩
  refine hK _ _ (hS.call hb2) (fun hS => ?_)
  clear hK K
  replace b0 := b0.call hb2
  replace b1 := b1.call hb2
  replace b2 := b2.call hb2
  replace b3 := b3.call hb2
  try simp only [Act.put, List.setIfInBounds_toArray, List.set_cons_zero, List.set_cons_succ]
  refine rg_take 4 rfl (by kernel_rfl) (by kernel_rfl) (by kernel_rfl) (by rfl) hS (v := ?_) ?_ ?_
  rotate_left
  · (intro w' hS'; go_simp <;> try with_reducible rfl)
  try simp only [Act.put, List.setIfInBounds_toArray, List.set_cons_zero, List.set_cons_succ]
  refine rg_take 5 rfl (by kernel_rfl) (by kernel_rfl) (by kernel_rfl) (by rfl) hS (v := ?_) ?_ ?_
  rotate_left
  · (intro w' hS'; go_simp <;> try with_reducible rfl)
  try simp only [Act.put, List.setIfInBounds_toArray, List.set_cons_zero, List.set_cons_succ]
  refine rg_done (by kernel_rfl) ?_
  have hb' := bthen (bthen hb.drew hb1) hb2
  clear hb hb1 hb2 hS
  go_wp2_with fail
  refine rg_start [w.heap.size + 1 + 1, w.heap.size + 1 + 1 + 1] (by kernel_rfl) (fun hS => ?_)
  replace b2 := b2.drew
  replace b3 := b3.drew
  have hb := hb'.drew
  refine rg_build 0 rfl (by kernel_rfl) (by kernel_rfl) (by kernel_rfl) (by rfl) hS rfl built23e (by simp [Act.eval]) ?_
  try simp only [Act.put, List.setIfInBounds_toArray, List.set_cons_zero, List.set_cons_succ]
  refine rg_ld 1 rfl (by kernel_rfl) (by kernel_rfl) (by kernel_rfl) (by rfl) hS rfl rfl b0 (by simp <;> omega) (whole23 _) ?_
  try simp only [Act.put, List.setIfInBounds_toArray, List.set_cons_zero, List.set_cons_succ]
  refine rg_eff 2 rfl (by kernel_rfl) (by rfl) (fun K hK => ?_)
  refine wp_st (vs := wc 0) rfl rfl rfl b2 (wc_len2 _ _) (whole23 _) (wc_one _) ?_
  refine hK _ _ (hS.row (.inl (by simp)) _) (fun hS => ?_)
  clear hK K
  replace b3 := b3.rowOther (g := w.heap.size + 1 + 1) (wc 0).toArray (by omega)
  replace b2 := b2.row (wc 0)
  replace hb := below_row hb (g := w.heap.size + 1 + 1) (by omega) (wc 0).toArray
  try simp only [Act.put, List.setIfInBounds_toArray, List.set_cons_zero, List.set_cons_succ]
  refine rg_eff 3 rfl (by kernel_rfl) (by rfl) (fun K hK => ?_)
  refine wp_st (vs := wc N) rfl rfl rfl b3 (wc_len2 _ _) (whole23 _) (wc_one _) ?_
  refine hK _ _ (hS.row (.inl (by simp)) _) (fun hS => ?_)
  clear hK K
  try simp only [Act.put, List.setIfInBounds_toArray, List.set_cons_zero, List.set_cons_succ]
  refine rg_done (by kernel_rfl) ?_
  go_wp2
  refine ret_cc (cs := wc 0) (cs' := wc N) rfl rfl rfl rfl (whole23 _) (whole23 _) (b2.rowOther _ (by omega)) (b3.row _) ⟨?_, below_row hb (by omega) _⟩
  rw [HE.out.1, HE.out.2]
theorem lowUint_small (N : Nat) (h : N % bb ^ 2 = N) (w : World) :
    Calls Try.prog 74 #[.agg (wc N).toArray] w fun e w' => e = .returned (.int .u64 (N : Nat)) ∧ Below w.heap.size w w' :=
  (lowUint_any N w).mono fun _ _ ⟨he, hb⟩ => ⟨he.trans (by rw [h]), hb⟩
set_option maxHeartbeats 1000000 in
set_option maxRecDepth 100000 in
theorem divide_two (N M : Nat) (w : World) (hN : N < bb ^ 32) (hM : M < bb ^ 32) (h0 : M ≠ 0) (hge : nw M ≤ nw N) (h2 : nw N ≤ 2) :
    Calls Try.prog 69 #[.agg (wc N).toArray, .agg (wc M).toArray] w (DivPost w N M) := by
  have HN := Lib.hid hN
  have HM := Lib.hid hM
  have hge' : ¬ (nw N : Int) < (nw M : Int) := by omega
  have h2' : (nw N : Int) ≤ 2 := by omega
  have hN2 : N < bb ^ 2 := Nat.lt_of_lt_of_le (nw_lt N) (bp_mono h2)
  have hM2 : M < bb ^ 2 := Nat.lt_of_lt_of_le (nw_lt M) (bp_mono (by omega))
  have HN2 : Hid (N % bb ^ 2 = N) := Nat.mod_eq_of_lt hN2
  have HM2 : Hid (M % bb ^ 2 = M) := Nat.mod_eq_of_lt hM2
  have HNle : Hid (N ≤ 18446744073709551615) := by
    show N ≤ 18446744073709551615
    rw [bb_eq] at hN2; omega
  obtain ⟨q, hq⟩ : ∃ q, N / M = q := ⟨_, rfl⟩
  obtain ⟨r, hr⟩ : ∃ r, N % M = r := ⟨_, rfl⟩
  have HQ : Hid (q ≤ 18446744073709551615) := hq ▸ Nat.le_trans (Nat.div_le_self N M) HNle.out
  have HMod : Hid (r ≤ 18446744073709551615) := hr ▸ Nat.le_trans (Nat.mod_le N M) HNle.out
  have E1 : IntKind.u64.wrap ((N : Int) / (M : Int)) = (q : Int) := by
    rw [IntKind.wrap_u64, ← hq]
    have := HNle.out
    have h3 := Nat.div_le_self N M
    rw [show (N : Int) / (M : Int) = ((N / M : Nat) : Int) by push_cast; rfl]
    generalize N / M = x at *
    omega
  have E2 : (N : Int).tmod (M : Int) = (r : Int) := by rw [← hr]; exact (Int.ofNat_tmod N M).symm
  have HA : Hid (N / M = q) := hq
  have HB : Hid (N % M = r) := hr
  clear hN hM hge h2 hN2 hM2 hq hr
  have b0 := (((Blk.new w (wc N) 23 rfl).old (.cells (wc M).toArray 23)).old (.cells (wc 0).toArray 23)).old (.cells (wc 0).toArray 23)
  have b1 := ((Blk.new (w.alloc (.cells (wc N).toArray 23)) (wc M) 23 (b := w.heap.size + 1) (by simp)).old (.cells (wc 0).toArray 23)).old (.cells (wc 0).toArray 23)
  have b2 := (Blk.new ((w.alloc (.cells (wc N).toArray 23)).alloc (.cells (wc M).toArray 23)) (wc 0) 23 (b := w.heap.size + 1 + 1) (by simp)).old (.cells (wc 0).toArray 23)
  have b3 := Blk.new (((w.alloc (.cells (wc N).toArray 23)).alloc (.cells (wc M).toArray 23)).alloc (.cells (wc 0).toArray 23)) (wc 0) 23 (b := w.heap.size + 1 + 1 + 1) (by simp)
  have hb : Below w.heap.size w ((((w.alloc (.cells (wc N).toArray 23)).alloc (.cells (wc M).toArray 23)).alloc (.cells (wc 0).toArray 23)).alloc (.cells (wc 0).toArray 23)) := ((((Below.refl _ _).alloc (Nat.le_refl _) _).alloc (by simp) _).alloc (by simp; omega) _).alloc (by simp; omega) _
  go_enter Try.func69, Try.ntmps69
  go_wp2_with (first | (with_reducible refine alA rfl rfl ?_))
  try rw [show (((w.alloc (.cells (wc N).toArray 23)).alloc (.cells (wc M).toArray 23)).alloc (.cells (wc 0).toArray 23)).heap.size = w.heap.size + 1 + 1 + 1 by simp]
  generalize (((w.alloc (.cells (wc N).toArray 23)).alloc (.cells (wc M).toArray 23)).alloc (.cells (wc 0).toArray 23)).alloc (.cells (wc 0).toArray 23) = W at *
  refine rg_start [] (by kernel_rfl) (fun hS => ?_)
  replace b0 := b0.drew
  replace b1 := b1.drew
  replace b2 := b2.drew
  replace b3 := b3.drew
  refine rg_ld 0 rfl (by kernel_rfl) (by kernel_rfl) (by kernel_rfl) (by rfl) hS rfl rfl b0 (by simp <;> omega) (whole23 _) ?_
  try simp only [Act.put, List.setIfInBounds_toArray, List.set_cons_zero, List.set_cons_succ]
  refine rg_ld 2 rfl (by kernel_rfl) (by kernel_rfl) (by kernel_rfl) (by rfl) hS rfl rfl b1 (by simp <;> omega) (whole23 _) ?_
  try simp only [Act.put, List.setIfInBounds_toArray, List.set_cons_zero, List.set_cons_succ]
  refine rg_eff 1 rfl (by kernel_rfl) (by rfl) (fun K hK => ?_)
  go_simp
  refine (length_any N _ HN.out).mono ?_
  rintro e w1 ⟨rfl, hb1⟩
  refine hK _ _ (hS.call hb1) (fun hS => ?_)
  clear hK K
  replace b0 := b0.call hb1
  replace b1 := b1.call hb1
  replace b2 := b2.call hb1
  replace b3 := b3.call hb1
  try simp only [Act.put, List.setIfInBounds_toArray, List.set_cons_zero, List.set_cons_succ]
  refine rg_eff 3 rfl (by kernel_rfl) (by rfl) (fun K hK => ?_)
  go_simp
  refine (length_any M _ HM.out).mono ?_
  rintro e w2 ⟨rfl, hb2⟩
  refine hK _ _ (hS.call hb2) (fun hS => ?_)
  clear hK K
  replace b0 := b0.call hb2
  replace b1 := b1.call hb2
  replace b2 := b2.call hb2
  replace b3 := b3.call hb2
  try simp only [Act.put, List.setIfInBounds_toArray, List.set_cons_zero, List.set_cons_succ]
  refine rg_take 4 rfl (by kernel_rfl) (by kernel_rfl) (by kernel_rfl) (by rfl) hS (v := ?_) ?_ ?_
  rotate_left
  · (intro w' hS'; go_simp <;> try with_reducible rfl)
  try simp only [Act.put, List.setIfInBounds_toArray, List.set_cons_zero, List.set_cons_succ]
  refine rg_take 5 rfl (by kernel_rfl) (by kernel_rfl) (by kernel_rfl) (by rfl) hS (v := ?_) ?_ ?_
  rotate_left
  · (intro w' hS'; go_simp <;> try with_reducible rfl)
  try simp only [Act.put, List.setIfInBounds_toArray, List.set_cons_zero, List.set_cons_succ]
  refine rg_done (by kernel_rfl) ?_
  have hb' := bthen (bthen hb.drew hb1) hb2
  clear hb hb1 hb2 hS
  go_wp2_with fail
  refine rg_start [] (by kernel_rfl) (fun hS => ?_)
  replace b0 := b0.drew
  replace b1 := b1.drew
  replace b2 := b2.drew
  replace b3 := b3.drew
  refine rg_ld 0 rfl (by kernel_rfl) (by kernel_rfl) (by kernel_rfl) (by rfl) hS rfl rfl b0 (by simp <;> omega) (whole23 _) ?_
  try simp only [Act.put, List.setIfInBounds_toArray, List.set_cons_zero, List.set_cons_succ]
  refine rg_ld 2 rfl (by kernel_rfl) (by kernel_rfl) (by kernel_rfl) (by rfl) hS rfl rfl b1 (by simp <;> omega) (whole23 _) ?_
  try simp only [Act.put, List.setIfInBounds_toArray, List.set_cons_zero, List.set_cons_succ]
  refine rg_eff 1 rfl (by kernel_rfl) (by rfl) (fun K hK => ?_)
  go_simp
  refine (lowUint_small N HN2.out _).mono ?_
  rintro e w1 ⟨rfl, hb1⟩
  refine hK _ _ (hS.call hb1) (fun hS => ?_)
  clear hK K
  replace b0 := b0.call hb1
  replace b1 := b1.call hb1
  replace b2 := b2.call hb1
  replace b3 := b3.call hb1
  try simp only [Act.put, List.setIfInBounds_toArray, List.set_cons_zero, List.set_cons_succ]
  refine rg_eff 3 rfl (by kernel_rfl) (by rfl) (fun K hK => ?_)
  go_simp
  refine (lowUint_small M HM2.out _).mono ?_
  rintro e w2 ⟨rfl, hb2⟩
  refine hK _ _ (hS.call hb2) (fun hS => ?_)
  clear hK K
  replace b0 := b0.call hb2
  replace b1 := b1.call hb2
  replace b2 := b2.call hb2
  replace b3 := b3.call hb2
  try simp only [Act.put, List.setIfInBounds_toArray, List.set_cons_zero, List.set_cons_succ]
  refine rg_take 4 rfl (by kernel_rfl) (by kernel_rfl) (by kernel_rfl) (by rfl) hS (v := ?_) ?_ ?_
  rotate_left
  · (intro w' hS'; go_simp <;> try with_reducible rfl)
  try simp only [Act.put, List.setIfInBounds_toArray, List.set_cons_zero, List.set_cons_succ]
  refine rg_take 5 rfl (by kernel_rfl) (by kernel_rfl) (by kernel_rfl) (by rfl) hS (v := ?_) ?_ ?_
  rotate_left
  · (intro w' hS'; go_simp <;> try with_reducible rfl)
  try simp only [Act.put, List.setIfInBounds_toArray, List.set_cons_zero, List.set_cons_succ]
  refine rg_done (by kernel_rfl) ?_
  replace hb' := bthen (bthen hb'.drew hb1) hb2
  clear hb1 hb2 hS
  go_wp2_with fail
  refine rg_start [w.heap.size + 1 + 1, w.heap.size + 1 + 1 + 1] (by kernel_rfl) (fun hS => ?_)
  replace b2 := b2.drew
  replace b3 := b3.drew
  have hb := hb'.drew
  refine rg_take 0 rfl (by kernel_rfl) (by kernel_rfl) (by kernel_rfl) (by rfl) hS (v := ?_) ?_ ?_
  rotate_left
  · (intro w' hS'; go_simp <;> try with_reducible rfl)
  try simp only [Act.put, List.setIfInBounds_toArray, List.set_cons_zero, List.set_cons_succ]
  refine rg_take 1 rfl (by kernel_rfl) (by kernel_rfl) (by kernel_rfl) (by rfl) hS (v := ?_) ?_ ?_
  rotate_left
  · (intro w' hS'; go_simp <;> try with_reducible rfl)
  try simp only [Act.put, List.setIfInBounds_toArray, List.set_cons_zero, List.set_cons_succ]
  refine rg_take 2 rfl (by kernel_rfl) (by kernel_rfl) (by kernel_rfl) (by rfl) hS (v := ?_) ?_ ?_
  rotate_left
  · (intro w' hS'; go_simp <;> try with_reducible rfl)
  try simp only [Act.put, List.setIfInBounds_toArray, List.set_cons_zero, List.set_cons_succ]
  refine rg_take 4 rfl (by kernel_rfl) (by kernel_rfl) (by kernel_rfl) (by rfl) hS (v := ?_) ?_ ?_
  rotate_left
  · (intro w' hS'; go_simp <;> try with_reducible rfl)
  try simp only [Act.put, List.setIfInBounds_toArray, List.set_cons_zero, List.set_cons_succ]
  refine rg_take 5 rfl (by kernel_rfl) (by kernel_rfl) (by kernel_rfl) (by rfl) hS (v := ?_) ?_ ?_
  rotate_left
  · (intro w' hS'; go_simp <;> try with_reducible rfl)
  try simp only [Act.put, List.setIfInBounds_toArray, List.set_cons_zero, List.set_cons_succ]
  refine rg_take 6 rfl (by kernel_rfl) (by kernel_rfl) (by kernel_rfl) (by rfl) hS (v := ?_) ?_ ?_
  rotate_left
  · (intro w' hS'; go_simp <;> try with_reducible rfl)
  try simp only [Act.put, List.setIfInBounds_toArray, List.set_cons_zero, List.set_cons_succ]
  refine rg_eff 3 rfl (by kernel_rfl) (by rfl) (fun K hK => ?_)
  go_simp
  refine (fromUint_any q _ HQ.out).mono ?_
  rintro e w1 ⟨rfl, hb1⟩
  refine hK _ _ (hS.call hb1) (fun hS => ?_)
  clear hK K
  replace b2 := b2.call hb1
  replace b3 := b3.call hb1
  try simp only [Act.put, List.setIfInBounds_toArray, List.set_cons_zero, List.set_cons_succ]
  refine rg_eff 7 rfl (by kernel_rfl) (by rfl) (fun K hK => ?_)
  go_simp
  refine (fromUint_any r _ HMod.out).mono ?_
  rintro e w3 ⟨rfl, hb2⟩
  refine hK _ _ (hS.call hb2) (fun hS => ?_)
  clear hK K
  replace b2 := b2.call hb2
  replace b3 := b3.call hb2
  try simp only [Act.put, List.setIfInBounds_toArray, List.set_cons_zero, List.set_cons_succ]
  refine rg_eff 8 rfl (by kernel_rfl) (by rfl) (fun K hK => ?_)
  refine wp_st (vs := wc q) rfl rfl rfl b2 (wc_len2 _ _) (whole23 _) (wc_one _) ?_
  refine hK _ _ (hS.row (.inl (by simp)) _) (fun hS => ?_)
  clear hK K
  replace b3 := b3.rowOther (g := w.heap.size + 1 + 1) (wc q).toArray (by omega)
  replace b2 := b2.row (wc q)
  replace hb := below_row (bthen (bthen hb hb1) hb2) (g := w.heap.size + 1 + 1) (by omega) (wc q).toArray
  try simp only [Act.put, List.setIfInBounds_toArray, List.set_cons_zero, List.set_cons_succ]
  refine rg_eff 9 rfl (by kernel_rfl) (by rfl) (fun K hK => ?_)
  refine wp_st (vs := wc r) rfl rfl rfl b3 (wc_len2 _ _) (whole23 _) (wc_one _) ?_
  refine hK _ _ (hS.row (.inl (by simp)) _) (fun hS => ?_)
  clear hK K
  try simp only [Act.put, List.setIfInBounds_toArray, List.set_cons_zero, List.set_cons_succ]
  refine rg_done (by kernel_rfl) ?_
  go_wp2
  refine ret_cc (cs := wc q) (cs' := wc r) rfl rfl rfl rfl (whole23 _) (whole23 _) (b2.rowOther _ (by omega)) (b3.row _) ⟨?_, below_row hb (by omega) _⟩
  rw [HA.out, HB.out]
end Go.Proofs.Ytcfncekphdkphaa
