/- wide.divide, all of it. -/
import Derived.Test.YtcfncekphdkphaaDlg
import Derived.Test.YtcfncekphdkphaaKex
namespace Go.Proofs.Ytcfncekphdkphaa
set_option linter.unusedSimpArgs false
set_option linter.unusedVariables false
open Go.RowKit
set_option maxRecDepth 100000
theorem built23o (x : Int) : Try.prog.built 23 [(0, .int .u32 x)] = some (Value.int .u32 x :: (wc 0).drop 1).toArray := by kernel_rfl
theorem wc_oneword {r : Nat} (h : r < bb) : (Value.int .u32 (r : Nat) :: (wc 0).drop 1) = wc r := by
  have := wc_set (X := 0) (k := 0) (v := r) (by simp) h
  rw [Nat.pow_zero, Nat.one_mul, Nat.zero_add] at this
  rw [← this]
  rfl
theorem bdA1 {ops : Array Oper} {rest : List Oper} {o : Oper} {a : Act} {w : World} {Q : Exit → Act → World → Prop} {p : Operand} {u : Nat} (hu : u < bb) (hgd : o.guard = none) (ho : o.op = .build 23 #[(0, p)]) (hp : a.eval p = .int .u32 (u : Nat))
    (hr : wpList Try.prog ops Q rest (a.put o.dst (.agg (wc u).toArray)) w) : wpList Try.prog ops Q (o :: rest) a w :=
  wpList_plain hgd fun K hK => by
    have := hK _ _ hr
    unfold Oper.wp execOp
    simp only [ho, Sem.run_bind]
    rw [show Array.map (fun x : Nat × Operand => (x.fst, a.eval x.snd)) #[(0, p)] = #[(0, .int .u32 (u : Nat))] by simp [hp], run_build w 23 _ _ (built23o _), wc_oneword hu]
    exact this
set_option maxHeartbeats 1000000 in
theorem divide_great (N M : Nat) (w : World) (hN : N < bb ^ 32) (hM : M < bb ^ 32) (h0 : M ≠ 0) (hge : nw M ≤ nw N) (h2 : ¬ nw N ≤ 2) :
    Calls Try.prog 69 #[.agg (wc N).toArray, .agg (wc M).toArray] w (DivPost w N M) := by
  have HN := Lib.hid hN
  have HM := Lib.hid hM
  have H0 := Lib.hid h0
  have hge' : ¬ (nw N : Int) < (nw M : Int) := by omega
  have h2' : ¬ (nw N : Int) ≤ 2 := by omega
  have hn32 := nw_le_of hN
  have HNn := Lib.hid (nw_lt N)
  have HMn := Lib.hid (nw_lt M)
  have HMl := Lib.hid (nw_le M h0)
  have hm0 : nw M ≠ 0 := fun h => h0 (nw_zero.1 h)
  clear hN hM h0
  have b0 := (((Blk.new w (wc N) 23 rfl).old (.cells (wc M).toArray 23)).old (.cells (wc 0).toArray 23)).old (.cells (wc 0).toArray 23)
  have b1 := ((Blk.new (w.alloc (.cells (wc N).toArray 23)) (wc M) 23 (b := w.heap.size + 1) (by simp)).old (.cells (wc 0).toArray 23)).old (.cells (wc 0).toArray 23)
  have b2 := (Blk.new ((w.alloc (.cells (wc N).toArray 23)).alloc (.cells (wc M).toArray 23)) (wc 0) 23 (b := w.heap.size + 1 + 1) (by simp)).old (.cells (wc 0).toArray 23)
  have b3 := Blk.new (((w.alloc (.cells (wc N).toArray 23)).alloc (.cells (wc M).toArray 23)).alloc (.cells (wc 0).toArray 23)) (wc 0) 23 (b := w.heap.size + 1 + 1 + 1) (by simp)
  have hb : Below w.heap.size w ((((w.alloc (.cells (wc N).toArray 23)).alloc (.cells (wc M).toArray 23)).alloc (.cells (wc 0).toArray 23)).alloc (.cells (wc 0).toArray 23)) := ((((Below.refl _ _).alloc (Nat.le_refl _) _).alloc (by simp) _).alloc (by simp; omega) _).alloc (by simp; omega) _
  go_enter Try.func69, Try.ntmps69
  go_wp2_with (first | (with_reducible refine alA rfl rfl ?_))
  try rw [show (((w.alloc (.cells (wc N).toArray 23)).alloc (.cells (wc M).toArray 23)).alloc (.cells (wc 0).toArray 23)).heap.size = w.heap.size + 1 + 1 + 1 by simp]
  generalize (((w.alloc (.cells (wc N).toArray 23)).alloc (.cells (wc M).toArray 23)).alloc (.cells (wc 0).toArray 23)).alloc (.cells (wc 0).toArray 23) = W at *
  refine rg_start [] (by kernel_rfl) (fun hS => ?_)
  replace b0 := b0.drew
  replace b1 := b1.drew
  replace b2 := b2.drew
  replace b3 := b3.drew
  refine rg_ld 0 rfl (by kernel_rfl) (by kernel_rfl) (by kernel_rfl) (by rfl) hS rfl rfl b0 (by simp <;> omega) (whole23 _) ?_
  try simp only [Act.put, List.setIfInBounds_toArray, List.set_cons_zero, List.set_cons_succ]
  refine rg_ld 2 rfl (by kernel_rfl) (by kernel_rfl) (by kernel_rfl) (by rfl) hS rfl rfl b1 (by simp <;> omega) (whole23 _) ?_
  try simp only [Act.put, List.setIfInBounds_toArray, List.set_cons_zero, List.set_cons_succ]
  refine rg_eff 1 rfl (by kernel_rfl) (by rfl) (fun K hK => ?_)
  go_simp
  refine (length_any N _ HN.out).mono ?_
  rintro e w1 ⟨rfl, hb1⟩
  refine hK _ _ (hS.call hb1) (fun hS => ?_)
  clear hK K
  replace b0 := b0.call hb1
  replace b1 := b1.call hb1
  replace b2 := b2.call hb1
  replace b3 := b3.call hb1
  try simp only [Act.put, List.setIfInBounds_toArray, List.set_cons_zero, List.set_cons_succ]
  refine rg_eff 3 rfl (by kernel_rfl) (by rfl) (fun K hK => ?_)
  go_simp
  refine (length_any M _ HM.out).mono ?_
  rintro e w2 ⟨rfl, hb2⟩
  refine hK _ _ (hS.call hb2) (fun hS => ?_)
  clear hK K
  replace b0 := b0.call hb2
  replace b1 := b1.call hb2
  replace b2 := b2.call hb2
  replace b3 := b3.call hb2
  try simp only [Act.put, List.setIfInBounds_toArray, List.set_cons_zero, List.set_cons_succ]
  refine rg_take 4 rfl (by kernel_rfl) (by kernel_rfl) (by kernel_rfl) (by rfl) hS (v := ?_) ?_ ?_
  rotate_left
  · (intro w' hS'; go_simp <;> try with_reducible rfl)
  try simp only [Act.put, List.setIfInBounds_toArray, List.set_cons_zero, List.set_cons_succ]
  refine rg_take 5 rfl (by kernel_rfl) (by kernel_rfl) (by kernel_rfl) (by rfl) hS (v := ?_) ?_ ?_
  rotate_left
  · (intro w' hS'; go_simp <;> try with_reducible rfl)
  try simp only [Act.put, List.setIfInBounds_toArray, List.set_cons_zero, List.set_cons_succ]
  refine rg_done (by kernel_rfl) ?_
  replace hb := bthen (bthen hb.drew hb1) hb2
  clear hb1 hb2 hS
  by_cases h1 : nw M = 1
  · have E : ((nw M : Nat) : Int) = 1 := by omega
    have HMlt : Hid (M < bb) := by
      show M < bb
      have := HMn.out; rw [h1, Nat.pow_one] at this; exact this
    have HMd : Hid (dig M 0 = M) := by
      show dig M 0 = M
      unfold dig; rw [Nat.pow_zero, Nat.div_one, Nat.mod_eq_of_lt HMlt.out]
    have c1 := b1.cell (wc_get M 0 (by omega))
    rw [HMd.out] at c1
    go_wp2_with (first | (with_reducible refine ldA rfl rfl rfl b0 ?_))
    refine (divideWord_any N M _ HN.out (by have := H0.out; omega) (by have := HMlt.out; rw [bb_eq] at this; omega)).mono ?_
    rintro e w3 ⟨rfl, h3⟩
    replace b2 := b2.call h3
    replace b3 := b3.call h3
    replace hb := bthen hb h3
    clear h3 c1
    have f4 := Blk.new w3 (wc 0) 23 rfl
    have l2 := b2.lt
    have l3 := b3.lt
    have b4 := f4.row (wc (N / M))
    replace b2 := (b2.old (.cells (wc 0).toArray 23)).rowOther (g := w3.heap.size) (wc (N / M)).toArray (by omega)
    replace b3 := (b3.old (.cells (wc 0).toArray 23)).rowOther (g := w3.heap.size) (wc (N / M)).toArray (by omega)
    replace hb := below_row (hb.alloc hb.size (.cells (wc 0).toArray 23)) (g := w3.heap.size) (by omega) (wc (N / M)).toArray
    have d3 := b3.rowOther (g := w.heap.size + 1 + 1) (wc (N / M)).toArray (by omega)
    go_wp2_with (first | (with_reducible refine alA rfl rfl ?_) | (with_reducible refine stA rfl rfl rfl rfl f4 ?_) | (with_reducible refine ldA rfl rfl rfl b4 ?_) | (with_reducible refine bdA1 (Nat.lt_trans (Nat.mod_lt N (by have := H0.out; omega)) HMlt.out) rfl rfl rfl ?_) | (with_reducible refine stA rfl rfl rfl rfl b2 ?_) | (with_reducible refine stA rfl rfl rfl rfl d3 ?_))
    exact ret_cc (cs := wc (N / M)) (cs' := wc (N % M)) rfl rfl rfl rfl (whole23 _) (whole23 _) ((b2.row _).rowOther _ (by omega)) (d3.row _) ⟨rfl, below_row (below_row hb (by omega) _) (by omega) _⟩
  · have E : ¬ ((nw M : Nat) : Int) = 1 := by omega
    obtain ⟨i, hi⟩ : ∃ i, nw M = i + 2 := ⟨nw M - 2, by omega⟩
    have d3 := (b3.rowOther (g := w.heap.size + 1 + 1) (wc (N / M)).toArray (by omega))
    clear d3
    go_wp2_with (first | (with_reducible refine ldA rfl rfl rfl b0 ?_) | (with_reducible refine ldA rfl rfl rfl b1 ?_))
    have DL := divideLong_any N M (nw N) i w2 HNn.out hn32 (by have := HMn.out; rwa [hi] at this) (by have := HMl.out; rwa [hi] at this) (by omega)
    rw [show ((i + 2 : Nat) : Int) = (i : Int) + 2 by omega] at DL
    refine DL.mono ?_
    clear DL
    rintro e w3 ⟨rfl, h3⟩
    replace b2 := b2.call h3
    replace b3 := b3.call h3
    replace hb := bthen hb h3
    clear h3
    have d3 := b3.rowOther (g := w.heap.size + 1 + 1) (wc (N / M)).toArray (by omega)
    go_wp2_with (first | (with_reducible refine stA rfl rfl rfl rfl b2 ?_) | (with_reducible refine stA rfl rfl rfl rfl d3 ?_))
    exact ret_cc (cs := wc (N / M)) (cs' := wc (N % M)) rfl rfl rfl rfl (whole23 _) (whole23 _) ((b2.row _).rowOther _ (by omega)) (d3.row _) ⟨rfl, below_row (below_row hb (by omega) _) (by omega) _⟩
/-- Division, of whatever numbers. -/
theorem divOk {B : Nat} (h : B < bb ^ 32) : DivOk B := fun N M w hN hM h0 => by
  have hN' : N < bb ^ 32 := Nat.lt_of_le_of_lt hN h
  have hM' : M < bb ^ 32 := Nat.lt_of_le_of_lt hM h
  rcases Nat.lt_or_ge (nw N) (nw M) with h1 | h1
  · exact divide_less N M w hN' hM' h1
  · by_cases h2 : nw N ≤ 2
    · exact divide_two N M w hN' hM' h0 h1 h2
    · exact divide_great N M w hN' hM' h0 h1 h2
end Go.Proofs.Ytcfncekphdkphaa
