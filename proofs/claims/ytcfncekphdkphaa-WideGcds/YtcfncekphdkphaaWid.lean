/- The calls of package wide on numbers as they are written: sums, differences, order, signs. -/
import Derived.Test.YtcfncekphdkphaaAdd
namespace Go.Proofs.Ytcfncekphdkphaa
set_option linter.unusedSimpArgs false
set_option linter.unusedVariables false
open Go.RowKit
set_option maxRecDepth 100000
/-- The cells cs are a Wide that stands for x. -/
def Wd (cs : List Value) (x : Int) : Prop := ∃ s N, cs = wd s N ∧ x = zn s N ∧ N < bb ^ 32
theorem Wd.len {cs : List Value} {x : Int} (h : Wd cs x) : cs.length = 33 := by obtain ⟨s, N, rfl, _, _⟩ := h; exact wd_length _ _
theorem Wd.one {cs : List Value} {x : Int} (h : Wd cs x) : ∀ v ∈ cs, v.oneCell' = true := by obtain ⟨s, N, rfl, _, _⟩ := h; exact wd_one _ _
theorem Wd.fits {cs : List Value} {x : Int} (h : Wd cs x) : fits x := by obtain ⟨s, N, rfl, rfl, h⟩ := h; rwa [Go.Proofs.Ytcfncekphdkphaa.fits, zn_abs]
theorem zn_self (z : Int) : zn (decide (z < 0)) z.natAbs = z := by unfold zn; by_cases h : z < 0 <;> simp [h] <;> omega
theorem wd_of {z : Int} (h : fits z) : Wd (mk z) z := ⟨_, _, rfl, (zn_self z).symm, h⟩
theorem wholeC {cs : List Value} (h : cs.length = 33) : Whole Try.prog 25 cs.length := by
  obtain ⟨d, h1, h2⟩ := under25
  exact ⟨d, h1, h2, by rw [h]; exact size25⟩
theorem fits_of {n : Int} (h1 : -18446744073709551616 < n) (h2 : n < 18446744073709551616) : fits n :=
  Nat.lt_of_lt_of_le (by rw [bb_eq]; omega : n.natAbs < bb ^ 2) (bp_mono (by omega))
section
variable {ops : Array Oper} {rest : List Oper} {o : Oper} {a : Act} {w : World} {Q : Exit → Act → World → Prop}
theorem stC {t : TypeId} {x y : Operand} {b : Nat} {vs cs : List Value} (hgd : o.guard = none) (ho : o.op = .store 25 x y) (hx : a.eval x = .pointer (some ⟨b, 0, none⟩)) (hy : a.eval y = .agg vs.toArray) (h : Blk w b cs t) (hl : cs.length = 33) (z : Int) (hv : Wd vs z)
    (hr : wpList Try.prog ops Q rest (a.put o.dst undef) (w.setRow b vs.toArray)) : wpList Try.prog ops Q (o :: rest) a w :=
  st_blk hgd ho hx hy h (by rw [hl, hv.len]) (by rw [hv.len]; exact size25) hv.one hr
theorem ldC {t : TypeId} {x : Operand} {b : Nat} {cs : List Value} (hgd : o.guard = none) (ho : o.op = .load 25 x) (hx : a.eval x = .pointer (some ⟨b, 0, none⟩)) (h : Blk w b cs t) (hl : cs.length = 33)
    (hr : wpList Try.prog ops Q rest (a.put o.dst (.agg cs.toArray)) w) : wpList Try.prog ops Q (o :: rest) a w := by
  obtain ⟨d, hu, hd⟩ := under25
  exact ld_blk hgd ho hx h d hu hd (by rw [hl]; exact size25) hr
end
/-- What a call of one result, of two, of three answers; nothing that was there has turned. -/
def Ans (w : World) (v : Value) (e : Ending) (w' : World) : Prop := e = .returned v ∧ Below w.heap.size w w'
theorem From_w (n : Int) (w : World) (h1 : -9223372036854775808 ≤ n) (h2 : n ≤ 9223372036854775807) :
    Calls Try.prog 25 #[.int .i64 n] w fun e w' => e = .returned (.agg (mk n).toArray) ∧ Below w.heap.size w w' := From_any n w h1 h2
theorem Add_w {cs ds : List Value} {x y : Int} (hx : Wd cs x) (hy : Wd ds y) (w : World) (h : fits (x + y)) :
    Calls Try.prog 13 #[.agg cs.toArray, .agg ds.toArray] w fun e w' => e = .returned (.tuple #[.agg (mk (x + y)).toArray, .bool true]) ∧ Below w.heap.size w w' := by
  obtain ⟨s, N, rfl, rfl, hN⟩ := hx
  obtain ⟨t, M, rfl, rfl, hM⟩ := hy
  exact Add_yes s t N M w hN hM h
theorem Add_wn {cs ds : List Value} {x y : Int} (hx : Wd cs x) (hy : Wd ds y) (w : World) (h : ¬ fits (x + y)) :
    Calls Try.prog 13 #[.agg cs.toArray, .agg ds.toArray] w fun e w' => e = .returned (.tuple #[.agg (mk 0).toArray, .bool false]) ∧ Below w.heap.size w w' := by
  obtain ⟨s, N, rfl, rfl, hN⟩ := hx
  obtain ⟨t, M, rfl, rfl, hM⟩ := hy
  exact Add_no s t N M w hN hM h
theorem Neg_w {cs : List Value} {x : Int} (hx : Wd cs x) (w : World) :
    Calls Try.prog 29 #[.agg cs.toArray] w fun e w' => e = .returned (.agg (mk (-x)).toArray) ∧ Below w.heap.size w w' := by
  obtain ⟨s, N, rfl, rfl, hN⟩ := hx
  exact Neg_any s N w hN
theorem Cmp_w {cs ds : List Value} {x y : Int} (hx : Wd cs x) (hy : Wd ds y) (w : World) :
    Calls Try.prog 27 #[.agg cs.toArray, .agg ds.toArray] w fun e w' => e = .returned (.int .i64 (if x < y then -1 else if y < x then 1 else 0)) ∧ Below w.heap.size w w' := by
  obtain ⟨s, N, rfl, rfl, hN⟩ := hx
  obtain ⟨t, M, rfl, rfl, hM⟩ := hy
  exact Cmp_any s t N M w hN hM
theorem fits_neg {z : Int} (h : fits z) : fits (-z) := by rwa [fits, Int.natAbs_neg]
/-- The walk of Sub, up to what Add answers. -/
theorem Sub_walk {cs ds : List Value} {x y : Int} (hx : Wd cs x) (hy : Wd ds y) (w : World) (z : Int) (b : Bool) (hz : fits z)
    (hA : ∀ w, Calls Try.prog 13 #[.agg cs.toArray, .agg (mk (-y)).toArray] w fun e w' => e = .returned (.tuple #[.agg (mk z).toArray, .bool b]) ∧ Below w.heap.size w w') :
    Calls Try.prog 15 #[.agg cs.toArray, .agg ds.toArray] w fun e w' => e = .returned (.tuple #[.agg (mk z).toArray, .bool b]) ∧ Below w.heap.size w w' := by
  have HA := Lib.hid hA
  clear hA
  have b0 := ((Blk.new w cs 25 rfl).old (.cells ds.toArray 25)).old (.cells (wd false 0).toArray 25)
  have b1 := (Blk.new (w.alloc (.cells cs.toArray 25)) ds 25 (b := w.heap.size + 1) (by simp)).old (.cells (wd false 0).toArray 25)
  have b2 := Blk.new ((w.alloc (.cells cs.toArray 25)).alloc (.cells ds.toArray 25)) (wd false 0) 25 (b := w.heap.size + 1 + 1) (by simp)
  have hb : Below w.heap.size w (((w.alloc (.cells cs.toArray 25)).alloc (.cells ds.toArray 25)).alloc (.cells (wd false 0).toArray 25)) := (((Below.refl _ _).alloc (Nat.le_refl _) _).alloc (by simp) _).alloc (by simp; omega) _
  go_enter Try.func15, Try.ntmps15
  go_wp2_with (first | (with_reducible refine alW rfl rfl ?_))
  generalize ((w.alloc (.cells cs.toArray 25)).alloc (.cells ds.toArray 25)).alloc (.cells (wd false 0).toArray 25) = W at *
  refine rg_start [w.heap.size + 1 + 1] (by kernel_rfl) (fun hS => ?_)
  replace b2 := b2.drew
  have hb := hb.drew
  refine rg_ld 0 rfl (by kernel_rfl) (by kernel_rfl) (by kernel_rfl) (by rfl) hS rfl rfl b0 (by simp <;> omega) (wholeC hx.len) ?_
  try simp only [Act.put, List.setIfInBounds_toArray, List.set_cons_zero, List.set_cons_succ]
  refine rg_ld 1 rfl (by kernel_rfl) (by kernel_rfl) (by kernel_rfl) (by rfl) hS rfl rfl b1 (by simp <;> omega) (wholeC hy.len) ?_
  try simp only [Act.put, List.setIfInBounds_toArray, List.set_cons_zero, List.set_cons_succ]
  refine rg_eff 2 rfl (by kernel_rfl) (by rfl) (fun K hK => ?_)
  go_simp
  refine (Neg_w hy _).mono ?_
  rintro e w1 ⟨rfl, hb1⟩
  refine hK _ _ (hS.call hb1) (fun hS => ?_)
  clear hK K
  replace b2 := b2.call hb1
  try simp only [Act.put, List.setIfInBounds_toArray, List.set_cons_zero, List.set_cons_succ]
  refine rg_eff 3 rfl (by kernel_rfl) (by rfl) (fun K hK => ?_)
  go_simp
  refine (HA.out _).mono ?_
  rintro e w2 ⟨rfl, hb2⟩
  refine hK _ _ (hS.call hb2) (fun hS => ?_)
  clear hK K
  replace b2 := b2.call hb2
  try simp only [Act.put, List.setIfInBounds_toArray, List.set_cons_zero, List.set_cons_succ]
  refine rg_take 4 rfl (by kernel_rfl) (by kernel_rfl) (by kernel_rfl) (by rfl) hS (v := ?_) ?_ ?_
  rotate_left
  · (intro w' hS'; go_simp <;> try with_reducible rfl)
  try simp only [Act.put, List.setIfInBounds_toArray, List.set_cons_zero, List.set_cons_succ]
  refine rg_take 5 rfl (by kernel_rfl) (by kernel_rfl) (by kernel_rfl) (by rfl) hS (v := ?_) ?_ ?_
  rotate_left
  · (intro w' hS'; go_simp <;> try with_reducible rfl)
  try simp only [Act.put, List.setIfInBounds_toArray, List.set_cons_zero, List.set_cons_succ]
  refine rg_eff 6 rfl (by kernel_rfl) (by rfl) (fun K hK => ?_)
  refine wp_st (vs := mk (z)) rfl rfl rfl b2 (by rw [wd_length, mk_length]) (wholeM _) (mk_one _) ?_
  refine hK _ _ (hS.row (.inl (by simp)) _) (fun hS => ?_)
  clear hK K
  try simp only [Act.put, List.setIfInBounds_toArray, List.set_cons_zero, List.set_cons_succ]
  refine rg_take 7 rfl (by kernel_rfl) (by kernel_rfl) (by kernel_rfl) (by rfl) hS (v := ?_) ?_ ?_
  rotate_left
  · (intro w' hS'; go_simp <;> try with_reducible rfl)
  try simp only [Act.put, List.setIfInBounds_toArray, List.set_cons_zero, List.set_cons_succ]
  refine rg_done (by kernel_rfl) ?_
  go_wp2
  exact ret_ct (cs := mk z) (v := .bool b) rfl rfl rfl rfl (wholeM _) (b2.row _) ⟨rfl, below_row (bthen (bthen hb hb1) hb2) (by omega) _⟩
theorem Sub_w {cs ds : List Value} {x y : Int} (hx : Wd cs x) (hy : Wd ds y) (w : World) (h : fits (x - y)) :
    Calls Try.prog 15 #[.agg cs.toArray, .agg ds.toArray] w fun e w' => e = .returned (.tuple #[.agg (mk (x - y)).toArray, .bool true]) ∧ Below w.heap.size w w' :=
  Sub_walk hx hy w (x - y) true h fun w => Add_w hx (wd_of (fits_neg hy.fits)) w h
theorem Sub_wn {cs ds : List Value} {x y : Int} (hx : Wd cs x) (hy : Wd ds y) (w : World) (h : ¬ fits (x - y)) :
    Calls Try.prog 15 #[.agg cs.toArray, .agg ds.toArray] w fun e w' => e = .returned (.tuple #[.agg (mk 0).toArray, .bool false]) ∧ Below w.heap.size w w' :=
  Sub_walk hx hy w 0 false (bp_pos 32) fun w => Add_wn hx (wd_of (fits_neg hy.fits)) w h
end Go.Proofs.Ytcfncekphdkphaa
