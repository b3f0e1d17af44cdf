/- wide.signed, wide.fitting. -/
import Derived.Test.YtcfncekphdkphaaDif
import Derived.Test.YtcfncekphdkphaaReg
namespace Go.Proofs.Ytcfncekphdkphaa
set_option linter.unusedSimpArgs false
set_option linter.unusedVariables false
open Go.RowKit
set_option maxRecDepth 100000
theorem built25 (s : Bool) (N : Nat) : Try.prog.built 25 [(0, .bool s), (1, .agg (wc N).toArray)] = some (wd s N).toArray := by kernel_rfl
theorem build25 (s : Bool) (N : Nat) (w : World) : (Instr.build 25 #[(0, .bool s), (1, .agg (wc N).toArray)]).run Try.prog w = .ok (.agg (wd s N).toArray) w := run_build w 25 _ _ (built25 s N)
theorem build25' (w : World) : (Instr.build 25 #[]).run Try.prog w = .ok (.agg (wd false 0).toArray) w := run_build w 25 _ _ (by kernel_rfl)
attribute [local go_sem ↓] build25 build25'
theorem wd_len2 (s s' : Bool) (N N' : Nat) : (wd s N).length = (wd s' N').length := by rw [wd_length, wd_length]
theorem wc_len2 (N N' : Nat) : (wc N).length = (wc N').length := by rw [wc_length, wc_length]
theorem nw_pos (N : Nat) : decide ((0 : Int) < (nw N : Nat)) = decide (N ≠ 0) := by
  have := nw_zero (N := N)
  by_cases h : N = 0
  · subst h; rfl
  · have h1 : 0 < nw N := by rcases Nat.eq_zero_or_pos (nw N) with h2 | h2; exact absurd (this.1 h2) h; exact h2
    simp [h, h1]
set_option maxHeartbeats 400000 in
set_option maxRecDepth 100000 in
theorem signed_any (s : Bool) (N : Nat) (w : World) (hN : N < bb ^ 32) :
    Calls Try.prog 60 #[.bool s, .agg (wc N).toArray] w fun e w' => e = .returned (.agg (wd (s && decide (N ≠ 0)) N).toArray) ∧ Below w.heap.size w w' := by
  have HN := Lib.hid hN
  clear hN
  have HP := Lib.hid (nw_pos N)
  go_enter Try.func60, Try.ntmps60
  go_wp2_with (first | (with_reducible refine alW rfl rfl ?_))
  have b0 := (Blk.new w (wc N) 23 rfl).old (.cells (wd false 0).toArray 25)
  have b1 := Blk.new (w.alloc (.cells (wc N).toArray 23)) (wd false 0) 25 (b := w.heap.size + 1) (by simp)
  have hb : Below w.heap.size w ((w.alloc (.cells (wc N).toArray 23)).alloc (.cells (wd false 0).toArray 25)) := ((Below.refl _ _).alloc (Nat.le_refl _) _).alloc (by simp) _
  rw [show (w.alloc (.cells (wc N).toArray 23)).heap.size = w.heap.size + 1 by simp]
  generalize (w.alloc (.cells (wc N).toArray 23)).alloc (.cells (wd false 0).toArray 25) = W at *
  cases s
  · refine rg_start [w.heap.size + 1] (by kernel_rfl) (fun hS => ?_)
    have b1 := b1
    refine rg_take 0 rfl (by kernel_rfl) (by kernel_rfl) (by kernel_rfl) (by rfl) hS (v := ?_) ?_ ?_
    rotate_left
    · (intro w' hS'; go_simp <;> try with_reducible rfl)
    try simp only [Act.put, List.setIfInBounds_toArray, List.set_cons_zero, List.set_cons_succ]
    refine rg_take 1 rfl (by kernel_rfl) (by kernel_rfl) (by kernel_rfl) (by rfl) hS (v := ?_) ?_ ?_
    rotate_left
    · (intro w' hS'; go_simp <;> try with_reducible rfl)
    try simp only [Act.put, List.setIfInBounds_toArray, List.set_cons_zero, List.set_cons_succ]
    refine rg_skip 2 rfl (by kernel_rfl) (by kernel_rfl) (by kernel_rfl) (by rfl) hS ?_
    try simp only [Act.put, List.setIfInBounds_toArray, List.set_cons_zero, List.set_cons_succ]
    refine rg_ld 6 rfl (by kernel_rfl) (by kernel_rfl) (by kernel_rfl) (by rfl) hS rfl rfl b0 (by simp <;> omega) (whole23 N) ?_
    try simp only [Act.put, List.setIfInBounds_toArray, List.set_cons_zero, List.set_cons_succ]
    refine rg_skip 3 rfl (by kernel_rfl) (by kernel_rfl) (by kernel_rfl) (by rfl) hS ?_
    try simp only [Act.put, List.setIfInBounds_toArray, List.set_cons_zero, List.set_cons_succ]
    refine rg_skip 4 rfl (by kernel_rfl) (by kernel_rfl) (by kernel_rfl) (by rfl) hS ?_
    try simp only [Act.put, List.setIfInBounds_toArray, List.set_cons_zero, List.set_cons_succ]
    refine rg_take 5 rfl (by kernel_rfl) (by kernel_rfl) (by kernel_rfl) (by rfl) hS (v := ?_) ?_ ?_
    rotate_left
    · (intro w' hS'; go_simp <;> try with_reducible rfl)
    try simp only [Act.put, List.setIfInBounds_toArray, List.set_cons_zero, List.set_cons_succ]
    refine rg_build 7 rfl (by kernel_rfl) (by kernel_rfl) (by kernel_rfl) (by rfl) hS rfl (built25 false N) (by simp [Act.eval]) ?_
    try simp only [Act.put, List.setIfInBounds_toArray, List.set_cons_zero, List.set_cons_succ]
    refine rg_eff 8 rfl (by kernel_rfl) (by rfl) (fun K hK => ?_)
    refine wp_st (vs := wd false N) rfl rfl rfl b1.drew (wd_len2 _ _ _ _) (whole25 _ _) (wd_one _ _) ?_
    refine hK _ _ (hS.row (.inl (by simp)) _) (fun hS => ?_)
    clear hK K
    try simp only [Act.put, List.setIfInBounds_toArray, List.set_cons_zero, List.set_cons_succ]
    refine rg_done (by kernel_rfl) ?_
    go_wp2
    exact ret_c (cs := wd false N) rfl rfl rfl (whole25 _ _) (b1.drew.row _) ⟨rfl, below_row hb.drew (by omega) _⟩
  · refine rg_start [w.heap.size + 1] (by kernel_rfl) (fun hS => ?_)
    replace b1 := b1.drew
    refine rg_take 0 rfl (by kernel_rfl) (by kernel_rfl) (by kernel_rfl) (by rfl) hS (v := ?_) ?_ ?_
    rotate_left
    · (intro w' hS'; go_simp <;> try with_reducible rfl)
    try simp only [Act.put, List.setIfInBounds_toArray, List.set_cons_zero, List.set_cons_succ]
    refine rg_take 1 rfl (by kernel_rfl) (by kernel_rfl) (by kernel_rfl) (by rfl) hS (v := ?_) ?_ ?_
    rotate_left
    · (intro w' hS'; go_simp <;> try with_reducible rfl)
    try simp only [Act.put, List.setIfInBounds_toArray, List.set_cons_zero, List.set_cons_succ]
    refine rg_ld 2 rfl (by kernel_rfl) (by kernel_rfl) (by kernel_rfl) (by rfl) hS rfl rfl b0 (by simp <;> omega) (whole23 N) ?_
    try simp only [Act.put, List.setIfInBounds_toArray, List.set_cons_zero, List.set_cons_succ]
    refine rg_ld 6 rfl (by kernel_rfl) (by kernel_rfl) (by kernel_rfl) (by rfl) hS rfl rfl b0 (by simp <;> omega) (whole23 N) ?_
    try simp only [Act.put, List.setIfInBounds_toArray, List.set_cons_zero, List.set_cons_succ]
    refine rg_eff 3 rfl (by kernel_rfl) (by rfl) (fun K hK => ?_)
    go_simp
    refine (length_any N _ HN.out).mono ?_
    rintro e w1 ⟨rfl, hb1⟩
    refine hK _ _ (hS.call hb1) (fun hS => ?_)
    clear hK K
    replace b1 := b1.call hb1
    try simp only [Act.put, List.setIfInBounds_toArray, List.set_cons_zero, List.set_cons_succ]
    refine rg_take 4 rfl (by kernel_rfl) (by kernel_rfl) (by kernel_rfl) (by rfl) hS (v := ?_) ?_ ?_
    rotate_left
    · (intro w' hS'; go_simp <;> try with_reducible rfl)
    try simp only [Act.put, List.setIfInBounds_toArray, List.set_cons_zero, List.set_cons_succ]
    refine rg_take 5 rfl (by kernel_rfl) (by kernel_rfl) (by kernel_rfl) (by rfl) hS (v := ?_) ?_ ?_
    rotate_left
    · (intro w' hS'; go_simp <;> try with_reducible rfl)
    try simp only [Act.put, List.setIfInBounds_toArray, List.set_cons_zero, List.set_cons_succ]
    refine rg_build 7 rfl (by kernel_rfl) (by kernel_rfl) (by kernel_rfl) (by rfl) hS rfl (built25 (decide ((0 : Int) < (nw N : Nat))) N) (by simp [Act.eval]) ?_
    try simp only [Act.put, List.setIfInBounds_toArray, List.set_cons_zero, List.set_cons_succ]
    refine rg_eff 8 rfl (by kernel_rfl) (by rfl) (fun K hK => ?_)
    refine wp_st (vs := wd (decide ((0 : Int) < (nw N : Nat))) N) rfl rfl rfl b1 (wd_len2 _ _ _ _) (whole25 _ _) (wd_one _ _) ?_
    refine hK _ _ (hS.row (.inl (by simp)) _) (fun hS => ?_)
    clear hK K
    try simp only [Act.put, List.setIfInBounds_toArray, List.set_cons_zero, List.set_cons_succ]
    refine rg_done (by kernel_rfl) ?_
    go_wp2
    rw [HP.out]
    exact ret_c (cs := wd (decide (N ≠ 0)) N) rfl rfl rfl (whole25 _ _) (b1.row _) ⟨rfl, below_row (bthen hb.drew hb1) (by omega) _⟩
section
variable {ops : Array Oper} {rest : List Oper} {o : Oper} {a : Act} {w : World} {Q : Exit → Act → World → Prop}
theorem alA2 {ob : Obj} (hgd : o.guard = none) (ho : o.op = .alloc 23)
    (hr : wpList Try.prog ops Q rest (a.put o.dst (.pointer (some ⟨w.heap.size + 1, 0, none⟩))) ((w.alloc ob).alloc (.cells (wc 0).toArray 23))) : wpList Try.prog ops Q (o :: rest) a (w.alloc ob) :=
  alA hgd ho (by rw [show (w.alloc ob).heap.size = w.heap.size + 1 by simp]; exact hr)
theorem alW2 {ob : Obj} (hgd : o.guard = none) (ho : o.op = .alloc 25)
    (hr : wpList Try.prog ops Q rest (a.put o.dst (.pointer (some ⟨w.heap.size + 1, 0, none⟩))) ((w.alloc ob).alloc (.cells (wd false 0).toArray 25))) : wpList Try.prog ops Q (o :: rest) a (w.alloc ob) :=
  alW hgd ho (by rw [show (w.alloc ob).heap.size = w.heap.size + 1 by simp]; exact hr)
end
/-- The whole number that a sign and an amount stand for; how a whole number is written. -/
def zn (s : Bool) (N : Nat) : Int := if s then -(N : Int) else N
def mk (z : Int) : List Value := wd (decide (z < 0)) z.natAbs
theorem wd_mk (s : Bool) (N : Nat) : wd (s && decide (N ≠ 0)) N = mk (zn s N) := by
  unfold mk zn
  cases s
  · have h1 : ¬ (N : Int) < 0 := by omega
    simp [h1]
  · by_cases h : N = 0
    · subst h; rfl
    · have h1 : 0 < N := by omega
      simp [h1, h]
theorem mk_length (z : Int) : (mk z).length = 33 := wd_length _ _
theorem mk_one (z : Int) : ∀ v ∈ mk z, v.oneCell' = true := wd_one _ _
theorem wholeM (z : Int) : Whole Try.prog 25 (mk z).length := whole25 _ _
theorem signed_mk (s : Bool) (N : Nat) (w : World) (hN : N < bb ^ 32) :
    Calls Try.prog 60 #[.bool s, .agg (wc N).toArray] w fun e w' => e = .returned (.agg (mk (zn s N)).toArray) ∧ Below w.heap.size w w' :=
  (signed_any s N w hN).mono fun _ _ ⟨he, hb⟩ => ⟨he.trans (by rw [wd_mk]), hb⟩
theorem mk_zero : mk 0 = wd false 0 := rfl
theorem mk_nat (n : Nat) : mk (n : Int) = wd false n := by
  unfold mk
  have : ¬ ((n : Int) < 0) := by omega
  simp [this]
section
variable {ops : Array Oper} {rest : List Oper} {o : Oper} {a : Act} {w : World} {Q : Exit → Act → World → Prop}
theorem stM {t : TypeId} {x y : Operand} {b : Nat} {z : Int} {cs : List Value} (hgd : o.guard = none) (ho : o.op = .store 25 x y) (hx : a.eval x = .pointer (some ⟨b, 0, none⟩)) (hy : a.eval y = .agg (mk z).toArray) (h : Blk w b cs t) (hl : cs.length = 33)
    (hr : wpList Try.prog ops Q rest (a.put o.dst undef) (w.setRow b (mk z).toArray)) : wpList Try.prog ops Q (o :: rest) a w :=
  st_blk hgd ho hx hy h (by rw [hl, mk_length]) (by rw [mk_length]; exact size25) (mk_one z) hr
theorem ldM {t : TypeId} {x : Operand} {b : Nat} {z : Int} (hgd : o.guard = none) (ho : o.op = .load 25 x) (hx : a.eval x = .pointer (some ⟨b, 0, none⟩)) (h : Blk w b (mk z) t)
    (hr : wpList Try.prog ops Q rest (a.put o.dst (.agg (mk z).toArray)) w) : wpList Try.prog ops Q (o :: rest) a w := by
  obtain ⟨d, hu, hd⟩ := under25
  exact ld_blk hgd ho hx h d hu hd (by rw [mk_length]; exact size25) hr
theorem bdW0 (hgd : o.guard = none) (ho : o.op = .build 25 #[])
    (hr : wpList Try.prog ops Q rest (a.put o.dst (.agg (wd false 0).toArray)) w) : wpList Try.prog ops Q (o :: rest) a w :=
  wpList_plain hgd fun K hK => by
    have := hK _ _ hr
    unfold Oper.wp execOp
    simp only [ho, Sem.run_bind]
    rw [show Array.map (fun x : Nat × Operand => (x.fst, a.eval x.snd)) #[] = #[] by simp, build25']
    exact this
end
set_option maxHeartbeats 400000 in
set_option maxRecDepth 100000 in
theorem fitting_yes (s : Bool) (N : Nat) (w : World) (hN : N < bb ^ 32) :
    Calls Try.prog 58 #[.bool s, .agg (wc N).toArray, .bool true] w fun e w' => e = .returned (.tuple #[.agg (mk (zn s N)).toArray, .bool true]) ∧ Below w.heap.size w w' := by
  have HN := Lib.hid hN
  clear hN
  have b0 := (Blk.new w (wc N) 23 rfl).old (.cells (wd false 0).toArray 25)
  have b1 := Blk.new (w.alloc (.cells (wc N).toArray 23)) (wd false 0) 25 (b := w.heap.size + 1) (by simp)
  have hb : Below w.heap.size w ((w.alloc (.cells (wc N).toArray 23)).alloc (.cells (wd false 0).toArray 25)) := ((Below.refl _ _).alloc (Nat.le_refl _) _).alloc (by simp) _
  go_enter Try.func58, Try.ntmps58
  go_wp2_with (first | (with_reducible refine alW rfl rfl ?_) | (with_reducible refine ldA rfl rfl rfl b0 ?_))
  refine (signed_mk s N _ HN.out).mono ?_
  rintro e w1 ⟨rfl, hb1⟩
  have b2 := b1.call hb1
  go_wp2_with (first | (with_reducible refine stM rfl rfl rfl rfl b2 (wd_length _ _) ?_))
  exact ret_ct (v := .bool true) rfl rfl rfl rfl (wholeM _) (b2.row _) ⟨rfl, below_row (bthen hb hb1) (by omega) _⟩
set_option maxHeartbeats 400000 in
set_option maxRecDepth 100000 in
theorem fitting_no (s : Bool) (N : Nat) (w : World) :
    Calls Try.prog 58 #[.bool s, .agg (wc N).toArray, .bool false] w fun e w' => e = .returned (.tuple #[.agg (mk 0).toArray, .bool false]) ∧ Below w.heap.size w w' := by
  have b1 := Blk.new (w.alloc (.cells (wc N).toArray 23)) (wd false 0) 25 (b := w.heap.size + 1) (by simp)
  have hb : Below w.heap.size w ((w.alloc (.cells (wc N).toArray 23)).alloc (.cells (wd false 0).toArray 25)) := ((Below.refl _ _).alloc (Nat.le_refl _) _).alloc (by simp) _
  go_enter Try.func58, Try.ntmps58
  go_wp2_with (first | (with_reducible refine alW rfl rfl ?_) | (with_reducible refine bdW0 rfl rfl ?_) | (with_reducible refine stW rfl rfl rfl rfl b1 ?_))
  exact ret_ct (v := .bool false) rfl rfl rfl rfl (whole25 _ _) (b1.row _) ⟨rfl, below_row hb (by omega) _⟩
end Go.Proofs.Ytcfncekphdkphaa
