/- Joined of: Sgn Low Add Wid. -/
import Derived.Test.YtoegjibeomhekaaGreatArr
import Derived.Test.YtoegjibeomhekaaGreatMem
/- wide.signed, wide.fitting. -/
namespace Go.Proofs.YtoegjibeomhekaaGreat
set_option linter.unusedSimpArgs false
set_option linter.unusedVariables false
open Go.RowKit
set_option maxRecDepth 100000
theorem built25 (s : Bool) (N : Nat) : Tryz.prog.built 43 [(0, .bool s), (1, .agg (wc N).toArray)] = some (wd s N).toArray := by kernel_rfl
theorem build25 (s : Bool) (N : Nat) (w : World) : (Instr.build 43 #[(0, .bool s), (1, .agg (wc N).toArray)]).run Tryz.prog w = .ok (.agg (wd s N).toArray) w := run_build w 43 _ _ (built25 s N)
theorem build25' (w : World) : (Instr.build 43 #[]).run Tryz.prog w = .ok (.agg (wd false 0).toArray) w := run_build w 43 _ _ (by kernel_rfl)
attribute [local go_sem ↓] build25 build25'
theorem wd_len2 (s s' : Bool) (N N' : Nat) : (wd s N).length = (wd s' N').length := by rw [wd_length, wd_length]
theorem wc_len2 (N N' : Nat) : (wc N).length = (wc N').length := by rw [wc_length, wc_length]
theorem nw_pos (N : Nat) : decide ((0 : Int) < (nw N : Nat)) = decide (N ≠ 0) := by
  have := nw_zero (N := N)
  by_cases h : N = 0
  · subst h; rfl
  · have h1 : 0 < nw N := by rcases Nat.eq_zero_or_pos (nw N) with h2 | h2; exact absurd (this.1 h2) h; exact h2
    simp [h, h1]
set_option maxHeartbeats 400000 in
set_option maxRecDepth 100000 in
theorem signed_any (s : Bool) (N : Nat) (w : World) (hN : N < bb ^ 32) :
    Calls Tryz.prog 64 #[.bool s, .agg (wc N).toArray] w fun e w' => e = .returned (.agg (wd (s && decide (N ≠ 0)) N).toArray) ∧ Below w.heap.size w w' := by
  have HN := Lib.hid hN
  clear hN
  have HP := Lib.hid (nw_pos N)
  go_enter Tryz.func64, Tryz.ntmps64
  go_wp2_with (first | (with_reducible refine alW rfl rfl ?_))
  have b0 := (Blk.new w (wc N) 41 rfl).old (.cells (wd false 0).toArray 43)
  have b1 := Blk.new (w.alloc (.cells (wc N).toArray 41)) (wd false 0) 43 (b := w.heap.size + 1) (by simp)
  have hb : Below w.heap.size w ((w.alloc (.cells (wc N).toArray 41)).alloc (.cells (wd false 0).toArray 43)) := ((Below.refl _ _).alloc (Nat.le_refl _) _).alloc (by simp) _
  rw [show (w.alloc (.cells (wc N).toArray 41)).heap.size = w.heap.size + 1 by simp]
  generalize (w.alloc (.cells (wc N).toArray 41)).alloc (.cells (wd false 0).toArray 43) = W at *
  cases s
  · refine rg_start [w.heap.size + 1] (by kernel_rfl) (fun hS => ?_)
    have b1 := b1
    refine rg_take 0 rfl (by kernel_rfl) (by kernel_rfl) (by kernel_rfl) (by rfl) hS (v := ?_) ?_ ?_
    rotate_left
    · (intro w' hS'; go_simp <;> try with_reducible rfl)
    try simp only [Act.put, List.setIfInBounds_toArray, List.set_cons_zero, List.set_cons_succ]
    refine rg_take 1 rfl (by kernel_rfl) (by kernel_rfl) (by kernel_rfl) (by rfl) hS (v := ?_) ?_ ?_
    rotate_left
    · (intro w' hS'; go_simp <;> try with_reducible rfl)
    try simp only [Act.put, List.setIfInBounds_toArray, List.set_cons_zero, List.set_cons_succ]
    refine rg_skip 2 rfl (by kernel_rfl) (by kernel_rfl) (by kernel_rfl) (by rfl) hS ?_
    try simp only [Act.put, List.setIfInBounds_toArray, List.set_cons_zero, List.set_cons_succ]
    refine rg_skip 3 rfl (by kernel_rfl) (by kernel_rfl) (by kernel_rfl) (by rfl) hS ?_
    try simp only [Act.put, List.setIfInBounds_toArray, List.set_cons_zero, List.set_cons_succ]
    refine rg_skip 4 rfl (by kernel_rfl) (by kernel_rfl) (by kernel_rfl) (by rfl) hS ?_
    try simp only [Act.put, List.setIfInBounds_toArray, List.set_cons_zero, List.set_cons_succ]
    refine rg_take 5 rfl (by kernel_rfl) (by kernel_rfl) (by kernel_rfl) (by rfl) hS (v := ?_) ?_ ?_
    rotate_left
    · (intro w' hS'; go_simp <;> try with_reducible rfl)
    try simp only [Act.put, List.setIfInBounds_toArray, List.set_cons_zero, List.set_cons_succ]
    refine rg_ld 6 rfl (by kernel_rfl) (by kernel_rfl) (by kernel_rfl) (by rfl) hS rfl rfl b0 (by simp <;> omega) (whole23 N) ?_
    try simp only [Act.put, List.setIfInBounds_toArray, List.set_cons_zero, List.set_cons_succ]
    refine rg_build 7 rfl (by kernel_rfl) (by kernel_rfl) (by kernel_rfl) (by rfl) hS rfl (built25 false N) (by simp [Act.eval]) ?_
    try simp only [Act.put, List.setIfInBounds_toArray, List.set_cons_zero, List.set_cons_succ]
    refine rg_eff 8 rfl (by kernel_rfl) (by rfl) (fun K hK => ?_)
    refine wp_st (vs := wd false N) rfl rfl rfl b1.drew (wd_len2 _ _ _ _) (whole25 _ _) (wd_one _ _) ?_
    refine hK _ _ (hS.row (.inl (by simp)) _) (fun hS => ?_)
    clear hK K
    try simp only [Act.put, List.setIfInBounds_toArray, List.set_cons_zero, List.set_cons_succ]
    refine rg_done (by kernel_rfl) ?_
    go_wp2
    exact ret_c (cs := wd false N) rfl rfl rfl (whole25 _ _) (b1.drew.row _) ⟨rfl, below_row hb.drew (by omega) _⟩
  · refine rg_start [w.heap.size + 1] (by kernel_rfl) (fun hS => ?_)
    replace b1 := b1.drew
    refine rg_take 0 rfl (by kernel_rfl) (by kernel_rfl) (by kernel_rfl) (by rfl) hS (v := ?_) ?_ ?_
    rotate_left
    · (intro w' hS'; go_simp <;> try with_reducible rfl)
    try simp only [Act.put, List.setIfInBounds_toArray, List.set_cons_zero, List.set_cons_succ]
    refine rg_take 1 rfl (by kernel_rfl) (by kernel_rfl) (by kernel_rfl) (by rfl) hS (v := ?_) ?_ ?_
    rotate_left
    · (intro w' hS'; go_simp <;> try with_reducible rfl)
    try simp only [Act.put, List.setIfInBounds_toArray, List.set_cons_zero, List.set_cons_succ]
    refine rg_ld 2 rfl (by kernel_rfl) (by kernel_rfl) (by kernel_rfl) (by rfl) hS rfl rfl b0 (by simp <;> omega) (whole23 N) ?_
    try simp only [Act.put, List.setIfInBounds_toArray, List.set_cons_zero, List.set_cons_succ]
    refine rg_ld 6 rfl (by kernel_rfl) (by kernel_rfl) (by kernel_rfl) (by rfl) hS rfl rfl b0 (by simp <;> omega) (whole23 N) ?_
    try simp only [Act.put, List.setIfInBounds_toArray, List.set_cons_zero, List.set_cons_succ]
    refine rg_eff 3 rfl (by kernel_rfl) (by rfl) (fun K hK => ?_)
    go_simp
    refine (length_any N _ HN.out).mono ?_
    rintro e w1 ⟨rfl, hb1⟩
    refine hK _ _ (hS.call hb1) (fun hS => ?_)
    clear hK K
    replace b1 := b1.call hb1
    try simp only [Act.put, List.setIfInBounds_toArray, List.set_cons_zero, List.set_cons_succ]
    refine rg_take 4 rfl (by kernel_rfl) (by kernel_rfl) (by kernel_rfl) (by rfl) hS (v := ?_) ?_ ?_
    rotate_left
    · (intro w' hS'; go_simp <;> try with_reducible rfl)
    try simp only [Act.put, List.setIfInBounds_toArray, List.set_cons_zero, List.set_cons_succ]
    refine rg_take 5 rfl (by kernel_rfl) (by kernel_rfl) (by kernel_rfl) (by rfl) hS (v := ?_) ?_ ?_
    rotate_left
    · (intro w' hS'; go_simp <;> try with_reducible rfl)
    try simp only [Act.put, List.setIfInBounds_toArray, List.set_cons_zero, List.set_cons_succ]
    refine rg_build 7 rfl (by kernel_rfl) (by kernel_rfl) (by kernel_rfl) (by rfl) hS rfl (built25 (decide ((0 : Int) < (nw N : Nat))) N) (by simp [Act.eval]) ?_
    try simp only [Act.put, List.setIfInBounds_toArray, List.set_cons_zero, List.set_cons_succ]
    refine rg_eff 8 rfl (by kernel_rfl) (by rfl) (fun K hK => ?_)
    refine wp_st (vs := wd (decide ((0 : Int) < (nw N : Nat))) N) rfl rfl rfl b1 (wd_len2 _ _ _ _) (whole25 _ _) (wd_one _ _) ?_
    refine hK _ _ (hS.row (.inl (by simp)) _) (fun hS => ?_)
    clear hK K
    try simp only [Act.put, List.setIfInBounds_toArray, List.set_cons_zero, List.set_cons_succ]
    refine rg_done (by kernel_rfl) ?_
    go_wp2
    rw [HP.out]
    exact ret_c (cs := wd (decide (N ≠ 0)) N) rfl rfl rfl (whole25 _ _) (b1.row _) ⟨rfl, below_row (bthen hb.drew hb1) (by omega) _⟩
section
variable {ops : Array Oper} {rest : List Oper} {o : Oper} {a : Act} {w : World} {Q : Exit → Act → World → Prop}
theorem alA2 {ob : Obj} (hgd : o.guard = none) (ho : o.op = .alloc 41)
    (hr : wpList Tryz.prog ops Q rest (a.put o.dst (.pointer (some ⟨w.heap.size + 1, 0, none⟩))) ((w.alloc ob).alloc (.cells (wc 0).toArray 41))) : wpList Tryz.prog ops Q (o :: rest) a (w.alloc ob) :=
  alA hgd ho (by rw [show (w.alloc ob).heap.size = w.heap.size + 1 by simp]; exact hr)
theorem alW2 {ob : Obj} (hgd : o.guard = none) (ho : o.op = .alloc 43)
    (hr : wpList Tryz.prog ops Q rest (a.put o.dst (.pointer (some ⟨w.heap.size + 1, 0, none⟩))) ((w.alloc ob).alloc (.cells (wd false 0).toArray 43))) : wpList Tryz.prog ops Q (o :: rest) a (w.alloc ob) :=
  alW hgd ho (by rw [show (w.alloc ob).heap.size = w.heap.size + 1 by simp]; exact hr)
end
/-- The whole number that a sign and an amount stand for; how a whole number is written. -/
def zn (s : Bool) (N : Nat) : Int := if s then -(N : Int) else N
def mk (z : Int) : List Value := wd (decide (z < 0)) z.natAbs
theorem wd_mk (s : Bool) (N : Nat) : wd (s && decide (N ≠ 0)) N = mk (zn s N) := by
  unfold mk zn
  cases s
  · have h1 : ¬ (N : Int) < 0 := by omega
    simp [h1]
  · by_cases h : N = 0
    · subst h; rfl
    · have h1 : 0 < N := by omega
      simp [h1, h]
theorem mk_length (z : Int) : (mk z).length = 33 := wd_length _ _
theorem mk_one (z : Int) : ∀ v ∈ mk z, v.oneCell' = true := wd_one _ _
theorem wholeM (z : Int) : Whole Tryz.prog 43 (mk z).length := whole25 _ _
theorem signed_mk (s : Bool) (N : Nat) (w : World) (hN : N < bb ^ 32) :
    Calls Tryz.prog 64 #[.bool s, .agg (wc N).toArray] w fun e w' => e = .returned (.agg (mk (zn s N)).toArray) ∧ Below w.heap.size w w' :=
  (signed_any s N w hN).mono fun _ _ ⟨he, hb⟩ => ⟨he.trans (by rw [wd_mk]), hb⟩
theorem mk_zero : mk 0 = wd false 0 := rfl
theorem mk_nat (n : Nat) : mk (n : Int) = wd false n := by
  unfold mk
  have : ¬ ((n : Int) < 0) := by omega
  simp [this]
section
variable {ops : Array Oper} {rest : List Oper} {o : Oper} {a : Act} {w : World} {Q : Exit → Act → World → Prop}
theorem stM {t : TypeId} {x y : Operand} {b : Nat} {z : Int} {cs : List Value} (hgd : o.guard = none) (ho : o.op = .store 43 x y) (hx : a.eval x = .pointer (some ⟨b, 0, none⟩)) (hy : a.eval y = .agg (mk z).toArray) (h : Blk w b cs t) (hl : cs.length = 33)
    (hr : wpList Tryz.prog ops Q rest (a.put o.dst undef) (w.setRow b (mk z).toArray)) : wpList Tryz.prog ops Q (o :: rest) a w :=
  st_blk hgd ho hx hy h (by rw [hl, mk_length]) (by rw [mk_length]; exact size25) (mk_one z) hr
theorem ldM {t : TypeId} {x : Operand} {b : Nat} {z : Int} (hgd : o.guard = none) (ho : o.op = .load 43 x) (hx : a.eval x = .pointer (some ⟨b, 0, none⟩)) (h : Blk w b (mk z) t)
    (hr : wpList Tryz.prog ops Q rest (a.put o.dst (.agg (mk z).toArray)) w) : wpList Tryz.prog ops Q (o :: rest) a w := by
  obtain ⟨d, hu, hd⟩ := under25
  exact ld_blk hgd ho hx h d hu hd (by rw [mk_length]; exact size25) hr
theorem bdW0 (hgd : o.guard = none) (ho : o.op = .build 43 #[])
    (hr : wpList Tryz.prog ops Q rest (a.put o.dst (.agg (wd false 0).toArray)) w) : wpList Tryz.prog ops Q (o :: rest) a w :=
  wpList_plain hgd fun K hK => by
    have := hK _ _ hr
    unfold Oper.wp execOp
    simp only [ho, Sem.run_bind]
    rw [show Array.map (fun x : Nat × Operand => (x.fst, a.eval x.snd)) #[] = #[] by simp, build25']
    exact this
end
set_option maxHeartbeats 400000 in
set_option maxRecDepth 100000 in
theorem fitting_yes (s : Bool) (N : Nat) (w : World) (hN : N < bb ^ 32) :
    Calls Tryz.prog 97 #[.bool s, .agg (wc N).toArray, .bool true] w fun e w' => e = .returned (.tuple #[.agg (mk (zn s N)).toArray, .bool true]) ∧ Below w.heap.size w w' := by
  have HN := Lib.hid hN
  clear hN
  have b0 := (Blk.new w (wc N) 41 rfl).old (.cells (wd false 0).toArray 43)
  have b1 := Blk.new (w.alloc (.cells (wc N).toArray 41)) (wd false 0) 43 (b := w.heap.size + 1) (by simp)
  have hb : Below w.heap.size w ((w.alloc (.cells (wc N).toArray 41)).alloc (.cells (wd false 0).toArray 43)) := ((Below.refl _ _).alloc (Nat.le_refl _) _).alloc (by simp) _
  go_enter Tryz.func97, Tryz.ntmps97
  go_wp2_with (first | (with_reducible refine alW rfl rfl ?_) | (with_reducible refine ldA rfl rfl rfl b0 ?_))
  refine (signed_mk s N _ HN.out).mono ?_
  rintro e w1 ⟨rfl, hb1⟩
  have b2 := b1.call hb1
  go_wp2_with (first | (with_reducible refine stM rfl rfl rfl rfl b2 (wd_length _ _) ?_))
  exact ret_ct (v := .bool true) rfl rfl rfl rfl (wholeM _) (b2.row _) ⟨rfl, below_row (bthen hb hb1) (by omega) _⟩
set_option maxHeartbeats 400000 in
set_option maxRecDepth 100000 in
theorem fitting_no (s : Bool) (N : Nat) (w : World) :
    Calls Tryz.prog 97 #[.bool s, .agg (wc N).toArray, .bool false] w fun e w' => e = .returned (.tuple #[.agg (mk 0).toArray, .bool false]) ∧ Below w.heap.size w w' := by
  have b1 := Blk.new (w.alloc (.cells (wc N).toArray 41)) (wd false 0) 43 (b := w.heap.size + 1) (by simp)
  have hb : Below w.heap.size w ((w.alloc (.cells (wc N).toArray 41)).alloc (.cells (wd false 0).toArray 43)) := ((Below.refl _ _).alloc (Nat.le_refl _) _).alloc (by simp) _
  go_enter Tryz.func97, Tryz.ntmps97
  go_wp2_with (first | (with_reducible refine alW rfl rfl ?_) | (with_reducible refine bdW0 rfl rfl ?_) | (with_reducible refine stW rfl rfl rfl rfl b1 ?_))
  exact ret_ct (v := .bool false) rfl rfl rfl rfl (whole25 _ _) (b1.row _) ⟨rfl, below_row hb (by omega) _⟩
end Go.Proofs.YtoegjibeomhekaaGreat

/- wide.fromUint, wide.lowUint, wide.From, wide.Int, wide.Is, wide.Neg. -/
namespace Go.Proofs.YtoegjibeomhekaaGreat
open Go.RowKit
set_option maxRecDepth 100000
theorem dig_zero (i : Nat) : dig 0 i = 0 := by unfold dig; simp
/-- Two words. -/
theorem wc_two (u : Nat) (hu : u < bb ^ 2) : wc u = .int .u32 (u % bb : Nat) :: .int .u32 (u / bb : Nat) :: (wc 0).drop 2 := by
  apply List.ext_getElem?
  intro i
  rcases i with _ | _ | i
  · rw [wc_get u 0 (by omega)]; simp [dig]
  · rw [wc_get u 1 (by omega)]
    have : u / bb < bb := by rw [Nat.div_lt_iff_lt_mul bb_pos]; rwa [Nat.pow_two] at hu
    simp [dig, Nat.mod_eq_of_lt this]
  · simp only [List.getElem?_cons_succ, List.getElem?_drop]
    by_cases hi : i + 2 < 32
    · rw [wc_get u (i + 1 + 1) (by omega), wc_get 0 (2 + i) (by omega), dig_zero, dig_of_lt (Nat.lt_of_lt_of_le hu (bp_mono (by omega)))]
    · rw [List.getElem?_eq_none (by rw [wc_length]; omega), List.getElem?_eq_none (by rw [wc_length]; omega)]
theorem built23 (x y : Int) : Tryz.prog.built 41 [(0, .int .u32 x), (1, .int .u32 y)] = some (Value.int .u32 x :: .int .u32 y :: (wc 0).drop 2).toArray := by kernel_rfl
section
variable {ops : Array Oper} {rest : List Oper} {o : Oper} {a : Act} {w : World} {Q : Exit → Act → World → Prop}
theorem bdA2 {p q : Operand} {u : Nat} (hu : u < bb ^ 2) (hgd : o.guard = none) (ho : o.op = .build 41 #[(0, p), (1, q)]) (hp : a.eval p = .int .u32 (u % bb : Nat)) (hq : a.eval q = .int .u32 (u / bb : Nat))
    (hr : wpList Tryz.prog ops Q rest (a.put o.dst (.agg (wc u).toArray)) w) : wpList Tryz.prog ops Q (o :: rest) a w :=
  wpList_plain hgd fun K hK => by
    have := hK _ _ hr
    unfold Oper.wp execOp
    simp only [ho, Sem.run_bind]
    rw [show Array.map (fun x : Nat × Operand => (x.fst, a.eval x.snd)) #[(0, p), (1, q)] = #[(0, .int .u32 (u % bb : Nat)), (1, .int .u32 (u / bb : Nat))] by simp [hp, hq], run_build w 41 _ _ (built23 _ _), ← wc_two u hu]
    exact this
end
set_option maxHeartbeats 400000 in
set_option maxRecDepth 100000 in
theorem fromUint_any (u : Nat) (w : World) (hu : u ≤ 18446744073709551615) :
    Calls Tryz.prog 65 #[.int .u64 u] w fun e w' => e = .returned (.agg (wc u).toArray) ∧ Below w.heap.size w w' := by
  have b1 := Blk.new w (wc 0) 41 rfl
  have hb : Below w.heap.size w (w.alloc (.cells (wc 0).toArray 41)) := (Below.refl _ _).alloc (Nat.le_refl _) _
  have HU : Hid (u < bb ^ 2) := by
    show u < bb ^ 2
    rw [bb_eq]; omega
  have E1 : Hid ((u : Int) % 4294967296 = ((u % bb : Nat) : Int)) := by
    show (u : Int) % 4294967296 = ((u % bb : Nat) : Int)
    rw [bb_eq]; omega
  have E2 : Hid ((u : Int) / 4294967296 = ((u / bb : Nat) : Int)) := by
    show (u : Int) / 4294967296 = ((u / bb : Nat) : Int)
    rw [bb_eq]; omega
  go_enter Tryz.func65, Tryz.ntmps65
  go_wp2_with (first | (with_reducible refine alA rfl rfl ?_) | (refine bdA2 (u := u) HU.out rfl rfl (congrArg (Value.int .u32) E1.out) (congrArg (Value.int .u32) E2.out) ?_) | (with_reducible refine stA rfl rfl rfl rfl b1 ?_))
  exact ret_c (cs := wc u) rfl rfl rfl (whole23 _) (b1.row _) ⟨rfl, below_row hb (Nat.le_refl _) _⟩
theorem or_join (x y : Nat) (hx : x ≤ 4294967295) (hy : y ≤ 4294967295) : bits .or .u64 ((x : Int) * 4294967296) (y : Int) = ((y + bb * x : Nat) : Int) := by
  rw [show (x : Int) * 4294967296 = ((x * 4294967296 : Nat) : Int) by omega, u64_or_nat _ _ (by omega) (by omega), nat_join 32 _ _ (by omega) (by omega), bb_eq]
  omega
theorem low_two (N : Nat) : N % bb ^ 2 = dig N 0 + bb * dig N 1 := by
  rw [mod_succ N 1, mod_succ N 0]
  simp [Nat.mod_one]
set_option maxHeartbeats 400000 in
set_option maxRecDepth 100000 in
theorem lowUint_any (N : Nat) (w : World) :
    Calls Tryz.prog 93 #[.agg (wc N).toArray] w fun e w' => e = .returned (.int .u64 (N % bb ^ 2 : Nat)) ∧ Below w.heap.size w w' := by
  have b0 := Blk.new w (wc N) 41 rfl
  have hb : Below w.heap.size w (w.alloc (.cells (wc N).toArray 41)) := (Below.refl _ _).alloc (Nat.le_refl _) _
  have c0 := b0.cell (wc_get N 0 (by omega))
  have c1 := b0.cell (wc_get N 1 (by omega))
  have d0 := dig_le N 0
  have d1 := dig_le N 1
  go_enter Tryz.func93, Tryz.ntmps93
  go_wp2
  go_ret
  exact ⟨ret_int (by rw [low_two]; exact or_join _ _ d1 d0), hb⟩
/-- The words of a Wide are loaded behind a guard that says yes. -/
theorem ldDg {ops : Array Oper} {rest : List Oper} {o : Oper} {a : Act} {w : World} {Q : Exit → Act → World → Prop} {t : TypeId} {x : Operand} {b N : Nat} {s : Bool} (hw : Region.wanted o (yielded ops a.tmps) = true) (ho : o.op = .load 41 x) (hx : a.eval x = .pointer (some ⟨b, 1, none⟩)) (h : Blk w b (wd s N) t)
    (hr : wpList Tryz.prog ops Q rest (a.put o.dst (.agg (wc N).toArray)) w) : wpList Tryz.prog ops Q (o :: rest) a w :=
  BigFrame.wpList_want hw fun _ hK => wp_load_mid _ x ho b 1 hx (wc N) _ (Blk.tail h) under23 rfl (by rw [wc_length]; exact size23) (hK _ _ hr)
/-- The words of a Wide, its sign. -/
theorem wd_sign (s : Bool) (N : Nat) : (wd s N)[0]? = some (.bool s) := rfl
set_option maxHeartbeats 400000 in
set_option maxRecDepth 100000 in
theorem From_any (n : Int) (w : World) (h1 : -9223372036854775808 ≤ n) (h2 : n ≤ 9223372036854775807) :
    Calls Tryz.prog 53 #[.int .i64 n] w fun e w' => e = .returned (.agg (mk n).toArray) ∧ Below w.heap.size w w' := by
  have b1 := Blk.new w (wd false 0) 43 rfl
  have hb : Below w.heap.size w (w.alloc (.cells (wd false 0).toArray 43)) := (Below.refl _ _).alloc (Nat.le_refl _) _
  have HZ : Hid (zn (decide (n < 0)) n.natAbs = n) := by
    show zn (decide (n < 0)) n.natAbs = n
    unfold zn; by_cases h : n < 0 <;> simp [h] <;> omega
  have HA : Hid (n.natAbs < bb ^ 32) := by
    show n.natAbs < bb ^ 32
    exact Nat.lt_of_lt_of_le (by rw [bb_eq]; omega : n.natAbs < bb ^ 2) (bp_mono (by omega))
  have hm : n.natAbs ≤ 18446744073709551615 := by omega
  by_cases hn : n < 0
  · have HW : Hid (IntKind.u64.wrap (-IntKind.u64.wrap n) = (n.natAbs : Int)) := by
      show IntKind.u64.wrap (-IntKind.u64.wrap n) = (n.natAbs : Int)
      simp only [IntKind.wrap_u64]
      omega
    have HZ' : Hid (zn true n.natAbs = n) := by
      show zn true n.natAbs = n
      simp only [zn, if_true]; omega
    go_enter Tryz.func53, Tryz.ntmps53
    go_wp2_with (first | (with_reducible refine alW rfl rfl ?_))
    rw [HW.out]
    refine (fromUint_any n.natAbs _ hm).mono ?_
    rintro e w1 ⟨rfl, hb1⟩
    go_wp2_with fail
    refine (signed_mk true n.natAbs _ HA.out).mono ?_
    rintro e w2 ⟨rfl, hb2⟩
    rw [HZ'.out]
    have b2 := (b1.call hb1).call hb2
    go_wp2_with (first | (with_reducible refine stM rfl rfl rfl rfl b2 (wd_length _ _) ?_))
    exact ret_c (cs := mk n) rfl rfl rfl (wholeM _) (b2.row _) ⟨rfl, below_row (bthen (bthen hb hb1) hb2) (Nat.le_refl _) _⟩
  · obtain ⟨m, rfl⟩ : ∃ m : Nat, n = m := ⟨n.toNat, by omega⟩
    have HZ' : Hid (zn false m = m) := rfl
    go_enter Tryz.func53, Tryz.ntmps53
    go_wp2_with (first | (with_reducible refine alW rfl rfl ?_))
    refine (fromUint_any m _ (by omega)).mono ?_
    rintro e w1 ⟨rfl, hb1⟩
    go_wp2_with fail
    refine (signed_mk false m _ HA.out).mono ?_
    rintro e w2 ⟨rfl, hb2⟩
    rw [HZ'.out]
    have b2 := (b1.call hb1).call hb2
    go_wp2_with (first | (with_reducible refine stM rfl rfl rfl rfl b2 (wd_length _ _) ?_))
    exact ret_c (cs := mk m) rfl rfl rfl (wholeM _) (b2.row _) ⟨rfl, below_row (bthen (bthen hb hb1) hb2) (Nat.le_refl _) _⟩
set_option maxHeartbeats 400000 in
set_option maxRecDepth 100000 in
theorem Is_any (s : Bool) (N : Nat) (w : World) (hN : N < bb ^ 32) :
    Calls Tryz.prog 67 #[.agg (wd s N).toArray] w fun e w' => e = .returned (.bool (!s || decide (N ≠ 0))) ∧ Below w.heap.size w w' := by
  have HN := Lib.hid hN
  clear hN
  have b0 := Blk.new w (wd s N) 43 rfl
  have hb : Below w.heap.size w (w.alloc (.cells (wd s N).toArray 43)) := (Below.refl _ _).alloc (Nat.le_refl _) _
  have c0 := b0.cell (wd_sign s N)
  cases s
  · go_enter Tryz.func67, Tryz.ntmps67
    go_wp2
    go_ret
    exact ⟨rfl, hb⟩
  · have HP := Lib.hid (nw_pos N)
    go_enter Tryz.func67, Tryz.ntmps67
    go_wp2_with (first | (refine ldDg (by rfl) rfl rfl b0 ?_))
    refine (length_any N _ HN.out).mono ?_
    rintro e w1 ⟨rfl, hb1⟩
    go_wp2
    go_ret
    refine ⟨?_, bthen hb hb1⟩
    have := HP.out
    simp at this ⊢
    exact this
set_option maxHeartbeats 400000 in
set_option maxRecDepth 100000 in
theorem Neg_any (s : Bool) (N : Nat) (w : World) (hN : N < bb ^ 32) :
    Calls Tryz.prog 78 #[.agg (wd s N).toArray] w fun e w' => e = .returned (.agg (mk (-(zn s N))).toArray) ∧ Below w.heap.size w w' := by
  have HN := Lib.hid hN
  clear hN
  have b0 := (Blk.new w (wd s N) 43 rfl).old (.cells (wd false 0).toArray 43)
  have b1 := Blk.new (w.alloc (.cells (wd s N).toArray 43)) (wd false 0) 43 (b := w.heap.size + 1) (by simp)
  have hb : Below w.heap.size w ((w.alloc (.cells (wd s N).toArray 43)).alloc (.cells (wd false 0).toArray 43)) := ((Below.refl _ _).alloc (Nat.le_refl _) _).alloc (by simp) _
  have c0 := b0.cell (wd_sign s N)
  have HZ : Hid (zn (!s) N = -(zn s N)) := by
    show zn (!s) N = -(zn s N)
    cases s <;> simp [zn]
  go_enter Tryz.func78, Tryz.ntmps78
  go_wp2_with (first | (with_reducible refine alW rfl rfl ?_) | (with_reducible refine ldD rfl rfl rfl b0 ?_))
  refine (signed_mk (!s) N _ HN.out).mono ?_
  rintro e w1 ⟨rfl, hb1⟩
  rw [HZ.out]
  have b2 := b1.call hb1
  go_wp2_with (first | (with_reducible refine stM rfl rfl rfl rfl b2 (wd_length _ _) ?_))
  exact ret_c (cs := mk (-(zn s N))) rfl rfl rfl (wholeM _) (b2.row _) ⟨rfl, below_row (bthen hb hb1) (by omega) _⟩
/-- -1, 0, 1. -/
def sg (s : Bool) (N : Nat) : Int := if N = 0 then 0 else if s then -1 else 1
set_option maxHeartbeats 400000 in
set_option maxRecDepth 100000 in
theorem sign_any (s : Bool) (N : Nat) (w : World) (hN : N < bb ^ 32) :
    Calls Tryz.prog 84 #[.agg (wd s N).toArray] w fun e w' => e = .returned (.int .i64 (sg s N)) ∧ Below w.heap.size w w' := by
  have HN := Lib.hid hN
  clear hN
  have b0 := Blk.new w (wd s N) 43 rfl
  have hb : Below w.heap.size w (w.alloc (.cells (wd s N).toArray 43)) := (Below.refl _ _).alloc (Nat.le_refl _) _
  by_cases h0 : N = 0
  · subst h0
    go_enter Tryz.func84, Tryz.ntmps84
    go_wp2_with (first | (with_reducible refine ldD rfl rfl rfl b0 ?_))
    refine (length_any 0 _ HN.out).mono ?_
    rintro e w1 ⟨rfl, hb1⟩
    rw [show ((nw 0 : Nat) : Int) = 0 from rfl]
    go_wp2
    go_ret
    exact ⟨rfl, bthen hb hb1⟩
  · have h1 : ((nw N : Nat) : Int) ≠ 0 := by have := nw_zero (N := N); omega
    have h2 : (((nw N : Nat) : Int) == 0) = false := by simpa using h1
    clear h1
    have HE : Hid (sg s N = if s then -1 else 1) := by
      show sg s N = if s then -1 else 1
      simp [sg, h0]
    go_enter Tryz.func84, Tryz.ntmps84
    go_wp2_with (first | (with_reducible refine ldD rfl rfl rfl b0 ?_))
    refine (length_any N _ HN.out).mono ?_
    rintro e w1 ⟨rfl, hb1⟩
    have c1 := (b0.call hb1).cell (wd_sign s N)
    cases s
    · go_wp2
      go_ret
      exact ⟨ret_int (by rw [HE.out]; rfl), bthen hb hb1⟩
    · go_wp2
      go_ret
      exact ⟨ret_int (by rw [HE.out]; rfl), bthen hb hb1⟩
theorem zn_lt (s t : Bool) (N M : Nat) : (if zn s N < zn t M then (-1 : Int) else if zn t M < zn s N then 1 else 0) = if sg s N < sg t M then -1 else if sg t M < sg s N then 1 else sg s N * cmpv N M := by
  unfold zn sg cmpv
  by_cases h1 : N = 0 <;> by_cases h2 : M = 0 <;> cases s <;> cases t <;> simp [h1, h2] <;> (repeat' split) <;> omega
set_option maxHeartbeats 400000 in
set_option maxRecDepth 100000 in
theorem Cmp_any (s t : Bool) (N M : Nat) (w : World) (hN : N < bb ^ 32) (hM : M < bb ^ 32) :
    Calls Tryz.prog 74 #[.agg (wd s N).toArray, .agg (wd t M).toArray] w fun e w' => e = .returned (.int .i64 (if zn s N < zn t M then -1 else if zn t M < zn s N then 1 else 0)) ∧ Below w.heap.size w w' := by
  have HN := Lib.hid hN
  have HM := Lib.hid hM
  have HZ := Lib.hid (zn_lt s t N M)
  clear hN hM
  have hs : -1 ≤ sg s N ∧ sg s N ≤ 1 := by unfold sg; split <;> (try split) <;> omega
  have ht : -1 ≤ sg t M ∧ sg t M ≤ 1 := by unfold sg; split <;> (try split) <;> omega
  have hc : -1 ≤ cmpv N M ∧ cmpv N M ≤ 1 := by unfold cmpv; split <;> (try split) <;> omega
  have hp : -1 ≤ sg s N * cmpv N M ∧ sg s N * cmpv N M ≤ 1 := by unfold sg cmpv; (repeat' split) <;> omega
  generalize hR : (if zn s N < zn t M then (-1 : Int) else if zn t M < zn s N then 1 else 0) = R at *
  have HR := Lib.hid hR
  clear hR
  have b0 := (Blk.new w (wd s N) 43 rfl).old (.cells (wd t M).toArray 43)
  have b1 := Blk.new (w.alloc (.cells (wd s N).toArray 43)) (wd t M) 43 (b := w.heap.size + 1) (by simp)
  have hb : Below w.heap.size w ((w.alloc (.cells (wd s N).toArray 43)).alloc (.cells (wd t M).toArray 43)) := ((Below.refl _ _).alloc (Nat.le_refl _) _).alloc (by simp) _
  go_enter Tryz.func74, Tryz.ntmps74
  go_wp2_with fail
  generalize (w.alloc (.cells (wd s N).toArray 43)).alloc (.cells (wd t M).toArray 43) = W at *
  refine rg_start [] (by kernel_rfl) (fun hS => ?_)
  have b0 := b0.drew
  have b1 := b1.drew
  refine rg_ld 0 rfl (by kernel_rfl) (by kernel_rfl) (by kernel_rfl) (by rfl) hS rfl rfl b0 (by simp <;> omega) (whole25 _ _) ?_
  try simp only [Act.put, List.setIfInBounds_toArray, List.set_cons_zero, List.set_cons_succ]
  refine rg_ld 2 rfl (by kernel_rfl) (by kernel_rfl) (by kernel_rfl) (by rfl) hS rfl rfl b1 (by simp <;> omega) (whole25 _ _) ?_
  try simp only [Act.put, List.setIfInBounds_toArray, List.set_cons_zero, List.set_cons_succ]
  refine rg_eff 1 rfl (by kernel_rfl) (by rfl) (fun K hK => ?_)
  go_simp
  refine (sign_any s N _ HN.out).mono ?_
  rintro e w1 ⟨rfl, hb1⟩
  refine hK _ _ (hS.call hb1) (fun hS => ?_)
  clear hK K
  replace b0 := b0.call hb1
  replace b1 := b1.call hb1
  try simp only [Act.put, List.setIfInBounds_toArray, List.set_cons_zero, List.set_cons_succ]
  refine rg_eff 3 rfl (by kernel_rfl) (by rfl) (fun K hK => ?_)
  go_simp
  refine (sign_any t M _ HM.out).mono ?_
  rintro e w2 ⟨rfl, hb2⟩
  refine hK _ _ (hS.call hb2) (fun hS => ?_)
  clear hK K
  replace b0 := b0.call hb2
  replace b1 := b1.call hb2
  try simp only [Act.put, List.setIfInBounds_toArray, List.set_cons_zero, List.set_cons_succ]
  refine rg_take 4 rfl (by kernel_rfl) (by kernel_rfl) (by kernel_rfl) (by rfl) hS (v := ?_) ?_ ?_
  rotate_left
  · (intro w' hS'; go_simp <;> try with_reducible rfl)
  try simp only [Act.put, List.setIfInBounds_toArray, List.set_cons_zero, List.set_cons_succ]
  refine rg_take 5 rfl (by kernel_rfl) (by kernel_rfl) (by kernel_rfl) (by rfl) hS (v := ?_) ?_ ?_
  rotate_left
  · (intro w' hS'; go_simp <;> try with_reducible rfl)
  try simp only [Act.put, List.setIfInBounds_toArray, List.set_cons_zero, List.set_cons_succ]
  refine rg_done (by kernel_rfl) ?_
  by_cases h1 : sg s N < sg t M
  · go_wp2
    go_ret
    exact ⟨ret_int (by rw [HZ.out, if_pos h1]), bthen (bthen hb.drew hb1) hb2⟩
  · by_cases h2 : sg t M < sg s N
    · go_wp2
      go_ret
      exact ⟨ret_int (by rw [HZ.out, if_neg (by omega), if_pos h2]), bthen (bthen hb.drew hb1) hb2⟩
    · go_wp2_with (first | (with_reducible refine ldD rfl rfl rfl b0 ?_) | (with_reducible refine ldD rfl rfl rfl b1 ?_))
      refine (compare_any N M _ HN.out HM.out).mono ?_
      rintro e w3 ⟨rfl, hb3⟩
      go_wp2
      go_ret
      exact ⟨ret_int (by rw [HZ.out, if_neg (by omega), if_neg (by omega)]), bthen (bthen (bthen hb.drew hb1) hb2) hb3⟩
end Go.Proofs.YtoegjibeomhekaaGreat

/- wide.Add, wide.Sub. -/
namespace Go.Proofs.YtoegjibeomhekaaGreat
set_option linter.unusedSimpArgs false
set_option linter.unusedVariables false
open Go.RowKit
set_option maxRecDepth 100000
/-- Whether a whole number has an amount of 1024 bits at most. -/
def fits (z : Int) : Prop := z.natAbs < bb ^ 32
theorem zn_abs (s : Bool) (N : Nat) : (zn s N).natAbs = N := by unfold zn; cases s <;> simp
theorem zn_add (s : Bool) (N M : Nat) : zn s N + zn s M = zn s (N + M) := by unfold zn; cases s <;> simp <;> omega
theorem zn_sub {s t : Bool} (h : s ≠ t) {N M : Nat} (hle : M ≤ N) : zn s N + zn t M = zn s (N - M) := by
  unfold zn; cases s <;> cases t <;> simp at h ⊢ <;> omega
set_option maxHeartbeats 1000000 in
set_option maxRecDepth 100000 in
theorem Add_same (s : Bool) (N M : Nat) (w : World) (hN : N < bb ^ 32) (hM : M < bb ^ 32) (h : N + M < bb ^ 32) :
    Calls Tryz.prog 113 #[.agg (wd s N).toArray, .agg (wd s M).toArray] w fun e w' => e = .returned (.tuple #[.agg (mk (zn s N + zn s M)).toArray, .bool true]) ∧ Below w.heap.size w w' := by
  have HN := Lib.hid hN
  have HM := Lib.hid hM
  have H := Lib.hid h
  clear hN hM h
  have b0 := ((Blk.new w (wd s N) 43 rfl).old (.cells (wd s M).toArray 43)).old (.cells (wd false 0).toArray 43)
  have b1 := (Blk.new (w.alloc (.cells (wd s N).toArray 43)) (wd s M) 43 (b := w.heap.size + 1) (by simp)).old (.cells (wd false 0).toArray 43)
  have b2 := Blk.new ((w.alloc (.cells (wd s N).toArray 43)).alloc (.cells (wd s M).toArray 43)) (wd false 0) 43 (b := w.heap.size + 1 + 1) (by simp)
  have hb : Below w.heap.size w (((w.alloc (.cells (wd s N).toArray 43)).alloc (.cells (wd s M).toArray 43)).alloc (.cells (wd false 0).toArray 43)) := (((Below.refl _ _).alloc (Nat.le_refl _) _).alloc (by simp) _).alloc (by simp; omega) _
  have c0 := b0.cell (wd_sign s N)
  have c1 := b1.cell (wd_sign s M)
  have hs : (s == s) = true := by simp
  go_enter Tryz.func113, Tryz.ntmps113
  go_wp2_with (first | (with_reducible refine alW rfl rfl ?_) | (with_reducible refine ldD rfl rfl rfl b0 ?_) | (with_reducible refine ldD rfl rfl rfl b1 ?_))
  refine (plus_yes N M _ HN.out HM.out H.out).mono ?_
  rintro e w1 ⟨rfl, hb1⟩
  have a0 := (b0.call hb1).old (.cells (wc 0).toArray 41)
  have a2 := (b2.call hb1).old (.cells (wc 0).toArray 41)
  have a3 := Blk.new w1 (wc 0) 41 rfl
  have hsz : w.heap.size + 1 + 1 < w1.heap.size := (b2.call hb1).lt
  have hb' := (bthen hb hb1).alloc (Nat.le_trans hb.size hb1.size) (.cells (wc 0).toArray 41)
  have d0 := a0.rowOther (g := w1.heap.size) (wc (N + M)).toArray (by omega)
  have d2 := a2.rowOther (g := w1.heap.size) (wc (N + M)).toArray (by omega)
  have d3 := a3.row (wc (N + M))
  have hb'' := below_row hb' (g := w1.heap.size) (by omega) (wc (N + M)).toArray
  have e0 := d0.cell (wd_sign s N)
  clear c0 c1
  go_wp2_with (first | (with_reducible refine alA rfl rfl ?_) | (with_reducible refine stA rfl rfl rfl rfl a3 ?_) | (with_reducible refine ldA rfl rfl rfl d3 ?_))
  refine (fitting_yes s (N + M) _ H.out).mono ?_
  rintro e w2 ⟨rfl, hb2⟩
  have f2 := d2.call hb2
  go_wp2_with (first | (with_reducible refine stM rfl rfl rfl rfl f2 (wd_length _ _) ?_))
  refine ret_ct (v := .bool true) rfl rfl rfl rfl (wholeM _) (f2.row _) ⟨?_, below_row (bthen hb'' hb2) (by omega) _⟩
  rw [zn_add]
set_option maxHeartbeats 1000000 in
set_option maxRecDepth 100000 in
theorem Add_over (s : Bool) (N M : Nat) (w : World) (hN : N < bb ^ 32) (hM : M < bb ^ 32) (h : ¬ N + M < bb ^ 32) :
    Calls Tryz.prog 113 #[.agg (wd s N).toArray, .agg (wd s M).toArray] w fun e w' => e = .returned (.tuple #[.agg (mk 0).toArray, .bool false]) ∧ Below w.heap.size w w' := by
  have HN := Lib.hid hN
  have HM := Lib.hid hM
  have H := Lib.hid h
  clear hN hM h
  have b0 := ((Blk.new w (wd s N) 43 rfl).old (.cells (wd s M).toArray 43)).old (.cells (wd false 0).toArray 43)
  have b1 := (Blk.new (w.alloc (.cells (wd s N).toArray 43)) (wd s M) 43 (b := w.heap.size + 1) (by simp)).old (.cells (wd false 0).toArray 43)
  have b2 := Blk.new ((w.alloc (.cells (wd s N).toArray 43)).alloc (.cells (wd s M).toArray 43)) (wd false 0) 43 (b := w.heap.size + 1 + 1) (by simp)
  have hb : Below w.heap.size w (((w.alloc (.cells (wd s N).toArray 43)).alloc (.cells (wd s M).toArray 43)).alloc (.cells (wd false 0).toArray 43)) := (((Below.refl _ _).alloc (Nat.le_refl _) _).alloc (by simp) _).alloc (by simp; omega) _
  have c0 := b0.cell (wd_sign s N)
  have c1 := b1.cell (wd_sign s M)
  have hs : (s == s) = true := by simp
  go_enter Tryz.func113, Tryz.ntmps113
  go_wp2_with (first | (with_reducible refine alW rfl rfl ?_) | (with_reducible refine ldD rfl rfl rfl b0 ?_) | (with_reducible refine ldD rfl rfl rfl b1 ?_))
  refine (plus_no N M _ HN.out HM.out H.out).mono ?_
  rintro e w1 ⟨rfl, hb1⟩
  generalize (N + M) % bb ^ 32 = X
  have a0 := (b0.call hb1).old (.cells (wc 0).toArray 41)
  have a2 := (b2.call hb1).old (.cells (wc 0).toArray 41)
  have a3 := Blk.new w1 (wc 0) 41 rfl
  have hsz : w.heap.size + 1 + 1 < w1.heap.size := (b2.call hb1).lt
  have hb' := (bthen hb hb1).alloc (Nat.le_trans hb.size hb1.size) (.cells (wc 0).toArray 41)
  have d0 := a0.rowOther (g := w1.heap.size) (wc X).toArray (by omega)
  have d2 := a2.rowOther (g := w1.heap.size) (wc X).toArray (by omega)
  have d3 := a3.row (wc X)
  have hb'' := below_row hb' (g := w1.heap.size) (by omega) (wc X).toArray
  have e0 := d0.cell (wd_sign s N)
  clear c0 c1
  go_wp2_with (first | (with_reducible refine alA rfl rfl ?_) | (with_reducible refine stA rfl rfl rfl rfl a3 ?_) | (with_reducible refine ldA rfl rfl rfl d3 ?_))
  refine (fitting_no s X _).mono ?_
  rintro e w2 ⟨rfl, hb2⟩
  have f2 := d2.call hb2
  go_wp2_with (first | (with_reducible refine stM rfl rfl rfl rfl f2 (wd_length _ _) ?_))
  exact ret_ct (v := .bool false) rfl rfl rfl rfl (wholeM _) (f2.row _) ⟨rfl, below_row (bthen hb'' hb2) (by omega) _⟩
set_option maxHeartbeats 1000000 in
set_option maxRecDepth 100000 in
theorem Add_diff_ge (s t : Bool) (N M : Nat) (w : World) (hN : N < bb ^ 32) (hM : M < bb ^ 32) (hst : s ≠ t) (hle : M ≤ N) :
    Calls Tryz.prog 113 #[.agg (wd s N).toArray, .agg (wd t M).toArray] w fun e w' => e = .returned (.tuple #[.agg (mk (zn s N + zn t M)).toArray, .bool true]) ∧ Below w.heap.size w w' := by
  have HN := Lib.hid hN
  have HM := Lib.hid hM
  have HL := Lib.hid hle
  have HD : Hid (N - M < bb ^ 32) := by
    show N - M < bb ^ 32
    omega
  have HZ := Lib.hid (zn_sub hst hle)
  have hcn : ¬ cmpv N M < 0 := by unfold cmpv; split <;> (try split) <;> omega
  have hs : (s == t) = false := by simpa using hst
  clear hN hM hle hst
  have b0 := ((Blk.new w (wd s N) 43 rfl).old (.cells (wd t M).toArray 43)).old (.cells (wd false 0).toArray 43)
  have b1 := (Blk.new (w.alloc (.cells (wd s N).toArray 43)) (wd t M) 43 (b := w.heap.size + 1) (by simp)).old (.cells (wd false 0).toArray 43)
  have b2 := Blk.new ((w.alloc (.cells (wd s N).toArray 43)).alloc (.cells (wd t M).toArray 43)) (wd false 0) 43 (b := w.heap.size + 1 + 1) (by simp)
  have hb : Below w.heap.size w (((w.alloc (.cells (wd s N).toArray 43)).alloc (.cells (wd t M).toArray 43)).alloc (.cells (wd false 0).toArray 43)) := (((Below.refl _ _).alloc (Nat.le_refl _) _).alloc (by simp) _).alloc (by simp; omega) _
  have c0 := b0.cell (wd_sign s N)
  have c1 := b1.cell (wd_sign t M)
  go_enter Tryz.func113, Tryz.ntmps113
  go_wp2_with (first | (with_reducible refine alW rfl rfl ?_) | (with_reducible refine ldD rfl rfl rfl b0 ?_) | (with_reducible refine ldD rfl rfl rfl b1 ?_))
  refine (compare_any N M _ HN.out HM.out).mono ?_
  rintro e W ⟨rfl, hbW⟩
  replace b0 := b0.call hbW
  replace b1 := b1.call hbW
  replace b2 := b2.call hbW
  replace hb := bthen hb hbW
  clear c0 c1 hbW
  go_wp2_with fail
  refine rg_start [w.heap.size + 1 + 1] (by kernel_rfl) (fun hS => ?_)
  replace b2 := b2.drew
  have hb := hb.drew
  refine rg_take 0 rfl (by kernel_rfl) (by kernel_rfl) (by kernel_rfl) (by rfl) hS (v := ?_) ?_ ?_
  rotate_left
  · (intro w' hS'; go_simp <;> try with_reducible rfl)
  try simp only [Act.put, List.setIfInBounds_toArray, List.set_cons_zero, List.set_cons_succ]
  refine rg_take 1 rfl (by kernel_rfl) (by kernel_rfl) (by kernel_rfl) (by rfl) hS (v := ?_) ?_ ?_
  rotate_left
  · (intro w' hS'; have hc := (b0.keep hS' (by simp <;> omega)).cell (i := 0) (v := .bool s) (wd_sign s N); go_simp <;> try with_reducible rfl)
  try simp only [Act.put, List.setIfInBounds_toArray, List.set_cons_zero, List.set_cons_succ]
  refine rg_take 2 rfl (by kernel_rfl) (by kernel_rfl) (by kernel_rfl) (by rfl) hS (v := ?_) ?_ ?_
  rotate_left
  · (intro w' hS'; go_simp <;> try with_reducible rfl)
  try simp only [Act.put, List.setIfInBounds_toArray, List.set_cons_zero, List.set_cons_succ]
  refine rg_ldT 3 rfl (by kernel_rfl) (by kernel_rfl) (by kernel_rfl) (by rfl) hS rfl rfl b0 (by simp <;> omega) (whole23 _) ?_
  try simp only [Act.put, List.setIfInBounds_toArray, List.set_cons_zero, List.set_cons_succ]
  refine rg_take 4 rfl (by kernel_rfl) (by kernel_rfl) (by kernel_rfl) (by rfl) hS (v := ?_) ?_ ?_
  rotate_left
  · (intro w' hS'; go_simp <;> try with_reducible rfl)
  try simp only [Act.put, List.setIfInBounds_toArray, List.set_cons_zero, List.set_cons_succ]
  refine rg_ldT 5 rfl (by kernel_rfl) (by kernel_rfl) (by kernel_rfl) (by rfl) hS rfl rfl b1 (by simp <;> omega) (whole23 _) ?_
  try simp only [Act.put, List.setIfInBounds_toArray, List.set_cons_zero, List.set_cons_succ]
  refine rg_eff 6 rfl (by kernel_rfl) (by rfl) (fun K hK => ?_)
  go_simp
  refine (minus_any N M _ HN.out HM.out HL.out).mono ?_
  rintro e w1 ⟨rfl, hb1⟩
  refine hK _ _ (hS.call hb1) (fun hS => ?_)
  clear hK K
  replace b2 := b2.call hb1
  try simp only [Act.put, List.setIfInBounds_toArray, List.set_cons_zero, List.set_cons_succ]
  refine rg_eff 7 rfl (by kernel_rfl) (by rfl) (fun K hK => ?_)
  go_simp
  refine (signed_mk s (N - M) _ HD.out).mono ?_
  rintro e w2 ⟨rfl, hb2⟩
  refine hK _ _ (hS.call hb2) (fun hS => ?_)
  clear hK K
  replace b2 := b2.call hb2
  try simp only [Act.put, List.setIfInBounds_toArray, List.set_cons_zero, List.set_cons_succ]
  refine rg_eff 8 rfl (by kernel_rfl) (by rfl) (fun K hK => ?_)
  refine wp_st (vs := mk (zn s (N - M))) rfl rfl rfl b2 (by rw [wd_length, mk_length]) (wholeM _) (mk_one _) ?_
  refine hK _ _ (hS.row (.inl (by simp)) _) (fun hS => ?_)
  clear hK K
  try simp only [Act.put, List.setIfInBounds_toArray, List.set_cons_zero, List.set_cons_succ]
  refine rg_take 9 rfl (by kernel_rfl) (by kernel_rfl) (by kernel_rfl) (by rfl) hS (v := ?_) ?_ ?_
  rotate_left
  · (intro w' hS'; go_simp <;> try with_reducible rfl)
  try simp only [Act.put, List.setIfInBounds_toArray, List.set_cons_zero, List.set_cons_succ]
  refine rg_done (by kernel_rfl) ?_
  go_wp2
  refine ret_ct (cs := mk (zn s (N - M))) (v := .bool true) rfl rfl rfl rfl (wholeM _) (b2.row _) ⟨?_, below_row (bthen (bthen hb hb1) hb2) (by omega) _⟩
  rw [HZ.out]
set_option maxHeartbeats 1000000 in
set_option maxRecDepth 100000 in
theorem Add_diff_lt (s t : Bool) (N M : Nat) (w : World) (hN : N < bb ^ 32) (hM : M < bb ^ 32) (hst : s ≠ t) (hlt : N < M) :
    Calls Tryz.prog 113 #[.agg (wd s N).toArray, .agg (wd t M).toArray] w fun e w' => e = .returned (.tuple #[.agg (mk (zn s N + zn t M)).toArray, .bool true]) ∧ Below w.heap.size w w' := by
  have HN := Lib.hid hN
  have HM := Lib.hid hM
  have HL : Hid (N ≤ M) := Nat.le_of_lt hlt
  have HD : Hid (M - N < bb ^ 32) := by
    show M - N < bb ^ 32
    omega
  have HZ : Hid (zn s N + zn t M = zn t (M - N)) := by
    show zn s N + zn t M = zn t (M - N)
    rw [Int.add_comm]; exact zn_sub hst.symm (Nat.le_of_lt hlt)
  have hcn : cmpv N M < 0 := by unfold cmpv; rw [if_pos hlt]; omega
  have hs : (s == t) = false := by simpa using hst
  clear hN hM hlt hst
  have b0 := ((Blk.new w (wd s N) 43 rfl).old (.cells (wd t M).toArray 43)).old (.cells (wd false 0).toArray 43)
  have b1 := (Blk.new (w.alloc (.cells (wd s N).toArray 43)) (wd t M) 43 (b := w.heap.size + 1) (by simp)).old (.cells (wd false 0).toArray 43)
  have b2 := Blk.new ((w.alloc (.cells (wd s N).toArray 43)).alloc (.cells (wd t M).toArray 43)) (wd false 0) 43 (b := w.heap.size + 1 + 1) (by simp)
  have hb : Below w.heap.size w (((w.alloc (.cells (wd s N).toArray 43)).alloc (.cells (wd t M).toArray 43)).alloc (.cells (wd false 0).toArray 43)) := (((Below.refl _ _).alloc (Nat.le_refl _) _).alloc (by simp) _).alloc (by simp; omega) _
  have c0 := b0.cell (wd_sign s N)
  have c1 := b1.cell (wd_sign t M)
  go_enter Tryz.func113, Tryz.ntmps113
  go_wp2_with (first | (with_reducible refine alW rfl rfl ?_) | (with_reducible refine ldD rfl rfl rfl b0 ?_) | (with_reducible refine ldD rfl rfl rfl b1 ?_))
  refine (compare_any N M _ HN.out HM.out).mono ?_
  rintro e W ⟨rfl, hbW⟩
  replace b0 := b0.call hbW
  replace b1 := b1.call hbW
  replace b2 := b2.call hbW
  replace hb := bthen hb hbW
  clear c0 c1 hbW
  have b1' := b1.rowOther (g := w.heap.size) (wd t M).toArray (by omega)
  go_wp2_with (first | (with_reducible refine ldW rfl rfl rfl b0 ?_) | (with_reducible refine ldW rfl rfl rfl b1 ?_) | (with_reducible refine stW rfl rfl rfl rfl b0 ?_) | (with_reducible refine stW rfl rfl rfl rfl b1' ?_))
  replace b0 := (b0.row (wd t M)).rowOther (g := w.heap.size + 1) (wd s N).toArray (by omega)
  replace b1 := b1'.row (wd s N)
  replace b2 := (b2.rowOther (g := w.heap.size) (wd t M).toArray (by omega)).rowOther (g := w.heap.size + 1) (wd s N).toArray (by omega)
  replace hb := below_row (below_row hb (g := w.heap.size) (by omega) (wd t M).toArray) (g := w.heap.size + 1) (by omega) (wd s N).toArray
  clear b1'
  generalize (W.setRow w.heap.size (wd t M).toArray).setRow (w.heap.size + 1) (wd s N).toArray = W at *
  refine rg_start [w.heap.size + 1 + 1] (by kernel_rfl) (fun hS => ?_)
  replace b2 := b2.drew
  have hb := hb.drew
  refine rg_take 0 rfl (by kernel_rfl) (by kernel_rfl) (by kernel_rfl) (by rfl) hS (v := ?_) ?_ ?_
  rotate_left
  · (intro w' hS'; go_simp <;> try with_reducible rfl)
  try simp only [Act.put, List.setIfInBounds_toArray, List.set_cons_zero, List.set_cons_succ]
  refine rg_take 1 rfl (by kernel_rfl) (by kernel_rfl) (by kernel_rfl) (by rfl) hS (v := ?_) ?_ ?_
  rotate_left
  · (intro w' hS'; have hc := (b0.keep hS' (by simp <;> omega)).cell (i := 0) (v := .bool t) (wd_sign t M); go_simp <;> try with_reducible rfl)
  try simp only [Act.put, List.setIfInBounds_toArray, List.set_cons_zero, List.set_cons_succ]
  refine rg_take 2 rfl (by kernel_rfl) (by kernel_rfl) (by kernel_rfl) (by rfl) hS (v := ?_) ?_ ?_
  rotate_left
  · (intro w' hS'; go_simp <;> try with_reducible rfl)
  try simp only [Act.put, List.setIfInBounds_toArray, List.set_cons_zero, List.set_cons_succ]
  refine rg_ldT 3 rfl (by kernel_rfl) (by kernel_rfl) (by kernel_rfl) (by rfl) hS rfl rfl b0 (by simp <;> omega) (whole23 _) ?_
  try simp only [Act.put, List.setIfInBounds_toArray, List.set_cons_zero, List.set_cons_succ]
  refine rg_take 4 rfl (by kernel_rfl) (by kernel_rfl) (by kernel_rfl) (by rfl) hS (v := ?_) ?_ ?_
  rotate_left
  · (intro w' hS'; go_simp <;> try with_reducible rfl)
  try simp only [Act.put, List.setIfInBounds_toArray, List.set_cons_zero, List.set_cons_succ]
  refine rg_ldT 5 rfl (by kernel_rfl) (by kernel_rfl) (by kernel_rfl) (by rfl) hS rfl rfl b1 (by simp <;> omega) (whole23 _) ?_
  try simp only [Act.put, List.setIfInBounds_toArray, List.set_cons_zero, List.set_cons_succ]
  refine rg_eff 6 rfl (by kernel_rfl) (by rfl) (fun K hK => ?_)
  go_simp
  refine (minus_any M N _ HM.out HN.out HL.out).mono ?_
  rintro e w1 ⟨rfl, hb1⟩
  refine hK _ _ (hS.call hb1) (fun hS => ?_)
  clear hK K
  replace b2 := b2.call hb1
  try simp only [Act.put, List.setIfInBounds_toArray, List.set_cons_zero, List.set_cons_succ]
  refine rg_eff 7 rfl (by kernel_rfl) (by rfl) (fun K hK => ?_)
  go_simp
  refine (signed_mk t (M - N) _ HD.out).mono ?_
  rintro e w2 ⟨rfl, hb2⟩
  refine hK _ _ (hS.call hb2) (fun hS => ?_)
  clear hK K
  replace b2 := b2.call hb2
  try simp only [Act.put, List.setIfInBounds_toArray, List.set_cons_zero, List.set_cons_succ]
  refine rg_eff 8 rfl (by kernel_rfl) (by rfl) (fun K hK => ?_)
  refine wp_st (vs := mk (zn t (M - N))) rfl rfl rfl b2 (by rw [wd_length, mk_length]) (wholeM _) (mk_one _) ?_
  refine hK _ _ (hS.row (.inl (by simp)) _) (fun hS => ?_)
  clear hK K
  try simp only [Act.put, List.setIfInBounds_toArray, List.set_cons_zero, List.set_cons_succ]
  refine rg_take 9 rfl (by kernel_rfl) (by kernel_rfl) (by kernel_rfl) (by rfl) hS (v := ?_) ?_ ?_
  rotate_left
  · (intro w' hS'; go_simp <;> try with_reducible rfl)
  try simp only [Act.put, List.setIfInBounds_toArray, List.set_cons_zero, List.set_cons_succ]
  refine rg_done (by kernel_rfl) ?_
  go_wp2
  refine ret_ct (cs := mk (zn t (M - N))) (v := .bool true) rfl rfl rfl rfl (wholeM _) (b2.row _) ⟨?_, below_row (bthen (bthen hb hb1) hb2) (by omega) _⟩
  rw [HZ.out]
/-- Add, where the sum fits. -/
theorem Add_yes (s t : Bool) (N M : Nat) (w : World) (hN : N < bb ^ 32) (hM : M < bb ^ 32) (h : fits (zn s N + zn t M)) :
    Calls Tryz.prog 113 #[.agg (wd s N).toArray, .agg (wd t M).toArray] w fun e w' => e = .returned (.tuple #[.agg (mk (zn s N + zn t M)).toArray, .bool true]) ∧ Below w.heap.size w w' := by
  by_cases hst : s = t
  · subst hst
    refine Add_same s N M w hN hM ?_
    rwa [fits, zn_add, zn_abs] at h
  · rcases Nat.lt_or_ge N M with h1 | h1
    · exact Add_diff_lt s t N M w hN hM hst h1
    · exact Add_diff_ge s t N M w hN hM hst h1
/-- Add, where it doesn't. -/
theorem Add_no (s t : Bool) (N M : Nat) (w : World) (hN : N < bb ^ 32) (hM : M < bb ^ 32) (h : ¬ fits (zn s N + zn t M)) :
    Calls Tryz.prog 113 #[.agg (wd s N).toArray, .agg (wd t M).toArray] w fun e w' => e = .returned (.tuple #[.agg (mk 0).toArray, .bool false]) ∧ Below w.heap.size w w' := by
  by_cases hst : s = t
  · subst hst
    refine Add_over s N M w hN hM ?_
    rwa [fits, zn_add, zn_abs] at h
  · exfalso
    apply h
    rcases Nat.lt_or_ge N M with h1 | h1
    · rw [fits, Int.add_comm, zn_sub (Ne.symm hst) (Nat.le_of_lt h1), zn_abs]; omega
    · rw [fits, zn_sub hst h1, zn_abs]; omega
end Go.Proofs.YtoegjibeomhekaaGreat

/- The calls of package wide on numbers as they are written: sums, differences, order, signs. -/
namespace Go.Proofs.YtoegjibeomhekaaGreat
set_option linter.unusedSimpArgs false
set_option linter.unusedVariables false
open Go.RowKit
set_option maxRecDepth 100000
/-- The cells cs are a Wide that stands for x. -/
def Wd (cs : List Value) (x : Int) : Prop := ∃ s N, cs = wd s N ∧ x = zn s N ∧ N < bb ^ 32
theorem Wd.len {cs : List Value} {x : Int} (h : Wd cs x) : cs.length = 33 := by obtain ⟨s, N, rfl, _, _⟩ := h; exact wd_length _ _
theorem Wd.one {cs : List Value} {x : Int} (h : Wd cs x) : ∀ v ∈ cs, v.oneCell' = true := by obtain ⟨s, N, rfl, _, _⟩ := h; exact wd_one _ _
theorem Wd.fits {cs : List Value} {x : Int} (h : Wd cs x) : fits x := by obtain ⟨s, N, rfl, rfl, h⟩ := h; rwa [Go.Proofs.YtoegjibeomhekaaGreat.fits, zn_abs]
theorem zn_self (z : Int) : zn (decide (z < 0)) z.natAbs = z := by unfold zn; by_cases h : z < 0 <;> simp [h] <;> omega
theorem wd_of {z : Int} (h : fits z) : Wd (mk z) z := ⟨_, _, rfl, (zn_self z).symm, h⟩
theorem wholeC {cs : List Value} (h : cs.length = 33) : Whole Tryz.prog 43 cs.length := by
  obtain ⟨d, h1, h2⟩ := under25
  exact ⟨d, h1, h2, by rw [h]; exact size25⟩
theorem fits_of {n : Int} (h1 : -18446744073709551616 < n) (h2 : n < 18446744073709551616) : fits n :=
  Nat.lt_of_lt_of_le (by rw [bb_eq]; omega : n.natAbs < bb ^ 2) (bp_mono (by omega))
section
variable {ops : Array Oper} {rest : List Oper} {o : Oper} {a : Act} {w : World} {Q : Exit → Act → World → Prop}
theorem stC {t : TypeId} {x y : Operand} {b : Nat} {vs cs : List Value} (hgd : o.guard = none) (ho : o.op = .store 43 x y) (hx : a.eval x = .pointer (some ⟨b, 0, none⟩)) (hy : a.eval y = .agg vs.toArray) (h : Blk w b cs t) (hl : cs.length = 33) (z : Int) (hv : Wd vs z)
    (hr : wpList Tryz.prog ops Q rest (a.put o.dst undef) (w.setRow b vs.toArray)) : wpList Tryz.prog ops Q (o :: rest) a w :=
  st_blk hgd ho hx hy h (by rw [hl, hv.len]) (by rw [hv.len]; exact size25) hv.one hr
theorem ldC {t : TypeId} {x : Operand} {b : Nat} {cs : List Value} (hgd : o.guard = none) (ho : o.op = .load 43 x) (hx : a.eval x = .pointer (some ⟨b, 0, none⟩)) (h : Blk w b cs t) (hl : cs.length = 33)
    (hr : wpList Tryz.prog ops Q rest (a.put o.dst (.agg cs.toArray)) w) : wpList Tryz.prog ops Q (o :: rest) a w := by
  obtain ⟨d, hu, hd⟩ := under25
  exact ld_blk hgd ho hx h d hu hd (by rw [hl]; exact size25) hr
end
/-- What a call of one result, of two, of three answers; nothing that was there has turned. -/
def Ans (w : World) (v : Value) (e : Ending) (w' : World) : Prop := e = .returned v ∧ Below w.heap.size w w'
theorem From_w (n : Int) (w : World) (h1 : -9223372036854775808 ≤ n) (h2 : n ≤ 9223372036854775807) :
    Calls Tryz.prog 53 #[.int .i64 n] w fun e w' => e = .returned (.agg (mk n).toArray) ∧ Below w.heap.size w w' := From_any n w h1 h2
theorem Add_w {cs ds : List Value} {x y : Int} (hx : Wd cs x) (hy : Wd ds y) (w : World) (h : fits (x + y)) :
    Calls Tryz.prog 113 #[.agg cs.toArray, .agg ds.toArray] w fun e w' => e = .returned (.tuple #[.agg (mk (x + y)).toArray, .bool true]) ∧ Below w.heap.size w w' := by
  obtain ⟨s, N, rfl, rfl, hN⟩ := hx
  obtain ⟨t, M, rfl, rfl, hM⟩ := hy
  exact Add_yes s t N M w hN hM h
theorem Add_wn {cs ds : List Value} {x y : Int} (hx : Wd cs x) (hy : Wd ds y) (w : World) (h : ¬ fits (x + y)) :
    Calls Tryz.prog 113 #[.agg cs.toArray, .agg ds.toArray] w fun e w' => e = .returned (.tuple #[.agg (mk 0).toArray, .bool false]) ∧ Below w.heap.size w w' := by
  obtain ⟨s, N, rfl, rfl, hN⟩ := hx
  obtain ⟨t, M, rfl, rfl, hM⟩ := hy
  exact Add_no s t N M w hN hM h
theorem Neg_w {cs : List Value} {x : Int} (hx : Wd cs x) (w : World) :
    Calls Tryz.prog 78 #[.agg cs.toArray] w fun e w' => e = .returned (.agg (mk (-x)).toArray) ∧ Below w.heap.size w w' := by
  obtain ⟨s, N, rfl, rfl, hN⟩ := hx
  exact Neg_any s N w hN
theorem Cmp_w {cs ds : List Value} {x y : Int} (hx : Wd cs x) (hy : Wd ds y) (w : World) :
    Calls Tryz.prog 74 #[.agg cs.toArray, .agg ds.toArray] w fun e w' => e = .returned (.int .i64 (if x < y then -1 else if y < x then 1 else 0)) ∧ Below w.heap.size w w' := by
  obtain ⟨s, N, rfl, rfl, hN⟩ := hx
  obtain ⟨t, M, rfl, rfl, hM⟩ := hy
  exact Cmp_any s t N M w hN hM
theorem fits_neg {z : Int} (h : fits z) : fits (-z) := by rwa [fits, Int.natAbs_neg]
end Go.Proofs.YtoegjibeomhekaaGreat
