/- Joined of: Rat Rcn Rop Rsf Rss. -/
import Derived.Test.YtoegjibeomhekaaGreatWdz
import Derived.Test.YtoegjibeomhekaaGreatNum
/- Fractions in memory: 66 cells. -/
namespace Go.Proofs.YtoegjibeomhekaaGreat
set_option linter.unusedSimpArgs false
set_option linter.unusedVariables false
open Go.RowKit
set_option maxRecDepth 100000
/-- A fraction's cells: the number above the line, the number below it. -/
def fr (n d : Int) : List Value := mk n ++ mk d
/-- Raw: two Wides, whatever they are. -/
def rr (s : Bool) (N : Nat) (t : Bool) (M : Nat) : List Value := wd s N ++ wd t M
theorem fr_rr (n d : Int) : fr n d = rr (decide (n < 0)) n.natAbs (decide (d < 0)) d.natAbs := rfl
theorem rr_length (s : Bool) (N : Nat) (t : Bool) (M : Nat) : (rr s N t M).length = 66 := by simp [rr, wd_length]
theorem fr_length (n d : Int) : (fr n d).length = 66 := rr_length _ _ _ _
theorem rr_one (s : Bool) (N : Nat) (t : Bool) (M : Nat) : ∀ v ∈ rr s N t M, v.oneCell' = true := by
  intro v hv
  rcases List.mem_append.1 hv with h | h
  · exact wd_one _ _ v h
  · exact wd_one _ _ v h
theorem fr_one (n d : Int) : ∀ v ∈ fr n d, v.oneCell' = true := rr_one _ _ _ _
theorem zeroR : (Tryz.prog.info? 45).map (·.zero) = some (some (.agg (rr false 0 false 0).toArray)) := by kernel_rfl
theorem sizeR : (Tryz.prog.info? 45).map (·.size) = some 66 := by kernel_rfl
theorem underR : ∃ d, Tryz.prog.underlying 45 = some d ∧ d.isRow = true := ⟨_, Tryz.underlying45, rfl⟩
theorem wholeR (s : Bool) (N : Nat) (t : Bool) (M : Nat) : Whole Tryz.prog 45 (rr s N t M).length := by
  obtain ⟨d, h, h'⟩ := underR
  exact ⟨d, h, h', by rw [rr_length]; exact sizeR⟩
theorem wholeF (n d : Int) : Whole Tryz.prog 45 (fr n d).length := wholeR _ _ _ _
/-- cs lies in L from place f on. -/
def Part (L : List Value) (f : Nat) (cs : List Value) : Prop := ∀ j v, cs[j]? = some v → L[f + j]? = some v
theorem part_n (s : Bool) (N : Nat) (t : Bool) (M : Nat) : Part (rr s N t M) 0 (wd s N) := fun j v h => by
  rw [Nat.zero_add, rr, List.getElem?_append_left (List.getElem?_eq_some_iff.1 h).1]; exact h
theorem part_d (s : Bool) (N : Nat) (t : Bool) (M : Nat) : Part (rr s N t M) 33 (wd t M) := fun j v h => by
  rw [rr, List.getElem?_append_right (by rw [wd_length]; omega), wd_length, Nat.add_sub_cancel_left]; exact h
theorem partF_n (n d : Int) : Part (fr n d) 0 (mk n) := part_n _ _ _ _
theorem partF_d (n d : Int) : Part (fr n d) 33 (mk d) := part_d _ _ _ _
theorem Blk.part {w : World} {b f : Nat} {L cs : List Value} {t : TypeId} (h : Blk w b L t) (hp : Part L f cs) : w.rangeAt b f cs := fun j v hv => h.cell (hp j v hv)
theorem op_part {P : Program} {o : Oper} {a : Act} {w : World} {ty t : TypeId} {x : Operand} {b f : Nat} {L cs : List Value} (ho : o.op = .load ty x) (hx : a.eval x = .pointer (some ⟨b, f, none⟩)) (h : Blk w b L t) (hp : Part L f cs) (W : Whole P ty cs.length) :
    (execOp a.eval o).run P w = .ok (.value (.agg cs.toArray)) w := by
  obtain ⟨d, hu, hd, hi⟩ := W
  unfold execOp
  simp only [ho, hx, Instr.loadAt, Instr.sureAddr, Sem.run_bind, Sem.run_pure, Result.andThen_ok, run_loadVar_mid w b f ty cs d (h.part hp) hu hd hi]
theorem rg_ldP {P : Program} {l : List Oper} {Q : Exit → Act → World → Prop} {G : List Nat} {w0 w : World} {a : Act} {fuel : Nat} {listed : Array Bool} (i : Nat) {o : Oper} {ty t : TypeId} {x : Operand} {b f : Nat} {L cs : List Value} (hi : l[i]? = some o) (hs : Region.noSelect l.toArray = true) (hf : Region.free .any l.toArray listed i = true) (hr : (Region.ready .any l.toArray listed).contains i = true)
    (hw : Region.wanted o (yielded l.toArray a.tmps) = true) (hS : Keep G w0 w) (ho : o.op = .load ty x) (hx : a.eval x = .pointer (some ⟨b, f, none⟩)) (hB : Blk w0 b L t) (hb : b ∉ G) (hp : Part L f cs) (W : Whole P ty cs.length)
    (h : wpAnyH P .any l.toArray (NoPanic Q) (Keep G w0) fuel (listed.setIfInBounds i true) (a.put o.dst (.agg cs.toArray)) w) : wpAnyH P .any l.toArray (NoPanic Q) (Keep G w0) (fuel + 1) listed a w :=
  rg_take i hi hs hf hr hw hS (fun w' hS' => op_part ho hx (hB.keep hS' hb) hp W) h
section
variable {ops : Array Oper} {rest : List Oper} {o : Oper} {a : Act} {w : World} {Q : Exit → Act → World → Prop}
/-- Part of a block is loaded; behind a guard likewise. -/
theorem ldP {ty t : TypeId} {x : Operand} {b f : Nat} {L cs : List Value} (hgd : o.guard = none) (ho : o.op = .load ty x) (hx : a.eval x = .pointer (some ⟨b, f, none⟩)) (h : Blk w b L t) (hp : Part L f cs) (W : Whole Tryz.prog ty cs.length)
    (hr : wpList Tryz.prog ops Q rest (a.put o.dst (.agg cs.toArray)) w) : wpList Tryz.prog ops Q (o :: rest) a w :=
  wpList_plain hgd fun K hK => by
    have := hK _ _ hr
    unfold Oper.wp
    rw [op_part ho hx h hp W]
    exact this
theorem ldPg {ty t : TypeId} {x : Operand} {b f : Nat} {L cs : List Value} (hw : Region.wanted o (yielded ops a.tmps) = true) (ho : o.op = .load ty x) (hx : a.eval x = .pointer (some ⟨b, f, none⟩)) (h : Blk w b L t) (hp : Part L f cs) (W : Whole Tryz.prog ty cs.length)
    (hr : wpList Tryz.prog ops Q rest (a.put o.dst (.agg cs.toArray)) w) : wpList Tryz.prog ops Q (o :: rest) a w :=
  BigFrame.wpList_want hw fun K hK => by
    have := hK _ _ hr
    unfold Oper.wp
    rw [op_part ho hx h hp W]
    exact this
theorem part_all (L : List Value) : Part L 0 L := fun j v h => by rw [Nat.zero_add]; exact h
/-- A fraction is stored, made, built. -/
theorem stR {t : TypeId} {x y : Operand} {b : Nat} {n d : Int} {cs : List Value} (hgd : o.guard = none) (ho : o.op = .store 45 x y) (hx : a.eval x = .pointer (some ⟨b, 0, none⟩)) (hy : a.eval y = .agg (fr n d).toArray) (h : Blk w b cs t) (hl : cs.length = 66)
    (hr : wpList Tryz.prog ops Q rest (a.put o.dst undef) (w.setRow b (fr n d).toArray)) : wpList Tryz.prog ops Q (o :: rest) a w :=
  st_blk hgd ho hx hy h (by rw [hl, fr_length]) (by rw [fr_length]; exact sizeR) (fr_one n d) hr
theorem stRr {t : TypeId} {x y : Operand} {b : Nat} {s s' : Bool} {N M : Nat} {cs : List Value} (hgd : o.guard = none) (ho : o.op = .store 45 x y) (hx : a.eval x = .pointer (some ⟨b, 0, none⟩)) (hy : a.eval y = .agg (rr s N s' M).toArray) (h : Blk w b cs t) (hl : cs.length = 66)
    (hr : wpList Tryz.prog ops Q rest (a.put o.dst undef) (w.setRow b (rr s N s' M).toArray)) : wpList Tryz.prog ops Q (o :: rest) a w :=
  st_blk hgd ho hx hy h (by rw [hl, rr_length]) (by rw [rr_length]; exact sizeR) (rr_one _ _ _ _) hr
theorem alR (hgd : o.guard = none) (ho : o.op = .alloc 45)
    (hr : wpList Tryz.prog ops Q rest (a.put o.dst (.pointer (some ⟨w.heap.size, 0, none⟩))) (w.alloc (.cells (rr false 0 false 0).toArray 45))) : wpList Tryz.prog ops Q (o :: rest) a w :=
  al_blk hgd ho zeroR hr
end
theorem builtR (s : Bool) (N : Nat) (t : Bool) (M : Nat) : Tryz.prog.built 45 [(0, .agg (wd s N).toArray), (1, .agg (wd t M).toArray)] = some (rr s N t M).toArray := by kernel_rfl
theorem builtF (n d : Int) : Tryz.prog.built 45 [(0, .agg (mk n).toArray), (1, .agg (mk d).toArray)] = some (fr n d).toArray := builtR _ _ _ _
theorem builtR0 : Tryz.prog.built 45 [] = some (rr false 0 false 0).toArray := by kernel_rfl
section
variable {ops : Array Oper} {rest : List Oper} {o : Oper} {a : Act} {w : World} {Q : Exit → Act → World → Prop}
theorem bdF {p q : Operand} {n d : Int} (hgd : o.guard = none) (ho : o.op = .build 45 #[(0, p), (1, q)]) (hp : a.eval p = .agg (mk n).toArray) (hq : a.eval q = .agg (mk d).toArray)
    (hr : wpList Tryz.prog ops Q rest (a.put o.dst (.agg (fr n d).toArray)) w) : wpList Tryz.prog ops Q (o :: rest) a w :=
  wpList_plain hgd fun K hK => by
    have := hK _ _ hr
    unfold Oper.wp execOp
    simp only [ho, Sem.run_bind]
    rw [show Array.map (fun x : Nat × Operand => (x.fst, a.eval x.snd)) #[(0, p), (1, q)] = #[(0, .agg (mk n).toArray), (1, .agg (mk d).toArray)] by simp [hp, hq], run_build w 45 _ _ (builtF n d)]
    exact this
theorem bdR0 (hgd : o.guard = none) (ho : o.op = .build 45 #[])
    (hr : wpList Tryz.prog ops Q rest (a.put o.dst (.agg (rr false 0 false 0).toArray)) w) : wpList Tryz.prog ops Q (o :: rest) a w :=
  wpList_plain hgd fun K hK => by
    have := hK _ _ hr
    unfold Oper.wp execOp
    simp only [ho, Sem.run_bind]
    rw [show Array.map (fun x : Nat × Operand => (x.fst, a.eval x.snd)) #[] = #[] by simp, run_build w 45 #[] _ builtR0]
    exact this
end
end Go.Proofs.YtoegjibeomhekaaGreat

/- Package ratio: its small functions: sign, isOne, times, part, whole, Is. -/
namespace Go.Proofs.YtoegjibeomhekaaGreat
set_option linter.unusedSimpArgs false
set_option linter.unusedVariables false
open Go.RowKit
set_option maxRecDepth 100000
/-- The sign of x. -/
def sn (x : Int) : Int := if x < 0 then -1 else if 0 < x then 1 else 0
theorem sn_zero (x : Int) : sn x = 0 ↔ x = 0 := by
  unfold sn
  by_cases h : x < 0
  · simp [h]; omega
  · by_cases h2 : 0 < x
    · simp [h, h2]; omega
    · simp [h, h2]; omega
theorem sn_neg (x : Int) : sn x < 0 ↔ x < 0 := by
  unfold sn
  by_cases h : x < 0
  · simp [h]
  · by_cases h2 : 0 < x
    · simp [h, h2]
    · simp [h, h2]
theorem sn_pos (x : Int) : 0 < sn x ↔ 0 < x := by
  unfold sn
  by_cases h : x < 0
  · simp [h]; omega
  · by_cases h2 : 0 < x
    · simp [h, h2]
    · simp [h, h2]
theorem f0 : fits 0 := small_fits (by decide) (by decide)
theorem f1 : fits 1 := small_fits (by decide) (by decide)
theorem mk0 : wd false 0 = mk 0 := rfl
set_option maxHeartbeats 1000000 in
theorem rsign_any {x : Int} (hx : fits x) (w : World) : Calls Tryz.prog 62 #[.agg (mk x).toArray] w fun e w' => e = .returned (.int .i64 (sn x)) ∧ Below w.heap.size w w' := by
  have HC := Lib.hid (fun w => Cmp_w (wd_of hx) (wd_of f0) w)
  clear hx
  have b1 := Blk.new w (mk x) 43 rfl
  have hb : Below w.heap.size w (w.alloc (.cells (mk x).toArray 43)) := (Below.refl _ _).alloc (Nat.le_refl _) _
  go_enter Tryz.func62, Tryz.ntmps62
  go_wp2_with (first | (with_reducible refine ldM rfl rfl rfl b1 ?_) | (with_reducible refine bdW0 rfl rfl ?_))
  rw [mk0]
  refine (HC.out _).mono ?_
  rintro e w1 ⟨rfl, h1⟩
  rw [show (if x < 0 then -1 else if 0 < x then 1 else 0 : Int) = sn x from rfl]
  go_wp2
  go_ret
  exact ⟨rfl, bthen hb h1⟩
set_option maxHeartbeats 1000000 in
theorem isOne_any {x : Int} (hx : fits x) (w : World) : Calls Tryz.prog 68 #[.agg (mk x).toArray] w fun e w' => e = .returned (.bool (decide (x = 1))) ∧ Below w.heap.size w w' := by
  have HX := Lib.hid hx
  clear hx
  have b1 := Blk.new w (mk x) 43 rfl
  have hb : Below w.heap.size w (w.alloc (.cells (mk x).toArray 43)) := (Below.refl _ _).alloc (Nat.le_refl _) _
  go_enter Tryz.func68, Tryz.ntmps68
  go_wp2_with fail
  generalize w.alloc (.cells (mk x).toArray 43) = W at *
  refine rg_start [] (by kernel_rfl) (fun hS => ?_)
  replace hb := hb.drew
  refine rg_ld 0 rfl (by kernel_rfl) (by kernel_rfl) (by kernel_rfl) (by rfl) hS rfl rfl b1 (by simp <;> omega) (wholeM _) ?_
  try simp only [Act.put, List.setIfInBounds_toArray, List.set_cons_zero, List.set_cons_succ]
  refine rg_eff 1 rfl (by kernel_rfl) (by rfl) (fun K hK => ?_)
  go_simp
  refine (k_from 1 (by decide) (by decide) _).mono ?_
  rintro e w1 ⟨rfl, h1⟩
  refine hK _ _ (hS.call h1) (fun hS => ?_)
  clear hK K
  replace hb := bthen hb h1
  clear h1
  try simp only [Act.put, List.setIfInBounds_toArray, List.set_cons_zero, List.set_cons_succ]
  refine rg_take 2 rfl (by kernel_rfl) (by kernel_rfl) (by kernel_rfl) (by rfl) hS (v := .bool (decide (x = 1))) (fun w' _ => op_eqZ HX.out f1 rfl rfl rfl w') ?_
  try simp only [Act.put, List.setIfInBounds_toArray, List.set_cons_zero, List.set_cons_succ]
  refine rg_take 3 rfl (by kernel_rfl) (by kernel_rfl) (by kernel_rfl) (by rfl) hS (v := ?_) ?_ ?_
  rotate_left
  · (intro w' hS'; go_simp <;> try with_reducible rfl)
  try simp only [Act.put, List.setIfInBounds_toArray, List.set_cons_zero, List.set_cons_succ]
  refine rg_done (by kernel_rfl) ?_
  go_wp2
  go_ret
  exact ⟨rfl, hb⟩
theorem isOne_yes (w : World) : Calls Tryz.prog 68 #[.agg (mk 1).toArray] w fun e w' => e = .returned (.bool true) ∧ Below w.heap.size w w' := isOne_any f1 w
theorem isOne_no {x : Int} (hx : fits x) (h : ¬ x = 1) (w : World) : Calls Tryz.prog 68 #[.agg (mk x).toArray] w fun e w' => e = .returned (.bool false) ∧ Below w.heap.size w w' := by
  have := isOne_any hx w
  rwa [decide_eq_false h] at this
set_option maxHeartbeats 1000000 in
theorem rtimes_any {x y : Int} (hx : fits x) (hy : fits y) (h : fits (x * y)) (w : World) : Calls Tryz.prog 75 #[.agg (mk x).toArray, .agg (mk y).toArray] w fun e w' => e = .returned (.agg (mk (x * y)).toArray) ∧ Below w.heap.size w w' := by
  have HM := Lib.hid (fun w => Mul_w (wd_of hx) (wd_of hy) w h)
  obtain ⟨z, hz⟩ : ∃ z, x * y = z := ⟨_, rfl⟩
  rw [hz] at HM ⊢
  clear hx hy h hz
  have b2 := ((Blk.new w (mk x) 43 rfl).old (.cells (mk y).toArray 43)).old (.cells (wd false 0).toArray 43)
  have b3 := (Blk.new (w.alloc (.cells (mk x).toArray 43)) (mk y) 43 (b := w.heap.size + 1) (by simp)).old (.cells (wd false 0).toArray 43)
  have b4 := Blk.new ((w.alloc (.cells (mk x).toArray 43)).alloc (.cells (mk y).toArray 43)) (wd false 0) 43 (b := w.heap.size + 1 + 1) (by simp)
  have hb : Below w.heap.size w (((w.alloc (.cells (mk x).toArray 43)).alloc (.cells (mk y).toArray 43)).alloc (.cells (wd false 0).toArray 43)) := (((Below.refl _ _).alloc (Nat.le_refl _) _).alloc (by simp) _).alloc (by simp; omega) _
  go_enter Tryz.func75, Tryz.ntmps75
  go_wp2_with (first | (with_reducible refine alW rfl rfl ?_) | (with_reducible refine ldM rfl rfl rfl b2 ?_) | (with_reducible refine ldM rfl rfl rfl b3 ?_))
  refine (HM.out _).mono ?_
  rintro e w1 ⟨rfl, h1⟩
  replace b4 := b4.call h1
  replace hb := bthen hb h1
  have f := Blk.new w1 (wd false 0) 43 rfl
  have b5 := laid_new w1 z
  have c4 := laid_old b4 z
  have hc := laid_below hb z
  go_wp2_with (first | (with_reducible refine alW rfl rfl ?_) | (with_reducible refine stM rfl rfl rfl rfl f (wd_length _ _) ?_) | (with_reducible refine ldM rfl rfl rfl b5 ?_) | (with_reducible refine stM rfl rfl rfl rfl c4 (wd_length _ _) ?_))
  exact ret_c (cs := mk z) rfl rfl rfl (wholeM _) (c4.row _) ⟨rfl, below_row hc (by omega) _⟩
set_option maxHeartbeats 1000000 in
theorem part_any {x g : Int} (hx : fits x) (hg : fits g) (h0 : g ≠ 0) (w : World) : Calls Tryz.prog 79 #[.agg (mk x).toArray, .agg (mk g).toArray] w fun e w' => e = .returned (.agg (mk (x.tdiv g)).toArray) ∧ Below w.heap.size w w' := by
  have b2 := ((Blk.new w (mk x) 43 rfl).old (.cells (mk g).toArray 43)).old (.cells (wd false 0).toArray 43)
  have b3 := (Blk.new (w.alloc (.cells (mk x).toArray 43)) (mk g) 43 (b := w.heap.size + 1) (by simp)).old (.cells (wd false 0).toArray 43)
  have b4 := Blk.new ((w.alloc (.cells (mk x).toArray 43)).alloc (.cells (mk g).toArray 43)) (wd false 0) 43 (b := w.heap.size + 1 + 1) (by simp)
  have hb : Below w.heap.size w (((w.alloc (.cells (mk x).toArray 43)).alloc (.cells (mk g).toArray 43)).alloc (.cells (wd false 0).toArray 43)) := (((Below.refl _ _).alloc (Nat.le_refl _) _).alloc (by simp) _).alloc (by simp; omega) _
  by_cases h1 : g = 1
  · subst h1
    rw [Int.tdiv_one]
    clear hx hg h0
    go_enter Tryz.func79, Tryz.ntmps79
    go_wp2_with (first | (with_reducible refine alW rfl rfl ?_) | (with_reducible refine ldM rfl rfl rfl b2 ?_) | (with_reducible refine ldM rfl rfl rfl b3 ?_))
    refine (isOne_yes _).mono ?_
    rintro e w1 ⟨rfl, h1⟩
    replace b2 := b2.call h1
    replace b4 := b4.call h1
    replace hb := bthen hb h1
    go_wp2_with (first | (with_reducible refine ldM rfl rfl rfl b2 ?_) | (with_reducible refine stM rfl rfl rfl rfl b4 (wd_length _ _) ?_))
    exact ret_c (cs := mk x) rfl rfl rfl (wholeM _) (b4.row _) ⟨rfl, below_row hb (by omega) _⟩
  · have HD := Lib.hid (fun w => DivMod_z (wd_of hx) (wd_of hg) h0 w)
    have HO := Lib.hid (fun w => isOne_no hg h1 w)
    obtain ⟨q, hq⟩ : ∃ q, x.tdiv g = q := ⟨_, rfl⟩
    obtain ⟨r, hr⟩ : ∃ r, x.tmod g = r := ⟨_, rfl⟩
    rw [hq, hr] at HD
    rw [hq]
    clear hx hg h0 hq hr h1
    go_enter Tryz.func79, Tryz.ntmps79
    go_wp2_with (first | (with_reducible refine alW rfl rfl ?_) | (with_reducible refine ldM rfl rfl rfl b2 ?_) | (with_reducible refine ldM rfl rfl rfl b3 ?_))
    refine (HO.out _).mono ?_
    rintro e w1 ⟨rfl, h1⟩
    replace b2 := b2.call h1
    replace b3 := b3.call h1
    replace b4 := b4.call h1
    replace hb := bthen hb h1
    clear h1
    go_wp2_with (first | (with_reducible refine ldM rfl rfl rfl b2 ?_) | (with_reducible refine ldM rfl rfl rfl b3 ?_))
    refine (HD.out _).mono ?_
    rintro e w1 ⟨rfl, h1⟩
    replace b4 := b4.call h1
    replace hb := bthen hb h1
    clear h1
    have l4 := b4.lt
    have b4' := laid_two b4 q r
    have f5 := (Blk.new w1 (wd false 0) 43 rfl).old (.cells (wd false 0).toArray 43)
    have f6 := (Blk.new (w1.alloc (.cells (wd false 0).toArray 43)) (wd false 0) 43 (b := w1.heap.size + 1) (by simp)).rowOther (g := w1.heap.size) (mk q).toArray (by omega)
    have b5 := (f5.row (mk q)).rowOther (g := w1.heap.size + 1) (mk r).toArray (by omega)
    have hc := laid_below2 hb q r
    go_wp2_with (first | (with_reducible refine alW2 rfl rfl ?_) | (with_reducible refine alW rfl rfl ?_) | (with_reducible refine stM rfl rfl rfl rfl f5 (wd_length _ _) ?_) | (with_reducible refine stM rfl rfl rfl rfl f6 (wd_length _ _) ?_) | (with_reducible refine ldM rfl rfl rfl b5 ?_) | (with_reducible refine stM rfl rfl rfl rfl b4' (wd_length _ _) ?_))
    exact ret_c (cs := mk q) rfl rfl rfl (wholeM _) (b4'.row _) ⟨rfl, below_row hc (by omega) _⟩
end Go.Proofs.YtoegjibeomhekaaGreat

/- Package ratio: Is, Safe. -/
namespace Go.Proofs.YtoegjibeomhekaaGreat
set_option linter.unusedSimpArgs false
set_option linter.unusedVariables false
open Go.RowKit
set_option maxRecDepth 100000
/-- x has at most k bits. -/
def Sz (k : Nat) (x : Int) : Prop := x.natAbs < 2 ^ k
theorem sz_bits {k : Nat} {x : Int} : bitLen x.natAbs ≤ k ↔ Sz k x := by
  have ⟨h1, h2⟩ := bitLen_spec x.natAbs
  constructor
  · intro h; exact Nat.lt_of_lt_of_le h1 (Nat.pow_le_pow_right (by decide) h)
  · intro h
    by_cases h0 : x.natAbs = 0
    · rw [h0, show bitLen 0 = 0 from rfl]; exact Nat.zero_le _
    · rcases Nat.lt_or_ge k (bitLen x.natAbs) with h3 | h3
      · have := h2 h0
        have h4 := Nat.pow_le_pow_right (n := 2) (by decide) (show k ≤ bitLen x.natAbs - 1 by omega)
        unfold Sz at h
        omega
      · exact h3
theorem sz_mono {j k : Nat} {x : Int} (h : Sz j x) (hk : j ≤ k) : Sz k x := Nat.lt_of_lt_of_le h (Nat.pow_le_pow_right (by decide) hk)
theorem sz_mul {j k : Nat} {x y : Int} (hx : Sz j x) (hy : Sz k y) : Sz (j + k) (x * y) := by
  unfold Sz at *
  rw [Int.natAbs_mul, Nat.pow_add]
  exact Nat.mul_lt_mul_of_lt_of_le hx (Nat.le_of_lt hy) (Nat.two_pow_pos k)
theorem sz_add {k : Nat} {x y : Int} (hx : Sz k x) (hy : Sz k y) : Sz (k + 1) (x + y) := by
  unfold Sz at *
  rw [Nat.pow_succ]; omega
theorem sz_neg {k : Nat} {x : Int} (hx : Sz k x) : Sz k (-x) := by unfold Sz at *; rwa [Int.natAbs_neg]
theorem sz_le {k : Nat} {x y : Int} (hx : Sz k x) (h : y.natAbs ≤ x.natAbs) : Sz k y := Nat.lt_of_le_of_lt h hx
theorem sz_dvd {k : Nat} {x y : Int} (hx : Sz k x) (h0 : x ≠ 0) (h : y ∣ x) : Sz k y := sz_le hx (Nat.le_of_dvd (by omega) (Int.natAbs_dvd_natAbs.2 h))
theorem sz_tdiv {k : Nat} {x : Int} (g : Int) (hx : Sz k x) : Sz k (x.tdiv g) := sz_le hx (by rw [Int.natAbs_tdiv]; exact Nat.div_le_self _ _)
theorem sz_fits' {k E : Nat} {x : Int} (hE : E = 32 * 32) (hx : Sz k x) (h : k ≤ E) : fits x := by
  rw [fits, bp_two, ← hE]
  exact sz_mono hx h
theorem sz_fits {k : Nat} {x : Int} (hx : Sz k x) (h : k ≤ 1024) : fits x := sz_fits' (E := 1024) rfl hx h
theorem sz_gcd {k : Nat} {x y : Int} (hx : Sz k x) (hy : Sz k y) : Sz k ((Int.gcd x y : Nat) : Int) := by
  by_cases h0 : x = 0
  · subst h0
    rw [Int.gcd_zero_left]
    exact sz_le hy (by rw [Int.natAbs_natCast]; exact Nat.le_refl _)
  · exact sz_dvd hx h0 (Int.gcd_dvd_left ..)
theorem fits_gcd' {x y : Int} (hx : fits x) (hy : fits y) : fits ((Int.gcd x y : Nat) : Int) := by
  unfold fits at *
  rw [Int.natAbs_natCast]
  by_cases h0 : x = 0
  · subst h0; rw [Int.gcd_zero_left]; exact hy
  · exact Nat.lt_of_le_of_lt (Nat.gcd_le_left _ (by omega)) hx
set_option maxHeartbeats 1000000 in
theorem isr_1 (t : Bool) (M : Nat) (w : World) : Calls Tryz.prog 55 #[.agg (rr true 0 t M).toArray] w fun e w' => e = .returned (.bool false) ∧ Below w.heap.size w w' := by
  have b1 := Blk.new w (rr true 0 t M) 45 rfl
  have hb : Below w.heap.size w (w.alloc (.cells (rr true 0 t M).toArray 45)) := (Below.refl _ _).alloc (Nat.le_refl _) _
  go_enter Tryz.func55, Tryz.ntmps55
  go_wp2_with (first | (with_reducible refine ldP rfl rfl rfl b1 (part_n _ _ _ _) (whole25 _ _) ?_))
  refine (k_isn _).mono ?_
  rintro e w1 ⟨rfl, h1⟩
  go_wp2
  go_ret
  exact ⟨rfl, bthen hb h1⟩
set_option maxHeartbeats 1000000 in
theorem isr_2 {n : Int} (hn : fits n) (w : World) : Calls Tryz.prog 55 #[.agg (rr (decide (n < 0)) n.natAbs true 0).toArray] w fun e w' => e = .returned (.bool false) ∧ Below w.heap.size w w' := by
  have HN := Lib.hid hn
  clear hn
  have pn : Part (rr (decide (n < 0)) n.natAbs true 0) 0 (mk n) := part_n _ _ _ _
  have pd := part_d (decide (n < 0)) n.natAbs true 0
  generalize rr (decide (n < 0)) n.natAbs true 0 = L at *
  have b1 := Blk.new w L 45 rfl
  have hb : Below w.heap.size w (w.alloc (.cells L.toArray 45)) := (Below.refl _ _).alloc (Nat.le_refl _) _
  go_enter Tryz.func55, Tryz.ntmps55
  go_wp2_with (first | (with_reducible refine ldP rfl rfl rfl b1 pn (wholeM _) ?_))
  refine (is_mk HN.out _).mono ?_
  rintro e w1 ⟨rfl, h1⟩
  replace b1 := b1.call h1
  replace hb := bthen hb h1
  clear h1
  go_wp2_with (first | (refine ldPg (by rfl) rfl rfl b1 pd (whole25 _ _) ?_))
  refine (k_isn _).mono ?_
  rintro e w1 ⟨rfl, h1⟩
  replace b1 := b1.call h1
  replace hb := bthen hb h1
  clear h1
  go_wp2
  go_ret
  exact ⟨rfl, hb⟩
set_option maxHeartbeats 1000000 in
theorem isr_3 {n d : Int} (hn : fits n) (hd : fits d) (h0 : ¬ 0 < d) (w : World) : Calls Tryz.prog 55 #[.agg (fr n d).toArray] w fun e w' => e = .returned (.bool false) ∧ Below w.heap.size w w' := by
  have HN := Lib.hid hn
  have HD := Lib.hid hd
  have HS := Lib.hid (fun w => rsign_any hd w)
  have hs : ¬ 0 < sn d := fun h => h0 ((sn_pos d).1 h)
  have ds : decide (0 < sn d) = false := decide_eq_false hs
  generalize sn d = c at *
  clear hn hd h0
  have b1 := Blk.new w (fr n d) 45 rfl
  have hb : Below w.heap.size w (w.alloc (.cells (fr n d).toArray 45)) := (Below.refl _ _).alloc (Nat.le_refl _) _
  go_enter Tryz.func55, Tryz.ntmps55
  go_wp2_with (first | (with_reducible refine ldP rfl rfl rfl b1 (partF_n _ _) (wholeM _) ?_))
  refine (is_mk HN.out _).mono ?_
  rintro e w1 ⟨rfl, h1⟩
  replace b1 := b1.call h1
  replace hb := bthen hb h1
  clear h1
  go_wp2_with (first | (refine ldPg (by rfl) rfl rfl b1 (partF_d _ _) (wholeM _) ?_))
  refine (is_mk HD.out _).mono ?_
  rintro e w1 ⟨rfl, h1⟩
  replace b1 := b1.call h1
  replace hb := bthen hb h1
  clear h1
  go_wp2_with (first | (refine ldPg (by rfl) rfl rfl b1 (partF_d _ _) (wholeM _) ?_))
  refine (HS.out _).mono ?_
  rintro e w1 ⟨rfl, h1⟩
  replace b1 := b1.call h1
  replace hb := bthen hb h1
  clear h1
  go_wp2
  go_ret
  exact ⟨rfl, hb⟩
set_option maxHeartbeats 1000000 in
theorem isr_4 {n d : Int} (hn : fits n) (hd : fits d) (h0 : 0 < d) (w : World) : Calls Tryz.prog 55 #[.agg (fr n d).toArray] w fun e w' => e = .returned (.bool (decide (((Int.gcd n d : Nat) : Int) = 1))) ∧ Below w.heap.size w w' := by
  have HN := Lib.hid hn
  have HD := Lib.hid hd
  have HS := Lib.hid (fun w => rsign_any hd w)
  have hs : 0 < sn d := (sn_pos d).2 h0
  have HG := Lib.hid (fun w => Gcd_z (wd_of hn) (wd_of hd) w)
  have HO := Lib.hid (fun w => isOne_any (fits_gcd' hn hd) w)
  generalize ((Int.gcd n d : Nat) : Int) = g at *
  generalize sn d = c at *
  clear hn hd h0
  have b1 := Blk.new w (fr n d) 45 rfl
  have hb : Below w.heap.size w (w.alloc (.cells (fr n d).toArray 45)) := (Below.refl _ _).alloc (Nat.le_refl _) _
  go_enter Tryz.func55, Tryz.ntmps55
  go_wp2_with (first | (with_reducible refine ldP rfl rfl rfl b1 (partF_n _ _) (wholeM _) ?_))
  refine (is_mk HN.out _).mono ?_
  rintro e w1 ⟨rfl, h1⟩
  replace b1 := b1.call h1
  replace hb := bthen hb h1
  clear h1
  go_wp2_with (first | (refine ldPg (by rfl) rfl rfl b1 (partF_d _ _) (wholeM _) ?_))
  refine (is_mk HD.out _).mono ?_
  rintro e w1 ⟨rfl, h1⟩
  replace b1 := b1.call h1
  replace hb := bthen hb h1
  clear h1
  go_wp2_with (first | (refine ldPg (by rfl) rfl rfl b1 (partF_d _ _) (wholeM _) ?_))
  refine (HS.out _).mono ?_
  rintro e w1 ⟨rfl, h1⟩
  replace b1 := b1.call h1
  replace hb := bthen hb h1
  clear h1
  go_wp2_with (first | (refine ldPg (by rfl) rfl rfl b1 (partF_n _ _) (wholeM _) ?_) | (refine ldPg (by rfl) rfl rfl b1 (partF_d _ _) (wholeM _) ?_))
  refine (HG.out _).mono ?_
  rintro e w1 ⟨rfl, h1⟩
  replace b1 := b1.call h1
  replace hb := bthen hb h1
  clear h1
  go_wp2_with fail
  refine (HO.out _).mono ?_
  rintro e w1 ⟨rfl, h1⟩
  replace b1 := b1.call h1
  replace hb := bthen hb h1
  clear h1
  go_wp2
  go_ret
  exact ⟨rfl, hb⟩
theorem isr_yes {n d : Int} (hn : fits n) (hd : fits d) (h : Rt n d) (w : World) : Calls Tryz.prog 55 #[.agg (fr n d).toArray] w fun e w' => e = .returned (.bool true) ∧ Below w.heap.size w w' := by
  have := isr_4 hn hd h.1 w
  rwa [show decide (((Int.gcd n d : Nat) : Int) = 1) = true from decide_eq_true (by have : Int.gcd n d = 1 := h.2; omega)] at this
/-- Whatever two numbers: a fraction or not. -/
theorem isr_cases (s : Bool) {N : Nat} (t : Bool) {M : Nat} (hN : N < bb ^ 32) (hM : M < bb ^ 32) : (∀ w, Calls Tryz.prog 55 #[.agg (rr s N t M).toArray] w fun e w' => e = .returned (.bool false) ∧ Below w.heap.size w w') ∨
    ∃ n d, rr s N t M = fr n d ∧ fits n ∧ fits d ∧ Rt n d ∧ (∀ w, Calls Tryz.prog 55 #[.agg (rr s N t M).toArray] w fun e w' => e = .returned (.bool true) ∧ Below w.heap.size w w') := by
  rcases wide_cases s hN with h | ⟨n, hn, h⟩
  · refine .inl fun w => ?_
    have e : rr s N t M = rr true 0 t M := by unfold rr; rw [h]
    rw [e]; exact isr_1 t M w
  · rcases wide_cases t hM with h2 | ⟨d, hd, h2⟩
    · refine .inl fun w => ?_
      have e : rr s N t M = rr (decide (n < 0)) n.natAbs true 0 := by unfold rr; rw [h, h2]; rfl
      rw [e]; exact isr_2 hn w
    · have e : rr s N t M = fr n d := by unfold rr fr; rw [h, h2]
      by_cases h0 : 0 < d
      · by_cases hg : Int.gcd n d = 1
        · exact .inr ⟨n, d, e, hn, hd, ⟨h0, hg⟩, fun w => by rw [e]; exact isr_yes hn hd ⟨h0, hg⟩ w⟩
        · refine .inl fun w => ?_
          rw [e]
          have := isr_4 hn hd h0 w
          rwa [show decide (((Int.gcd n d : Nat) : Int) = 1) = false from decide_eq_false (by omega)] at this
      · exact .inl fun w => by rw [e]; exact isr_3 hn hd h0 w
end Go.Proofs.YtoegjibeomhekaaGreat

/- Package ratio: Safe, safe, Sign. -/
namespace Go.Proofs.YtoegjibeomhekaaGreat
set_option linter.unusedSimpArgs false
set_option linter.unusedVariables false
open Go.RowKit
set_option maxRecDepth 100000
theorem bits_r (s : Bool) {N : Nat} (h : N < bb ^ 32) (w : World) : Calls Tryz.prog 54 #[.agg (wd s N).toArray] w fun e w' => e = .returned (.int .i64 (bitLen N : Nat)) ∧ Below w.heap.size w w' := by
  have := Bits_w (cs := wd s N) (x := zn s N) ⟨s, N, rfl, rfl, h⟩ w
  rwa [zn_abs] at this
set_option maxHeartbeats 1000000 in
/-- Safe, given what Is answers. -/
theorem safe_walk (s : Bool) {N : Nat} (t : Bool) {M : Nat} (hN : N < bb ^ 32) (hM : M < bb ^ 32) (k : Int) (b : Bool) (his : ∀ w, Calls Tryz.prog 55 #[.agg (rr s N t M).toArray] w fun e w' => e = .returned (.bool b) ∧ Below w.heap.size w w') (w : World) :
    Calls Tryz.prog 43 #[.agg (rr s N t M).toArray, .int .i64 k] w fun e w' => e = .returned (.bool (decide ((bitLen N : Int) ≤ k) && (decide ((bitLen M : Int) ≤ k) && b))) ∧ Below w.heap.size w w' := by
  have HB := Lib.hid (fun w => bits_r s hN w)
  have HC := Lib.hid (fun w => bits_r t hM w)
  have HI := Lib.hid his
  have pn := part_n s N t M
  have pd := part_d s N t M
  have W := wholeR s N t M
  generalize rr s N t M = L at *
  obtain ⟨l, hl⟩ : ∃ l : Int, (bitLen N : Int) = l := ⟨_, rfl⟩
  obtain ⟨m, hm⟩ : ∃ l : Int, (bitLen M : Int) = l := ⟨_, rfl⟩
  rw [hl] at HB ⊢
  rw [hm] at HC ⊢
  clear hN hM his hl hm
  have b2 := Blk.new w L 45 rfl
  have hb : Below w.heap.size w (w.alloc (.cells L.toArray 45)) := (Below.refl _ _).alloc (Nat.le_refl _) _
  go_enter Tryz.func43, Tryz.ntmps43
  go_wp2_with (first | (with_reducible refine ldP rfl rfl rfl b2 pn (whole25 _ _) ?_))
  refine (HB.out _).mono ?_
  rintro e w1 ⟨rfl, h1⟩
  replace b2 := b2.call h1
  replace hb := bthen hb h1
  clear h1
  by_cases h1 : l ≤ k
  · have d1 : decide (l ≤ k) = true := decide_eq_true h1
    go_wp2_with (first | (refine ldPg (by rfl) rfl rfl b2 pd (whole25 _ _) ?_))
    refine (HC.out _).mono ?_
    rintro e w1 ⟨rfl, h1⟩
    replace b2 := b2.call h1
    replace hb := bthen hb h1
    clear h1
    by_cases h2 : m ≤ k
    · have d2 : decide (m ≤ k) = true := decide_eq_true h2
      go_wp2_with (first | (refine ldPg (by rfl) rfl rfl b2 (part_all _) W ?_))
      refine (HI.out _).mono ?_
      rintro e w1 ⟨rfl, h1⟩
      replace b2 := b2.call h1
      replace hb := bthen hb h1
      clear h1
      go_wp2
      go_ret
      exact ⟨by rw [d1, d2, Bool.true_and, Bool.true_and]; rfl, hb⟩
    · have d2 : decide (m ≤ k) = false := decide_eq_false h2
      go_wp2
      go_ret
      exact ⟨by rw [d1, d2]; rfl, hb⟩
  · have d1 : decide (l ≤ k) = false := decide_eq_false h1
    go_wp2
    go_ret
    exact ⟨by rw [d1]; rfl, hb⟩
/-- Safe of whatever two numbers. -/
theorem safe_cases (s : Bool) {N : Nat} (t : Bool) {M : Nat} (hN : N < bb ^ 32) (hM : M < bb ^ 32) (k : Nat) : (∀ w, Calls Tryz.prog 43 #[.agg (rr s N t M).toArray, .int .i64 (k : Int)] w fun e w' => e = .returned (.bool false) ∧ Below w.heap.size w w') ∨
    ∃ n d, rr s N t M = fr n d ∧ fits n ∧ fits d ∧ Rt n d ∧ Sz k n ∧ Sz k d ∧ (∀ w, Calls Tryz.prog 43 #[.agg (rr s N t M).toArray, .int .i64 (k : Int)] w fun e w' => e = .returned (.bool true) ∧ Below w.heap.size w w') := by
  rcases isr_cases s t hN hM with h | ⟨n, d, e, hn, hd, hr, h⟩
  · refine .inl fun w => ?_
    have := safe_walk s t hN hM k false h w
    rwa [Bool.and_false, Bool.and_false] at this
  · have hw := fun w => safe_walk s t hN hM k true h w
    have e1 : wd s N = mk n ∧ wd t M = mk d := List.append_inj e (by rw [wd_length, mk_length])
    have a1 : ∀ (s : Bool) {N : Nat} {n : Int}, N < bb ^ 32 → fits n → wd s N = mk n → N = n.natAbs := fun s N n hN hn h => by
      have h2 : wc N = wc n.natAbs := (List.cons.inj h).2
      rw [← Nat.mod_eq_of_lt hn, ← Nat.mod_eq_of_lt hN]
      refine mod_eq_of_dig _ _ 32 fun i hi => ?_
      have := congrArg (fun l => l[i]?) h2
      simp only [wc_get _ i hi, Option.some.injEq, Value.int.injEq] at this
      omega
    have en := a1 s hN hn e1.1
    have ed := a1 t hM hd e1.2
    by_cases hz : Sz k n ∧ Sz k d
    · refine .inr ⟨n, d, e, hn, hd, hr, hz.1, hz.2, fun w => ?_⟩
      have b1 := sz_bits.2 hz.1
      have b2 := sz_bits.2 hz.2
      have := hw w
      rwa [decide_eq_true (show (bitLen N : Int) ≤ k by rw [en]; omega), decide_eq_true (show (bitLen M : Int) ≤ k by rw [ed]; omega)] at this
    · refine .inl fun w => ?_
      have := hw w
      rwa [show (decide ((bitLen N : Int) ≤ k) && (decide ((bitLen M : Int) ≤ k) && true)) = false by
        rw [Bool.and_true, ← Bool.decide_and]
        apply decide_eq_false
        rintro ⟨h1, h2⟩
        exact hz ⟨sz_bits.1 (by rw [← en]; omega), sz_bits.1 (by rw [← ed]; omega)⟩] at this
theorem safe_fr {n d : Int} (hr : Rt n d) {k j : Nat} (hk : k ≤ 1024) (hn : Sz k n) (hd : Sz k d) (hj : k ≤ j) (w : World) : Calls Tryz.prog 43 #[.agg (fr n d).toArray, .int .i64 (j : Int)] w fun e w' => e = .returned (.bool true) ∧ Below w.heap.size w w' := by
  have fn := sz_fits hn hk
  have fd := sz_fits hd hk
  have := safe_walk (decide (n < 0)) (decide (d < 0)) fn fd j true (fun w => isr_yes fn fd hr w) w
  have b1 := sz_bits.2 hn
  have b2 := sz_bits.2 hd
  rwa [decide_eq_true (show (bitLen n.natAbs : Int) ≤ j by omega), decide_eq_true (show (bitLen d.natAbs : Int) ≤ j by omega)] at this
set_option maxHeartbeats 1000000 in
theorem Sign_any {n : Int} (d : Int) (hn : fits n) (w : World) : Calls Tryz.prog 89 #[.agg (fr n d).toArray] w fun e w' => e = .returned (.int .i64 (sn n)) ∧ Below w.heap.size w w' := by
  have HS := Lib.hid (fun w => rsign_any hn w)
  generalize sn n = c at *
  clear hn
  have b1 := Blk.new w (fr n d) 45 rfl
  have hb : Below w.heap.size w (w.alloc (.cells (fr n d).toArray 45)) := (Below.refl _ _).alloc (Nat.le_refl _) _
  go_enter Tryz.func89, Tryz.ntmps89
  go_wp2_with (first | (with_reducible refine ldP rfl rfl rfl b1 (partF_n _ _) (wholeM _) ?_))
  refine (HS.out _).mono ?_
  rintro e w1 ⟨rfl, h1⟩
  replace b1 := b1.call h1
  replace hb := bthen hb h1
  clear h1
  go_wp2
  go_ret
  exact ⟨rfl, hb⟩
end Go.Proofs.YtoegjibeomhekaaGreat

/- Package ratio: safe, of a row of fractions that are. -/
namespace Go.Proofs.YtoegjibeomhekaaGreat
set_option linter.unusedSimpArgs false
set_option linter.unusedVariables false
open Go.RowKit
set_option maxRecDepth 100000
/-- A fraction that may be reckoned with. -/
def Sf (n d : Int) : Prop := Rt n d ∧ Sz 500 n ∧ Sz 500 d
theorem Sf.fn {n d : Int} (h : Sf n d) : fits n := sz_fits h.2.1 (by omega)
theorem Sf.fd {n d : Int} (h : Sf n d) : fits d := sz_fits h.2.2 (by omega)
theorem safe_sf {n d : Int} (h : Sf n d) (w : World) : Calls Tryz.prog 43 #[.agg (fr n d).toArray, .int .i64 500] w fun e w' => e = .returned (.bool true) ∧ Below w.heap.size w w' :=
  safe_fr h.1 (k := 500) (j := 500) (by omega) h.2.1 h.2.2 (by omega) w
theorem ldRR {ops : Array Oper} {rest : List Oper} {o : Oper} {a : Act} {w : World} {Q : Exit → Act → World → Prop} {x : Operand} {b f : Nat} {n d : Int} (hgd : o.guard = none) (ho : o.op = .load 45 x) (hx : a.eval x = .pointer (some ⟨b, f, none⟩)) (h : w.rangeAt b f (fr n d))
    (hr : wpList Tryz.prog ops Q rest (a.put o.dst (.agg (fr n d).toArray)) w) : wpList Tryz.prog ops Q (o :: rest) a w := by
  obtain ⟨d, hu, hd⟩ := underR
  exact wpList_load_mid hgd 45 x ho b f hx _ d h hu hd (by rw [fr_length]; exact sizeR) hr
theorem ldFr {ops : Array Oper} {rest : List Oper} {o : Oper} {a : Act} {w : World} {Q : Exit → Act → World → Prop} {t : TypeId} {x : Operand} {b : Nat} {n d : Int} (hgd : o.guard = none) (ho : o.op = .load 45 x) (hx : a.eval x = .pointer (some ⟨b, 0, none⟩)) (h : Blk w b (fr n d) t)
    (hr : wpList Tryz.prog ops Q rest (a.put o.dst (.agg (fr n d).toArray)) w) : wpList Tryz.prog ops Q (o :: rest) a w :=
  ldP hgd ho hx h (part_all _) (wholeF _ _) hr
set_option maxHeartbeats 1000000 in
theorem safe_all (n b : Nat) (N D : Nat → Int) (w : World) (hn : n ≤ 1000) (hs : ∀ k, k < n → Sf (N k) (D k)) (hbw : b < w.heap.size) (hr : ∀ k, k < n → w.rangeAt b (k * 66) (fr (N k) (D k))) :
    Calls Tryz.prog 73 #[.slice (some ⟨b, 0, none⟩) n n] w fun e w' => e = .returned (.bool true) ∧ Below w.heap.size w w' := by
  have HS := Lib.hid hs
  have Hr := Lib.hid hr
  clear hs hr
  go_enter Tryz.func73, Tryz.ntmps73
  go_wp2
  go_loopw [7] (fun i wr => ∃ k : Nat, k ≤ n ∧ i = .int .i64 k ∧ Below w.heap.size w wr) (fun i _ => n - (intOf i).toNat)
  case atStart => exact ⟨0, Nat.zero_le _, rfl, Below.refl _ _⟩
  case round =>
    obtain ⟨k, hk, rfl, hb⟩ := hrel
    by_cases hlt : k < n
    · have r0 : wr.rangeAt b (k * 66) (fr (N k) (D k)) := fun j v hv => by
        rw [hb.cell (p := ⟨b, k * 66 + j, none⟩) hbw]
        exact Hr.out k hlt j v hv
      have HF := Lib.hid (HS.out k hlt)
      have hlt' : (k : Int) < (n : Int) := by omega
      generalize N k = x at *
      generalize D k = y at *
      have a3 := Blk.new wr (rr false 0 false 0) 45 rfl
      have d3 := a3.row (fr x y)
      have hb' := below_row (hb.alloc hb.size (.cells (rr false 0 false 0).toArray 45)) (g := wr.heap.size) hb.size (fr x y).toArray
      go_wp2_with (first | (with_reducible refine ldRR rfl rfl rfl r0 ?_) | (with_reducible refine alR rfl rfl ?_) | (with_reducible refine stR rfl rfl rfl rfl a3 (rr_length _ _ _ _) ?_) | (with_reducible refine ldFr rfl rfl rfl d3 ?_))
      refine (safe_sf HF.out _).mono ?_
      rintro e w1 ⟨rfl, h1⟩
      replace hb' := bthen hb' h1
      go_wp2
      go_roundw
      case rel => exact ⟨k + 1, by omega, by go_num, hb'⟩
      case measure => simp [intOf]; omega
    · obtain rfl : k = n := by omega
      go_wp2
      go_ret
      exact ⟨rfl, hb⟩
theorem r_build2 (s : Bool) (N : Nat) (t : Bool) (M : Nat) (s' : Bool) (N' : Nat) (t' : Bool) (M' : Nat) (w : World) : (Instr.buildSlice 116 2 #[(0, .agg (rr s N t M).toArray), (1, .agg (rr s' N' t' M').toArray)]).run Tryz.prog w = .ok (.slice (some ⟨w.heap.size, 0, none⟩) 2 2) (w.alloc (.cells (rr s N t M ++ rr s' N' t' M').toArray 45)) := by kernel_rfl
theorem r_build1 (s : Bool) (N : Nat) (t : Bool) (M : Nat) (w : World) : (Instr.buildSlice 116 1 #[(0, .agg (rr s N t M).toArray)]).run Tryz.prog w = .ok (.slice (some ⟨w.heap.size, 0, none⟩) 1 1) (w.alloc (.cells (rr s N t M).toArray 45)) := by kernel_rfl
section
variable {ops : Array Oper} {rest : List Oper} {o : Oper} {a : Act} {w : World} {Q : Exit → Act → World → Prop}
theorem bs2 {x y : Operand} {n d m e : Int} (hgd : o.guard = none) (ho : o.op = .buildSlice 116 2 #[(0, x), (1, y)]) (hx : a.eval x = .agg (fr n d).toArray) (hy : a.eval y = .agg (fr m e).toArray)
    (hr : wpList Tryz.prog ops Q rest (a.put o.dst (.slice (some ⟨w.heap.size, 0, none⟩) 2 2)) (w.alloc (.cells (fr n d ++ fr m e).toArray 45))) : wpList Tryz.prog ops Q (o :: rest) a w :=
  wpList_plain hgd fun K hK => by
    have := hK _ _ hr
    unfold Oper.wp execOp
    simp only [ho, Sem.run_bind]
    rw [show Array.map (fun x : Nat × Operand => (x.fst, a.eval x.snd)) #[(0, x), (1, y)] = #[(0, .agg (fr n d).toArray), (1, .agg (fr m e).toArray)] by simp [hx, hy], fr_rr, fr_rr, r_build2]
    exact this
theorem bs1 {x : Operand} {n d : Int} (hgd : o.guard = none) (ho : o.op = .buildSlice 116 1 #[(0, x)]) (hx : a.eval x = .agg (fr n d).toArray)
    (hr : wpList Tryz.prog ops Q rest (a.put o.dst (.slice (some ⟨w.heap.size, 0, none⟩) 1 1)) (w.alloc (.cells (fr n d).toArray 45))) : wpList Tryz.prog ops Q (o :: rest) a w :=
  wpList_plain hgd fun K hK => by
    have := hK _ _ hr
    unfold Oper.wp execOp
    simp only [ho, Sem.run_bind]
    rw [show Array.map (fun x : Nat × Operand => (x.fst, a.eval x.snd)) #[(0, x)] = #[(0, .agg (fr n d).toArray)] by simp [hx], fr_rr, r_build1]
    exact this
end
theorem range2 {w : World} {b : Nat} {t : TypeId} {n d m e : Int} (h : Blk w b (fr n d ++ fr m e) t) (N D : Nat → Int) (h0 : N 0 = n ∧ D 0 = d) (h1 : N 1 = m ∧ D 1 = e) : ∀ k, k < 2 → w.rangeAt b (k * 66) (fr (N k) (D k)) := fun k hk j v hv => by
  apply h.cell
  have hj := (List.getElem?_eq_some_iff.1 hv).1
  rw [fr_length] at hj
  rcases (show k = 0 ∨ k = 1 by omega) with rfl | rfl
  · rw [h0.1, h0.2] at hv
    rw [Nat.zero_mul, Nat.zero_add, List.getElem?_append_left (by rw [fr_length]; exact hj)]
    exact hv
  · rw [h1.1, h1.2] at hv
    rw [Nat.one_mul, List.getElem?_append_right (by rw [fr_length]; omega), fr_length, Nat.add_sub_cancel_left]
    exact hv
theorem safe_two {b : Nat} {t : TypeId} {n d m e : Int} {w : World} (h : Blk w b (fr n d ++ fr m e) t) (h1 : Sf n d) (h2 : Sf m e) :
    Calls Tryz.prog 73 #[.slice (some ⟨b, 0, none⟩) 2 2] w fun e w' => e = .returned (.bool true) ∧ Below w.heap.size w w' :=
  safe_all 2 b (fun k => if k = 0 then n else m) (fun k => if k = 0 then d else e) w (by omega) (fun k hk => by
    rcases (show k = 0 ∨ k = 1 by omega) with rfl | rfl
    · exact h1
    · exact h2) h.lt (range2 h _ _ ⟨rfl, rfl⟩ ⟨rfl, rfl⟩)
theorem safe_one {b : Nat} {t : TypeId} {n d : Int} {w : World} (h : Blk w b (fr n d) t) (h1 : Sf n d) :
    Calls Tryz.prog 73 #[.slice (some ⟨b, 0, none⟩) 1 1] w fun e w' => e = .returned (.bool true) ∧ Below w.heap.size w w' :=
  safe_all 1 b (fun _ => n) (fun _ => d) w (by omega) (fun k hk => h1) h.lt (fun k hk j v hv => by
    obtain rfl : k = 0 := by omega
    rw [Nat.zero_mul, Nat.zero_add]
    exact h.cell hv)
end Go.Proofs.YtoegjibeomhekaaGreat
