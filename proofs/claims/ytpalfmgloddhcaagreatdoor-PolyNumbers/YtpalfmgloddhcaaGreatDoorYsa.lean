/- Joined of: Yeq Yeh Ysa. -/
import Derived.Test.YtpalfmgloddhcaaGreatDoorYpa
import Derived.BigQuiet
import Derived.Deep.QuietTactic
/- Two lists of vertices, of segments that are alike. -/
namespace Go.Proofs.YtpalfmgloddhcaaGreatDoor
set_option linter.unusedSimpArgs false
set_option linter.unusedVariables false
open Go.RowKit
set_option maxRecDepth 100000
/-- The slice v reads as these threes of numbers. -/
def RdI (w : World) (v : Value) (xs : List (Int × Int × Int)) : Prop := (xs = [] ∧ ∃ a c, v = .slice a 0 c) ∨ ∃ g c, v = .slice (some ⟨g, 0, none⟩) xs.length c ∧ xs.length ≤ c ∧ ∀ (i : Nat) p, xs[i]? = some p → w.cell? ⟨g, i * 3, none⟩ = some (.int .i64 p.1) ∧ w.cell? ⟨g, i * 3 + 1, none⟩ = some (.int .i64 p.2.1) ∧ w.cell? ⟨g, i * 3 + 2, none⟩ = some (.int .i64 p.2.2)
theorem RdI.below {w w' : World} {v : Value} {xs : List (Int × Int × Int)} (h : RdI w v xs) (hb : Below w.heap.size w w') : RdI w' v xs :=
  h.imp id fun ⟨g, c, e, hc, hh⟩ => ⟨g, c, e, hc, fun i p hi => let ⟨a, b, d⟩ := hh i p hi; ⟨cell_below hb a, cell_below hb b, cell_below hb d⟩⟩
theorem flat_at {α : Type} (f : α → List Value) (k : Nat) (hf : ∀ x, (f x).length = k) : ∀ (xs : List α) (i j : Nat) (p : α) (v : Value), xs[i]? = some p → (f p)[j]? = some v → (xs.flatMap f)[i * k + j]? = some v
  | [], i, j, p, v, h, _ => by simp at h
  | x :: xs, 0, j, p, v, h, hj => by
    simp only [List.getElem?_cons_zero, Option.some.injEq] at h
    subst h
    rw [Nat.zero_mul, Nat.zero_add, List.flatMap_cons, List.getElem?_append_left (List.getElem?_eq_some_iff.1 hj).1]; exact hj
  | x :: xs, i + 1, j, p, v, h, hj => by
    rw [List.flatMap_cons, List.getElem?_append_right (by rw [hf, Nat.add_mul]; omega), hf, show (i + 1) * k + j - k = i * k + j by rw [Nat.add_mul]; omega]
    exact flat_at f k hf xs i j p v (by simpa using h) hj
theorem RdI.of {w : World} {B : Nat} {T : TypeId} {v : Value} {xs : List (Int × Int × Int)} (h : w.ownsRow B T 3 v xs.length (xs.flatMap celI)) : RdI w v xs := by
  rcases h.2 with ⟨rfl, h0⟩ | ⟨g, cap, cur, rfl, _, _, hcap, _⟩
  · exact .inl ⟨List.eq_nil_of_length_eq_zero h0, _, _, rfl⟩
  · refine .inr ⟨g, cap, rfl, hcap, fun i p hi => ?_⟩
    have e : ∀ j, (⟨g, j, none⟩ : Addr) = (⟨g, 0, none⟩ : Addr).add j := fun j => by cases j <;> simp [Addr.add]
    have k := fun j v hj => h.cells (g := g) rfl (i * 3 + j) v (flat_at celI 3 celI_len xs i j p v hi hj)
    exact ⟨by rw [e]; exact k 0 _ rfl, by rw [e]; exact k 1 _ rfl, by rw [e]; exact k 2 _ rfl⟩
set_option maxHeartbeats 4000000 in
theorem eqVany (va vb : Value) (xs : List (Int × Int × Int)) (w : World) (hl : xs.length ≤ 1000000) (ha : RdI w va xs) (hb : RdI w vb xs) :
    Calls Tryz.prog 25 #[va, vb] w fun e w' => e = .returned (.bool true) ∧ Below w.heap.size w w' := by
  rcases ha with ⟨rfl, aa, ac, rfl⟩ | ⟨ab, ac, rfl, hac, ha⟩
  · obtain ⟨ba, bc, rfl⟩ : ∃ ba bc, vb = .slice ba 0 bc := by
      rcases hb with ⟨_, ba, bc, rfl⟩ | ⟨ba, bc, rfl, _⟩
      · exact ⟨_, _, rfl⟩
      · exact ⟨_, _, rfl⟩
    clear hb hl
    go_enter Tryz.func25, Tryz.ntmps25
    go_wp2_with fail
    refine wp_loop_rounds 1 ?_
    rw [rounds_succ]
    go_wp2_with fail
    go_ret
    exact ⟨rfl, Below.refl _ _⟩
  · rcases hb with ⟨rfl, ba, bc, rfl⟩ | ⟨bb', bc, rfl, hbc, hb⟩
    · clear ha hl
      go_enter Tryz.func25, Tryz.ntmps25
      go_wp2_with fail
      refine wp_loop_rounds 1 ?_
      rw [rounds_succ]
      go_wp2_with fail
      go_ret
      exact ⟨rfl, Below.refl _ _⟩
    · have HA := Lib.hid ha
      have HB := Lib.hid hb
      clear ha hb
      go_enter Tryz.func25, Tryz.ntmps25
      go_wp2_with fail
      go_loopw [13] (fun j wr => ∃ i : Nat, i ≤ xs.length ∧ j = .int .i64 (i : Int) ∧ Below w.heap.size w wr) (fun j _ => xs.length - (intOf j).toNat)
      case atStart => exact ⟨0, Nat.zero_le _, rfl, Below.refl _ _⟩
      case round =>
        obtain ⟨i, hi, rfl, hb⟩ := hrel
        by_cases hlt : i < xs.length
        · obtain ⟨⟨x, y, z⟩, hx⟩ : ∃ p, xs[i]? = some p := ⟨_, List.getElem?_eq_getElem hlt⟩
          obtain ⟨p1, p2, p3⟩ := HA.out i _ hx
          obtain ⟨q1, q2, q3⟩ := HB.out i _ hx
          replace p1 := cell_below hb p1
          replace p2 := cell_below hb p2
          replace p3 := cell_below hb p3
          replace q1 := cell_below hb q1
          replace q2 := cell_below hb q2
          replace q3 := cell_below hb q3
          simp only at p1 p2 p3 q1 q2 q3
          clear hx
          go_wp2_with fail
          go_quiet (fail)
          go_wp2_with fail
          go_roundw
          case rel => exact ⟨i + 1, by omega, by go_num, below_drewN hb _⟩
          case measure => simp [intOf]; omega
        · go_wp2_with fail
          go_ret
          exact ⟨rfl, hb⟩
set_option maxHeartbeats 4000000 in
theorem eqSany (va vb : Value) (xs : List (Int × Int × Int)) (w : World) (hl : xs.length ≤ 1000000) (ha : RdI w va xs) (hb : RdI w vb xs) :
    Calls Tryz.prog 26 #[va, vb] w fun e w' => e = .returned (.bool true) ∧ Below w.heap.size w w' := by
  rcases ha with ⟨rfl, aa, ac, rfl⟩ | ⟨ab, ac, rfl, hac, ha⟩
  · obtain ⟨ba, bc, rfl⟩ : ∃ ba bc, vb = .slice ba 0 bc := by
      rcases hb with ⟨_, ba, bc, rfl⟩ | ⟨ba, bc, rfl, _⟩
      · exact ⟨_, _, rfl⟩
      · exact ⟨_, _, rfl⟩
    clear hb hl
    go_enter Tryz.func26, Tryz.ntmps26
    go_wp2_with fail
    refine wp_loop_rounds 1 ?_
    rw [rounds_succ]
    go_wp2_with fail
    go_ret
    exact ⟨rfl, Below.refl _ _⟩
  · rcases hb with ⟨rfl, ba, bc, rfl⟩ | ⟨bb', bc, rfl, hbc, hb⟩
    · clear ha hl
      go_enter Tryz.func26, Tryz.ntmps26
      go_wp2_with fail
      refine wp_loop_rounds 1 ?_
      rw [rounds_succ]
      go_wp2_with fail
      go_ret
      exact ⟨rfl, Below.refl _ _⟩
    · have HA := Lib.hid ha
      have HB := Lib.hid hb
      clear ha hb
      go_enter Tryz.func26, Tryz.ntmps26
      go_wp2_with fail
      go_loopw [13] (fun j wr => ∃ i : Nat, i ≤ xs.length ∧ j = .int .i64 (i : Int) ∧ Below w.heap.size w wr) (fun j _ => xs.length - (intOf j).toNat)
      case atStart => exact ⟨0, Nat.zero_le _, rfl, Below.refl _ _⟩
      case round =>
        obtain ⟨i, hi, rfl, hb⟩ := hrel
        by_cases hlt : i < xs.length
        · obtain ⟨⟨x, y, z⟩, hx⟩ : ∃ p, xs[i]? = some p := ⟨_, List.getElem?_eq_getElem hlt⟩
          obtain ⟨p1, p2, p3⟩ := HA.out i _ hx
          obtain ⟨q1, q2, q3⟩ := HB.out i _ hx
          replace p1 := cell_below hb p1
          replace p2 := cell_below hb p2
          replace p3 := cell_below hb p3
          replace q1 := cell_below hb q1
          replace q2 := cell_below hb q2
          replace q3 := cell_below hb q3
          simp only at p1 p2 p3 q1 q2 q3
          clear hx
          go_wp2_with fail
          go_quiet (fail)
          go_wp2_with fail
          go_roundw
          case rel => exact ⟨i + 1, by omega, by go_num, below_drewN hb _⟩
          case measure => simp [intOf]; omega
        · go_wp2_with fail
          go_ret
          exact ⟨rfl, hb⟩
end Go.Proofs.YtpalfmgloddhcaaGreatDoor

/- Two lists of points that are alike. -/
namespace Go.Proofs.YtpalfmgloddhcaaGreatDoor
set_option linter.unusedSimpArgs false
set_option linter.unusedVariables false
open Go.RowKit
set_option maxRecDepth 100000
theorem yeqR (k : Nat) {n d : Int} (hn : fits n) (hd : fits d) (w : World) : (Op.equalIn (k + 4) 49 (.agg (fr n d).toArray) (.agg (fr n d).toArray)).run Tryz.prog w = .ok true w := by
  have hst : Tryz.prog.underlying 49 = some (.struct (Tryz.prog.fieldsOf 49)) := by kernel_rfl
  obtain ⟨f1, f2, f3⟩ := fldR0
  obtain ⟨g1, g2, g3⟩ := fldR1
  rw [fr_rr, run_equalIn_struct w (k + 3) 49 _ _ hst (by kernel_rfl), fldsR]
  rw [Op.eqFields, if_pos (of_decide_eq_true f1), f2, f3, Op.eqFields, if_pos (of_decide_eq_true g1), g2, g3, Op.eqFields]
  rw [Sem.run_bind, partRn, Result.andThen_ok, Sem.run_bind, partRn, Result.andThen_ok, Sem.run_bind, eq25d k _ _ _ _ hn hn, Result.andThen_ok, dec_mk]
  rw [if_neg (by simp), Sem.run_bind, partRd, Result.andThen_ok, Sem.run_bind, partRd, Result.andThen_ok, Sem.run_bind, eq25d k _ _ _ _ hd hd, Result.andThen_ok, dec_mk]
  simp
noncomputable def yfld (i : Nat) : Field := ((Tryz.prog.fieldsOf 51)[i]?).getD default
theorem yflds : (Tryz.prog.fieldsOf 51).toList = [yfld 0, yfld 1] := by kernel_rfl
theorem yfld0 : decide ((yfld 0).name ≠ "_") = true ∧ (yfld 0).type = 49 ∧ (yfld 0).offset = 0 := ⟨by kernel_rfl, by kernel_rfl, by kernel_rfl⟩
theorem yfld1 : decide ((yfld 1).name ≠ "_") = true ∧ (yfld 1).type = 49 ∧ (yfld 1).offset = 66 := ⟨by kernel_rfl, by kernel_rfl, by kernel_rfl⟩
theorem ypartX {A B : List Value} (hA : Rc A) (hB : Rc B) (w : World) : (part 49 (A ++ B).toArray 0).run Tryz.prog w = .ok (.agg A.toArray) w := by
  have ha2 : (isAgg 49).run Tryz.prog w = .ok true w := by kernel_rfl
  have hs2 : (sizeOf 49).run Tryz.prog w = .ok 66 w := by kernel_rfl
  have he : (A ++ B).toArray.extract 0 (0 + 66) = A.toArray := by
    simp [List.extract_eq_take_drop, List.take_append, hA.len, List.take_of_length_le]
  unfold part
  simp only [Sem.run_bind, ha2, hs2, Result.andThen_ok, if_true, he, Sem.run_pure]
theorem ypartY {A B : List Value} (hA : Rc A) (hB : Rc B) (w : World) : (part 49 (A ++ B).toArray 66).run Tryz.prog w = .ok (.agg B.toArray) w := by
  have ha2 : (isAgg 49).run Tryz.prog w = .ok true w := by kernel_rfl
  have hs2 : (sizeOf 49).run Tryz.prog w = .ok 66 w := by kernel_rfl
  have he : (A ++ B).toArray.extract 66 (66 + 66) = B.toArray := by
    simp [List.extract_eq_take_drop, List.drop_append, hA.len, hB.len, List.take_of_length_le]
  unfold part
  simp only [Sem.run_bind, ha2, hs2, Result.andThen_ok, if_true, he, Sem.run_pure]
/-- The four numbers of a point fit. -/
def Fth (p : (Int × Int) × (Int × Int)) : Prop := fits p.1.1 ∧ fits p.1.2 ∧ fits p.2.1 ∧ fits p.2.2
theorem yeqP {p : (Int × Int) × (Int × Int)} (h : Fth p) (w : World) : (Op.equalIn 10000 51 (.agg (celH p).toArray) (.agg (celH p).toArray)).run Tryz.prog w = .ok true w := by
  have hst : Tryz.prog.underlying 51 = some (.struct (Tryz.prog.fieldsOf 51)) := by kernel_rfl
  obtain ⟨f1, f2, f3⟩ := yfld0
  obtain ⟨g1, g2, g3⟩ := yfld1
  unfold celH
  rw [run_equalIn_struct w 9999 51 _ _ hst (by kernel_rfl), yflds]
  rw [Op.eqFields, if_pos (of_decide_eq_true f1), f2, f3, Op.eqFields, if_pos (of_decide_eq_true g1), g2, g3, Op.eqFields]
  rw [Sem.run_bind, ypartX (rc_fr _ _) (rc_fr _ _), Result.andThen_ok, Sem.run_bind, ypartX (rc_fr _ _) (rc_fr _ _), Result.andThen_ok, Sem.run_bind]
  rw [show (Op.equalIn 9999 49 (.agg (fr p.1.1 p.1.2).toArray) (.agg (fr p.1.1 p.1.2).toArray)).run Tryz.prog w = .ok true w from yeqR 9995 h.1 h.2.1 w, Result.andThen_ok]
  rw [if_neg (by simp), Sem.run_bind, ypartY (rc_fr _ _) (rc_fr _ _), Result.andThen_ok, Sem.run_bind, ypartY (rc_fr _ _) (rc_fr _ _), Result.andThen_ok, Sem.run_bind]
  rw [show (Op.equalIn 9999 49 (.agg (fr p.2.1 p.2.2).toArray) (.agg (fr p.2.1 p.2.2).toArray)).run Tryz.prog w = .ok true w from yeqR 9995 h.2.2.1 h.2.2.2 w, Result.andThen_ok]
  rfl
theorem op_neqH {o : Oper} {a : Act} {x y : Operand} {p : (Int × Int) × (Int × Int)} {ty : TypeId} (h : Fth p) (ho : o.op = .binOp .neq 51 x y ty) (hx : a.eval x = .agg (celH p).toArray) (hy : a.eval y = .agg (celH p).toArray) (w : World) :
    (execOp a.eval o).run Tryz.prog w = .ok (.value (.bool false)) w := by
  unfold execOp
  simp only [ho, hx, hy]
  rw [Sem.run_bind, Sem.run_bind, run_eqGuard_agg w .neq 51 x y _ _ (by kernel_rfl), Result.andThen_ok, run_neq_struct, yeqP h]
  rfl
/-- The load of a point in a row of points. -/
theorem op_ldH {o : Oper} {a : Act} {x : Operand} {g f : Nat} {p : (Int × Int) × (Int × Int)} {w : World} (ho : o.op = .load 51 x) (hx : a.eval x = .pointer (some ⟨g, f, none⟩)) (hr : w.rangeAt g f (celH p)) :
    (execOp a.eval o).run Tryz.prog w = .ok (.value (.agg (celH p).toArray)) w := by
  unfold execOp
  simp only [ho, hx, Instr.loadAt, Instr.sureAddr, Sem.run_bind, Sem.run_pure, Result.andThen_ok, run_loadVar_mid w g f 51 (celH p) _ hr Tryz.underlying51 rfl (by rw [celH_len]; exact sizeP)]
/-- The slice v reads as these points. -/
def RdH (w : World) (v : Value) (xs : List ((Int × Int) × (Int × Int))) : Prop := (xs = [] ∧ ∃ a c, v = .slice a 0 c) ∨ ∃ g c, v = .slice (some ⟨g, 0, none⟩) xs.length c ∧ xs.length ≤ c ∧ ∀ (i : Nat) p, xs[i]? = some p → w.rangeAt g (i * 132) (celH p)
theorem range_keep {w0 w : World} (h : Keep [] w0 w) {g f : Nat} {cs : List Value} (hr : w0.rangeAt g f cs) : w.rangeAt g f cs := fun j v hv => by
  have h1 := hr j v hv
  have h2 := World.block_lt_of_cell? w0 _ h1
  exact (World.cell?_of_block (w := w0) (h.2 g h2 (by simp))).trans h1
theorem range_below {w0 w : World} (h : Below w0.heap.size w0 w) {g f : Nat} {cs : List Value} (hr : w0.rangeAt g f cs) : w.rangeAt g f cs := fun j v hv => cell_below h (hr j v hv)
theorem RdH.below {w w' : World} {v : Value} {xs : List ((Int × Int) × (Int × Int))} (h : RdH w v xs) (hb : Below w.heap.size w w') : RdH w' v xs :=
  h.imp id fun ⟨g, c, e, hc, hh⟩ => ⟨g, c, e, hc, fun i p hi => range_below hb (hh i p hi)⟩
theorem RdH.of {w : World} {B : Nat} {T : TypeId} {v : Value} {xs : List ((Int × Int) × (Int × Int))} (h : w.ownsRow B T 132 v xs.length (xs.flatMap celH)) : RdH w v xs := by
  rcases h.2 with ⟨rfl, h0⟩ | ⟨g, cap, cur, rfl, _, _, hcap, _⟩
  · exact .inl ⟨List.eq_nil_of_length_eq_zero h0, _, _, rfl⟩
  · refine .inr ⟨g, cap, rfl, hcap, fun i p hi j v hv => ?_⟩
    have e : ∀ j, (⟨g, j, none⟩ : Addr) = (⟨g, 0, none⟩ : Addr).add j := fun j => by cases j <;> simp [Addr.add]
    rw [e]; exact h.cells (g := g) rfl (i * 132 + j) v (flat_at celH 132 celH_len xs i j p v hi hv)
set_option maxHeartbeats 4000000 in
theorem eqHany (va vb : Value) (xs : List ((Int × Int) × (Int × Int))) (w : World) (hl : xs.length ≤ 1000000) (hf : ∀ p ∈ xs, Fth p) (ha : RdH w va xs) (hb : RdH w vb xs) :
    Calls Tryz.prog 27 #[va, vb] w fun e w' => e = .returned (.bool true) ∧ Below w.heap.size w w' := by
  rcases ha with ⟨rfl, aa, ac, rfl⟩ | ⟨ab, ac, rfl, hac, ha⟩
  · obtain ⟨ba, bc, rfl⟩ : ∃ ba bc, vb = .slice ba 0 bc := by
      rcases hb with ⟨_, ba, bc, rfl⟩ | ⟨ba, bc, rfl, _⟩
      · exact ⟨_, _, rfl⟩
      · exact ⟨_, _, rfl⟩
    clear hb hl hf
    go_enter Tryz.func27, Tryz.ntmps27
    go_wp2_with fail
    refine wp_loop_rounds 1 ?_
    rw [rounds_succ]
    go_wp2_with fail
    go_ret
    exact ⟨rfl, Below.refl _ _⟩
  · rcases hb with ⟨rfl, ba, bc, rfl⟩ | ⟨bb', bc, rfl, hbc, hb⟩
    · clear ha hl hf
      go_enter Tryz.func27, Tryz.ntmps27
      go_wp2_with fail
      refine wp_loop_rounds 1 ?_
      rw [rounds_succ]
      go_wp2_with fail
      go_ret
      exact ⟨rfl, Below.refl _ _⟩
    · have HA := Lib.hid ha
      have HB := Lib.hid hb
      have HF := Lib.hid hf
      clear ha hb hf
      go_enter Tryz.func27, Tryz.ntmps27
      go_wp2_with fail
      go_loopw [13] (fun j wr => ∃ i : Nat, i ≤ xs.length ∧ j = .int .i64 (i : Int) ∧ Below w.heap.size w wr) (fun j _ => xs.length - (intOf j).toNat)
      case atStart => exact ⟨0, Nat.zero_le _, rfl, Below.refl _ _⟩
      case round =>
        obtain ⟨i, hi, rfl, hb⟩ := hrel
        by_cases hlt : i < xs.length
        · obtain ⟨p, hx⟩ : ∃ p, xs[i]? = some p := ⟨_, List.getElem?_eq_getElem hlt⟩
          have hfp := HF.out p (List.mem_of_getElem? hx)
          have pa := Lib.hid (range_below hb (HA.out i _ hx))
          have pb := Lib.hid (range_below hb (HB.out i _ hx))
          clear hx
          go_wp2_with fail
          refine rg_start [] (by kernel_rfl) (fun hS => ?_)
          replace hb := hb.drew
          refine rg_take 0 rfl (by kernel_rfl) (by kernel_rfl) (by kernel_rfl) (by rfl) hS (v := ?_) ?_ ?_
          rotate_left
          · (intro w' hS'; go_simp <;> try with_reducible rfl)
          try simp only [Act.put, List.setIfInBounds_toArray, List.set_cons_zero, List.set_cons_succ]
          refine rg_take 1 rfl (by kernel_rfl) (by kernel_rfl) (by kernel_rfl) (by rfl) hS (v := ?_) ?_ ?_
          rotate_left
          · (intro w' hS'; go_simp <;> try with_reducible rfl)
          try simp only [Act.put, List.setIfInBounds_toArray, List.set_cons_zero, List.set_cons_succ]
          refine rg_take 2 rfl (by kernel_rfl) (by kernel_rfl) (by kernel_rfl) (by rfl) hS (v := ?_) ?_ ?_
          rotate_left
          · (intro w' hS'; go_simp <;> try with_reducible rfl)
          try simp only [Act.put, List.setIfInBounds_toArray, List.set_cons_zero, List.set_cons_succ]
          refine rg_take 3 rfl (by kernel_rfl) (by kernel_rfl) (by kernel_rfl) (by rfl) hS (v := .agg (celH p).toArray) (fun w' hS' => op_ldH rfl rfl (range_keep hS' pa.out)) ?_
          try simp only [Act.put, List.setIfInBounds_toArray, List.set_cons_zero, List.set_cons_succ]
          refine rg_take 4 rfl (by kernel_rfl) (by kernel_rfl) (by kernel_rfl) (by rfl) hS (v := ?_) ?_ ?_
          rotate_left
          · (intro w' hS'; go_simp <;> try with_reducible rfl)
          try simp only [Act.put, List.setIfInBounds_toArray, List.set_cons_zero, List.set_cons_succ]
          refine rg_take 5 rfl (by kernel_rfl) (by kernel_rfl) (by kernel_rfl) (by rfl) hS (v := ?_) ?_ ?_
          rotate_left
          · (intro w' hS'; go_simp <;> try with_reducible rfl)
          try simp only [Act.put, List.setIfInBounds_toArray, List.set_cons_zero, List.set_cons_succ]
          refine rg_take 6 rfl (by kernel_rfl) (by kernel_rfl) (by kernel_rfl) (by rfl) hS (v := ?_) ?_ ?_
          rotate_left
          · (intro w' hS'; go_simp <;> try with_reducible rfl)
          try simp only [Act.put, List.setIfInBounds_toArray, List.set_cons_zero, List.set_cons_succ]
          refine rg_take 7 rfl (by kernel_rfl) (by kernel_rfl) (by kernel_rfl) (by rfl) hS (v := .agg (celH p).toArray) (fun w' hS' => op_ldH rfl rfl (range_keep hS' pb.out)) ?_
          try simp only [Act.put, List.setIfInBounds_toArray, List.set_cons_zero, List.set_cons_succ]
          refine rg_take 8 rfl (by kernel_rfl) (by kernel_rfl) (by kernel_rfl) (by rfl) hS (v := .bool false) (fun w' _ => op_neqH hfp rfl rfl rfl w') ?_
          try simp only [Act.put, List.setIfInBounds_toArray, List.set_cons_zero, List.set_cons_succ]
          refine rg_done (by kernel_rfl) ?_
          go_wp2_with fail
          go_roundw
          case rel => exact ⟨i + 1, by omega, by go_num, hb⟩
          case measure => simp [intOf]; omega
        · go_wp2_with fail
          go_ret
          exact ⟨rfl, hb⟩
end Go.Proofs.YtpalfmgloddhcaaGreatDoor

/- Two drawings that are alike: poly.Same, the reference's Same. -/
namespace Go.Proofs.YtpalfmgloddhcaaGreatDoor
set_option linter.unusedSimpArgs false
set_option linter.unusedVariables false
open Go.RowKit
set_option maxRecDepth 100000
/-- These slices read as this drawing. -/
structure RdD (w : World) (v s t : Value) (D : Dr) : Prop where
  V : RdI w v D.V
  S : RdI w s D.S
  H : RdH w t D.H
theorem RdD.below {w w' : World} {v s t : Value} {D : Dr} (h : RdD w v s t D) (hb : Below w.heap.size w w') : RdD w' v s t D := ⟨h.V.below hb, h.S.below hb, h.H.below hb⟩
theorem Dw.rd {w : World} {B : Nat} {v s t : Value} {D : Dr} (h : Dw w B v s t D) : RdD w v s t D := ⟨RdI.of h.1, RdI.of h.2.1, RdH.of h.2.2⟩
theorem RdI.shape {w : World} {v : Value} {xs : List (Int × Int × Int)} (h : RdI w v xs) : ∃ a c, v = .slice a xs.length c := by
  rcases h with ⟨rfl, a, c, rfl⟩ | ⟨g, c, rfl, _⟩
  · exact ⟨a, c, rfl⟩
  · exact ⟨_, _, rfl⟩
theorem RdH.shape {w : World} {v : Value} {xs : List ((Int × Int) × (Int × Int))} (h : RdH w v xs) : ∃ a c, v = .slice a xs.length c := by
  rcases h with ⟨rfl, a, c, rfl⟩ | ⟨g, c, rfl, _⟩
  · exact ⟨a, c, rfl⟩
  · exact ⟨_, _, rfl⟩
/-- A drawing that isn't beyond what is to be. -/
def Dok (D : Dr) : Prop := D.V.length ≤ 1000000 ∧ D.S.length ≤ 1000000 ∧ D.H.length ≤ 1000000 ∧ ∀ p ∈ D.H, Fth p
set_option maxHeartbeats 4000000 in
theorem psame_any (v1 s1 t1 v2 s2 t2 : Value) (D : Dr) (w : World) (hd : Dok D) (h1 : RdD w v1 s1 t1 D) (h2 : RdD w v2 s2 t2 D) :
    Calls Tryz.prog 14 #[.agg #[v1, s1, t1], .agg #[v2, s2, t2]] w fun e w' => e = .returned (.bool true) ∧ Below w.heap.size w w' := by
  obtain ⟨va, vc, rfl⟩ := h1.V.shape
  obtain ⟨sa, sc, rfl⟩ := h1.S.shape
  obtain ⟨ta, tc, rfl⟩ := h1.H.shape
  obtain ⟨vb, vd, rfl⟩ := h2.V.shape
  obtain ⟨sb, sd, rfl⟩ := h2.S.shape
  obtain ⟨tb, td, rfl⟩ := h2.H.shape
  have X1 := Blk.new w [.slice va D.V.length vc, .slice sa D.S.length sc, .slice ta D.H.length tc] 26 rfl
  have B2 := Blk.new (w.alloc (.cells #[.slice va D.V.length vc, .slice sa D.S.length sc, .slice ta D.H.length tc] 26)) [.slice vb D.V.length vd, .slice sb D.S.length sd, .slice tb D.H.length td] 26 (b := w.heap.size + 1) (by simp)
  have B1 := X1.old (.cells #[.slice vb D.V.length vd, .slice sb D.S.length sd, .slice tb D.H.length td] 26)
  have hb : Below w.heap.size w ((w.alloc (.cells #[.slice va D.V.length vc, .slice sa D.S.length sc, .slice ta D.H.length tc] 26)).alloc (.cells #[.slice vb D.V.length vd, .slice sb D.S.length sd, .slice tb D.H.length td] 26)) := ((Below.refl _ _).alloc (Nat.le_refl _) _).alloc (by simp) _
  have R1 := Lib.hid (h1.below hb)
  have R2 := Lib.hid (h2.below hb)
  have HD := Lib.hid hd
  have c10 := B1.cell (i := 0) rfl
  have c20 := B2.cell (i := 0) rfl
  clear h1 h2 X1 hd
  go_enter Tryz.func14, Tryz.ntmps14
  go_wp2_with fail
  try rw [show (w.alloc (.cells #[.slice va D.V.length vc, .slice sa D.S.length sc, .slice ta D.H.length tc] 26)).heap.size = w.heap.size + 1 by simp]
  generalize (w.alloc (.cells #[.slice va D.V.length vc, .slice sa D.S.length sc, .slice ta D.H.length tc] 26)).alloc (.cells #[.slice vb D.V.length vd, .slice sb D.S.length sd, .slice tb D.H.length td] 26) = W at *
  refine (eqVany _ _ D.V W HD.out.1 R1.out.V R2.out.V).mono ?_
  rintro e w1 ⟨rfl, h1⟩
  replace B1 := B1.call h1
  replace B2 := B2.call h1
  replace R1 := Lib.hid (R1.out.below h1)
  replace R2 := Lib.hid (R2.out.below h1)
  replace hb := bthen hb h1
  replace c10 := B1.cell (i := 1) rfl
  replace c20 := B2.cell (i := 1) rfl
  clear h1
  go_wp2_with fail
  refine (eqSany _ _ D.S w1 HD.out.2.1 R1.out.S R2.out.S).mono ?_
  rintro e w2 ⟨rfl, h1⟩
  replace B1 := B1.call h1
  replace B2 := B2.call h1
  replace R1 := Lib.hid (R1.out.below h1)
  replace R2 := Lib.hid (R2.out.below h1)
  replace hb := bthen hb h1
  replace c10 := B1.cell (i := 2) rfl
  replace c20 := B2.cell (i := 2) rfl
  clear h1
  go_wp2_with fail
  refine (eqHany _ _ D.H w2 HD.out.2.2.1 HD.out.2.2.2 R1.out.H R2.out.H).mono ?_
  rintro e w3 ⟨rfl, h1⟩
  replace hb := bthen hb h1
  clear B1 B2 R1 R2 h1 c10 c20
  go_wp2
  go_ret
  exact ⟨rfl, hb⟩
set_option maxHeartbeats 1000000 in
theorem eqVno (a b : Option Addr) (n m c d : Nat) (w : World) (hn : n ≤ 1000000) (hm : m ≤ 1000000) (h : n ≠ m) :
    Calls Tryz.prog 25 #[.slice a n c, .slice b m d] w fun e w' => e = .returned (.bool false) ∧ w' = w := by
  have g : ((n : Int) == (m : Int)) = false := by rw [beq_eq_false_iff_ne]; omega
  have g2 : ¬ (n : Int) = (m : Int) := by omega
  clear h
  go_enter Tryz.func25, Tryz.ntmps25
  go_wp2_with fail
  go_ret
  exact ⟨rfl, rfl⟩
set_option maxHeartbeats 2000000 in
theorem psame_no (a b : Option Addr) (n m c d : Nat) (s1 t1 s2 t2 : Value) (hs1 : s1.oneCell' = true) (ht1 : t1.oneCell' = true) (hs2 : s2.oneCell' = true) (ht2 : t2.oneCell' = true) (w : World) (hn : n ≤ 1000000) (hm : m ≤ 1000000) (h : n ≠ m) :
    Calls Tryz.prog 14 #[.agg #[.slice a n c, s1, t1], .agg #[.slice b m d, s2, t2]] w fun e w' => e = .returned (.bool false) ∧ Below w.heap.size w w' := by
  have X1 := Blk.new w [.slice a n c, s1, t1] 26 rfl
  have B2 := Blk.new (w.alloc (.cells #[.slice a n c, s1, t1] 26)) [.slice b m d, s2, t2] 26 (b := w.heap.size + 1) (by simp)
  have B1 := X1.old (.cells #[.slice b m d, s2, t2] 26)
  have hb : Below w.heap.size w ((w.alloc (.cells #[.slice a n c, s1, t1] 26)).alloc (.cells #[.slice b m d, s2, t2] 26)) := ((Below.refl _ _).alloc (Nat.le_refl _) _).alloc (by simp) _
  have c10 := B1.cell (i := 0) rfl
  have c20 := B2.cell (i := 0) rfl
  clear X1
  go_enter Tryz.func14, Tryz.ntmps14
  go_wp2_with fail
  try rw [show (w.alloc (.cells #[.slice a n c, s1, t1] 26)).heap.size = w.heap.size + 1 by simp]
  generalize (w.alloc (.cells #[.slice a n c, s1, t1] 26)).alloc (.cells #[.slice b m d, s2, t2] 26) = W at *
  refine (eqVno a b n m c d W hn hm h).mono ?_
  rintro e w1 ⟨rfl, rfl⟩
  clear h
  go_wp2
  go_ret
  exact ⟨rfl, hb⟩
set_option maxHeartbeats 8000000 in
theorem rsame_any (v1 s1 t1 v2 s2 t2 : Value) (D : Dr) (w : World) (hd : Dok D) (h1 : RdD w v1 s1 t1 D) (h2 : RdD w v2 s2 t2 D) :
    Calls Tryz.prog 11 #[.agg #[v1, s1, t1], .agg #[v2, s2, t2]] w fun e w' => e = .returned (.bool true) ∧ Below w.heap.size w w' := by
  obtain ⟨va, vc, rfl⟩ := h1.V.shape
  obtain ⟨sa, sc, rfl⟩ := h1.S.shape
  obtain ⟨ta, tc, rfl⟩ := h1.H.shape
  obtain ⟨vb, vd, rfl⟩ := h2.V.shape
  obtain ⟨sb, sd, rfl⟩ := h2.S.shape
  obtain ⟨tb, td, rfl⟩ := h2.H.shape
  have X1 := Blk.new w [.slice va D.V.length vc, .slice sa D.S.length sc, .slice ta D.H.length tc] 26 rfl
  have B2 := Blk.new (w.alloc (.cells #[.slice va D.V.length vc, .slice sa D.S.length sc, .slice ta D.H.length tc] 26)) [.slice vb D.V.length vd, .slice sb D.S.length sd, .slice tb D.H.length td] 26 (b := w.heap.size + 1) (by simp)
  have B1 := X1.old (.cells #[.slice vb D.V.length vd, .slice sb D.S.length sd, .slice tb D.H.length td] 26)
  have hb : Below w.heap.size w ((w.alloc (.cells #[.slice va D.V.length vc, .slice sa D.S.length sc, .slice ta D.H.length tc] 26)).alloc (.cells #[.slice vb D.V.length vd, .slice sb D.S.length sd, .slice tb D.H.length td] 26)) := ((Below.refl _ _).alloc (Nat.le_refl _) _).alloc (by simp) _
  have R1 := Lib.hid (h1.below hb)
  have R2 := Lib.hid (h2.below hb)
  have HD := Lib.hid hd
  have c10 := B1.cell (i := 0) rfl
  have c11 := B1.cell (i := 1) rfl
  have c12 := B1.cell (i := 2) rfl
  have c20 := B2.cell (i := 0) rfl
  have c21 := B2.cell (i := 1) rfl
  have c22 := B2.cell (i := 2) rfl
  have hdV := hd.1
  have hdS := hd.2.1
  have hdH := hd.2.2.1
  clear h1 h2 X1 hd
  go_enter Tryz.func11, Tryz.ntmps11
  go_wp2_with fail
  try rw [show (w.alloc (.cells #[.slice va D.V.length vc, .slice sa D.S.length sc, .slice ta D.H.length tc] 26)).heap.size = w.heap.size + 1 by simp]
  generalize (w.alloc (.cells #[.slice va D.V.length vc, .slice sa D.S.length sc, .slice ta D.H.length tc] 26)).alloc (.cells #[.slice vb D.V.length vd, .slice sb D.S.length sd, .slice tb D.H.length td] 26) = W at *
  obtain ⟨g1, hg1⟩ : ∃ g, w.heap.size = g := ⟨_, rfl⟩
  have HG1 := Lib.hid hg1
  rw [hg1] at B1 B2 c10 c11 c12 c20 c21 c22 ⊢
  clear hg1 c10 c11 c12 c20 c21 c22
  go_loopw [5] (fun j wr => ∃ i : Nat, i ≤ D.V.length ∧ j = .int .i64 (i : Int) ∧ Below W.heap.size W wr) (fun j _ => D.V.length - (intOf j).toNat)
  case atStart => exact ⟨0, Nat.zero_le _, rfl, Below.refl _ _⟩
  case round =>
    obtain ⟨i, hi, rfl, hr⟩ := hrel
    have c10 := (B1.call hr).cell (i := 0) rfl
    have c20 := (B2.call hr).cell (i := 0) rfl
    by_cases hlt : i < D.V.length
    · obtain ⟨⟨x, y, z⟩, hx⟩ : ∃ p, D.V[i]? = some p := ⟨_, List.getElem?_eq_getElem hlt⟩
      obtain ⟨a1, e1, b1, o1, f1⟩ : ∃ g, va = some ⟨g, 0, none⟩ ∧ W.cell? ⟨g, i * 3, none⟩ = some (.int .i64 x) ∧ W.cell? ⟨g, i * 3 + 1, none⟩ = some (.int .i64 y) ∧ W.cell? ⟨g, i * 3 + 2, none⟩ = some (.int .i64 z) := by
        rcases R1.out.V with ⟨h, _⟩ | ⟨g, c, e, _, hc⟩
        · rw [h] at hlt; simp at hlt
        · exact ⟨g, by injection e, hc i _ hx⟩
      obtain ⟨a2, e2, b2, o2, f2⟩ : ∃ g, vb = some ⟨g, 0, none⟩ ∧ W.cell? ⟨g, i * 3, none⟩ = some (.int .i64 x) ∧ W.cell? ⟨g, i * 3 + 1, none⟩ = some (.int .i64 y) ∧ W.cell? ⟨g, i * 3 + 2, none⟩ = some (.int .i64 z) := by
        rcases R2.out.V with ⟨h, _⟩ | ⟨g, c, e, _, hc⟩
        · rw [h] at hlt; simp at hlt
        · exact ⟨g, by injection e, hc i _ hx⟩
      subst e1
      subst e2
      replace b1 := cell_below hr b1
      replace o1 := cell_below hr o1
      replace f1 := cell_below hr f1
      replace b2 := cell_below hr b2
      replace o2 := cell_below hr o2
      replace f2 := cell_below hr f2
      clear hx
      go_wp2_with fail
      go_quiet (fail)
      go_wp2_with fail
      go_roundw
      case rel => exact ⟨i + 1, by omega, by go_num, below_drewN hr _⟩
      case measure => simp [intOf]; omega
    · replace R1 := Lib.hid (R1.out.below hr)
      replace R2 := Lib.hid (R2.out.below hr)
      replace B1 := B1.call hr
      replace B2 := B2.call hr
      replace hb := bthen hb hr
      clear hr
      go_wp2_with fail
      clear c10 c20 hlt hi
      generalize wr = W1 at *
      go_loopw [6] (fun j wx => ∃ i : Nat, i ≤ D.S.length ∧ j = .int .i64 (i : Int) ∧ Below W1.heap.size W1 wx) (fun j _ => D.S.length - (intOf j).toNat)
      case atStart => exact ⟨0, Nat.zero_le _, rfl, Below.refl _ _⟩
      case round =>
        obtain ⟨i, hi, rfl, hr⟩ := hrel
        have c10 := (B1.call hr).cell (i := 1) rfl
        have c20 := (B2.call hr).cell (i := 1) rfl
        by_cases hlt : i < D.S.length
        · obtain ⟨⟨x, y, z⟩, hx⟩ : ∃ p, D.S[i]? = some p := ⟨_, List.getElem?_eq_getElem hlt⟩
          obtain ⟨a1, e1, b1, o1, f1⟩ : ∃ g, sa = some ⟨g, 0, none⟩ ∧ W1.cell? ⟨g, i * 3, none⟩ = some (.int .i64 x) ∧ W1.cell? ⟨g, i * 3 + 1, none⟩ = some (.int .i64 y) ∧ W1.cell? ⟨g, i * 3 + 2, none⟩ = some (.int .i64 z) := by
            rcases R1.out.S with ⟨h, _⟩ | ⟨g, c, e, _, hc⟩
            · rw [h] at hlt; simp at hlt
            · exact ⟨g, by injection e, hc i _ hx⟩
          obtain ⟨a2, e2, b2, o2, f2⟩ : ∃ g, sb = some ⟨g, 0, none⟩ ∧ W1.cell? ⟨g, i * 3, none⟩ = some (.int .i64 x) ∧ W1.cell? ⟨g, i * 3 + 1, none⟩ = some (.int .i64 y) ∧ W1.cell? ⟨g, i * 3 + 2, none⟩ = some (.int .i64 z) := by
            rcases R2.out.S with ⟨h, _⟩ | ⟨g, c, e, _, hc⟩
            · rw [h] at hlt; simp at hlt
            · exact ⟨g, by injection e, hc i _ hx⟩
          subst e1
          subst e2
          replace b1 := cell_below hr b1
          replace o1 := cell_below hr o1
          replace f1 := cell_below hr f1
          replace b2 := cell_below hr b2
          replace o2 := cell_below hr o2
          replace f2 := cell_below hr f2
          clear hx
          go_wp2_with fail
          go_quiet (fail)
          go_wp2_with fail
          go_roundw
          case rel => exact ⟨i + 1, by omega, by go_num, below_drewN hr _⟩
          case measure => simp [intOf]; omega
        · replace R1 := Lib.hid (R1.out.below hr)
          replace R2 := Lib.hid (R2.out.below hr)
          replace B1 := B1.call hr
          replace B2 := B2.call hr
          replace hb := bthen hb hr
          clear hr
          go_wp2_with fail
          clear c10 c20 hlt hi
          generalize wr = W2 at *
          go_loopw [7] (fun j wy => ∃ i : Nat, i ≤ D.H.length ∧ j = .int .i64 (i : Int) ∧ Below W2.heap.size W2 wy) (fun j _ => D.H.length - (intOf j).toNat)
          case atStart => exact ⟨0, Nat.zero_le _, rfl, Below.refl _ _⟩
          case round =>
            obtain ⟨i, hi, rfl, hr⟩ := hrel
            have C1 := B1.call hr
            have C2 := B2.call hr
            have c10 := C1.cell (i := 2) rfl
            have c20 := C2.cell (i := 2) rfl
            by_cases hlt : i < D.H.length
            · obtain ⟨p, hx⟩ : ∃ p, D.H[i]? = some p := ⟨_, List.getElem?_eq_getElem hlt⟩
              have hfp := HD.out.2.2.2 p (List.mem_of_getElem? hx)
              obtain ⟨a1, e1, pa⟩ : ∃ g, ta = some ⟨g, 0, none⟩ ∧ W2.rangeAt g (i * 132) (celH p) := by
                rcases R1.out.H with ⟨h, _⟩ | ⟨g, c, e, _, hc⟩
                · rw [h] at hlt; simp at hlt
                · exact ⟨g, by injection e, hc i _ hx⟩
              obtain ⟨a2, e2, pb⟩ : ∃ g, tb = some ⟨g, 0, none⟩ ∧ W2.rangeAt g (i * 132) (celH p) := by
                rcases R2.out.H with ⟨h, _⟩ | ⟨g, c, e, _, hc⟩
                · rw [h] at hlt; simp at hlt
                · exact ⟨g, by injection e, hc i _ hx⟩
              subst e1
              subst e2
              replace pa := Lib.hid (range_below hr pa)
              replace pb := Lib.hid (range_below hr pb)
              clear hx
              go_wp2_with fail
              refine rg_start [] (by kernel_rfl) (fun hS => ?_)
              replace hr := hr.drew
              refine rg_take 0 rfl (by kernel_rfl) (by kernel_rfl) (by kernel_rfl) (by rfl) hS (v := ?_) ?_ ?_
              rotate_left
              · (intro w' hS'; go_simp <;> try with_reducible rfl)
              try simp only [Act.put, List.setIfInBounds_toArray, List.set_cons_zero, List.set_cons_succ]
              refine rg_take 1 rfl (by kernel_rfl) (by kernel_rfl) (by kernel_rfl) (by rfl) hS (v := ?_) ?_ ?_
              rotate_left
              · (intro w' hS'; have hc := (C1.keep hS' (by simp <;> omega)).cell (i := 2) (v := (.slice (some ⟨a1, 0, none⟩) D.H.length tc)) rfl; go_simp <;> try with_reducible rfl)
              try simp only [Act.put, List.setIfInBounds_toArray, List.set_cons_zero, List.set_cons_succ]
              refine rg_take 2 rfl (by kernel_rfl) (by kernel_rfl) (by kernel_rfl) (by rfl) hS (v := ?_) ?_ ?_
              rotate_left
              · (intro w' hS'; go_simp <;> try with_reducible rfl)
              try simp only [Act.put, List.setIfInBounds_toArray, List.set_cons_zero, List.set_cons_succ]
              refine rg_take 3 rfl (by kernel_rfl) (by kernel_rfl) (by kernel_rfl) (by rfl) hS (v := ?_) ?_ ?_
              rotate_left
              · (intro w' hS'; go_simp <;> try with_reducible rfl)
              try simp only [Act.put, List.setIfInBounds_toArray, List.set_cons_zero, List.set_cons_succ]
              refine rg_take 4 rfl (by kernel_rfl) (by kernel_rfl) (by kernel_rfl) (by rfl) hS (v := .agg (celH p).toArray) (fun w' hS' => op_ldH rfl rfl (range_keep hS' pa.out)) ?_
              try simp only [Act.put, List.setIfInBounds_toArray, List.set_cons_zero, List.set_cons_succ]
              refine rg_take 5 rfl (by kernel_rfl) (by kernel_rfl) (by kernel_rfl) (by rfl) hS (v := ?_) ?_ ?_
              rotate_left
              · (intro w' hS'; go_simp <;> try with_reducible rfl)
              try simp only [Act.put, List.setIfInBounds_toArray, List.set_cons_zero, List.set_cons_succ]
              refine rg_take 6 rfl (by kernel_rfl) (by kernel_rfl) (by kernel_rfl) (by rfl) hS (v := ?_) ?_ ?_
              rotate_left
              · (intro w' hS'; have hc := (C2.keep hS' (by simp <;> omega)).cell (i := 2) (v := (.slice (some ⟨a2, 0, none⟩) D.H.length td)) rfl; go_simp <;> try with_reducible rfl)
              try simp only [Act.put, List.setIfInBounds_toArray, List.set_cons_zero, List.set_cons_succ]
              refine rg_take 7 rfl (by kernel_rfl) (by kernel_rfl) (by kernel_rfl) (by rfl) hS (v := ?_) ?_ ?_
              rotate_left
              · (intro w' hS'; go_simp <;> try with_reducible rfl)
              try simp only [Act.put, List.setIfInBounds_toArray, List.set_cons_zero, List.set_cons_succ]
              refine rg_take 8 rfl (by kernel_rfl) (by kernel_rfl) (by kernel_rfl) (by rfl) hS (v := ?_) ?_ ?_
              rotate_left
              · (intro w' hS'; go_simp <;> try with_reducible rfl)
              try simp only [Act.put, List.setIfInBounds_toArray, List.set_cons_zero, List.set_cons_succ]
              refine rg_take 9 rfl (by kernel_rfl) (by kernel_rfl) (by kernel_rfl) (by rfl) hS (v := .agg (celH p).toArray) (fun w' hS' => op_ldH rfl rfl (range_keep hS' pb.out)) ?_
              try simp only [Act.put, List.setIfInBounds_toArray, List.set_cons_zero, List.set_cons_succ]
              refine rg_take 10 rfl (by kernel_rfl) (by kernel_rfl) (by kernel_rfl) (by rfl) hS (v := .bool false) (fun w' _ => op_neqH hfp rfl rfl rfl w') ?_
              try simp only [Act.put, List.setIfInBounds_toArray, List.set_cons_zero, List.set_cons_succ]
              refine rg_done (by kernel_rfl) ?_
              go_wp2_with fail
              go_roundw
              case rel => exact ⟨i + 1, by omega, by go_num, hr⟩
              case measure => simp [intOf]; omega
            · replace hb := bthen hb hr
              clear hr
              go_wp2_with fail
              go_ret
              exact ⟨rfl, hb⟩
end Go.Proofs.YtpalfmgloddhcaaGreatDoor
