/- Joined of: Tcs Tcy. -/
import Derived.Test.YtckolhalggcenaaGreatTrc
import Derived.Test.YtckolhalggcenaaGreatTcr
import Derived.Test.YtckolhalggcenaaGreatTru
import Derived.Deep.DeepCutAuto
/- An array of three points. -/
namespace Go.Proofs.YtckolhalggcenaaGreat
set_option linter.unusedSimpArgs false
set_option linter.unusedVariables false
open Go.RowKit
set_option maxRecDepth 100000
theorem sizeP3 : (Tryz.prog.info? 33).map (·.size) = some 396 := by kernel_rfl
theorem zeroP3 : (Tryz.prog.info? 33).map (·.zero) = some (some (.agg (c3c p0 p0 p0).toArray)) := by kernel_rfl
section
variable {P Q R : List Value} (hP : Pc P) (hQ : Pc Q) (hR : Pc R)
theorem p3_0 : Part (c3c P Q R) 0 P := by rw [c3_eq]; exact part_l (part_all _)
include hP
theorem p3_1 : Part (c3c P Q R) 132 Q := by rw [c3_eq]; exact part_r (f := 0) (part_l (part_all _)) hP.len
include hQ
theorem p3_2 : Part (c3c P Q R) 264 R := by
  rw [c3_eq, ← List.append_assoc]
  exact part_r (f := 0) (part_all _) (by rw [List.length_append, hP.len, hQ.len])
include hR
theorem p3_len : (c3c P Q R).length = 396 := by rw [c3_eq, List.length_append, List.length_append, hP.len, hQ.len, hR.len]
theorem p3_one : ∀ v ∈ c3c P Q R, v.oneCell' = true := fun v hv => by
  rw [c3_eq] at hv
  simp only [List.mem_append] at hv
  rcases hv with h | h | h
  · exact hP.one v h
  · exact hQ.one v h
  · exact hR.one v h
theorem builtP3 : Tryz.prog.built 33 [(0, .agg P.toArray), (1, .agg Q.toArray), (2, .agg R.toArray)] = some (c3c P Q R).toArray := by
  have := built_a (t := 33) (e := 29) (len := 3) (n := 396) (k := 132) (by kernel_rfl) (by kernel_rfl) sizeP (Ps := [P, Q, R]) (fun X hX => by
    simp only [List.mem_cons, List.not_mem_nil, or_false] at hX
    rcases hX with rfl | rfl | rfl
    · exact hP.len
    · exact hQ.len
    · exact hR.len) (by simp)
  exact this
end
section
variable {ops : Array Oper} {rest : List Oper} {o : Oper} {a : Act} {w : World} {Q' : Exit → Act → World → Prop} {P Q R : List Value}
theorem bd_3 {t : TypeId} {p q r : Operand} {X Y Z cs : List Value} (hgd : o.guard = none) (ho : o.op = .build t #[(0, p), (1, q), (2, r)]) (hp : a.eval p = .agg X.toArray) (hq : a.eval q = .agg Y.toArray) (hz : a.eval r = .agg Z.toArray) (hb : Tryz.prog.built t [(0, .agg X.toArray), (1, .agg Y.toArray), (2, .agg Z.toArray)] = some cs.toArray)
    (hr : wpList Tryz.prog ops Q' rest (a.put o.dst (.agg cs.toArray)) w) : wpList Tryz.prog ops Q' (o :: rest) a w :=
  wpList_plain hgd fun K hK => by
    have := hK _ _ hr
    unfold Oper.wp execOp
    simp only [ho, Sem.run_bind]
    rw [show Array.map (fun x : Nat × Operand => (x.fst, a.eval x.snd)) #[(0, p), (1, q), (2, r)] = #[(0, .agg X.toArray), (1, .agg Y.toArray), (2, .agg Z.toArray)] by simp [hp, hq, hz], run_build w t _ _ hb]
    exact this
theorem bdA3 {p q r : Operand} (hgd : o.guard = none) (ho : o.op = .build 33 #[(0, p), (1, q), (2, r)]) (hp : a.eval p = .agg P.toArray) (hq : a.eval q = .agg Q.toArray) (hz : a.eval r = .agg R.toArray) (hP : Pc P) (hQ : Pc Q) (hR : Pc R)
    (hr : wpList Tryz.prog ops Q' rest (a.put o.dst (.agg (c3c P Q R).toArray)) w) : wpList Tryz.prog ops Q' (o :: rest) a w := bd_3 hgd ho hp hq hz (builtP3 hP hQ hR) hr
theorem alA3 (hgd : o.guard = none) (ho : o.op = .alloc 33)
    (hr : wpList Tryz.prog ops Q' rest (a.put o.dst (.pointer (some ⟨w.heap.size, 0, none⟩))) (w.alloc (.cells (c3c p0 p0 p0).toArray 33))) : wpList Tryz.prog ops Q' (o :: rest) a w := al_blk hgd ho zeroP3 hr
theorem stA3 {t : TypeId} {x y : Operand} {b : Nat} {cs : List Value} (hgd : o.guard = none) (ho : o.op = .store 33 x y) (hx : a.eval x = .pointer (some ⟨b, 0, none⟩)) (hy : a.eval y = .agg (c3c P Q R).toArray) (h : Blk w b cs t) (hl : cs.length = 396) (hP : Pc P) (hQ : Pc Q) (hR : Pc R)
    (hr : wpList Tryz.prog ops Q' rest (a.put o.dst undef) (w.setRow b (c3c P Q R).toArray)) : wpList Tryz.prog ops Q' (o :: rest) a w :=
  st_blk hgd ho hx hy h (by rw [hl, p3_len hP hQ hR]) (by rw [p3_len hP hQ hR]; exact sizeP3) (p3_one hP hQ hR) hr
end
end Go.Proofs.YtckolhalggcenaaGreat

/- What TriCorners answers, of three points that may be. -/
namespace Go.Proofs.YtckolhalggcenaaGreat
set_option linter.unusedSimpArgs false
set_option linter.unusedVariables false
open Go.RowKit
set_option maxRecDepth 100000
set_option maxHeartbeats 16000000 in
theorem tcn_yes {ax ay bx by' cx cy q0 q1 q2 u : Rat} {s0 s1 s2 l1 l2 l3 g : Bool} {c0 c1 c2 n1 n2 n3 : Int}
    (T : Tl 5 #[vp ax ay, vp bx by', vp cx cy] (.tuple #[.int .i64 1, .bool true]))
    (S0 : Tl 6 #[vp ax ay, vp bx by', vp cx cy] (.tuple #[vl (fq q0), .bool s0, .bool true])) (S1 : Tl 6 #[vp bx by', vp cx cy, vp ax ay] (.tuple #[vl (fq q1), .bool s1, .bool true])) (S2 : Tl 6 #[vp cx cy, vp ax ay, vp bx by'] (.tuple #[vl (fq q2), .bool s2, .bool true]))
    (W : Tl 8 #[.int .i64 1] (vl (fq u))) (C0 : Tl 7 #[vl (fq q0), vl (fq u)] (.tuple #[.int .i64 c0, .bool true])) (C1 : Tl 7 #[vl (fq q1), vl (fq u)] (.tuple #[.int .i64 c1, .bool true])) (C2 : Tl 7 #[vl (fq q2), vl (fq u)] (.tuple #[.int .i64 c2, .bool true]))
    (G1 : Tl 9 #[vp ax ay, vp bx by', vp cx cy] (.tuple #[.bool g, .bool true])) (G2 : Tl 9 #[vp bx by', vp cx cy, vp ax ay] (.tuple #[.bool g, .bool true])) (G3 : Tl 9 #[vp ax ay, vp cx cy, vp bx by'] (.tuple #[.bool false, .bool true]))
    (E0 : n1 = (if s0 = true then 0 else 1) ∧ l1 = (s0 && decide (c0 < 0))) (E1 : n2 = (if s1 = true then n1 else n1 + 1) ∧ l2 = (l1 || (s1 && decide (c1 < 0)))) (E2 : n3 = (if s2 = true then n2 else n2 + 1) ∧ l3 = (l2 || (s2 && decide (c2 < 0))))
    (R1 : 0 ≤ n1 ∧ n1 ≤ 1) (R2 : 0 ≤ n2 ∧ n2 ≤ 2) (N3 : n3 ≤ 1) (HG : g = !l3) :
    Tl 3 #[vp ax ay, vp bx by', vp cx cy] (.bool true) := by
  intro w
  have HT := Lib.hid T
  have HS0 := Lib.hid S0
  have HS1 := Lib.hid S1
  have HS2 := Lib.hid S2
  have HW := Lib.hid W
  have HC0 := Lib.hid C0
  have HC1 := Lib.hid C1
  have HC2 := Lib.hid C2
  have HG1 := Lib.hid G1
  have HG2 := Lib.hid G2
  have HG3 := Lib.hid G3
  have HE0 := Lib.hid E0
  have HE1 := Lib.hid E1
  have HE2 := Lib.hid E2
  have HGG := Lib.hid HG
  have HN3 := Lib.hid N3
  have HR1 := Lib.hid R1
  have HR2 := Lib.hid R2
  clear T S0 S1 S2 W C0 C1 C2 G1 G2 G3 E0 E1 E2 HG N3 R1 R2
  unfold Tl at HT HS0 HS1 HS2 HW HC0 HC1 HC2 HG1 HG2 HG3
  unfold vp at *
  unfold vl at *
  have b3 := ((Blk.new w (fq ax ++ fq ay) 29 rfl).old (.cells (fq bx ++ fq by').toArray 29)).old (.cells (fq cx ++ fq cy).toArray 29)
  have b4 := (Blk.new (w.alloc (.cells (fq ax ++ fq ay).toArray 29)) (fq bx ++ fq by') 29 (b := w.heap.size + 1) (by simp)).old (.cells (fq cx ++ fq cy).toArray 29)
  have b5 := Blk.new ((w.alloc (.cells (fq ax ++ fq ay).toArray 29)).alloc (.cells (fq bx ++ fq by').toArray 29)) (fq cx ++ fq cy) 29 (b := w.heap.size + 1 + 1) (by simp)
  have hb : Below w.heap.size w (((w.alloc (.cells (fq ax ++ fq ay).toArray 29)).alloc (.cells (fq bx ++ fq by').toArray 29)).alloc (.cells (fq cx ++ fq cy).toArray 29)) := (((Below.refl _ _).alloc (Nat.le_refl _) _).alloc (by simp) _).alloc (by simp; omega) _
  go_enter Tryz.func3, Tryz.ntmps3
  go_wp2_with fail
  refine (known5_any _).mono ?_
  rintro e w1 ⟨rfl, h1⟩
  replace b3 := b3.call h1
  replace b4 := b4.call h1
  replace b5 := b5.call h1
  replace hb := bthen hb h1
  clear h1
  go_wp2_with (first | (with_reducible refine ldPt rfl rfl rfl b3 (rc_q _) (rc_q _) ?_) | (with_reducible refine ldPt rfl rfl rfl b4 (rc_q _) (rc_q _) ?_) | (with_reducible refine ldPt rfl rfl rfl b5 (rc_q _) (rc_q _) ?_))
  refine (HT.out _).mono ?_
  rintro e w1 ⟨rfl, h1⟩
  replace b3 := b3.call h1
  replace b4 := b4.call h1
  replace b5 := b5.call h1
  replace hb := bthen hb h1
  clear h1
  have a3 := b3
  have a4 := b4
  have a5 := b5
  have f := Blk.new w1 (c3c p0 p0 p0) 33 rfl
  have b11 := laid_n w1 (c3c p0 p0 p0) (c3c (fq ax ++ fq ay) (fq bx ++ fq by') (fq cx ++ fq cy)) 33
  replace b3 := laid_o b3 (c3c p0 p0 p0) (c3c (fq ax ++ fq ay) (fq bx ++ fq by') (fq cx ++ fq cy)) 33
  replace b4 := laid_o b4 (c3c p0 p0 p0) (c3c (fq ax ++ fq ay) (fq bx ++ fq by') (fq cx ++ fq cy)) 33
  replace b5 := laid_o b5 (c3c p0 p0 p0) (c3c (fq ax ++ fq ay) (fq bx ++ fq by') (fq cx ++ fq cy)) 33
  replace hb := laid_b hb (c3c p0 p0 p0) (c3c (fq ax ++ fq ay) (fq bx ++ fq by') (fq cx ++ fq cy)) 33
  go_wp2_with (first | (with_reducible refine ldPt rfl rfl rfl a3 (rc_q _) (rc_q _) ?_) | (with_reducible refine ldPt rfl rfl rfl a4 (rc_q _) (rc_q _) ?_) | (with_reducible refine ldPt rfl rfl rfl a5 (rc_q _) (rc_q _) ?_) | (with_reducible refine bdA3 rfl rfl rfl rfl rfl (pc_q _ _) (pc_q _ _) (pc_q _ _) ?_) | (with_reducible refine alA3 rfl rfl ?_) | (with_reducible refine stA3 rfl rfl rfl rfl f (p3_len pc_0 pc_0 pc_0) (pc_q _ _) (pc_q _ _) (pc_q _ _) ?_))
  clear f a3 a4 a5
  generalize (w1.alloc (.cells (c3c p0 p0 p0).toArray 33)).setRow w1.heap.size (c3c (fq ax ++ fq ay) (fq bx ++ fq by') (fq cx ++ fq cy)).toArray = W at *
  generalize w1.heap.size = pl_b11 at *
  have PA0 : Part (c3c (fq ax ++ fq ay) (fq bx ++ fq by') (fq cx ++ fq cy)) 0 (fq ax ++ fq ay) := p3_0
  have PA1 : Part (c3c (fq ax ++ fq ay) (fq bx ++ fq by') (fq cx ++ fq cy)) 132 (fq bx ++ fq by') := p3_1 (pc_q _ _)
  have PA2 : Part (c3c (fq ax ++ fq ay) (fq bx ++ fq by') (fq cx ++ fq cy)) 264 (fq cx ++ fq cy) := p3_2 (pc_q _ _) (pc_q _ _)

  go_loopw [9, 10, 12] (fun n low i wr => Blk wr w.heap.size (fq ax ++ fq ay) 29 ∧ Blk wr (w.heap.size + 1) (fq bx ++ fq by') 29 ∧ Blk wr (w.heap.size + 1 + 1) (fq cx ++ fq cy) 29 ∧ Blk wr pl_b11 (c3c (fq ax ++ fq ay) (fq bx ++ fq by') (fq cx ++ fq cy)) 33 ∧ Below w.heap.size w wr ∧
    ((n = .int .i64 0 ∧ low = .bool false ∧ i = .int .i64 0) ∨ (n = .int .i64 n1 ∧ low = .bool l1 ∧ i = .int .i64 1) ∨ (n = .int .i64 n2 ∧ low = .bool l2 ∧ i = .int .i64 2) ∨ (n = .int .i64 n3 ∧ low = .bool l3 ∧ i = .int .i64 3))) (fun _ _ i _ => 3 - (intOf i).toNat)
  case atStart => exact ⟨b3, b4, b5, b11, hb, by simp⟩
  case round =>
    clear b3 b4 b5 b11 hb
    obtain ⟨b3, b4, b5, b11, hb, hc⟩ := hrel
    rcases hc with ⟨rfl, rfl, rfl⟩ | ⟨rfl, rfl, rfl⟩ | ⟨rfl, rfl, rfl⟩ | ⟨rfl, rfl, rfl⟩
    · skip
      rcases s0 with _ | _
      · skip
        obtain ⟨rfl, rfl⟩ : n1 = 1 ∧ l1 = false := ⟨HE0.out.1.trans (by simp), HE0.out.2.trans (by simp)⟩
        skip
        go_wp2_with fail
        have hsz := hb.size
        try simp only [Act.put, List.setIfInBounds_toArray, List.set_cons_zero, List.set_cons_succ]
        go_cut [13, 14, 15] (fun p v0 v1 wx => ∃ q, p = .pointer (some ⟨q, 0, none⟩) ∧ v0 = .bool false ∧ v1 = .bool true ∧ Below w.heap.size w wx ∧ Blk wx q (fq q0) 27 ∧ Blk wx w.heap.size (fq ax ++ fq ay) 29 ∧ Blk wx (w.heap.size + 1) (fq bx ++ fq by') 29 ∧ Blk wx (w.heap.size + 1 + 1) (fq cx ++ fq cy) 29 ∧ Blk wx pl_b11 ((c3c (fq ax ++ fq ay) (fq bx ++ fq by') (fq cx ++ fq cy))) 33)
        case first =>
          refine rg_start [] (by kernel_rfl) (fun hS => ?_)
          replace hb := hb.drew
          refine rg_take 0 rfl (by kernel_rfl) (by kernel_rfl) (by kernel_rfl) (by rfl) hS (v := ?_) ?_ ?_
          rotate_left
          · (intro w' hS'; go_simp <;> try with_reducible rfl)
          try simp only [Act.put, List.setIfInBounds_toArray, List.set_cons_zero, List.set_cons_succ]
          refine rg_take 1 rfl (by kernel_rfl) (by kernel_rfl) (by kernel_rfl) (by rfl) hS (v := ?_) ?_ ?_
          rotate_left
          · (intro w' hS'; go_simp <;> try with_reducible rfl)
          try simp only [Act.put, List.setIfInBounds_toArray, List.set_cons_zero, List.set_cons_succ]
          refine rg_ldP 2 rfl (by kernel_rfl) (by kernel_rfl) (by kernel_rfl) (by rfl) hS rfl rfl b11 (by simp <;> omega) PA0 (pc_q _ _).whole ?_
          try simp only [Act.put, List.setIfInBounds_toArray, List.set_cons_zero, List.set_cons_succ]
          refine rg_take 3 rfl (by kernel_rfl) (by kernel_rfl) (by kernel_rfl) (by rfl) hS (v := ?_) ?_ ?_
          rotate_left
          · (intro w' hS'; go_simp <;> try with_reducible rfl)
          try simp only [Act.put, List.setIfInBounds_toArray, List.set_cons_zero, List.set_cons_succ]
          refine rg_take 4 rfl (by kernel_rfl) (by kernel_rfl) (by kernel_rfl) (by rfl) hS (v := ?_) ?_ ?_
          rotate_left
          · (intro w' hS'; go_simp <;> try with_reducible rfl)
          try simp only [Act.put, List.setIfInBounds_toArray, List.set_cons_zero, List.set_cons_succ]
          refine rg_take 5 rfl (by kernel_rfl) (by kernel_rfl) (by kernel_rfl) (by rfl) hS (v := .int .i64 1) (fun w' _ => (by go_simp <;> rfl)) ?_
          try simp only [Act.put, List.setIfInBounds_toArray, List.set_cons_zero, List.set_cons_succ]
          refine rg_take 6 rfl (by kernel_rfl) (by kernel_rfl) (by kernel_rfl) (by rfl) hS (v := ?_) ?_ ?_
          rotate_left
          · (intro w' hS'; go_simp <;> try with_reducible rfl)
          try simp only [Act.put, List.setIfInBounds_toArray, List.set_cons_zero, List.set_cons_succ]
          refine rg_ldP 7 rfl (by kernel_rfl) (by kernel_rfl) (by kernel_rfl) (by rfl) hS rfl rfl b11 (by simp <;> omega) PA1 (pc_q _ _).whole ?_
          try simp only [Act.put, List.setIfInBounds_toArray, List.set_cons_zero, List.set_cons_succ]
          refine rg_take 8 rfl (by kernel_rfl) (by kernel_rfl) (by kernel_rfl) (by rfl) hS (v := ?_) ?_ ?_
          rotate_left
          · (intro w' hS'; go_simp <;> try with_reducible rfl)
          try simp only [Act.put, List.setIfInBounds_toArray, List.set_cons_zero, List.set_cons_succ]
          refine rg_take 9 rfl (by kernel_rfl) (by kernel_rfl) (by kernel_rfl) (by rfl) hS (v := ?_) ?_ ?_
          rotate_left
          · (intro w' hS'; go_simp <;> try with_reducible rfl)
          try simp only [Act.put, List.setIfInBounds_toArray, List.set_cons_zero, List.set_cons_succ]
          refine rg_take 10 rfl (by kernel_rfl) (by kernel_rfl) (by kernel_rfl) (by rfl) hS (v := .int .i64 2) (fun w' _ => (by go_simp <;> rfl)) ?_
          try simp only [Act.put, List.setIfInBounds_toArray, List.set_cons_zero, List.set_cons_succ]
          refine rg_take 11 rfl (by kernel_rfl) (by kernel_rfl) (by kernel_rfl) (by rfl) hS (v := ?_) ?_ ?_
          rotate_left
          · (intro w' hS'; go_simp <;> try with_reducible rfl)
          try simp only [Act.put, List.setIfInBounds_toArray, List.set_cons_zero, List.set_cons_succ]
          refine rg_ldP 12 rfl (by kernel_rfl) (by kernel_rfl) (by kernel_rfl) (by rfl) hS rfl rfl b11 (by simp <;> omega) PA2 (pc_q _ _).whole ?_
          try simp only [Act.put, List.setIfInBounds_toArray, List.set_cons_zero, List.set_cons_succ]
          refine rg_two 13 18 rfl rfl (by kernel_rfl) (by rfl) (by rfl) (fun K hK => ?_) (fun K hK => ?_)
          · go_simp
            refine (HS0.out _).mono ?_
            rintro e w1 ⟨rfl, h1⟩
            refine hK _ _ (hS.call h1) (fun hS => ?_)
            clear hK K
            try replace an := an.call h1
            replace hb := bthen hb h1
            clear h1
            try simp only [Act.put, List.setIfInBounds_toArray, List.set_cons_zero, List.set_cons_succ]
            refine rg_take 14 rfl (by kernel_rfl) (by kernel_rfl) (by kernel_rfl) (by rfl) hS (v := ?_) ?_ ?_
            rotate_left
            · (intro w' hS'; go_simp <;> try with_reducible rfl)
            try simp only [Act.put, List.setIfInBounds_toArray, List.set_cons_zero, List.set_cons_succ]
            refine rg_take 15 rfl (by kernel_rfl) (by kernel_rfl) (by kernel_rfl) (by rfl) hS (v := ?_) ?_ ?_
            rotate_left
            · (intro w' hS'; go_simp <;> try with_reducible rfl)
            try simp only [Act.put, List.setIfInBounds_toArray, List.set_cons_zero, List.set_cons_succ]
            refine rg_take 16 rfl (by kernel_rfl) (by kernel_rfl) (by kernel_rfl) (by rfl) hS (v := ?_) ?_ ?_
            rotate_left
            · (intro w' hS'; go_simp <;> try with_reducible rfl)
            try simp only [Act.put, List.setIfInBounds_toArray, List.set_cons_zero, List.set_cons_succ]
            refine rg_take 17 rfl (by kernel_rfl) (by kernel_rfl) (by kernel_rfl) (by rfl) hS (v := ?_) ?_ ?_
            rotate_left
            · (intro w' hS'; go_simp <;> try with_reducible rfl)
            try simp only [Act.put, List.setIfInBounds_toArray, List.set_cons_zero, List.set_cons_succ]
            refine rg_eff 18 rfl (by kernel_rfl) (by rfl) (fun K hK => ?_)
            refine wp_alB (zs := rr false 0 false 0) rfl (by kernel_rfl) (fun pn qn an => ?_)
            replace qn := Nat.le_trans hS.1 qn
            refine hK _ _ (hS.alloc _) (fun hS => ?_)
            clear hK K
            replace hb := hb.alloc hb.size (.cells (rr false 0 false 0).toArray 27)
            try simp only [Act.put, List.setIfInBounds_toArray, List.set_cons_zero, List.set_cons_succ]
            refine rg_eff 19 rfl (by kernel_rfl) (by rfl) (fun K hK => ?_)
            refine wp_st (vs := fq q0) rfl rfl rfl an ((rr_length _ _ _ _).trans (rc_q q0).len.symm) (rc_q q0).whole (rc_q q0).one ?_
            refine hK _ _ (hS.row (.inr qn) _) (fun hS => ?_)
            clear hK K
            replace an := an.row (fq q0)
            replace hb := below_row hb (g := pn) (by omega) (fq q0).toArray
            try simp only [Act.put, List.setIfInBounds_toArray, List.set_cons_zero, List.set_cons_succ]
            refine rg_take 20 rfl (by kernel_rfl) (by kernel_rfl) (by kernel_rfl) (by rfl) hS (v := ?_) ?_ ?_
            rotate_left
            · (intro w' hS'; go_simp <;> try with_reducible rfl)
            try simp only [Act.put, List.setIfInBounds_toArray, List.set_cons_zero, List.set_cons_succ]
            refine rg_take 21 rfl (by kernel_rfl) (by kernel_rfl) (by kernel_rfl) (by rfl) hS (v := ?_) ?_ ?_
            rotate_left
            · (intro w' hS'; go_simp <;> try with_reducible rfl)
            try simp only [Act.put, List.setIfInBounds_toArray, List.set_cons_zero, List.set_cons_succ]
            refine rg_done (by kernel_rfl) ?_
            go_wp2_with fail
            go_meet
            case rel => exact ⟨pn, rfl, rfl, rfl, hb, an, b3.keep hS (by simp), b4.keep hS (by simp), b5.keep hS (by simp), b11.keep hS (by simp)⟩
          · refine wp_alB (zs := rr false 0 false 0) rfl (by kernel_rfl) (fun pn qn an => ?_)
            replace qn := Nat.le_trans hS.1 qn
            refine hK _ _ (hS.alloc _) (fun hS => ?_)
            clear hK K
            replace hb := hb.alloc hb.size (.cells (rr false 0 false 0).toArray 27)
            try simp only [Act.put, List.setIfInBounds_toArray, List.set_cons_zero, List.set_cons_succ]
            refine rg_eff 13 rfl (by kernel_rfl) (by rfl) (fun K hK => ?_)
            go_simp
            refine (HS0.out _).mono ?_
            rintro e w1 ⟨rfl, h1⟩
            refine hK _ _ (hS.call h1) (fun hS => ?_)
            clear hK K
            try replace an := an.call h1
            replace hb := bthen hb h1
            clear h1
            try simp only [Act.put, List.setIfInBounds_toArray, List.set_cons_zero, List.set_cons_succ]
            refine rg_take 14 rfl (by kernel_rfl) (by kernel_rfl) (by kernel_rfl) (by rfl) hS (v := ?_) ?_ ?_
            rotate_left
            · (intro w' hS'; go_simp <;> try with_reducible rfl)
            try simp only [Act.put, List.setIfInBounds_toArray, List.set_cons_zero, List.set_cons_succ]
            refine rg_take 15 rfl (by kernel_rfl) (by kernel_rfl) (by kernel_rfl) (by rfl) hS (v := ?_) ?_ ?_
            rotate_left
            · (intro w' hS'; go_simp <;> try with_reducible rfl)
            try simp only [Act.put, List.setIfInBounds_toArray, List.set_cons_zero, List.set_cons_succ]
            refine rg_take 16 rfl (by kernel_rfl) (by kernel_rfl) (by kernel_rfl) (by rfl) hS (v := ?_) ?_ ?_
            rotate_left
            · (intro w' hS'; go_simp <;> try with_reducible rfl)
            try simp only [Act.put, List.setIfInBounds_toArray, List.set_cons_zero, List.set_cons_succ]
            refine rg_take 17 rfl (by kernel_rfl) (by kernel_rfl) (by kernel_rfl) (by rfl) hS (v := ?_) ?_ ?_
            rotate_left
            · (intro w' hS'; go_simp <;> try with_reducible rfl)
            try simp only [Act.put, List.setIfInBounds_toArray, List.set_cons_zero, List.set_cons_succ]
            refine rg_eff 19 rfl (by kernel_rfl) (by rfl) (fun K hK => ?_)
            refine wp_st (vs := fq q0) rfl rfl rfl an ((rr_length _ _ _ _).trans (rc_q q0).len.symm) (rc_q q0).whole (rc_q q0).one ?_
            refine hK _ _ (hS.row (.inr qn) _) (fun hS => ?_)
            clear hK K
            replace an := an.row (fq q0)
            replace hb := below_row hb (g := pn) (by omega) (fq q0).toArray
            try simp only [Act.put, List.setIfInBounds_toArray, List.set_cons_zero, List.set_cons_succ]
            refine rg_take 20 rfl (by kernel_rfl) (by kernel_rfl) (by kernel_rfl) (by rfl) hS (v := ?_) ?_ ?_
            rotate_left
            · (intro w' hS'; go_simp <;> try with_reducible rfl)
            try simp only [Act.put, List.setIfInBounds_toArray, List.set_cons_zero, List.set_cons_succ]
            refine rg_take 21 rfl (by kernel_rfl) (by kernel_rfl) (by kernel_rfl) (by rfl) hS (v := ?_) ?_ ?_
            rotate_left
            · (intro w' hS'; go_simp <;> try with_reducible rfl)
            try simp only [Act.put, List.setIfInBounds_toArray, List.set_cons_zero, List.set_cons_succ]
            refine rg_done (by kernel_rfl) ?_
            go_wp2_with fail
            go_meet
            case rel => exact ⟨pn, rfl, rfl, rfl, hb, an, b3.keep hS (by simp), b4.keep hS (by simp), b5.keep hS (by simp), b11.keep hS (by simp)⟩
        case rest =>
          clear hb hsz b3 b4 b5 b11
          obtain ⟨pl_b13, rfl, rfl, rfl, hb, b13, b3, b4, b5, b11⟩ := hcut
          go_wp2
          go_roundw
          case rel => exact ⟨b3, b4, b5, b11, hb, by simp <;> assumption⟩
          case measure => simp [intOf]
      · skip
        by_cases hd : c0 < 0
        · skip
          obtain ⟨rfl, rfl⟩ : n1 = 0 ∧ l1 = true := ⟨HE0.out.1.trans (by simp), HE0.out.2.trans (by simp [hd])⟩
          go_wp2_with fail
          have hsz := hb.size
          try simp only [Act.put, List.setIfInBounds_toArray, List.set_cons_zero, List.set_cons_succ]
          go_cut [13, 14, 15] (fun p v0 v1 wx => ∃ q, p = .pointer (some ⟨q, 0, none⟩) ∧ v0 = .bool true ∧ v1 = .bool true ∧ Below w.heap.size w wx ∧ Blk wx q (fq q0) 27 ∧ Blk wx w.heap.size (fq ax ++ fq ay) 29 ∧ Blk wx (w.heap.size + 1) (fq bx ++ fq by') 29 ∧ Blk wx (w.heap.size + 1 + 1) (fq cx ++ fq cy) 29 ∧ Blk wx pl_b11 ((c3c (fq ax ++ fq ay) (fq bx ++ fq by') (fq cx ++ fq cy))) 33)
          case first =>
            refine rg_start [] (by kernel_rfl) (fun hS => ?_)
            replace hb := hb.drew
            refine rg_take 0 rfl (by kernel_rfl) (by kernel_rfl) (by kernel_rfl) (by rfl) hS (v := ?_) ?_ ?_
            rotate_left
            · (intro w' hS'; go_simp <;> try with_reducible rfl)
            try simp only [Act.put, List.setIfInBounds_toArray, List.set_cons_zero, List.set_cons_succ]
            refine rg_take 1 rfl (by kernel_rfl) (by kernel_rfl) (by kernel_rfl) (by rfl) hS (v := ?_) ?_ ?_
            rotate_left
            · (intro w' hS'; go_simp <;> try with_reducible rfl)
            try simp only [Act.put, List.setIfInBounds_toArray, List.set_cons_zero, List.set_cons_succ]
            refine rg_ldP 2 rfl (by kernel_rfl) (by kernel_rfl) (by kernel_rfl) (by rfl) hS rfl rfl b11 (by simp <;> omega) PA0 (pc_q _ _).whole ?_
            try simp only [Act.put, List.setIfInBounds_toArray, List.set_cons_zero, List.set_cons_succ]
            refine rg_take 3 rfl (by kernel_rfl) (by kernel_rfl) (by kernel_rfl) (by rfl) hS (v := ?_) ?_ ?_
            rotate_left
            · (intro w' hS'; go_simp <;> try with_reducible rfl)
            try simp only [Act.put, List.setIfInBounds_toArray, List.set_cons_zero, List.set_cons_succ]
            refine rg_take 4 rfl (by kernel_rfl) (by kernel_rfl) (by kernel_rfl) (by rfl) hS (v := ?_) ?_ ?_
            rotate_left
            · (intro w' hS'; go_simp <;> try with_reducible rfl)
            try simp only [Act.put, List.setIfInBounds_toArray, List.set_cons_zero, List.set_cons_succ]
            refine rg_take 5 rfl (by kernel_rfl) (by kernel_rfl) (by kernel_rfl) (by rfl) hS (v := .int .i64 1) (fun w' _ => (by go_simp <;> rfl)) ?_
            try simp only [Act.put, List.setIfInBounds_toArray, List.set_cons_zero, List.set_cons_succ]
            refine rg_take 6 rfl (by kernel_rfl) (by kernel_rfl) (by kernel_rfl) (by rfl) hS (v := ?_) ?_ ?_
            rotate_left
            · (intro w' hS'; go_simp <;> try with_reducible rfl)
            try simp only [Act.put, List.setIfInBounds_toArray, List.set_cons_zero, List.set_cons_succ]
            refine rg_ldP 7 rfl (by kernel_rfl) (by kernel_rfl) (by kernel_rfl) (by rfl) hS rfl rfl b11 (by simp <;> omega) PA1 (pc_q _ _).whole ?_
            try simp only [Act.put, List.setIfInBounds_toArray, List.set_cons_zero, List.set_cons_succ]
            refine rg_take 8 rfl (by kernel_rfl) (by kernel_rfl) (by kernel_rfl) (by rfl) hS (v := ?_) ?_ ?_
            rotate_left
            · (intro w' hS'; go_simp <;> try with_reducible rfl)
            try simp only [Act.put, List.setIfInBounds_toArray, List.set_cons_zero, List.set_cons_succ]
            refine rg_take 9 rfl (by kernel_rfl) (by kernel_rfl) (by kernel_rfl) (by rfl) hS (v := ?_) ?_ ?_
            rotate_left
            · (intro w' hS'; go_simp <;> try with_reducible rfl)
            try simp only [Act.put, List.setIfInBounds_toArray, List.set_cons_zero, List.set_cons_succ]
            refine rg_take 10 rfl (by kernel_rfl) (by kernel_rfl) (by kernel_rfl) (by rfl) hS (v := .int .i64 2) (fun w' _ => (by go_simp <;> rfl)) ?_
            try simp only [Act.put, List.setIfInBounds_toArray, List.set_cons_zero, List.set_cons_succ]
            refine rg_take 11 rfl (by kernel_rfl) (by kernel_rfl) (by kernel_rfl) (by rfl) hS (v := ?_) ?_ ?_
            rotate_left
            · (intro w' hS'; go_simp <;> try with_reducible rfl)
            try simp only [Act.put, List.setIfInBounds_toArray, List.set_cons_zero, List.set_cons_succ]
            refine rg_ldP 12 rfl (by kernel_rfl) (by kernel_rfl) (by kernel_rfl) (by rfl) hS rfl rfl b11 (by simp <;> omega) PA2 (pc_q _ _).whole ?_
            try simp only [Act.put, List.setIfInBounds_toArray, List.set_cons_zero, List.set_cons_succ]
            refine rg_two 13 18 rfl rfl (by kernel_rfl) (by rfl) (by rfl) (fun K hK => ?_) (fun K hK => ?_)
            · go_simp
              refine (HS0.out _).mono ?_
              rintro e w1 ⟨rfl, h1⟩
              refine hK _ _ (hS.call h1) (fun hS => ?_)
              clear hK K
              try replace an := an.call h1
              replace hb := bthen hb h1
              clear h1
              try simp only [Act.put, List.setIfInBounds_toArray, List.set_cons_zero, List.set_cons_succ]
              refine rg_take 14 rfl (by kernel_rfl) (by kernel_rfl) (by kernel_rfl) (by rfl) hS (v := ?_) ?_ ?_
              rotate_left
              · (intro w' hS'; go_simp <;> try with_reducible rfl)
              try simp only [Act.put, List.setIfInBounds_toArray, List.set_cons_zero, List.set_cons_succ]
              refine rg_take 15 rfl (by kernel_rfl) (by kernel_rfl) (by kernel_rfl) (by rfl) hS (v := ?_) ?_ ?_
              rotate_left
              · (intro w' hS'; go_simp <;> try with_reducible rfl)
              try simp only [Act.put, List.setIfInBounds_toArray, List.set_cons_zero, List.set_cons_succ]
              refine rg_take 16 rfl (by kernel_rfl) (by kernel_rfl) (by kernel_rfl) (by rfl) hS (v := ?_) ?_ ?_
              rotate_left
              · (intro w' hS'; go_simp <;> try with_reducible rfl)
              try simp only [Act.put, List.setIfInBounds_toArray, List.set_cons_zero, List.set_cons_succ]
              refine rg_take 17 rfl (by kernel_rfl) (by kernel_rfl) (by kernel_rfl) (by rfl) hS (v := ?_) ?_ ?_
              rotate_left
              · (intro w' hS'; go_simp <;> try with_reducible rfl)
              try simp only [Act.put, List.setIfInBounds_toArray, List.set_cons_zero, List.set_cons_succ]
              refine rg_eff 18 rfl (by kernel_rfl) (by rfl) (fun K hK => ?_)
              refine wp_alB (zs := rr false 0 false 0) rfl (by kernel_rfl) (fun pn qn an => ?_)
              replace qn := Nat.le_trans hS.1 qn
              refine hK _ _ (hS.alloc _) (fun hS => ?_)
              clear hK K
              replace hb := hb.alloc hb.size (.cells (rr false 0 false 0).toArray 27)
              try simp only [Act.put, List.setIfInBounds_toArray, List.set_cons_zero, List.set_cons_succ]
              refine rg_eff 19 rfl (by kernel_rfl) (by rfl) (fun K hK => ?_)
              refine wp_st (vs := fq q0) rfl rfl rfl an ((rr_length _ _ _ _).trans (rc_q q0).len.symm) (rc_q q0).whole (rc_q q0).one ?_
              refine hK _ _ (hS.row (.inr qn) _) (fun hS => ?_)
              clear hK K
              replace an := an.row (fq q0)
              replace hb := below_row hb (g := pn) (by omega) (fq q0).toArray
              try simp only [Act.put, List.setIfInBounds_toArray, List.set_cons_zero, List.set_cons_succ]
              refine rg_take 20 rfl (by kernel_rfl) (by kernel_rfl) (by kernel_rfl) (by rfl) hS (v := ?_) ?_ ?_
              rotate_left
              · (intro w' hS'; go_simp <;> try with_reducible rfl)
              try simp only [Act.put, List.setIfInBounds_toArray, List.set_cons_zero, List.set_cons_succ]
              refine rg_take 21 rfl (by kernel_rfl) (by kernel_rfl) (by kernel_rfl) (by rfl) hS (v := ?_) ?_ ?_
              rotate_left
              · (intro w' hS'; go_simp <;> try with_reducible rfl)
              try simp only [Act.put, List.setIfInBounds_toArray, List.set_cons_zero, List.set_cons_succ]
              refine rg_done (by kernel_rfl) ?_
              go_wp2_with fail
              go_meet
              case rel => exact ⟨pn, rfl, rfl, rfl, hb, an, b3.keep hS (by simp), b4.keep hS (by simp), b5.keep hS (by simp), b11.keep hS (by simp)⟩
            · refine wp_alB (zs := rr false 0 false 0) rfl (by kernel_rfl) (fun pn qn an => ?_)
              replace qn := Nat.le_trans hS.1 qn
              refine hK _ _ (hS.alloc _) (fun hS => ?_)
              clear hK K
              replace hb := hb.alloc hb.size (.cells (rr false 0 false 0).toArray 27)
              try simp only [Act.put, List.setIfInBounds_toArray, List.set_cons_zero, List.set_cons_succ]
              refine rg_eff 13 rfl (by kernel_rfl) (by rfl) (fun K hK => ?_)
              go_simp
              refine (HS0.out _).mono ?_
              rintro e w1 ⟨rfl, h1⟩
              refine hK _ _ (hS.call h1) (fun hS => ?_)
              clear hK K
              try replace an := an.call h1
              replace hb := bthen hb h1
              clear h1
              try simp only [Act.put, List.setIfInBounds_toArray, List.set_cons_zero, List.set_cons_succ]
              refine rg_take 14 rfl (by kernel_rfl) (by kernel_rfl) (by kernel_rfl) (by rfl) hS (v := ?_) ?_ ?_
              rotate_left
              · (intro w' hS'; go_simp <;> try with_reducible rfl)
              try simp only [Act.put, List.setIfInBounds_toArray, List.set_cons_zero, List.set_cons_succ]
              refine rg_take 15 rfl (by kernel_rfl) (by kernel_rfl) (by kernel_rfl) (by rfl) hS (v := ?_) ?_ ?_
              rotate_left
              · (intro w' hS'; go_simp <;> try with_reducible rfl)
              try simp only [Act.put, List.setIfInBounds_toArray, List.set_cons_zero, List.set_cons_succ]
              refine rg_take 16 rfl (by kernel_rfl) (by kernel_rfl) (by kernel_rfl) (by rfl) hS (v := ?_) ?_ ?_
              rotate_left
              · (intro w' hS'; go_simp <;> try with_reducible rfl)
              try simp only [Act.put, List.setIfInBounds_toArray, List.set_cons_zero, List.set_cons_succ]
              refine rg_take 17 rfl (by kernel_rfl) (by kernel_rfl) (by kernel_rfl) (by rfl) hS (v := ?_) ?_ ?_
              rotate_left
              · (intro w' hS'; go_simp <;> try with_reducible rfl)
              try simp only [Act.put, List.setIfInBounds_toArray, List.set_cons_zero, List.set_cons_succ]
              refine rg_eff 19 rfl (by kernel_rfl) (by rfl) (fun K hK => ?_)
              refine wp_st (vs := fq q0) rfl rfl rfl an ((rr_length _ _ _ _).trans (rc_q q0).len.symm) (rc_q q0).whole (rc_q q0).one ?_
              refine hK _ _ (hS.row (.inr qn) _) (fun hS => ?_)
              clear hK K
              replace an := an.row (fq q0)
              replace hb := below_row hb (g := pn) (by omega) (fq q0).toArray
              try simp only [Act.put, List.setIfInBounds_toArray, List.set_cons_zero, List.set_cons_succ]
              refine rg_take 20 rfl (by kernel_rfl) (by kernel_rfl) (by kernel_rfl) (by rfl) hS (v := ?_) ?_ ?_
              rotate_left
              · (intro w' hS'; go_simp <;> try with_reducible rfl)
              try simp only [Act.put, List.setIfInBounds_toArray, List.set_cons_zero, List.set_cons_succ]
              refine rg_take 21 rfl (by kernel_rfl) (by kernel_rfl) (by kernel_rfl) (by rfl) hS (v := ?_) ?_ ?_
              rotate_left
              · (intro w' hS'; go_simp <;> try with_reducible rfl)
              try simp only [Act.put, List.setIfInBounds_toArray, List.set_cons_zero, List.set_cons_succ]
              refine rg_done (by kernel_rfl) ?_
              go_wp2_with fail
              go_meet
              case rel => exact ⟨pn, rfl, rfl, rfl, hb, an, b3.keep hS (by simp), b4.keep hS (by simp), b5.keep hS (by simp), b11.keep hS (by simp)⟩
          case rest =>
            clear hb hsz b3 b4 b5 b11
            obtain ⟨pl_b13, rfl, rfl, rfl, hb, b13, b3, b4, b5, b11⟩ := hcut
            go_wp2_with fail
            refine rg_start [] (by kernel_rfl) (fun hS => ?_)
            replace hb := hb.drew
            refine rg_ldP 0 rfl (by kernel_rfl) (by kernel_rfl) (by kernel_rfl) (by rfl) hS rfl rfl b13 (by simp <;> omega) (part_all _) (rc_q _).whole ?_
            try simp only [Act.put, List.setIfInBounds_toArray, List.set_cons_zero, List.set_cons_succ]
            refine rg_eff 1 rfl (by kernel_rfl) (by rfl) (fun K hK => ?_)
            go_simp
            refine (HW.out _).mono ?_
            rintro e w1 ⟨rfl, h1⟩
            refine hK _ _ (hS.call h1) (fun hS => ?_)
            clear hK K
            replace hb := bthen hb h1
            clear h1
            try simp only [Act.put, List.setIfInBounds_toArray, List.set_cons_zero, List.set_cons_succ]
            refine rg_eff 2 rfl (by kernel_rfl) (by rfl) (fun K hK => ?_)
            go_simp
            refine (HC0.out _).mono ?_
            rintro e w1 ⟨rfl, h1⟩
            refine hK _ _ (hS.call h1) (fun hS => ?_)
            clear hK K
            replace hb := bthen hb h1
            clear h1
            try simp only [Act.put, List.setIfInBounds_toArray, List.set_cons_zero, List.set_cons_succ]
            refine rg_take 3 rfl (by kernel_rfl) (by kernel_rfl) (by kernel_rfl) (by rfl) hS (v := ?_) ?_ ?_
            rotate_left
            · (intro w' hS'; go_simp <;> try with_reducible rfl)
            try simp only [Act.put, List.setIfInBounds_toArray, List.set_cons_zero, List.set_cons_succ]
            refine rg_take 4 rfl (by kernel_rfl) (by kernel_rfl) (by kernel_rfl) (by rfl) hS (v := ?_) ?_ ?_
            rotate_left
            · (intro w' hS'; go_simp <;> try with_reducible rfl)
            try simp only [Act.put, List.setIfInBounds_toArray, List.set_cons_zero, List.set_cons_succ]
            refine rg_take 5 rfl (by kernel_rfl) (by kernel_rfl) (by kernel_rfl) (by rfl) hS (v := ?_) ?_ ?_
            rotate_left
            · (intro w' hS'; go_simp <;> try with_reducible rfl)
            try simp only [Act.put, List.setIfInBounds_toArray, List.set_cons_zero, List.set_cons_succ]
            refine rg_take 6 rfl (by kernel_rfl) (by kernel_rfl) (by kernel_rfl) (by rfl) hS (v := ?_) ?_ ?_
            rotate_left
            · (intro w' hS'; go_simp <;> try with_reducible rfl)
            try simp only [Act.put, List.setIfInBounds_toArray, List.set_cons_zero, List.set_cons_succ]
            refine rg_take 7 rfl (by kernel_rfl) (by kernel_rfl) (by kernel_rfl) (by rfl) hS (v := ?_) ?_ ?_
            rotate_left
            · (intro w' hS'; go_simp <;> try with_reducible rfl)
            try simp only [Act.put, List.setIfInBounds_toArray, List.set_cons_zero, List.set_cons_succ]
            refine rg_done (by kernel_rfl) ?_
            replace b3 := b3.keep hS (by simp)
            replace b4 := b4.keep hS (by simp)
            replace b5 := b5.keep hS (by simp)
            replace b11 := b11.keep hS (by simp)
            clear hS b13
            go_wp2
            go_roundw
            case rel => exact ⟨b3, b4, b5, b11, hb, by simp <;> assumption⟩
            case measure => simp [intOf]
        · skip
          obtain ⟨rfl, rfl⟩ : n1 = 0 ∧ l1 = false := ⟨HE0.out.1.trans (by simp), HE0.out.2.trans (by simp [hd])⟩
          go_wp2_with fail
          have hsz := hb.size
          try simp only [Act.put, List.setIfInBounds_toArray, List.set_cons_zero, List.set_cons_succ]
          go_cut [13, 14, 15] (fun p v0 v1 wx => ∃ q, p = .pointer (some ⟨q, 0, none⟩) ∧ v0 = .bool true ∧ v1 = .bool true ∧ Below w.heap.size w wx ∧ Blk wx q (fq q0) 27 ∧ Blk wx w.heap.size (fq ax ++ fq ay) 29 ∧ Blk wx (w.heap.size + 1) (fq bx ++ fq by') 29 ∧ Blk wx (w.heap.size + 1 + 1) (fq cx ++ fq cy) 29 ∧ Blk wx pl_b11 ((c3c (fq ax ++ fq ay) (fq bx ++ fq by') (fq cx ++ fq cy))) 33)
          case first =>
            refine rg_start [] (by kernel_rfl) (fun hS => ?_)
            replace hb := hb.drew
            refine rg_take 0 rfl (by kernel_rfl) (by kernel_rfl) (by kernel_rfl) (by rfl) hS (v := ?_) ?_ ?_
            rotate_left
            · (intro w' hS'; go_simp <;> try with_reducible rfl)
            try simp only [Act.put, List.setIfInBounds_toArray, List.set_cons_zero, List.set_cons_succ]
            refine rg_take 1 rfl (by kernel_rfl) (by kernel_rfl) (by kernel_rfl) (by rfl) hS (v := ?_) ?_ ?_
            rotate_left
            · (intro w' hS'; go_simp <;> try with_reducible rfl)
            try simp only [Act.put, List.setIfInBounds_toArray, List.set_cons_zero, List.set_cons_succ]
            refine rg_ldP 2 rfl (by kernel_rfl) (by kernel_rfl) (by kernel_rfl) (by rfl) hS rfl rfl b11 (by simp <;> omega) PA0 (pc_q _ _).whole ?_
            try simp only [Act.put, List.setIfInBounds_toArray, List.set_cons_zero, List.set_cons_succ]
            refine rg_take 3 rfl (by kernel_rfl) (by kernel_rfl) (by kernel_rfl) (by rfl) hS (v := ?_) ?_ ?_
            rotate_left
            · (intro w' hS'; go_simp <;> try with_reducible rfl)
            try simp only [Act.put, List.setIfInBounds_toArray, List.set_cons_zero, List.set_cons_succ]
            refine rg_take 4 rfl (by kernel_rfl) (by kernel_rfl) (by kernel_rfl) (by rfl) hS (v := ?_) ?_ ?_
            rotate_left
            · (intro w' hS'; go_simp <;> try with_reducible rfl)
            try simp only [Act.put, List.setIfInBounds_toArray, List.set_cons_zero, List.set_cons_succ]
            refine rg_take 5 rfl (by kernel_rfl) (by kernel_rfl) (by kernel_rfl) (by rfl) hS (v := .int .i64 1) (fun w' _ => (by go_simp <;> rfl)) ?_
            try simp only [Act.put, List.setIfInBounds_toArray, List.set_cons_zero, List.set_cons_succ]
            refine rg_take 6 rfl (by kernel_rfl) (by kernel_rfl) (by kernel_rfl) (by rfl) hS (v := ?_) ?_ ?_
            rotate_left
            · (intro w' hS'; go_simp <;> try with_reducible rfl)
            try simp only [Act.put, List.setIfInBounds_toArray, List.set_cons_zero, List.set_cons_succ]
            refine rg_ldP 7 rfl (by kernel_rfl) (by kernel_rfl) (by kernel_rfl) (by rfl) hS rfl rfl b11 (by simp <;> omega) PA1 (pc_q _ _).whole ?_
            try simp only [Act.put, List.setIfInBounds_toArray, List.set_cons_zero, List.set_cons_succ]
            refine rg_take 8 rfl (by kernel_rfl) (by kernel_rfl) (by kernel_rfl) (by rfl) hS (v := ?_) ?_ ?_
            rotate_left
            · (intro w' hS'; go_simp <;> try with_reducible rfl)
            try simp only [Act.put, List.setIfInBounds_toArray, List.set_cons_zero, List.set_cons_succ]
            refine rg_take 9 rfl (by kernel_rfl) (by kernel_rfl) (by kernel_rfl) (by rfl) hS (v := ?_) ?_ ?_
            rotate_left
            · (intro w' hS'; go_simp <;> try with_reducible rfl)
            try simp only [Act.put, List.setIfInBounds_toArray, List.set_cons_zero, List.set_cons_succ]
            refine rg_take 10 rfl (by kernel_rfl) (by kernel_rfl) (by kernel_rfl) (by rfl) hS (v := .int .i64 2) (fun w' _ => (by go_simp <;> rfl)) ?_
            try simp only [Act.put, List.setIfInBounds_toArray, List.set_cons_zero, List.set_cons_succ]
            refine rg_take 11 rfl (by kernel_rfl) (by kernel_rfl) (by kernel_rfl) (by rfl) hS (v := ?_) ?_ ?_
            rotate_left
            · (intro w' hS'; go_simp <;> try with_reducible rfl)
            try simp only [Act.put, List.setIfInBounds_toArray, List.set_cons_zero, List.set_cons_succ]
            refine rg_ldP 12 rfl (by kernel_rfl) (by kernel_rfl) (by kernel_rfl) (by rfl) hS rfl rfl b11 (by simp <;> omega) PA2 (pc_q _ _).whole ?_
            try simp only [Act.put, List.setIfInBounds_toArray, List.set_cons_zero, List.set_cons_succ]
            refine rg_two 13 18 rfl rfl (by kernel_rfl) (by rfl) (by rfl) (fun K hK => ?_) (fun K hK => ?_)
            · go_simp
              refine (HS0.out _).mono ?_
              rintro e w1 ⟨rfl, h1⟩
              refine hK _ _ (hS.call h1) (fun hS => ?_)
              clear hK K
              try replace an := an.call h1
              replace hb := bthen hb h1
              clear h1
              try simp only [Act.put, List.setIfInBounds_toArray, List.set_cons_zero, List.set_cons_succ]
              refine rg_take 14 rfl (by kernel_rfl) (by kernel_rfl) (by kernel_rfl) (by rfl) hS (v := ?_) ?_ ?_
              rotate_left
              · (intro w' hS'; go_simp <;> try with_reducible rfl)
              try simp only [Act.put, List.setIfInBounds_toArray, List.set_cons_zero, List.set_cons_succ]
              refine rg_take 15 rfl (by kernel_rfl) (by kernel_rfl) (by kernel_rfl) (by rfl) hS (v := ?_) ?_ ?_
              rotate_left
              · (intro w' hS'; go_simp <;> try with_reducible rfl)
              try simp only [Act.put, List.setIfInBounds_toArray, List.set_cons_zero, List.set_cons_succ]
              refine rg_take 16 rfl (by kernel_rfl) (by kernel_rfl) (by kernel_rfl) (by rfl) hS (v := ?_) ?_ ?_
              rotate_left
              · (intro w' hS'; go_simp <;> try with_reducible rfl)
              try simp only [Act.put, List.setIfInBounds_toArray, List.set_cons_zero, List.set_cons_succ]
              refine rg_take 17 rfl (by kernel_rfl) (by kernel_rfl) (by kernel_rfl) (by rfl) hS (v := ?_) ?_ ?_
              rotate_left
              · (intro w' hS'; go_simp <;> try with_reducible rfl)
              try simp only [Act.put, List.setIfInBounds_toArray, List.set_cons_zero, List.set_cons_succ]
              refine rg_eff 18 rfl (by kernel_rfl) (by rfl) (fun K hK => ?_)
              refine wp_alB (zs := rr false 0 false 0) rfl (by kernel_rfl) (fun pn qn an => ?_)
              replace qn := Nat.le_trans hS.1 qn
              refine hK _ _ (hS.alloc _) (fun hS => ?_)
              clear hK K
              replace hb := hb.alloc hb.size (.cells (rr false 0 false 0).toArray 27)
              try simp only [Act.put, List.setIfInBounds_toArray, List.set_cons_zero, List.set_cons_succ]
              refine rg_eff 19 rfl (by kernel_rfl) (by rfl) (fun K hK => ?_)
              refine wp_st (vs := fq q0) rfl rfl rfl an ((rr_length _ _ _ _).trans (rc_q q0).len.symm) (rc_q q0).whole (rc_q q0).one ?_
              refine hK _ _ (hS.row (.inr qn) _) (fun hS => ?_)
              clear hK K
              replace an := an.row (fq q0)
              replace hb := below_row hb (g := pn) (by omega) (fq q0).toArray
              try simp only [Act.put, List.setIfInBounds_toArray, List.set_cons_zero, List.set_cons_succ]
              refine rg_take 20 rfl (by kernel_rfl) (by kernel_rfl) (by kernel_rfl) (by rfl) hS (v := ?_) ?_ ?_
              rotate_left
              · (intro w' hS'; go_simp <;> try with_reducible rfl)
              try simp only [Act.put, List.setIfInBounds_toArray, List.set_cons_zero, List.set_cons_succ]
              refine rg_take 21 rfl (by kernel_rfl) (by kernel_rfl) (by kernel_rfl) (by rfl) hS (v := ?_) ?_ ?_
              rotate_left
              · (intro w' hS'; go_simp <;> try with_reducible rfl)
              try simp only [Act.put, List.setIfInBounds_toArray, List.set_cons_zero, List.set_cons_succ]
              refine rg_done (by kernel_rfl) ?_
              go_wp2_with fail
              go_meet
              case rel => exact ⟨pn, rfl, rfl, rfl, hb, an, b3.keep hS (by simp), b4.keep hS (by simp), b5.keep hS (by simp), b11.keep hS (by simp)⟩
            · refine wp_alB (zs := rr false 0 false 0) rfl (by kernel_rfl) (fun pn qn an => ?_)
              replace qn := Nat.le_trans hS.1 qn
              refine hK _ _ (hS.alloc _) (fun hS => ?_)
              clear hK K
              replace hb := hb.alloc hb.size (.cells (rr false 0 false 0).toArray 27)
              try simp only [Act.put, List.setIfInBounds_toArray, List.set_cons_zero, List.set_cons_succ]
              refine rg_eff 13 rfl (by kernel_rfl) (by rfl) (fun K hK => ?_)
              go_simp
              refine (HS0.out _).mono ?_
              rintro e w1 ⟨rfl, h1⟩
              refine hK _ _ (hS.call h1) (fun hS => ?_)
              clear hK K
              try replace an := an.call h1
              replace hb := bthen hb h1
              clear h1
              try simp only [Act.put, List.setIfInBounds_toArray, List.set_cons_zero, List.set_cons_succ]
              refine rg_take 14 rfl (by kernel_rfl) (by kernel_rfl) (by kernel_rfl) (by rfl) hS (v := ?_) ?_ ?_
              rotate_left
              · (intro w' hS'; go_simp <;> try with_reducible rfl)
              try simp only [Act.put, List.setIfInBounds_toArray, List.set_cons_zero, List.set_cons_succ]
              refine rg_take 15 rfl (by kernel_rfl) (by kernel_rfl) (by kernel_rfl) (by rfl) hS (v := ?_) ?_ ?_
              rotate_left
              · (intro w' hS'; go_simp <;> try with_reducible rfl)
              try simp only [Act.put, List.setIfInBounds_toArray, List.set_cons_zero, List.set_cons_succ]
              refine rg_take 16 rfl (by kernel_rfl) (by kernel_rfl) (by kernel_rfl) (by rfl) hS (v := ?_) ?_ ?_
              rotate_left
              · (intro w' hS'; go_simp <;> try with_reducible rfl)
              try simp only [Act.put, List.setIfInBounds_toArray, List.set_cons_zero, List.set_cons_succ]
              refine rg_take 17 rfl (by kernel_rfl) (by kernel_rfl) (by kernel_rfl) (by rfl) hS (v := ?_) ?_ ?_
              rotate_left
              · (intro w' hS'; go_simp <;> try with_reducible rfl)
              try simp only [Act.put, List.setIfInBounds_toArray, List.set_cons_zero, List.set_cons_succ]
              refine rg_eff 19 rfl (by kernel_rfl) (by rfl) (fun K hK => ?_)
              refine wp_st (vs := fq q0) rfl rfl rfl an ((rr_length _ _ _ _).trans (rc_q q0).len.symm) (rc_q q0).whole (rc_q q0).one ?_
              refine hK _ _ (hS.row (.inr qn) _) (fun hS => ?_)
              clear hK K
              replace an := an.row (fq q0)
              replace hb := below_row hb (g := pn) (by omega) (fq q0).toArray
              try simp only [Act.put, List.setIfInBounds_toArray, List.set_cons_zero, List.set_cons_succ]
              refine rg_take 20 rfl (by kernel_rfl) (by kernel_rfl) (by kernel_rfl) (by rfl) hS (v := ?_) ?_ ?_
              rotate_left
              · (intro w' hS'; go_simp <;> try with_reducible rfl)
              try simp only [Act.put, List.setIfInBounds_toArray, List.set_cons_zero, List.set_cons_succ]
              refine rg_take 21 rfl (by kernel_rfl) (by kernel_rfl) (by kernel_rfl) (by rfl) hS (v := ?_) ?_ ?_
              rotate_left
              · (intro w' hS'; go_simp <;> try with_reducible rfl)
              try simp only [Act.put, List.setIfInBounds_toArray, List.set_cons_zero, List.set_cons_succ]
              refine rg_done (by kernel_rfl) ?_
              go_wp2_with fail
              go_meet
              case rel => exact ⟨pn, rfl, rfl, rfl, hb, an, b3.keep hS (by simp), b4.keep hS (by simp), b5.keep hS (by simp), b11.keep hS (by simp)⟩
          case rest =>
            clear hb hsz b3 b4 b5 b11
            obtain ⟨pl_b13, rfl, rfl, rfl, hb, b13, b3, b4, b5, b11⟩ := hcut
            go_wp2_with fail
            refine rg_start [] (by kernel_rfl) (fun hS => ?_)
            replace hb := hb.drew
            refine rg_ldP 0 rfl (by kernel_rfl) (by kernel_rfl) (by kernel_rfl) (by rfl) hS rfl rfl b13 (by simp <;> omega) (part_all _) (rc_q _).whole ?_
            try simp only [Act.put, List.setIfInBounds_toArray, List.set_cons_zero, List.set_cons_succ]
            refine rg_eff 1 rfl (by kernel_rfl) (by rfl) (fun K hK => ?_)
            go_simp
            refine (HW.out _).mono ?_
            rintro e w1 ⟨rfl, h1⟩
            refine hK _ _ (hS.call h1) (fun hS => ?_)
            clear hK K
            replace hb := bthen hb h1
            clear h1
            try simp only [Act.put, List.setIfInBounds_toArray, List.set_cons_zero, List.set_cons_succ]
            refine rg_eff 2 rfl (by kernel_rfl) (by rfl) (fun K hK => ?_)
            go_simp
            refine (HC0.out _).mono ?_
            rintro e w1 ⟨rfl, h1⟩
            refine hK _ _ (hS.call h1) (fun hS => ?_)
            clear hK K
            replace hb := bthen hb h1
            clear h1
            try simp only [Act.put, List.setIfInBounds_toArray, List.set_cons_zero, List.set_cons_succ]
            refine rg_take 3 rfl (by kernel_rfl) (by kernel_rfl) (by kernel_rfl) (by rfl) hS (v := ?_) ?_ ?_
            rotate_left
            · (intro w' hS'; go_simp <;> try with_reducible rfl)
            try simp only [Act.put, List.setIfInBounds_toArray, List.set_cons_zero, List.set_cons_succ]
            refine rg_take 4 rfl (by kernel_rfl) (by kernel_rfl) (by kernel_rfl) (by rfl) hS (v := ?_) ?_ ?_
            rotate_left
            · (intro w' hS'; go_simp <;> try with_reducible rfl)
            try simp only [Act.put, List.setIfInBounds_toArray, List.set_cons_zero, List.set_cons_succ]
            refine rg_take 5 rfl (by kernel_rfl) (by kernel_rfl) (by kernel_rfl) (by rfl) hS (v := ?_) ?_ ?_
            rotate_left
            · (intro w' hS'; go_simp <;> try with_reducible rfl)
            try simp only [Act.put, List.setIfInBounds_toArray, List.set_cons_zero, List.set_cons_succ]
            refine rg_take 6 rfl (by kernel_rfl) (by kernel_rfl) (by kernel_rfl) (by rfl) hS (v := ?_) ?_ ?_
            rotate_left
            · (intro w' hS'; go_simp <;> try with_reducible rfl)
            try simp only [Act.put, List.setIfInBounds_toArray, List.set_cons_zero, List.set_cons_succ]
            refine rg_take 7 rfl (by kernel_rfl) (by kernel_rfl) (by kernel_rfl) (by rfl) hS (v := ?_) ?_ ?_
            rotate_left
            · (intro w' hS'; go_simp <;> try with_reducible rfl)
            try simp only [Act.put, List.setIfInBounds_toArray, List.set_cons_zero, List.set_cons_succ]
            refine rg_done (by kernel_rfl) ?_
            replace b3 := b3.keep hS (by simp)
            replace b4 := b4.keep hS (by simp)
            replace b5 := b5.keep hS (by simp)
            replace b11 := b11.keep hS (by simp)
            clear hS b13
            go_wp2
            go_roundw
            case rel => exact ⟨b3, b4, b5, b11, hb, by simp <;> assumption⟩
            case measure => simp [intOf]
    · skip
      rcases s1 with _ | _
      · skip
        obtain ⟨rfl, rfl⟩ : n2 = n1 + 1 ∧ l2 = l1 := ⟨HE1.out.1.trans (by simp), HE1.out.2.trans (by simp)⟩
        obtain ⟨r1, r2⟩ := HR1.out
        go_wp2_with fail
        have hsz := hb.size
        try simp only [Act.put, List.setIfInBounds_toArray, List.set_cons_zero, List.set_cons_succ]
        go_cut [13, 14, 15] (fun p v0 v1 wx => ∃ q, p = .pointer (some ⟨q, 0, none⟩) ∧ v0 = .bool false ∧ v1 = .bool true ∧ Below w.heap.size w wx ∧ Blk wx q (fq q1) 27 ∧ Blk wx w.heap.size (fq ax ++ fq ay) 29 ∧ Blk wx (w.heap.size + 1) (fq bx ++ fq by') 29 ∧ Blk wx (w.heap.size + 1 + 1) (fq cx ++ fq cy) 29 ∧ Blk wx pl_b11 ((c3c (fq ax ++ fq ay) (fq bx ++ fq by') (fq cx ++ fq cy))) 33)
        case first =>
          refine rg_start [] (by kernel_rfl) (fun hS => ?_)
          replace hb := hb.drew
          refine rg_take 0 rfl (by kernel_rfl) (by kernel_rfl) (by kernel_rfl) (by rfl) hS (v := ?_) ?_ ?_
          rotate_left
          · (intro w' hS'; go_simp <;> try with_reducible rfl)
          try simp only [Act.put, List.setIfInBounds_toArray, List.set_cons_zero, List.set_cons_succ]
          refine rg_take 1 rfl (by kernel_rfl) (by kernel_rfl) (by kernel_rfl) (by rfl) hS (v := ?_) ?_ ?_
          rotate_left
          · (intro w' hS'; go_simp <;> try with_reducible rfl)
          try simp only [Act.put, List.setIfInBounds_toArray, List.set_cons_zero, List.set_cons_succ]
          refine rg_ldP 2 rfl (by kernel_rfl) (by kernel_rfl) (by kernel_rfl) (by rfl) hS rfl rfl b11 (by simp <;> omega) PA1 (pc_q _ _).whole ?_
          try simp only [Act.put, List.setIfInBounds_toArray, List.set_cons_zero, List.set_cons_succ]
          refine rg_take 3 rfl (by kernel_rfl) (by kernel_rfl) (by kernel_rfl) (by rfl) hS (v := ?_) ?_ ?_
          rotate_left
          · (intro w' hS'; go_simp <;> try with_reducible rfl)
          try simp only [Act.put, List.setIfInBounds_toArray, List.set_cons_zero, List.set_cons_succ]
          refine rg_take 4 rfl (by kernel_rfl) (by kernel_rfl) (by kernel_rfl) (by rfl) hS (v := ?_) ?_ ?_
          rotate_left
          · (intro w' hS'; go_simp <;> try with_reducible rfl)
          try simp only [Act.put, List.setIfInBounds_toArray, List.set_cons_zero, List.set_cons_succ]
          refine rg_take 5 rfl (by kernel_rfl) (by kernel_rfl) (by kernel_rfl) (by rfl) hS (v := .int .i64 2) (fun w' _ => (by go_simp <;> rfl)) ?_
          try simp only [Act.put, List.setIfInBounds_toArray, List.set_cons_zero, List.set_cons_succ]
          refine rg_take 6 rfl (by kernel_rfl) (by kernel_rfl) (by kernel_rfl) (by rfl) hS (v := ?_) ?_ ?_
          rotate_left
          · (intro w' hS'; go_simp <;> try with_reducible rfl)
          try simp only [Act.put, List.setIfInBounds_toArray, List.set_cons_zero, List.set_cons_succ]
          refine rg_ldP 7 rfl (by kernel_rfl) (by kernel_rfl) (by kernel_rfl) (by rfl) hS rfl rfl b11 (by simp <;> omega) PA2 (pc_q _ _).whole ?_
          try simp only [Act.put, List.setIfInBounds_toArray, List.set_cons_zero, List.set_cons_succ]
          refine rg_take 8 rfl (by kernel_rfl) (by kernel_rfl) (by kernel_rfl) (by rfl) hS (v := ?_) ?_ ?_
          rotate_left
          · (intro w' hS'; go_simp <;> try with_reducible rfl)
          try simp only [Act.put, List.setIfInBounds_toArray, List.set_cons_zero, List.set_cons_succ]
          refine rg_take 9 rfl (by kernel_rfl) (by kernel_rfl) (by kernel_rfl) (by rfl) hS (v := ?_) ?_ ?_
          rotate_left
          · (intro w' hS'; go_simp <;> try with_reducible rfl)
          try simp only [Act.put, List.setIfInBounds_toArray, List.set_cons_zero, List.set_cons_succ]
          refine rg_take 10 rfl (by kernel_rfl) (by kernel_rfl) (by kernel_rfl) (by rfl) hS (v := .int .i64 0) (fun w' _ => (by go_simp <;> rfl)) ?_
          try simp only [Act.put, List.setIfInBounds_toArray, List.set_cons_zero, List.set_cons_succ]
          refine rg_take 11 rfl (by kernel_rfl) (by kernel_rfl) (by kernel_rfl) (by rfl) hS (v := ?_) ?_ ?_
          rotate_left
          · (intro w' hS'; go_simp <;> try with_reducible rfl)
          try simp only [Act.put, List.setIfInBounds_toArray, List.set_cons_zero, List.set_cons_succ]
          refine rg_ldP 12 rfl (by kernel_rfl) (by kernel_rfl) (by kernel_rfl) (by rfl) hS rfl rfl b11 (by simp <;> omega) PA0 (pc_q _ _).whole ?_
          try simp only [Act.put, List.setIfInBounds_toArray, List.set_cons_zero, List.set_cons_succ]
          refine rg_two 13 18 rfl rfl (by kernel_rfl) (by rfl) (by rfl) (fun K hK => ?_) (fun K hK => ?_)
          · go_simp
            refine (HS1.out _).mono ?_
            rintro e w1 ⟨rfl, h1⟩
            refine hK _ _ (hS.call h1) (fun hS => ?_)
            clear hK K
            try replace an := an.call h1
            replace hb := bthen hb h1
            clear h1
            try simp only [Act.put, List.setIfInBounds_toArray, List.set_cons_zero, List.set_cons_succ]
            refine rg_take 14 rfl (by kernel_rfl) (by kernel_rfl) (by kernel_rfl) (by rfl) hS (v := ?_) ?_ ?_
            rotate_left
            · (intro w' hS'; go_simp <;> try with_reducible rfl)
            try simp only [Act.put, List.setIfInBounds_toArray, List.set_cons_zero, List.set_cons_succ]
            refine rg_take 15 rfl (by kernel_rfl) (by kernel_rfl) (by kernel_rfl) (by rfl) hS (v := ?_) ?_ ?_
            rotate_left
            · (intro w' hS'; go_simp <;> try with_reducible rfl)
            try simp only [Act.put, List.setIfInBounds_toArray, List.set_cons_zero, List.set_cons_succ]
            refine rg_take 16 rfl (by kernel_rfl) (by kernel_rfl) (by kernel_rfl) (by rfl) hS (v := ?_) ?_ ?_
            rotate_left
            · (intro w' hS'; go_simp <;> try with_reducible rfl)
            try simp only [Act.put, List.setIfInBounds_toArray, List.set_cons_zero, List.set_cons_succ]
            refine rg_take 17 rfl (by kernel_rfl) (by kernel_rfl) (by kernel_rfl) (by rfl) hS (v := ?_) ?_ ?_
            rotate_left
            · (intro w' hS'; go_simp <;> try with_reducible rfl)
            try simp only [Act.put, List.setIfInBounds_toArray, List.set_cons_zero, List.set_cons_succ]
            refine rg_eff 18 rfl (by kernel_rfl) (by rfl) (fun K hK => ?_)
            refine wp_alB (zs := rr false 0 false 0) rfl (by kernel_rfl) (fun pn qn an => ?_)
            replace qn := Nat.le_trans hS.1 qn
            refine hK _ _ (hS.alloc _) (fun hS => ?_)
            clear hK K
            replace hb := hb.alloc hb.size (.cells (rr false 0 false 0).toArray 27)
            try simp only [Act.put, List.setIfInBounds_toArray, List.set_cons_zero, List.set_cons_succ]
            refine rg_eff 19 rfl (by kernel_rfl) (by rfl) (fun K hK => ?_)
            refine wp_st (vs := fq q1) rfl rfl rfl an ((rr_length _ _ _ _).trans (rc_q q1).len.symm) (rc_q q1).whole (rc_q q1).one ?_
            refine hK _ _ (hS.row (.inr qn) _) (fun hS => ?_)
            clear hK K
            replace an := an.row (fq q1)
            replace hb := below_row hb (g := pn) (by omega) (fq q1).toArray
            try simp only [Act.put, List.setIfInBounds_toArray, List.set_cons_zero, List.set_cons_succ]
            refine rg_take 20 rfl (by kernel_rfl) (by kernel_rfl) (by kernel_rfl) (by rfl) hS (v := ?_) ?_ ?_
            rotate_left
            · (intro w' hS'; go_simp <;> try with_reducible rfl)
            try simp only [Act.put, List.setIfInBounds_toArray, List.set_cons_zero, List.set_cons_succ]
            refine rg_take 21 rfl (by kernel_rfl) (by kernel_rfl) (by kernel_rfl) (by rfl) hS (v := ?_) ?_ ?_
            rotate_left
            · (intro w' hS'; go_simp <;> try with_reducible rfl)
            try simp only [Act.put, List.setIfInBounds_toArray, List.set_cons_zero, List.set_cons_succ]
            refine rg_done (by kernel_rfl) ?_
            go_wp2_with fail
            go_meet
            case rel => exact ⟨pn, rfl, rfl, rfl, hb, an, b3.keep hS (by simp), b4.keep hS (by simp), b5.keep hS (by simp), b11.keep hS (by simp)⟩
          · refine wp_alB (zs := rr false 0 false 0) rfl (by kernel_rfl) (fun pn qn an => ?_)
            replace qn := Nat.le_trans hS.1 qn
            refine hK _ _ (hS.alloc _) (fun hS => ?_)
            clear hK K
            replace hb := hb.alloc hb.size (.cells (rr false 0 false 0).toArray 27)
            try simp only [Act.put, List.setIfInBounds_toArray, List.set_cons_zero, List.set_cons_succ]
            refine rg_eff 13 rfl (by kernel_rfl) (by rfl) (fun K hK => ?_)
            go_simp
            refine (HS1.out _).mono ?_
            rintro e w1 ⟨rfl, h1⟩
            refine hK _ _ (hS.call h1) (fun hS => ?_)
            clear hK K
            try replace an := an.call h1
            replace hb := bthen hb h1
            clear h1
            try simp only [Act.put, List.setIfInBounds_toArray, List.set_cons_zero, List.set_cons_succ]
            refine rg_take 14 rfl (by kernel_rfl) (by kernel_rfl) (by kernel_rfl) (by rfl) hS (v := ?_) ?_ ?_
            rotate_left
            · (intro w' hS'; go_simp <;> try with_reducible rfl)
            try simp only [Act.put, List.setIfInBounds_toArray, List.set_cons_zero, List.set_cons_succ]
            refine rg_take 15 rfl (by kernel_rfl) (by kernel_rfl) (by kernel_rfl) (by rfl) hS (v := ?_) ?_ ?_
            rotate_left
            · (intro w' hS'; go_simp <;> try with_reducible rfl)
            try simp only [Act.put, List.setIfInBounds_toArray, List.set_cons_zero, List.set_cons_succ]
            refine rg_take 16 rfl (by kernel_rfl) (by kernel_rfl) (by kernel_rfl) (by rfl) hS (v := ?_) ?_ ?_
            rotate_left
            · (intro w' hS'; go_simp <;> try with_reducible rfl)
            try simp only [Act.put, List.setIfInBounds_toArray, List.set_cons_zero, List.set_cons_succ]
            refine rg_take 17 rfl (by kernel_rfl) (by kernel_rfl) (by kernel_rfl) (by rfl) hS (v := ?_) ?_ ?_
            rotate_left
            · (intro w' hS'; go_simp <;> try with_reducible rfl)
            try simp only [Act.put, List.setIfInBounds_toArray, List.set_cons_zero, List.set_cons_succ]
            refine rg_eff 19 rfl (by kernel_rfl) (by rfl) (fun K hK => ?_)
            refine wp_st (vs := fq q1) rfl rfl rfl an ((rr_length _ _ _ _).trans (rc_q q1).len.symm) (rc_q q1).whole (rc_q q1).one ?_
            refine hK _ _ (hS.row (.inr qn) _) (fun hS => ?_)
            clear hK K
            replace an := an.row (fq q1)
            replace hb := below_row hb (g := pn) (by omega) (fq q1).toArray
            try simp only [Act.put, List.setIfInBounds_toArray, List.set_cons_zero, List.set_cons_succ]
            refine rg_take 20 rfl (by kernel_rfl) (by kernel_rfl) (by kernel_rfl) (by rfl) hS (v := ?_) ?_ ?_
            rotate_left
            · (intro w' hS'; go_simp <;> try with_reducible rfl)
            try simp only [Act.put, List.setIfInBounds_toArray, List.set_cons_zero, List.set_cons_succ]
            refine rg_take 21 rfl (by kernel_rfl) (by kernel_rfl) (by kernel_rfl) (by rfl) hS (v := ?_) ?_ ?_
            rotate_left
            · (intro w' hS'; go_simp <;> try with_reducible rfl)
            try simp only [Act.put, List.setIfInBounds_toArray, List.set_cons_zero, List.set_cons_succ]
            refine rg_done (by kernel_rfl) ?_
            go_wp2_with fail
            go_meet
            case rel => exact ⟨pn, rfl, rfl, rfl, hb, an, b3.keep hS (by simp), b4.keep hS (by simp), b5.keep hS (by simp), b11.keep hS (by simp)⟩
        case rest =>
          clear hb hsz b3 b4 b5 b11
          obtain ⟨pl_b13, rfl, rfl, rfl, hb, b13, b3, b4, b5, b11⟩ := hcut
          go_wp2
          go_roundw
          case rel => exact ⟨b3, b4, b5, b11, hb, by simp <;> assumption⟩
          case measure => simp [intOf]
      · skip
        rcases l1 with _ | _
        · skip
          by_cases hd : c1 < 0
          · skip
            obtain ⟨rfl, rfl⟩ : n2 = n1 ∧ l2 = true := ⟨HE1.out.1.trans (by simp), HE1.out.2.trans (by simp [hd])⟩
            go_wp2_with fail
            have hsz := hb.size
            try simp only [Act.put, List.setIfInBounds_toArray, List.set_cons_zero, List.set_cons_succ]
            go_cut [13, 14, 15] (fun p v0 v1 wx => ∃ q, p = .pointer (some ⟨q, 0, none⟩) ∧ v0 = .bool true ∧ v1 = .bool true ∧ Below w.heap.size w wx ∧ Blk wx q (fq q1) 27 ∧ Blk wx w.heap.size (fq ax ++ fq ay) 29 ∧ Blk wx (w.heap.size + 1) (fq bx ++ fq by') 29 ∧ Blk wx (w.heap.size + 1 + 1) (fq cx ++ fq cy) 29 ∧ Blk wx pl_b11 ((c3c (fq ax ++ fq ay) (fq bx ++ fq by') (fq cx ++ fq cy))) 33)
            case first =>
              refine rg_start [] (by kernel_rfl) (fun hS => ?_)
              replace hb := hb.drew
              refine rg_take 0 rfl (by kernel_rfl) (by kernel_rfl) (by kernel_rfl) (by rfl) hS (v := ?_) ?_ ?_
              rotate_left
              · (intro w' hS'; go_simp <;> try with_reducible rfl)
              try simp only [Act.put, List.setIfInBounds_toArray, List.set_cons_zero, List.set_cons_succ]
              refine rg_take 1 rfl (by kernel_rfl) (by kernel_rfl) (by kernel_rfl) (by rfl) hS (v := ?_) ?_ ?_
              rotate_left
              · (intro w' hS'; go_simp <;> try with_reducible rfl)
              try simp only [Act.put, List.setIfInBounds_toArray, List.set_cons_zero, List.set_cons_succ]
              refine rg_ldP 2 rfl (by kernel_rfl) (by kernel_rfl) (by kernel_rfl) (by rfl) hS rfl rfl b11 (by simp <;> omega) PA1 (pc_q _ _).whole ?_
              try simp only [Act.put, List.setIfInBounds_toArray, List.set_cons_zero, List.set_cons_succ]
              refine rg_take 3 rfl (by kernel_rfl) (by kernel_rfl) (by kernel_rfl) (by rfl) hS (v := ?_) ?_ ?_
              rotate_left
              · (intro w' hS'; go_simp <;> try with_reducible rfl)
              try simp only [Act.put, List.setIfInBounds_toArray, List.set_cons_zero, List.set_cons_succ]
              refine rg_take 4 rfl (by kernel_rfl) (by kernel_rfl) (by kernel_rfl) (by rfl) hS (v := ?_) ?_ ?_
              rotate_left
              · (intro w' hS'; go_simp <;> try with_reducible rfl)
              try simp only [Act.put, List.setIfInBounds_toArray, List.set_cons_zero, List.set_cons_succ]
              refine rg_take 5 rfl (by kernel_rfl) (by kernel_rfl) (by kernel_rfl) (by rfl) hS (v := .int .i64 2) (fun w' _ => (by go_simp <;> rfl)) ?_
              try simp only [Act.put, List.setIfInBounds_toArray, List.set_cons_zero, List.set_cons_succ]
              refine rg_take 6 rfl (by kernel_rfl) (by kernel_rfl) (by kernel_rfl) (by rfl) hS (v := ?_) ?_ ?_
              rotate_left
              · (intro w' hS'; go_simp <;> try with_reducible rfl)
              try simp only [Act.put, List.setIfInBounds_toArray, List.set_cons_zero, List.set_cons_succ]
              refine rg_ldP 7 rfl (by kernel_rfl) (by kernel_rfl) (by kernel_rfl) (by rfl) hS rfl rfl b11 (by simp <;> omega) PA2 (pc_q _ _).whole ?_
              try simp only [Act.put, List.setIfInBounds_toArray, List.set_cons_zero, List.set_cons_succ]
              refine rg_take 8 rfl (by kernel_rfl) (by kernel_rfl) (by kernel_rfl) (by rfl) hS (v := ?_) ?_ ?_
              rotate_left
              · (intro w' hS'; go_simp <;> try with_reducible rfl)
              try simp only [Act.put, List.setIfInBounds_toArray, List.set_cons_zero, List.set_cons_succ]
              refine rg_take 9 rfl (by kernel_rfl) (by kernel_rfl) (by kernel_rfl) (by rfl) hS (v := ?_) ?_ ?_
              rotate_left
              · (intro w' hS'; go_simp <;> try with_reducible rfl)
              try simp only [Act.put, List.setIfInBounds_toArray, List.set_cons_zero, List.set_cons_succ]
              refine rg_take 10 rfl (by kernel_rfl) (by kernel_rfl) (by kernel_rfl) (by rfl) hS (v := .int .i64 0) (fun w' _ => (by go_simp <;> rfl)) ?_
              try simp only [Act.put, List.setIfInBounds_toArray, List.set_cons_zero, List.set_cons_succ]
              refine rg_take 11 rfl (by kernel_rfl) (by kernel_rfl) (by kernel_rfl) (by rfl) hS (v := ?_) ?_ ?_
              rotate_left
              · (intro w' hS'; go_simp <;> try with_reducible rfl)
              try simp only [Act.put, List.setIfInBounds_toArray, List.set_cons_zero, List.set_cons_succ]
              refine rg_ldP 12 rfl (by kernel_rfl) (by kernel_rfl) (by kernel_rfl) (by rfl) hS rfl rfl b11 (by simp <;> omega) PA0 (pc_q _ _).whole ?_
              try simp only [Act.put, List.setIfInBounds_toArray, List.set_cons_zero, List.set_cons_succ]
              refine rg_two 13 18 rfl rfl (by kernel_rfl) (by rfl) (by rfl) (fun K hK => ?_) (fun K hK => ?_)
              · go_simp
                refine (HS1.out _).mono ?_
                rintro e w1 ⟨rfl, h1⟩
                refine hK _ _ (hS.call h1) (fun hS => ?_)
                clear hK K
                try replace an := an.call h1
                replace hb := bthen hb h1
                clear h1
                try simp only [Act.put, List.setIfInBounds_toArray, List.set_cons_zero, List.set_cons_succ]
                refine rg_take 14 rfl (by kernel_rfl) (by kernel_rfl) (by kernel_rfl) (by rfl) hS (v := ?_) ?_ ?_
                rotate_left
                · (intro w' hS'; go_simp <;> try with_reducible rfl)
                try simp only [Act.put, List.setIfInBounds_toArray, List.set_cons_zero, List.set_cons_succ]
                refine rg_take 15 rfl (by kernel_rfl) (by kernel_rfl) (by kernel_rfl) (by rfl) hS (v := ?_) ?_ ?_
                rotate_left
                · (intro w' hS'; go_simp <;> try with_reducible rfl)
                try simp only [Act.put, List.setIfInBounds_toArray, List.set_cons_zero, List.set_cons_succ]
                refine rg_take 16 rfl (by kernel_rfl) (by kernel_rfl) (by kernel_rfl) (by rfl) hS (v := ?_) ?_ ?_
                rotate_left
                · (intro w' hS'; go_simp <;> try with_reducible rfl)
                try simp only [Act.put, List.setIfInBounds_toArray, List.set_cons_zero, List.set_cons_succ]
                refine rg_take 17 rfl (by kernel_rfl) (by kernel_rfl) (by kernel_rfl) (by rfl) hS (v := ?_) ?_ ?_
                rotate_left
                · (intro w' hS'; go_simp <;> try with_reducible rfl)
                try simp only [Act.put, List.setIfInBounds_toArray, List.set_cons_zero, List.set_cons_succ]
                refine rg_eff 18 rfl (by kernel_rfl) (by rfl) (fun K hK => ?_)
                refine wp_alB (zs := rr false 0 false 0) rfl (by kernel_rfl) (fun pn qn an => ?_)
                replace qn := Nat.le_trans hS.1 qn
                refine hK _ _ (hS.alloc _) (fun hS => ?_)
                clear hK K
                replace hb := hb.alloc hb.size (.cells (rr false 0 false 0).toArray 27)
                try simp only [Act.put, List.setIfInBounds_toArray, List.set_cons_zero, List.set_cons_succ]
                refine rg_eff 19 rfl (by kernel_rfl) (by rfl) (fun K hK => ?_)
                refine wp_st (vs := fq q1) rfl rfl rfl an ((rr_length _ _ _ _).trans (rc_q q1).len.symm) (rc_q q1).whole (rc_q q1).one ?_
                refine hK _ _ (hS.row (.inr qn) _) (fun hS => ?_)
                clear hK K
                replace an := an.row (fq q1)
                replace hb := below_row hb (g := pn) (by omega) (fq q1).toArray
                try simp only [Act.put, List.setIfInBounds_toArray, List.set_cons_zero, List.set_cons_succ]
                refine rg_take 20 rfl (by kernel_rfl) (by kernel_rfl) (by kernel_rfl) (by rfl) hS (v := ?_) ?_ ?_
                rotate_left
                · (intro w' hS'; go_simp <;> try with_reducible rfl)
                try simp only [Act.put, List.setIfInBounds_toArray, List.set_cons_zero, List.set_cons_succ]
                refine rg_take 21 rfl (by kernel_rfl) (by kernel_rfl) (by kernel_rfl) (by rfl) hS (v := ?_) ?_ ?_
                rotate_left
                · (intro w' hS'; go_simp <;> try with_reducible rfl)
                try simp only [Act.put, List.setIfInBounds_toArray, List.set_cons_zero, List.set_cons_succ]
                refine rg_done (by kernel_rfl) ?_
                go_wp2_with fail
                go_meet
                case rel => exact ⟨pn, rfl, rfl, rfl, hb, an, b3.keep hS (by simp), b4.keep hS (by simp), b5.keep hS (by simp), b11.keep hS (by simp)⟩
              · refine wp_alB (zs := rr false 0 false 0) rfl (by kernel_rfl) (fun pn qn an => ?_)
                replace qn := Nat.le_trans hS.1 qn
                refine hK _ _ (hS.alloc _) (fun hS => ?_)
                clear hK K
                replace hb := hb.alloc hb.size (.cells (rr false 0 false 0).toArray 27)
                try simp only [Act.put, List.setIfInBounds_toArray, List.set_cons_zero, List.set_cons_succ]
                refine rg_eff 13 rfl (by kernel_rfl) (by rfl) (fun K hK => ?_)
                go_simp
                refine (HS1.out _).mono ?_
                rintro e w1 ⟨rfl, h1⟩
                refine hK _ _ (hS.call h1) (fun hS => ?_)
                clear hK K
                try replace an := an.call h1
                replace hb := bthen hb h1
                clear h1
                try simp only [Act.put, List.setIfInBounds_toArray, List.set_cons_zero, List.set_cons_succ]
                refine rg_take 14 rfl (by kernel_rfl) (by kernel_rfl) (by kernel_rfl) (by rfl) hS (v := ?_) ?_ ?_
                rotate_left
                · (intro w' hS'; go_simp <;> try with_reducible rfl)
                try simp only [Act.put, List.setIfInBounds_toArray, List.set_cons_zero, List.set_cons_succ]
                refine rg_take 15 rfl (by kernel_rfl) (by kernel_rfl) (by kernel_rfl) (by rfl) hS (v := ?_) ?_ ?_
                rotate_left
                · (intro w' hS'; go_simp <;> try with_reducible rfl)
                try simp only [Act.put, List.setIfInBounds_toArray, List.set_cons_zero, List.set_cons_succ]
                refine rg_take 16 rfl (by kernel_rfl) (by kernel_rfl) (by kernel_rfl) (by rfl) hS (v := ?_) ?_ ?_
                rotate_left
                · (intro w' hS'; go_simp <;> try with_reducible rfl)
                try simp only [Act.put, List.setIfInBounds_toArray, List.set_cons_zero, List.set_cons_succ]
                refine rg_take 17 rfl (by kernel_rfl) (by kernel_rfl) (by kernel_rfl) (by rfl) hS (v := ?_) ?_ ?_
                rotate_left
                · (intro w' hS'; go_simp <;> try with_reducible rfl)
                try simp only [Act.put, List.setIfInBounds_toArray, List.set_cons_zero, List.set_cons_succ]
                refine rg_eff 19 rfl (by kernel_rfl) (by rfl) (fun K hK => ?_)
                refine wp_st (vs := fq q1) rfl rfl rfl an ((rr_length _ _ _ _).trans (rc_q q1).len.symm) (rc_q q1).whole (rc_q q1).one ?_
                refine hK _ _ (hS.row (.inr qn) _) (fun hS => ?_)
                clear hK K
                replace an := an.row (fq q1)
                replace hb := below_row hb (g := pn) (by omega) (fq q1).toArray
                try simp only [Act.put, List.setIfInBounds_toArray, List.set_cons_zero, List.set_cons_succ]
                refine rg_take 20 rfl (by kernel_rfl) (by kernel_rfl) (by kernel_rfl) (by rfl) hS (v := ?_) ?_ ?_
                rotate_left
                · (intro w' hS'; go_simp <;> try with_reducible rfl)
                try simp only [Act.put, List.setIfInBounds_toArray, List.set_cons_zero, List.set_cons_succ]
                refine rg_take 21 rfl (by kernel_rfl) (by kernel_rfl) (by kernel_rfl) (by rfl) hS (v := ?_) ?_ ?_
                rotate_left
                · (intro w' hS'; go_simp <;> try with_reducible rfl)
                try simp only [Act.put, List.setIfInBounds_toArray, List.set_cons_zero, List.set_cons_succ]
                refine rg_done (by kernel_rfl) ?_
                go_wp2_with fail
                go_meet
                case rel => exact ⟨pn, rfl, rfl, rfl, hb, an, b3.keep hS (by simp), b4.keep hS (by simp), b5.keep hS (by simp), b11.keep hS (by simp)⟩
            case rest =>
              clear hb hsz b3 b4 b5 b11
              obtain ⟨pl_b13, rfl, rfl, rfl, hb, b13, b3, b4, b5, b11⟩ := hcut
              go_wp2_with fail
              refine rg_start [] (by kernel_rfl) (fun hS => ?_)
              replace hb := hb.drew
              refine rg_ldP 0 rfl (by kernel_rfl) (by kernel_rfl) (by kernel_rfl) (by rfl) hS rfl rfl b13 (by simp <;> omega) (part_all _) (rc_q _).whole ?_
              try simp only [Act.put, List.setIfInBounds_toArray, List.set_cons_zero, List.set_cons_succ]
              refine rg_eff 1 rfl (by kernel_rfl) (by rfl) (fun K hK => ?_)
              go_simp
              refine (HW.out _).mono ?_
              rintro e w1 ⟨rfl, h1⟩
              refine hK _ _ (hS.call h1) (fun hS => ?_)
              clear hK K
              replace hb := bthen hb h1
              clear h1
              try simp only [Act.put, List.setIfInBounds_toArray, List.set_cons_zero, List.set_cons_succ]
              refine rg_eff 2 rfl (by kernel_rfl) (by rfl) (fun K hK => ?_)
              go_simp
              refine (HC1.out _).mono ?_
              rintro e w1 ⟨rfl, h1⟩
              refine hK _ _ (hS.call h1) (fun hS => ?_)
              clear hK K
              replace hb := bthen hb h1
              clear h1
              try simp only [Act.put, List.setIfInBounds_toArray, List.set_cons_zero, List.set_cons_succ]
              refine rg_take 3 rfl (by kernel_rfl) (by kernel_rfl) (by kernel_rfl) (by rfl) hS (v := ?_) ?_ ?_
              rotate_left
              · (intro w' hS'; go_simp <;> try with_reducible rfl)
              try simp only [Act.put, List.setIfInBounds_toArray, List.set_cons_zero, List.set_cons_succ]
              refine rg_take 4 rfl (by kernel_rfl) (by kernel_rfl) (by kernel_rfl) (by rfl) hS (v := ?_) ?_ ?_
              rotate_left
              · (intro w' hS'; go_simp <;> try with_reducible rfl)
              try simp only [Act.put, List.setIfInBounds_toArray, List.set_cons_zero, List.set_cons_succ]
              refine rg_take 5 rfl (by kernel_rfl) (by kernel_rfl) (by kernel_rfl) (by rfl) hS (v := ?_) ?_ ?_
              rotate_left
              · (intro w' hS'; go_simp <;> try with_reducible rfl)
              try simp only [Act.put, List.setIfInBounds_toArray, List.set_cons_zero, List.set_cons_succ]
              refine rg_take 6 rfl (by kernel_rfl) (by kernel_rfl) (by kernel_rfl) (by rfl) hS (v := ?_) ?_ ?_
              rotate_left
              · (intro w' hS'; go_simp <;> try with_reducible rfl)
              try simp only [Act.put, List.setIfInBounds_toArray, List.set_cons_zero, List.set_cons_succ]
              refine rg_take 7 rfl (by kernel_rfl) (by kernel_rfl) (by kernel_rfl) (by rfl) hS (v := ?_) ?_ ?_
              rotate_left
              · (intro w' hS'; go_simp <;> try with_reducible rfl)
              try simp only [Act.put, List.setIfInBounds_toArray, List.set_cons_zero, List.set_cons_succ]
              refine rg_done (by kernel_rfl) ?_
              replace b3 := b3.keep hS (by simp)
              replace b4 := b4.keep hS (by simp)
              replace b5 := b5.keep hS (by simp)
              replace b11 := b11.keep hS (by simp)
              clear hS b13
              go_wp2
              go_roundw
              case rel => exact ⟨b3, b4, b5, b11, hb, by simp <;> assumption⟩
              case measure => simp [intOf]
          · skip
            obtain ⟨rfl, rfl⟩ : n2 = n1 ∧ l2 = false := ⟨HE1.out.1.trans (by simp), HE1.out.2.trans (by simp [hd])⟩
            go_wp2_with fail
            have hsz := hb.size
            try simp only [Act.put, List.setIfInBounds_toArray, List.set_cons_zero, List.set_cons_succ]
            go_cut [13, 14, 15] (fun p v0 v1 wx => ∃ q, p = .pointer (some ⟨q, 0, none⟩) ∧ v0 = .bool true ∧ v1 = .bool true ∧ Below w.heap.size w wx ∧ Blk wx q (fq q1) 27 ∧ Blk wx w.heap.size (fq ax ++ fq ay) 29 ∧ Blk wx (w.heap.size + 1) (fq bx ++ fq by') 29 ∧ Blk wx (w.heap.size + 1 + 1) (fq cx ++ fq cy) 29 ∧ Blk wx pl_b11 ((c3c (fq ax ++ fq ay) (fq bx ++ fq by') (fq cx ++ fq cy))) 33)
            case first =>
              refine rg_start [] (by kernel_rfl) (fun hS => ?_)
              replace hb := hb.drew
              refine rg_take 0 rfl (by kernel_rfl) (by kernel_rfl) (by kernel_rfl) (by rfl) hS (v := ?_) ?_ ?_
              rotate_left
              · (intro w' hS'; go_simp <;> try with_reducible rfl)
              try simp only [Act.put, List.setIfInBounds_toArray, List.set_cons_zero, List.set_cons_succ]
              refine rg_take 1 rfl (by kernel_rfl) (by kernel_rfl) (by kernel_rfl) (by rfl) hS (v := ?_) ?_ ?_
              rotate_left
              · (intro w' hS'; go_simp <;> try with_reducible rfl)
              try simp only [Act.put, List.setIfInBounds_toArray, List.set_cons_zero, List.set_cons_succ]
              refine rg_ldP 2 rfl (by kernel_rfl) (by kernel_rfl) (by kernel_rfl) (by rfl) hS rfl rfl b11 (by simp <;> omega) PA1 (pc_q _ _).whole ?_
              try simp only [Act.put, List.setIfInBounds_toArray, List.set_cons_zero, List.set_cons_succ]
              refine rg_take 3 rfl (by kernel_rfl) (by kernel_rfl) (by kernel_rfl) (by rfl) hS (v := ?_) ?_ ?_
              rotate_left
              · (intro w' hS'; go_simp <;> try with_reducible rfl)
              try simp only [Act.put, List.setIfInBounds_toArray, List.set_cons_zero, List.set_cons_succ]
              refine rg_take 4 rfl (by kernel_rfl) (by kernel_rfl) (by kernel_rfl) (by rfl) hS (v := ?_) ?_ ?_
              rotate_left
              · (intro w' hS'; go_simp <;> try with_reducible rfl)
              try simp only [Act.put, List.setIfInBounds_toArray, List.set_cons_zero, List.set_cons_succ]
              refine rg_take 5 rfl (by kernel_rfl) (by kernel_rfl) (by kernel_rfl) (by rfl) hS (v := .int .i64 2) (fun w' _ => (by go_simp <;> rfl)) ?_
              try simp only [Act.put, List.setIfInBounds_toArray, List.set_cons_zero, List.set_cons_succ]
              refine rg_take 6 rfl (by kernel_rfl) (by kernel_rfl) (by kernel_rfl) (by rfl) hS (v := ?_) ?_ ?_
              rotate_left
              · (intro w' hS'; go_simp <;> try with_reducible rfl)
              try simp only [Act.put, List.setIfInBounds_toArray, List.set_cons_zero, List.set_cons_succ]
              refine rg_ldP 7 rfl (by kernel_rfl) (by kernel_rfl) (by kernel_rfl) (by rfl) hS rfl rfl b11 (by simp <;> omega) PA2 (pc_q _ _).whole ?_
              try simp only [Act.put, List.setIfInBounds_toArray, List.set_cons_zero, List.set_cons_succ]
              refine rg_take 8 rfl (by kernel_rfl) (by kernel_rfl) (by kernel_rfl) (by rfl) hS (v := ?_) ?_ ?_
              rotate_left
              · (intro w' hS'; go_simp <;> try with_reducible rfl)
              try simp only [Act.put, List.setIfInBounds_toArray, List.set_cons_zero, List.set_cons_succ]
              refine rg_take 9 rfl (by kernel_rfl) (by kernel_rfl) (by kernel_rfl) (by rfl) hS (v := ?_) ?_ ?_
              rotate_left
              · (intro w' hS'; go_simp <;> try with_reducible rfl)
              try simp only [Act.put, List.setIfInBounds_toArray, List.set_cons_zero, List.set_cons_succ]
              refine rg_take 10 rfl (by kernel_rfl) (by kernel_rfl) (by kernel_rfl) (by rfl) hS (v := .int .i64 0) (fun w' _ => (by go_simp <;> rfl)) ?_
              try simp only [Act.put, List.setIfInBounds_toArray, List.set_cons_zero, List.set_cons_succ]
              refine rg_take 11 rfl (by kernel_rfl) (by kernel_rfl) (by kernel_rfl) (by rfl) hS (v := ?_) ?_ ?_
              rotate_left
              · (intro w' hS'; go_simp <;> try with_reducible rfl)
              try simp only [Act.put, List.setIfInBounds_toArray, List.set_cons_zero, List.set_cons_succ]
              refine rg_ldP 12 rfl (by kernel_rfl) (by kernel_rfl) (by kernel_rfl) (by rfl) hS rfl rfl b11 (by simp <;> omega) PA0 (pc_q _ _).whole ?_
              try simp only [Act.put, List.setIfInBounds_toArray, List.set_cons_zero, List.set_cons_succ]
              refine rg_two 13 18 rfl rfl (by kernel_rfl) (by rfl) (by rfl) (fun K hK => ?_) (fun K hK => ?_)
              · go_simp
                refine (HS1.out _).mono ?_
                rintro e w1 ⟨rfl, h1⟩
                refine hK _ _ (hS.call h1) (fun hS => ?_)
                clear hK K
                try replace an := an.call h1
                replace hb := bthen hb h1
                clear h1
                try simp only [Act.put, List.setIfInBounds_toArray, List.set_cons_zero, List.set_cons_succ]
                refine rg_take 14 rfl (by kernel_rfl) (by kernel_rfl) (by kernel_rfl) (by rfl) hS (v := ?_) ?_ ?_
                rotate_left
                · (intro w' hS'; go_simp <;> try with_reducible rfl)
                try simp only [Act.put, List.setIfInBounds_toArray, List.set_cons_zero, List.set_cons_succ]
                refine rg_take 15 rfl (by kernel_rfl) (by kernel_rfl) (by kernel_rfl) (by rfl) hS (v := ?_) ?_ ?_
                rotate_left
                · (intro w' hS'; go_simp <;> try with_reducible rfl)
                try simp only [Act.put, List.setIfInBounds_toArray, List.set_cons_zero, List.set_cons_succ]
                refine rg_take 16 rfl (by kernel_rfl) (by kernel_rfl) (by kernel_rfl) (by rfl) hS (v := ?_) ?_ ?_
                rotate_left
                · (intro w' hS'; go_simp <;> try with_reducible rfl)
                try simp only [Act.put, List.setIfInBounds_toArray, List.set_cons_zero, List.set_cons_succ]
                refine rg_take 17 rfl (by kernel_rfl) (by kernel_rfl) (by kernel_rfl) (by rfl) hS (v := ?_) ?_ ?_
                rotate_left
                · (intro w' hS'; go_simp <;> try with_reducible rfl)
                try simp only [Act.put, List.setIfInBounds_toArray, List.set_cons_zero, List.set_cons_succ]
                refine rg_eff 18 rfl (by kernel_rfl) (by rfl) (fun K hK => ?_)
                refine wp_alB (zs := rr false 0 false 0) rfl (by kernel_rfl) (fun pn qn an => ?_)
                replace qn := Nat.le_trans hS.1 qn
                refine hK _ _ (hS.alloc _) (fun hS => ?_)
                clear hK K
                replace hb := hb.alloc hb.size (.cells (rr false 0 false 0).toArray 27)
                try simp only [Act.put, List.setIfInBounds_toArray, List.set_cons_zero, List.set_cons_succ]
                refine rg_eff 19 rfl (by kernel_rfl) (by rfl) (fun K hK => ?_)
                refine wp_st (vs := fq q1) rfl rfl rfl an ((rr_length _ _ _ _).trans (rc_q q1).len.symm) (rc_q q1).whole (rc_q q1).one ?_
                refine hK _ _ (hS.row (.inr qn) _) (fun hS => ?_)
                clear hK K
                replace an := an.row (fq q1)
                replace hb := below_row hb (g := pn) (by omega) (fq q1).toArray
                try simp only [Act.put, List.setIfInBounds_toArray, List.set_cons_zero, List.set_cons_succ]
                refine rg_take 20 rfl (by kernel_rfl) (by kernel_rfl) (by kernel_rfl) (by rfl) hS (v := ?_) ?_ ?_
                rotate_left
                · (intro w' hS'; go_simp <;> try with_reducible rfl)
                try simp only [Act.put, List.setIfInBounds_toArray, List.set_cons_zero, List.set_cons_succ]
                refine rg_take 21 rfl (by kernel_rfl) (by kernel_rfl) (by kernel_rfl) (by rfl) hS (v := ?_) ?_ ?_
                rotate_left
                · (intro w' hS'; go_simp <;> try with_reducible rfl)
                try simp only [Act.put, List.setIfInBounds_toArray, List.set_cons_zero, List.set_cons_succ]
                refine rg_done (by kernel_rfl) ?_
                go_wp2_with fail
                go_meet
                case rel => exact ⟨pn, rfl, rfl, rfl, hb, an, b3.keep hS (by simp), b4.keep hS (by simp), b5.keep hS (by simp), b11.keep hS (by simp)⟩
              · refine wp_alB (zs := rr false 0 false 0) rfl (by kernel_rfl) (fun pn qn an => ?_)
                replace qn := Nat.le_trans hS.1 qn
                refine hK _ _ (hS.alloc _) (fun hS => ?_)
                clear hK K
                replace hb := hb.alloc hb.size (.cells (rr false 0 false 0).toArray 27)
                try simp only [Act.put, List.setIfInBounds_toArray, List.set_cons_zero, List.set_cons_succ]
                refine rg_eff 13 rfl (by kernel_rfl) (by rfl) (fun K hK => ?_)
                go_simp
                refine (HS1.out _).mono ?_
                rintro e w1 ⟨rfl, h1⟩
                refine hK _ _ (hS.call h1) (fun hS => ?_)
                clear hK K
                try replace an := an.call h1
                replace hb := bthen hb h1
                clear h1
                try simp only [Act.put, List.setIfInBounds_toArray, List.set_cons_zero, List.set_cons_succ]
                refine rg_take 14 rfl (by kernel_rfl) (by kernel_rfl) (by kernel_rfl) (by rfl) hS (v := ?_) ?_ ?_
                rotate_left
                · (intro w' hS'; go_simp <;> try with_reducible rfl)
                try simp only [Act.put, List.setIfInBounds_toArray, List.set_cons_zero, List.set_cons_succ]
                refine rg_take 15 rfl (by kernel_rfl) (by kernel_rfl) (by kernel_rfl) (by rfl) hS (v := ?_) ?_ ?_
                rotate_left
                · (intro w' hS'; go_simp <;> try with_reducible rfl)
                try simp only [Act.put, List.setIfInBounds_toArray, List.set_cons_zero, List.set_cons_succ]
                refine rg_take 16 rfl (by kernel_rfl) (by kernel_rfl) (by kernel_rfl) (by rfl) hS (v := ?_) ?_ ?_
                rotate_left
                · (intro w' hS'; go_simp <;> try with_reducible rfl)
                try simp only [Act.put, List.setIfInBounds_toArray, List.set_cons_zero, List.set_cons_succ]
                refine rg_take 17 rfl (by kernel_rfl) (by kernel_rfl) (by kernel_rfl) (by rfl) hS (v := ?_) ?_ ?_
                rotate_left
                · (intro w' hS'; go_simp <;> try with_reducible rfl)
                try simp only [Act.put, List.setIfInBounds_toArray, List.set_cons_zero, List.set_cons_succ]
                refine rg_eff 19 rfl (by kernel_rfl) (by rfl) (fun K hK => ?_)
                refine wp_st (vs := fq q1) rfl rfl rfl an ((rr_length _ _ _ _).trans (rc_q q1).len.symm) (rc_q q1).whole (rc_q q1).one ?_
                refine hK _ _ (hS.row (.inr qn) _) (fun hS => ?_)
                clear hK K
                replace an := an.row (fq q1)
                replace hb := below_row hb (g := pn) (by omega) (fq q1).toArray
                try simp only [Act.put, List.setIfInBounds_toArray, List.set_cons_zero, List.set_cons_succ]
                refine rg_take 20 rfl (by kernel_rfl) (by kernel_rfl) (by kernel_rfl) (by rfl) hS (v := ?_) ?_ ?_
                rotate_left
                · (intro w' hS'; go_simp <;> try with_reducible rfl)
                try simp only [Act.put, List.setIfInBounds_toArray, List.set_cons_zero, List.set_cons_succ]
                refine rg_take 21 rfl (by kernel_rfl) (by kernel_rfl) (by kernel_rfl) (by rfl) hS (v := ?_) ?_ ?_
                rotate_left
                · (intro w' hS'; go_simp <;> try with_reducible rfl)
                try simp only [Act.put, List.setIfInBounds_toArray, List.set_cons_zero, List.set_cons_succ]
                refine rg_done (by kernel_rfl) ?_
                go_wp2_with fail
                go_meet
                case rel => exact ⟨pn, rfl, rfl, rfl, hb, an, b3.keep hS (by simp), b4.keep hS (by simp), b5.keep hS (by simp), b11.keep hS (by simp)⟩
            case rest =>
              clear hb hsz b3 b4 b5 b11
              obtain ⟨pl_b13, rfl, rfl, rfl, hb, b13, b3, b4, b5, b11⟩ := hcut
              go_wp2_with fail
              refine rg_start [] (by kernel_rfl) (fun hS => ?_)
              replace hb := hb.drew
              refine rg_ldP 0 rfl (by kernel_rfl) (by kernel_rfl) (by kernel_rfl) (by rfl) hS rfl rfl b13 (by simp <;> omega) (part_all _) (rc_q _).whole ?_
              try simp only [Act.put, List.setIfInBounds_toArray, List.set_cons_zero, List.set_cons_succ]
              refine rg_eff 1 rfl (by kernel_rfl) (by rfl) (fun K hK => ?_)
              go_simp
              refine (HW.out _).mono ?_
              rintro e w1 ⟨rfl, h1⟩
              refine hK _ _ (hS.call h1) (fun hS => ?_)
              clear hK K
              replace hb := bthen hb h1
              clear h1
              try simp only [Act.put, List.setIfInBounds_toArray, List.set_cons_zero, List.set_cons_succ]
              refine rg_eff 2 rfl (by kernel_rfl) (by rfl) (fun K hK => ?_)
              go_simp
              refine (HC1.out _).mono ?_
              rintro e w1 ⟨rfl, h1⟩
              refine hK _ _ (hS.call h1) (fun hS => ?_)
              clear hK K
              replace hb := bthen hb h1
              clear h1
              try simp only [Act.put, List.setIfInBounds_toArray, List.set_cons_zero, List.set_cons_succ]
              refine rg_take 3 rfl (by kernel_rfl) (by kernel_rfl) (by kernel_rfl) (by rfl) hS (v := ?_) ?_ ?_
              rotate_left
              · (intro w' hS'; go_simp <;> try with_reducible rfl)
              try simp only [Act.put, List.setIfInBounds_toArray, List.set_cons_zero, List.set_cons_succ]
              refine rg_take 4 rfl (by kernel_rfl) (by kernel_rfl) (by kernel_rfl) (by rfl) hS (v := ?_) ?_ ?_
              rotate_left
              · (intro w' hS'; go_simp <;> try with_reducible rfl)
              try simp only [Act.put, List.setIfInBounds_toArray, List.set_cons_zero, List.set_cons_succ]
              refine rg_take 5 rfl (by kernel_rfl) (by kernel_rfl) (by kernel_rfl) (by rfl) hS (v := ?_) ?_ ?_
              rotate_left
              · (intro w' hS'; go_simp <;> try with_reducible rfl)
              try simp only [Act.put, List.setIfInBounds_toArray, List.set_cons_zero, List.set_cons_succ]
              refine rg_take 6 rfl (by kernel_rfl) (by kernel_rfl) (by kernel_rfl) (by rfl) hS (v := ?_) ?_ ?_
              rotate_left
              · (intro w' hS'; go_simp <;> try with_reducible rfl)
              try simp only [Act.put, List.setIfInBounds_toArray, List.set_cons_zero, List.set_cons_succ]
              refine rg_take 7 rfl (by kernel_rfl) (by kernel_rfl) (by kernel_rfl) (by rfl) hS (v := ?_) ?_ ?_
              rotate_left
              · (intro w' hS'; go_simp <;> try with_reducible rfl)
              try simp only [Act.put, List.setIfInBounds_toArray, List.set_cons_zero, List.set_cons_succ]
              refine rg_done (by kernel_rfl) ?_
              replace b3 := b3.keep hS (by simp)
              replace b4 := b4.keep hS (by simp)
              replace b5 := b5.keep hS (by simp)
              replace b11 := b11.keep hS (by simp)
              clear hS b13
              go_wp2
              go_roundw
              case rel => exact ⟨b3, b4, b5, b11, hb, by simp <;> assumption⟩
              case measure => simp [intOf]
        · skip
          obtain ⟨rfl, rfl⟩ : n2 = n1 ∧ l2 = true := ⟨HE1.out.1.trans (by simp), HE1.out.2.trans (by simp)⟩
          go_wp2_with fail
          have hsz := hb.size
          try simp only [Act.put, List.setIfInBounds_toArray, List.set_cons_zero, List.set_cons_succ]
          go_cut [13, 14, 15] (fun p v0 v1 wx => ∃ q, p = .pointer (some ⟨q, 0, none⟩) ∧ v0 = .bool true ∧ v1 = .bool true ∧ Below w.heap.size w wx ∧ Blk wx q (fq q1) 27 ∧ Blk wx w.heap.size (fq ax ++ fq ay) 29 ∧ Blk wx (w.heap.size + 1) (fq bx ++ fq by') 29 ∧ Blk wx (w.heap.size + 1 + 1) (fq cx ++ fq cy) 29 ∧ Blk wx pl_b11 ((c3c (fq ax ++ fq ay) (fq bx ++ fq by') (fq cx ++ fq cy))) 33)
          case first =>
            refine rg_start [] (by kernel_rfl) (fun hS => ?_)
            replace hb := hb.drew
            refine rg_take 0 rfl (by kernel_rfl) (by kernel_rfl) (by kernel_rfl) (by rfl) hS (v := ?_) ?_ ?_
            rotate_left
            · (intro w' hS'; go_simp <;> try with_reducible rfl)
            try simp only [Act.put, List.setIfInBounds_toArray, List.set_cons_zero, List.set_cons_succ]
            refine rg_take 1 rfl (by kernel_rfl) (by kernel_rfl) (by kernel_rfl) (by rfl) hS (v := ?_) ?_ ?_
            rotate_left
            · (intro w' hS'; go_simp <;> try with_reducible rfl)
            try simp only [Act.put, List.setIfInBounds_toArray, List.set_cons_zero, List.set_cons_succ]
            refine rg_ldP 2 rfl (by kernel_rfl) (by kernel_rfl) (by kernel_rfl) (by rfl) hS rfl rfl b11 (by simp <;> omega) PA1 (pc_q _ _).whole ?_
            try simp only [Act.put, List.setIfInBounds_toArray, List.set_cons_zero, List.set_cons_succ]
            refine rg_take 3 rfl (by kernel_rfl) (by kernel_rfl) (by kernel_rfl) (by rfl) hS (v := ?_) ?_ ?_
            rotate_left
            · (intro w' hS'; go_simp <;> try with_reducible rfl)
            try simp only [Act.put, List.setIfInBounds_toArray, List.set_cons_zero, List.set_cons_succ]
            refine rg_take 4 rfl (by kernel_rfl) (by kernel_rfl) (by kernel_rfl) (by rfl) hS (v := ?_) ?_ ?_
            rotate_left
            · (intro w' hS'; go_simp <;> try with_reducible rfl)
            try simp only [Act.put, List.setIfInBounds_toArray, List.set_cons_zero, List.set_cons_succ]
            refine rg_take 5 rfl (by kernel_rfl) (by kernel_rfl) (by kernel_rfl) (by rfl) hS (v := .int .i64 2) (fun w' _ => (by go_simp <;> rfl)) ?_
            try simp only [Act.put, List.setIfInBounds_toArray, List.set_cons_zero, List.set_cons_succ]
            refine rg_take 6 rfl (by kernel_rfl) (by kernel_rfl) (by kernel_rfl) (by rfl) hS (v := ?_) ?_ ?_
            rotate_left
            · (intro w' hS'; go_simp <;> try with_reducible rfl)
            try simp only [Act.put, List.setIfInBounds_toArray, List.set_cons_zero, List.set_cons_succ]
            refine rg_ldP 7 rfl (by kernel_rfl) (by kernel_rfl) (by kernel_rfl) (by rfl) hS rfl rfl b11 (by simp <;> omega) PA2 (pc_q _ _).whole ?_
            try simp only [Act.put, List.setIfInBounds_toArray, List.set_cons_zero, List.set_cons_succ]
            refine rg_take 8 rfl (by kernel_rfl) (by kernel_rfl) (by kernel_rfl) (by rfl) hS (v := ?_) ?_ ?_
            rotate_left
            · (intro w' hS'; go_simp <;> try with_reducible rfl)
            try simp only [Act.put, List.setIfInBounds_toArray, List.set_cons_zero, List.set_cons_succ]
            refine rg_take 9 rfl (by kernel_rfl) (by kernel_rfl) (by kernel_rfl) (by rfl) hS (v := ?_) ?_ ?_
            rotate_left
            · (intro w' hS'; go_simp <;> try with_reducible rfl)
            try simp only [Act.put, List.setIfInBounds_toArray, List.set_cons_zero, List.set_cons_succ]
            refine rg_take 10 rfl (by kernel_rfl) (by kernel_rfl) (by kernel_rfl) (by rfl) hS (v := .int .i64 0) (fun w' _ => (by go_simp <;> rfl)) ?_
            try simp only [Act.put, List.setIfInBounds_toArray, List.set_cons_zero, List.set_cons_succ]
            refine rg_take 11 rfl (by kernel_rfl) (by kernel_rfl) (by kernel_rfl) (by rfl) hS (v := ?_) ?_ ?_
            rotate_left
            · (intro w' hS'; go_simp <;> try with_reducible rfl)
            try simp only [Act.put, List.setIfInBounds_toArray, List.set_cons_zero, List.set_cons_succ]
            refine rg_ldP 12 rfl (by kernel_rfl) (by kernel_rfl) (by kernel_rfl) (by rfl) hS rfl rfl b11 (by simp <;> omega) PA0 (pc_q _ _).whole ?_
            try simp only [Act.put, List.setIfInBounds_toArray, List.set_cons_zero, List.set_cons_succ]
            refine rg_two 13 18 rfl rfl (by kernel_rfl) (by rfl) (by rfl) (fun K hK => ?_) (fun K hK => ?_)
            · go_simp
              refine (HS1.out _).mono ?_
              rintro e w1 ⟨rfl, h1⟩
              refine hK _ _ (hS.call h1) (fun hS => ?_)
              clear hK K
              try replace an := an.call h1
              replace hb := bthen hb h1
              clear h1
              try simp only [Act.put, List.setIfInBounds_toArray, List.set_cons_zero, List.set_cons_succ]
              refine rg_take 14 rfl (by kernel_rfl) (by kernel_rfl) (by kernel_rfl) (by rfl) hS (v := ?_) ?_ ?_
              rotate_left
              · (intro w' hS'; go_simp <;> try with_reducible rfl)
              try simp only [Act.put, List.setIfInBounds_toArray, List.set_cons_zero, List.set_cons_succ]
              refine rg_take 15 rfl (by kernel_rfl) (by kernel_rfl) (by kernel_rfl) (by rfl) hS (v := ?_) ?_ ?_
              rotate_left
              · (intro w' hS'; go_simp <;> try with_reducible rfl)
              try simp only [Act.put, List.setIfInBounds_toArray, List.set_cons_zero, List.set_cons_succ]
              refine rg_take 16 rfl (by kernel_rfl) (by kernel_rfl) (by kernel_rfl) (by rfl) hS (v := ?_) ?_ ?_
              rotate_left
              · (intro w' hS'; go_simp <;> try with_reducible rfl)
              try simp only [Act.put, List.setIfInBounds_toArray, List.set_cons_zero, List.set_cons_succ]
              refine rg_take 17 rfl (by kernel_rfl) (by kernel_rfl) (by kernel_rfl) (by rfl) hS (v := ?_) ?_ ?_
              rotate_left
              · (intro w' hS'; go_simp <;> try with_reducible rfl)
              try simp only [Act.put, List.setIfInBounds_toArray, List.set_cons_zero, List.set_cons_succ]
              refine rg_eff 18 rfl (by kernel_rfl) (by rfl) (fun K hK => ?_)
              refine wp_alB (zs := rr false 0 false 0) rfl (by kernel_rfl) (fun pn qn an => ?_)
              replace qn := Nat.le_trans hS.1 qn
              refine hK _ _ (hS.alloc _) (fun hS => ?_)
              clear hK K
              replace hb := hb.alloc hb.size (.cells (rr false 0 false 0).toArray 27)
              try simp only [Act.put, List.setIfInBounds_toArray, List.set_cons_zero, List.set_cons_succ]
              refine rg_eff 19 rfl (by kernel_rfl) (by rfl) (fun K hK => ?_)
              refine wp_st (vs := fq q1) rfl rfl rfl an ((rr_length _ _ _ _).trans (rc_q q1).len.symm) (rc_q q1).whole (rc_q q1).one ?_
              refine hK _ _ (hS.row (.inr qn) _) (fun hS => ?_)
              clear hK K
              replace an := an.row (fq q1)
              replace hb := below_row hb (g := pn) (by omega) (fq q1).toArray
              try simp only [Act.put, List.setIfInBounds_toArray, List.set_cons_zero, List.set_cons_succ]
              refine rg_take 20 rfl (by kernel_rfl) (by kernel_rfl) (by kernel_rfl) (by rfl) hS (v := ?_) ?_ ?_
              rotate_left
              · (intro w' hS'; go_simp <;> try with_reducible rfl)
              try simp only [Act.put, List.setIfInBounds_toArray, List.set_cons_zero, List.set_cons_succ]
              refine rg_take 21 rfl (by kernel_rfl) (by kernel_rfl) (by kernel_rfl) (by rfl) hS (v := ?_) ?_ ?_
              rotate_left
              · (intro w' hS'; go_simp <;> try with_reducible rfl)
              try simp only [Act.put, List.setIfInBounds_toArray, List.set_cons_zero, List.set_cons_succ]
              refine rg_done (by kernel_rfl) ?_
              go_wp2_with fail
              go_meet
              case rel => exact ⟨pn, rfl, rfl, rfl, hb, an, b3.keep hS (by simp), b4.keep hS (by simp), b5.keep hS (by simp), b11.keep hS (by simp)⟩
            · refine wp_alB (zs := rr false 0 false 0) rfl (by kernel_rfl) (fun pn qn an => ?_)
              replace qn := Nat.le_trans hS.1 qn
              refine hK _ _ (hS.alloc _) (fun hS => ?_)
              clear hK K
              replace hb := hb.alloc hb.size (.cells (rr false 0 false 0).toArray 27)
              try simp only [Act.put, List.setIfInBounds_toArray, List.set_cons_zero, List.set_cons_succ]
              refine rg_eff 13 rfl (by kernel_rfl) (by rfl) (fun K hK => ?_)
              go_simp
              refine (HS1.out _).mono ?_
              rintro e w1 ⟨rfl, h1⟩
              refine hK _ _ (hS.call h1) (fun hS => ?_)
              clear hK K
              try replace an := an.call h1
              replace hb := bthen hb h1
              clear h1
              try simp only [Act.put, List.setIfInBounds_toArray, List.set_cons_zero, List.set_cons_succ]
              refine rg_take 14 rfl (by kernel_rfl) (by kernel_rfl) (by kernel_rfl) (by rfl) hS (v := ?_) ?_ ?_
              rotate_left
              · (intro w' hS'; go_simp <;> try with_reducible rfl)
              try simp only [Act.put, List.setIfInBounds_toArray, List.set_cons_zero, List.set_cons_succ]
              refine rg_take 15 rfl (by kernel_rfl) (by kernel_rfl) (by kernel_rfl) (by rfl) hS (v := ?_) ?_ ?_
              rotate_left
              · (intro w' hS'; go_simp <;> try with_reducible rfl)
              try simp only [Act.put, List.setIfInBounds_toArray, List.set_cons_zero, List.set_cons_succ]
              refine rg_take 16 rfl (by kernel_rfl) (by kernel_rfl) (by kernel_rfl) (by rfl) hS (v := ?_) ?_ ?_
              rotate_left
              · (intro w' hS'; go_simp <;> try with_reducible rfl)
              try simp only [Act.put, List.setIfInBounds_toArray, List.set_cons_zero, List.set_cons_succ]
              refine rg_take 17 rfl (by kernel_rfl) (by kernel_rfl) (by kernel_rfl) (by rfl) hS (v := ?_) ?_ ?_
              rotate_left
              · (intro w' hS'; go_simp <;> try with_reducible rfl)
              try simp only [Act.put, List.setIfInBounds_toArray, List.set_cons_zero, List.set_cons_succ]
              refine rg_eff 19 rfl (by kernel_rfl) (by rfl) (fun K hK => ?_)
              refine wp_st (vs := fq q1) rfl rfl rfl an ((rr_length _ _ _ _).trans (rc_q q1).len.symm) (rc_q q1).whole (rc_q q1).one ?_
              refine hK _ _ (hS.row (.inr qn) _) (fun hS => ?_)
              clear hK K
              replace an := an.row (fq q1)
              replace hb := below_row hb (g := pn) (by omega) (fq q1).toArray
              try simp only [Act.put, List.setIfInBounds_toArray, List.set_cons_zero, List.set_cons_succ]
              refine rg_take 20 rfl (by kernel_rfl) (by kernel_rfl) (by kernel_rfl) (by rfl) hS (v := ?_) ?_ ?_
              rotate_left
              · (intro w' hS'; go_simp <;> try with_reducible rfl)
              try simp only [Act.put, List.setIfInBounds_toArray, List.set_cons_zero, List.set_cons_succ]
              refine rg_take 21 rfl (by kernel_rfl) (by kernel_rfl) (by kernel_rfl) (by rfl) hS (v := ?_) ?_ ?_
              rotate_left
              · (intro w' hS'; go_simp <;> try with_reducible rfl)
              try simp only [Act.put, List.setIfInBounds_toArray, List.set_cons_zero, List.set_cons_succ]
              refine rg_done (by kernel_rfl) ?_
              go_wp2_with fail
              go_meet
              case rel => exact ⟨pn, rfl, rfl, rfl, hb, an, b3.keep hS (by simp), b4.keep hS (by simp), b5.keep hS (by simp), b11.keep hS (by simp)⟩
          case rest =>
            clear hb hsz b3 b4 b5 b11
            obtain ⟨pl_b13, rfl, rfl, rfl, hb, b13, b3, b4, b5, b11⟩ := hcut
            go_wp2_with fail
            refine rg_start [] (by kernel_rfl) (fun hS => ?_)
            replace hb := hb.drew
            refine rg_ldP 0 rfl (by kernel_rfl) (by kernel_rfl) (by kernel_rfl) (by rfl) hS rfl rfl b13 (by simp <;> omega) (part_all _) (rc_q _).whole ?_
            try simp only [Act.put, List.setIfInBounds_toArray, List.set_cons_zero, List.set_cons_succ]
            refine rg_eff 1 rfl (by kernel_rfl) (by rfl) (fun K hK => ?_)
            go_simp
            refine (HW.out _).mono ?_
            rintro e w1 ⟨rfl, h1⟩
            refine hK _ _ (hS.call h1) (fun hS => ?_)
            clear hK K
            replace hb := bthen hb h1
            clear h1
            try simp only [Act.put, List.setIfInBounds_toArray, List.set_cons_zero, List.set_cons_succ]
            refine rg_eff 2 rfl (by kernel_rfl) (by rfl) (fun K hK => ?_)
            go_simp
            refine (HC1.out _).mono ?_
            rintro e w1 ⟨rfl, h1⟩
            refine hK _ _ (hS.call h1) (fun hS => ?_)
            clear hK K
            replace hb := bthen hb h1
            clear h1
            try simp only [Act.put, List.setIfInBounds_toArray, List.set_cons_zero, List.set_cons_succ]
            refine rg_take 3 rfl (by kernel_rfl) (by kernel_rfl) (by kernel_rfl) (by rfl) hS (v := ?_) ?_ ?_
            rotate_left
            · (intro w' hS'; go_simp <;> try with_reducible rfl)
            try simp only [Act.put, List.setIfInBounds_toArray, List.set_cons_zero, List.set_cons_succ]
            refine rg_take 4 rfl (by kernel_rfl) (by kernel_rfl) (by kernel_rfl) (by rfl) hS (v := ?_) ?_ ?_
            rotate_left
            · (intro w' hS'; go_simp <;> try with_reducible rfl)
            try simp only [Act.put, List.setIfInBounds_toArray, List.set_cons_zero, List.set_cons_succ]
            refine rg_take 5 rfl (by kernel_rfl) (by kernel_rfl) (by kernel_rfl) (by rfl) hS (v := ?_) ?_ ?_
            rotate_left
            · (intro w' hS'; go_simp <;> try with_reducible rfl)
            try simp only [Act.put, List.setIfInBounds_toArray, List.set_cons_zero, List.set_cons_succ]
            refine rg_take 6 rfl (by kernel_rfl) (by kernel_rfl) (by kernel_rfl) (by rfl) hS (v := ?_) ?_ ?_
            rotate_left
            · (intro w' hS'; go_simp <;> try with_reducible rfl)
            try simp only [Act.put, List.setIfInBounds_toArray, List.set_cons_zero, List.set_cons_succ]
            refine rg_take 7 rfl (by kernel_rfl) (by kernel_rfl) (by kernel_rfl) (by rfl) hS (v := ?_) ?_ ?_
            rotate_left
            · (intro w' hS'; go_simp <;> try with_reducible rfl)
            try simp only [Act.put, List.setIfInBounds_toArray, List.set_cons_zero, List.set_cons_succ]
            refine rg_done (by kernel_rfl) ?_
            replace b3 := b3.keep hS (by simp)
            replace b4 := b4.keep hS (by simp)
            replace b5 := b5.keep hS (by simp)
            replace b11 := b11.keep hS (by simp)
            clear hS b13
            go_wp2
            go_roundw
            case rel => exact ⟨b3, b4, b5, b11, hb, by simp <;> assumption⟩
            case measure => simp [intOf]
    · skip
      rcases s2 with _ | _
      · skip
        obtain ⟨rfl, rfl⟩ : n3 = n2 + 1 ∧ l3 = l2 := ⟨HE2.out.1.trans (by simp), HE2.out.2.trans (by simp)⟩
        obtain ⟨r1, r2⟩ := HR2.out
        go_wp2_with fail
        have hsz := hb.size
        try simp only [Act.put, List.setIfInBounds_toArray, List.set_cons_zero, List.set_cons_succ]
        go_cut [13, 14, 15] (fun p v0 v1 wx => ∃ q, p = .pointer (some ⟨q, 0, none⟩) ∧ v0 = .bool false ∧ v1 = .bool true ∧ Below w.heap.size w wx ∧ Blk wx q (fq q2) 27 ∧ Blk wx w.heap.size (fq ax ++ fq ay) 29 ∧ Blk wx (w.heap.size + 1) (fq bx ++ fq by') 29 ∧ Blk wx (w.heap.size + 1 + 1) (fq cx ++ fq cy) 29 ∧ Blk wx pl_b11 ((c3c (fq ax ++ fq ay) (fq bx ++ fq by') (fq cx ++ fq cy))) 33)
        case first =>
          refine rg_start [] (by kernel_rfl) (fun hS => ?_)
          replace hb := hb.drew
          refine rg_take 0 rfl (by kernel_rfl) (by kernel_rfl) (by kernel_rfl) (by rfl) hS (v := ?_) ?_ ?_
          rotate_left
          · (intro w' hS'; go_simp <;> try with_reducible rfl)
          try simp only [Act.put, List.setIfInBounds_toArray, List.set_cons_zero, List.set_cons_succ]
          refine rg_take 1 rfl (by kernel_rfl) (by kernel_rfl) (by kernel_rfl) (by rfl) hS (v := ?_) ?_ ?_
          rotate_left
          · (intro w' hS'; go_simp <;> try with_reducible rfl)
          try simp only [Act.put, List.setIfInBounds_toArray, List.set_cons_zero, List.set_cons_succ]
          refine rg_ldP 2 rfl (by kernel_rfl) (by kernel_rfl) (by kernel_rfl) (by rfl) hS rfl rfl b11 (by simp <;> omega) PA2 (pc_q _ _).whole ?_
          try simp only [Act.put, List.setIfInBounds_toArray, List.set_cons_zero, List.set_cons_succ]
          refine rg_take 3 rfl (by kernel_rfl) (by kernel_rfl) (by kernel_rfl) (by rfl) hS (v := ?_) ?_ ?_
          rotate_left
          · (intro w' hS'; go_simp <;> try with_reducible rfl)
          try simp only [Act.put, List.setIfInBounds_toArray, List.set_cons_zero, List.set_cons_succ]
          refine rg_take 4 rfl (by kernel_rfl) (by kernel_rfl) (by kernel_rfl) (by rfl) hS (v := ?_) ?_ ?_
          rotate_left
          · (intro w' hS'; go_simp <;> try with_reducible rfl)
          try simp only [Act.put, List.setIfInBounds_toArray, List.set_cons_zero, List.set_cons_succ]
          refine rg_take 5 rfl (by kernel_rfl) (by kernel_rfl) (by kernel_rfl) (by rfl) hS (v := .int .i64 0) (fun w' _ => (by go_simp <;> rfl)) ?_
          try simp only [Act.put, List.setIfInBounds_toArray, List.set_cons_zero, List.set_cons_succ]
          refine rg_take 6 rfl (by kernel_rfl) (by kernel_rfl) (by kernel_rfl) (by rfl) hS (v := ?_) ?_ ?_
          rotate_left
          · (intro w' hS'; go_simp <;> try with_reducible rfl)
          try simp only [Act.put, List.setIfInBounds_toArray, List.set_cons_zero, List.set_cons_succ]
          refine rg_ldP 7 rfl (by kernel_rfl) (by kernel_rfl) (by kernel_rfl) (by rfl) hS rfl rfl b11 (by simp <;> omega) PA0 (pc_q _ _).whole ?_
          try simp only [Act.put, List.setIfInBounds_toArray, List.set_cons_zero, List.set_cons_succ]
          refine rg_take 8 rfl (by kernel_rfl) (by kernel_rfl) (by kernel_rfl) (by rfl) hS (v := ?_) ?_ ?_
          rotate_left
          · (intro w' hS'; go_simp <;> try with_reducible rfl)
          try simp only [Act.put, List.setIfInBounds_toArray, List.set_cons_zero, List.set_cons_succ]
          refine rg_take 9 rfl (by kernel_rfl) (by kernel_rfl) (by kernel_rfl) (by rfl) hS (v := ?_) ?_ ?_
          rotate_left
          · (intro w' hS'; go_simp <;> try with_reducible rfl)
          try simp only [Act.put, List.setIfInBounds_toArray, List.set_cons_zero, List.set_cons_succ]
          refine rg_take 10 rfl (by kernel_rfl) (by kernel_rfl) (by kernel_rfl) (by rfl) hS (v := .int .i64 1) (fun w' _ => (by go_simp <;> rfl)) ?_
          try simp only [Act.put, List.setIfInBounds_toArray, List.set_cons_zero, List.set_cons_succ]
          refine rg_take 11 rfl (by kernel_rfl) (by kernel_rfl) (by kernel_rfl) (by rfl) hS (v := ?_) ?_ ?_
          rotate_left
          · (intro w' hS'; go_simp <;> try with_reducible rfl)
          try simp only [Act.put, List.setIfInBounds_toArray, List.set_cons_zero, List.set_cons_succ]
          refine rg_ldP 12 rfl (by kernel_rfl) (by kernel_rfl) (by kernel_rfl) (by rfl) hS rfl rfl b11 (by simp <;> omega) PA1 (pc_q _ _).whole ?_
          try simp only [Act.put, List.setIfInBounds_toArray, List.set_cons_zero, List.set_cons_succ]
          refine rg_two 13 18 rfl rfl (by kernel_rfl) (by rfl) (by rfl) (fun K hK => ?_) (fun K hK => ?_)
          · go_simp
            refine (HS2.out _).mono ?_
            rintro e w1 ⟨rfl, h1⟩
            refine hK _ _ (hS.call h1) (fun hS => ?_)
            clear hK K
            try replace an := an.call h1
            replace hb := bthen hb h1
            clear h1
            try simp only [Act.put, List.setIfInBounds_toArray, List.set_cons_zero, List.set_cons_succ]
            refine rg_take 14 rfl (by kernel_rfl) (by kernel_rfl) (by kernel_rfl) (by rfl) hS (v := ?_) ?_ ?_
            rotate_left
            · (intro w' hS'; go_simp <;> try with_reducible rfl)
            try simp only [Act.put, List.setIfInBounds_toArray, List.set_cons_zero, List.set_cons_succ]
            refine rg_take 15 rfl (by kernel_rfl) (by kernel_rfl) (by kernel_rfl) (by rfl) hS (v := ?_) ?_ ?_
            rotate_left
            · (intro w' hS'; go_simp <;> try with_reducible rfl)
            try simp only [Act.put, List.setIfInBounds_toArray, List.set_cons_zero, List.set_cons_succ]
            refine rg_take 16 rfl (by kernel_rfl) (by kernel_rfl) (by kernel_rfl) (by rfl) hS (v := ?_) ?_ ?_
            rotate_left
            · (intro w' hS'; go_simp <;> try with_reducible rfl)
            try simp only [Act.put, List.setIfInBounds_toArray, List.set_cons_zero, List.set_cons_succ]
            refine rg_take 17 rfl (by kernel_rfl) (by kernel_rfl) (by kernel_rfl) (by rfl) hS (v := ?_) ?_ ?_
            rotate_left
            · (intro w' hS'; go_simp <;> try with_reducible rfl)
            try simp only [Act.put, List.setIfInBounds_toArray, List.set_cons_zero, List.set_cons_succ]
            refine rg_eff 18 rfl (by kernel_rfl) (by rfl) (fun K hK => ?_)
            refine wp_alB (zs := rr false 0 false 0) rfl (by kernel_rfl) (fun pn qn an => ?_)
            replace qn := Nat.le_trans hS.1 qn
            refine hK _ _ (hS.alloc _) (fun hS => ?_)
            clear hK K
            replace hb := hb.alloc hb.size (.cells (rr false 0 false 0).toArray 27)
            try simp only [Act.put, List.setIfInBounds_toArray, List.set_cons_zero, List.set_cons_succ]
            refine rg_eff 19 rfl (by kernel_rfl) (by rfl) (fun K hK => ?_)
            refine wp_st (vs := fq q2) rfl rfl rfl an ((rr_length _ _ _ _).trans (rc_q q2).len.symm) (rc_q q2).whole (rc_q q2).one ?_
            refine hK _ _ (hS.row (.inr qn) _) (fun hS => ?_)
            clear hK K
            replace an := an.row (fq q2)
            replace hb := below_row hb (g := pn) (by omega) (fq q2).toArray
            try simp only [Act.put, List.setIfInBounds_toArray, List.set_cons_zero, List.set_cons_succ]
            refine rg_take 20 rfl (by kernel_rfl) (by kernel_rfl) (by kernel_rfl) (by rfl) hS (v := ?_) ?_ ?_
            rotate_left
            · (intro w' hS'; go_simp <;> try with_reducible rfl)
            try simp only [Act.put, List.setIfInBounds_toArray, List.set_cons_zero, List.set_cons_succ]
            refine rg_take 21 rfl (by kernel_rfl) (by kernel_rfl) (by kernel_rfl) (by rfl) hS (v := ?_) ?_ ?_
            rotate_left
            · (intro w' hS'; go_simp <;> try with_reducible rfl)
            try simp only [Act.put, List.setIfInBounds_toArray, List.set_cons_zero, List.set_cons_succ]
            refine rg_done (by kernel_rfl) ?_
            go_wp2_with fail
            go_meet
            case rel => exact ⟨pn, rfl, rfl, rfl, hb, an, b3.keep hS (by simp), b4.keep hS (by simp), b5.keep hS (by simp), b11.keep hS (by simp)⟩
          · refine wp_alB (zs := rr false 0 false 0) rfl (by kernel_rfl) (fun pn qn an => ?_)
            replace qn := Nat.le_trans hS.1 qn
            refine hK _ _ (hS.alloc _) (fun hS => ?_)
            clear hK K
            replace hb := hb.alloc hb.size (.cells (rr false 0 false 0).toArray 27)
            try simp only [Act.put, List.setIfInBounds_toArray, List.set_cons_zero, List.set_cons_succ]
            refine rg_eff 13 rfl (by kernel_rfl) (by rfl) (fun K hK => ?_)
            go_simp
            refine (HS2.out _).mono ?_
            rintro e w1 ⟨rfl, h1⟩
            refine hK _ _ (hS.call h1) (fun hS => ?_)
            clear hK K
            try replace an := an.call h1
            replace hb := bthen hb h1
            clear h1
            try simp only [Act.put, List.setIfInBounds_toArray, List.set_cons_zero, List.set_cons_succ]
            refine rg_take 14 rfl (by kernel_rfl) (by kernel_rfl) (by kernel_rfl) (by rfl) hS (v := ?_) ?_ ?_
            rotate_left
            · (intro w' hS'; go_simp <;> try with_reducible rfl)
            try simp only [Act.put, List.setIfInBounds_toArray, List.set_cons_zero, List.set_cons_succ]
            refine rg_take 15 rfl (by kernel_rfl) (by kernel_rfl) (by kernel_rfl) (by rfl) hS (v := ?_) ?_ ?_
            rotate_left
            · (intro w' hS'; go_simp <;> try with_reducible rfl)
            try simp only [Act.put, List.setIfInBounds_toArray, List.set_cons_zero, List.set_cons_succ]
            refine rg_take 16 rfl (by kernel_rfl) (by kernel_rfl) (by kernel_rfl) (by rfl) hS (v := ?_) ?_ ?_
            rotate_left
            · (intro w' hS'; go_simp <;> try with_reducible rfl)
            try simp only [Act.put, List.setIfInBounds_toArray, List.set_cons_zero, List.set_cons_succ]
            refine rg_take 17 rfl (by kernel_rfl) (by kernel_rfl) (by kernel_rfl) (by rfl) hS (v := ?_) ?_ ?_
            rotate_left
            · (intro w' hS'; go_simp <;> try with_reducible rfl)
            try simp only [Act.put, List.setIfInBounds_toArray, List.set_cons_zero, List.set_cons_succ]
            refine rg_eff 19 rfl (by kernel_rfl) (by rfl) (fun K hK => ?_)
            refine wp_st (vs := fq q2) rfl rfl rfl an ((rr_length _ _ _ _).trans (rc_q q2).len.symm) (rc_q q2).whole (rc_q q2).one ?_
            refine hK _ _ (hS.row (.inr qn) _) (fun hS => ?_)
            clear hK K
            replace an := an.row (fq q2)
            replace hb := below_row hb (g := pn) (by omega) (fq q2).toArray
            try simp only [Act.put, List.setIfInBounds_toArray, List.set_cons_zero, List.set_cons_succ]
            refine rg_take 20 rfl (by kernel_rfl) (by kernel_rfl) (by kernel_rfl) (by rfl) hS (v := ?_) ?_ ?_
            rotate_left
            · (intro w' hS'; go_simp <;> try with_reducible rfl)
            try simp only [Act.put, List.setIfInBounds_toArray, List.set_cons_zero, List.set_cons_succ]
            refine rg_take 21 rfl (by kernel_rfl) (by kernel_rfl) (by kernel_rfl) (by rfl) hS (v := ?_) ?_ ?_
            rotate_left
            · (intro w' hS'; go_simp <;> try with_reducible rfl)
            try simp only [Act.put, List.setIfInBounds_toArray, List.set_cons_zero, List.set_cons_succ]
            refine rg_done (by kernel_rfl) ?_
            go_wp2_with fail
            go_meet
            case rel => exact ⟨pn, rfl, rfl, rfl, hb, an, b3.keep hS (by simp), b4.keep hS (by simp), b5.keep hS (by simp), b11.keep hS (by simp)⟩
        case rest =>
          clear hb hsz b3 b4 b5 b11
          obtain ⟨pl_b13, rfl, rfl, rfl, hb, b13, b3, b4, b5, b11⟩ := hcut
          go_wp2
          go_roundw
          case rel => exact ⟨b3, b4, b5, b11, hb, by simp <;> assumption⟩
          case measure => simp [intOf]
      · skip
        rcases l2 with _ | _
        · skip
          by_cases hd : c2 < 0
          · skip
            obtain ⟨rfl, rfl⟩ : n3 = n2 ∧ l3 = true := ⟨HE2.out.1.trans (by simp), HE2.out.2.trans (by simp [hd])⟩
            go_wp2_with fail
            have hsz := hb.size
            try simp only [Act.put, List.setIfInBounds_toArray, List.set_cons_zero, List.set_cons_succ]
            go_cut [13, 14, 15] (fun p v0 v1 wx => ∃ q, p = .pointer (some ⟨q, 0, none⟩) ∧ v0 = .bool true ∧ v1 = .bool true ∧ Below w.heap.size w wx ∧ Blk wx q (fq q2) 27 ∧ Blk wx w.heap.size (fq ax ++ fq ay) 29 ∧ Blk wx (w.heap.size + 1) (fq bx ++ fq by') 29 ∧ Blk wx (w.heap.size + 1 + 1) (fq cx ++ fq cy) 29 ∧ Blk wx pl_b11 ((c3c (fq ax ++ fq ay) (fq bx ++ fq by') (fq cx ++ fq cy))) 33)
            case first =>
              refine rg_start [] (by kernel_rfl) (fun hS => ?_)
              replace hb := hb.drew
              refine rg_take 0 rfl (by kernel_rfl) (by kernel_rfl) (by kernel_rfl) (by rfl) hS (v := ?_) ?_ ?_
              rotate_left
              · (intro w' hS'; go_simp <;> try with_reducible rfl)
              try simp only [Act.put, List.setIfInBounds_toArray, List.set_cons_zero, List.set_cons_succ]
              refine rg_take 1 rfl (by kernel_rfl) (by kernel_rfl) (by kernel_rfl) (by rfl) hS (v := ?_) ?_ ?_
              rotate_left
              · (intro w' hS'; go_simp <;> try with_reducible rfl)
              try simp only [Act.put, List.setIfInBounds_toArray, List.set_cons_zero, List.set_cons_succ]
              refine rg_ldP 2 rfl (by kernel_rfl) (by kernel_rfl) (by kernel_rfl) (by rfl) hS rfl rfl b11 (by simp <;> omega) PA2 (pc_q _ _).whole ?_
              try simp only [Act.put, List.setIfInBounds_toArray, List.set_cons_zero, List.set_cons_succ]
              refine rg_take 3 rfl (by kernel_rfl) (by kernel_rfl) (by kernel_rfl) (by rfl) hS (v := ?_) ?_ ?_
              rotate_left
              · (intro w' hS'; go_simp <;> try with_reducible rfl)
              try simp only [Act.put, List.setIfInBounds_toArray, List.set_cons_zero, List.set_cons_succ]
              refine rg_take 4 rfl (by kernel_rfl) (by kernel_rfl) (by kernel_rfl) (by rfl) hS (v := ?_) ?_ ?_
              rotate_left
              · (intro w' hS'; go_simp <;> try with_reducible rfl)
              try simp only [Act.put, List.setIfInBounds_toArray, List.set_cons_zero, List.set_cons_succ]
              refine rg_take 5 rfl (by kernel_rfl) (by kernel_rfl) (by kernel_rfl) (by rfl) hS (v := .int .i64 0) (fun w' _ => (by go_simp <;> rfl)) ?_
              try simp only [Act.put, List.setIfInBounds_toArray, List.set_cons_zero, List.set_cons_succ]
              refine rg_take 6 rfl (by kernel_rfl) (by kernel_rfl) (by kernel_rfl) (by rfl) hS (v := ?_) ?_ ?_
              rotate_left
              · (intro w' hS'; go_simp <;> try with_reducible rfl)
              try simp only [Act.put, List.setIfInBounds_toArray, List.set_cons_zero, List.set_cons_succ]
              refine rg_ldP 7 rfl (by kernel_rfl) (by kernel_rfl) (by kernel_rfl) (by rfl) hS rfl rfl b11 (by simp <;> omega) PA0 (pc_q _ _).whole ?_
              try simp only [Act.put, List.setIfInBounds_toArray, List.set_cons_zero, List.set_cons_succ]
              refine rg_take 8 rfl (by kernel_rfl) (by kernel_rfl) (by kernel_rfl) (by rfl) hS (v := ?_) ?_ ?_
              rotate_left
              · (intro w' hS'; go_simp <;> try with_reducible rfl)
              try simp only [Act.put, List.setIfInBounds_toArray, List.set_cons_zero, List.set_cons_succ]
              refine rg_take 9 rfl (by kernel_rfl) (by kernel_rfl) (by kernel_rfl) (by rfl) hS (v := ?_) ?_ ?_
              rotate_left
              · (intro w' hS'; go_simp <;> try with_reducible rfl)
              try simp only [Act.put, List.setIfInBounds_toArray, List.set_cons_zero, List.set_cons_succ]
              refine rg_take 10 rfl (by kernel_rfl) (by kernel_rfl) (by kernel_rfl) (by rfl) hS (v := .int .i64 1) (fun w' _ => (by go_simp <;> rfl)) ?_
              try simp only [Act.put, List.setIfInBounds_toArray, List.set_cons_zero, List.set_cons_succ]
              refine rg_take 11 rfl (by kernel_rfl) (by kernel_rfl) (by kernel_rfl) (by rfl) hS (v := ?_) ?_ ?_
              rotate_left
              · (intro w' hS'; go_simp <;> try with_reducible rfl)
              try simp only [Act.put, List.setIfInBounds_toArray, List.set_cons_zero, List.set_cons_succ]
              refine rg_ldP 12 rfl (by kernel_rfl) (by kernel_rfl) (by kernel_rfl) (by rfl) hS rfl rfl b11 (by simp <;> omega) PA1 (pc_q _ _).whole ?_
              try simp only [Act.put, List.setIfInBounds_toArray, List.set_cons_zero, List.set_cons_succ]
              refine rg_two 13 18 rfl rfl (by kernel_rfl) (by rfl) (by rfl) (fun K hK => ?_) (fun K hK => ?_)
              · go_simp
                refine (HS2.out _).mono ?_
                rintro e w1 ⟨rfl, h1⟩
                refine hK _ _ (hS.call h1) (fun hS => ?_)
                clear hK K
                try replace an := an.call h1
                replace hb := bthen hb h1
                clear h1
                try simp only [Act.put, List.setIfInBounds_toArray, List.set_cons_zero, List.set_cons_succ]
                refine rg_take 14 rfl (by kernel_rfl) (by kernel_rfl) (by kernel_rfl) (by rfl) hS (v := ?_) ?_ ?_
                rotate_left
                · (intro w' hS'; go_simp <;> try with_reducible rfl)
                try simp only [Act.put, List.setIfInBounds_toArray, List.set_cons_zero, List.set_cons_succ]
                refine rg_take 15 rfl (by kernel_rfl) (by kernel_rfl) (by kernel_rfl) (by rfl) hS (v := ?_) ?_ ?_
                rotate_left
                · (intro w' hS'; go_simp <;> try with_reducible rfl)
                try simp only [Act.put, List.setIfInBounds_toArray, List.set_cons_zero, List.set_cons_succ]
                refine rg_take 16 rfl (by kernel_rfl) (by kernel_rfl) (by kernel_rfl) (by rfl) hS (v := ?_) ?_ ?_
                rotate_left
                · (intro w' hS'; go_simp <;> try with_reducible rfl)
                try simp only [Act.put, List.setIfInBounds_toArray, List.set_cons_zero, List.set_cons_succ]
                refine rg_take 17 rfl (by kernel_rfl) (by kernel_rfl) (by kernel_rfl) (by rfl) hS (v := ?_) ?_ ?_
                rotate_left
                · (intro w' hS'; go_simp <;> try with_reducible rfl)
                try simp only [Act.put, List.setIfInBounds_toArray, List.set_cons_zero, List.set_cons_succ]
                refine rg_eff 18 rfl (by kernel_rfl) (by rfl) (fun K hK => ?_)
                refine wp_alB (zs := rr false 0 false 0) rfl (by kernel_rfl) (fun pn qn an => ?_)
                replace qn := Nat.le_trans hS.1 qn
                refine hK _ _ (hS.alloc _) (fun hS => ?_)
                clear hK K
                replace hb := hb.alloc hb.size (.cells (rr false 0 false 0).toArray 27)
                try simp only [Act.put, List.setIfInBounds_toArray, List.set_cons_zero, List.set_cons_succ]
                refine rg_eff 19 rfl (by kernel_rfl) (by rfl) (fun K hK => ?_)
                refine wp_st (vs := fq q2) rfl rfl rfl an ((rr_length _ _ _ _).trans (rc_q q2).len.symm) (rc_q q2).whole (rc_q q2).one ?_
                refine hK _ _ (hS.row (.inr qn) _) (fun hS => ?_)
                clear hK K
                replace an := an.row (fq q2)
                replace hb := below_row hb (g := pn) (by omega) (fq q2).toArray
                try simp only [Act.put, List.setIfInBounds_toArray, List.set_cons_zero, List.set_cons_succ]
                refine rg_take 20 rfl (by kernel_rfl) (by kernel_rfl) (by kernel_rfl) (by rfl) hS (v := ?_) ?_ ?_
                rotate_left
                · (intro w' hS'; go_simp <;> try with_reducible rfl)
                try simp only [Act.put, List.setIfInBounds_toArray, List.set_cons_zero, List.set_cons_succ]
                refine rg_take 21 rfl (by kernel_rfl) (by kernel_rfl) (by kernel_rfl) (by rfl) hS (v := ?_) ?_ ?_
                rotate_left
                · (intro w' hS'; go_simp <;> try with_reducible rfl)
                try simp only [Act.put, List.setIfInBounds_toArray, List.set_cons_zero, List.set_cons_succ]
                refine rg_done (by kernel_rfl) ?_
                go_wp2_with fail
                go_meet
                case rel => exact ⟨pn, rfl, rfl, rfl, hb, an, b3.keep hS (by simp), b4.keep hS (by simp), b5.keep hS (by simp), b11.keep hS (by simp)⟩
              · refine wp_alB (zs := rr false 0 false 0) rfl (by kernel_rfl) (fun pn qn an => ?_)
                replace qn := Nat.le_trans hS.1 qn
                refine hK _ _ (hS.alloc _) (fun hS => ?_)
                clear hK K
                replace hb := hb.alloc hb.size (.cells (rr false 0 false 0).toArray 27)
                try simp only [Act.put, List.setIfInBounds_toArray, List.set_cons_zero, List.set_cons_succ]
                refine rg_eff 13 rfl (by kernel_rfl) (by rfl) (fun K hK => ?_)
                go_simp
                refine (HS2.out _).mono ?_
                rintro e w1 ⟨rfl, h1⟩
                refine hK _ _ (hS.call h1) (fun hS => ?_)
                clear hK K
                try replace an := an.call h1
                replace hb := bthen hb h1
                clear h1
                try simp only [Act.put, List.setIfInBounds_toArray, List.set_cons_zero, List.set_cons_succ]
                refine rg_take 14 rfl (by kernel_rfl) (by kernel_rfl) (by kernel_rfl) (by rfl) hS (v := ?_) ?_ ?_
                rotate_left
                · (intro w' hS'; go_simp <;> try with_reducible rfl)
                try simp only [Act.put, List.setIfInBounds_toArray, List.set_cons_zero, List.set_cons_succ]
                refine rg_take 15 rfl (by kernel_rfl) (by kernel_rfl) (by kernel_rfl) (by rfl) hS (v := ?_) ?_ ?_
                rotate_left
                · (intro w' hS'; go_simp <;> try with_reducible rfl)
                try simp only [Act.put, List.setIfInBounds_toArray, List.set_cons_zero, List.set_cons_succ]
                refine rg_take 16 rfl (by kernel_rfl) (by kernel_rfl) (by kernel_rfl) (by rfl) hS (v := ?_) ?_ ?_
                rotate_left
                · (intro w' hS'; go_simp <;> try with_reducible rfl)
                try simp only [Act.put, List.setIfInBounds_toArray, List.set_cons_zero, List.set_cons_succ]
                refine rg_take 17 rfl (by kernel_rfl) (by kernel_rfl) (by kernel_rfl) (by rfl) hS (v := ?_) ?_ ?_
                rotate_left
                · (intro w' hS'; go_simp <;> try with_reducible rfl)
                try simp only [Act.put, List.setIfInBounds_toArray, List.set_cons_zero, List.set_cons_succ]
                refine rg_eff 19 rfl (by kernel_rfl) (by rfl) (fun K hK => ?_)
                refine wp_st (vs := fq q2) rfl rfl rfl an ((rr_length _ _ _ _).trans (rc_q q2).len.symm) (rc_q q2).whole (rc_q q2).one ?_
                refine hK _ _ (hS.row (.inr qn) _) (fun hS => ?_)
                clear hK K
                replace an := an.row (fq q2)
                replace hb := below_row hb (g := pn) (by omega) (fq q2).toArray
                try simp only [Act.put, List.setIfInBounds_toArray, List.set_cons_zero, List.set_cons_succ]
                refine rg_take 20 rfl (by kernel_rfl) (by kernel_rfl) (by kernel_rfl) (by rfl) hS (v := ?_) ?_ ?_
                rotate_left
                · (intro w' hS'; go_simp <;> try with_reducible rfl)
                try simp only [Act.put, List.setIfInBounds_toArray, List.set_cons_zero, List.set_cons_succ]
                refine rg_take 21 rfl (by kernel_rfl) (by kernel_rfl) (by kernel_rfl) (by rfl) hS (v := ?_) ?_ ?_
                rotate_left
                · (intro w' hS'; go_simp <;> try with_reducible rfl)
                try simp only [Act.put, List.setIfInBounds_toArray, List.set_cons_zero, List.set_cons_succ]
                refine rg_done (by kernel_rfl) ?_
                go_wp2_with fail
                go_meet
                case rel => exact ⟨pn, rfl, rfl, rfl, hb, an, b3.keep hS (by simp), b4.keep hS (by simp), b5.keep hS (by simp), b11.keep hS (by simp)⟩
            case rest =>
              clear hb hsz b3 b4 b5 b11
              obtain ⟨pl_b13, rfl, rfl, rfl, hb, b13, b3, b4, b5, b11⟩ := hcut
              go_wp2_with fail
              refine rg_start [] (by kernel_rfl) (fun hS => ?_)
              replace hb := hb.drew
              refine rg_ldP 0 rfl (by kernel_rfl) (by kernel_rfl) (by kernel_rfl) (by rfl) hS rfl rfl b13 (by simp <;> omega) (part_all _) (rc_q _).whole ?_
              try simp only [Act.put, List.setIfInBounds_toArray, List.set_cons_zero, List.set_cons_succ]
              refine rg_eff 1 rfl (by kernel_rfl) (by rfl) (fun K hK => ?_)
              go_simp
              refine (HW.out _).mono ?_
              rintro e w1 ⟨rfl, h1⟩
              refine hK _ _ (hS.call h1) (fun hS => ?_)
              clear hK K
              replace hb := bthen hb h1
              clear h1
              try simp only [Act.put, List.setIfInBounds_toArray, List.set_cons_zero, List.set_cons_succ]
              refine rg_eff 2 rfl (by kernel_rfl) (by rfl) (fun K hK => ?_)
              go_simp
              refine (HC2.out _).mono ?_
              rintro e w1 ⟨rfl, h1⟩
              refine hK _ _ (hS.call h1) (fun hS => ?_)
              clear hK K
              replace hb := bthen hb h1
              clear h1
              try simp only [Act.put, List.setIfInBounds_toArray, List.set_cons_zero, List.set_cons_succ]
              refine rg_take 3 rfl (by kernel_rfl) (by kernel_rfl) (by kernel_rfl) (by rfl) hS (v := ?_) ?_ ?_
              rotate_left
              · (intro w' hS'; go_simp <;> try with_reducible rfl)
              try simp only [Act.put, List.setIfInBounds_toArray, List.set_cons_zero, List.set_cons_succ]
              refine rg_take 4 rfl (by kernel_rfl) (by kernel_rfl) (by kernel_rfl) (by rfl) hS (v := ?_) ?_ ?_
              rotate_left
              · (intro w' hS'; go_simp <;> try with_reducible rfl)
              try simp only [Act.put, List.setIfInBounds_toArray, List.set_cons_zero, List.set_cons_succ]
              refine rg_take 5 rfl (by kernel_rfl) (by kernel_rfl) (by kernel_rfl) (by rfl) hS (v := ?_) ?_ ?_
              rotate_left
              · (intro w' hS'; go_simp <;> try with_reducible rfl)
              try simp only [Act.put, List.setIfInBounds_toArray, List.set_cons_zero, List.set_cons_succ]
              refine rg_take 6 rfl (by kernel_rfl) (by kernel_rfl) (by kernel_rfl) (by rfl) hS (v := ?_) ?_ ?_
              rotate_left
              · (intro w' hS'; go_simp <;> try with_reducible rfl)
              try simp only [Act.put, List.setIfInBounds_toArray, List.set_cons_zero, List.set_cons_succ]
              refine rg_take 7 rfl (by kernel_rfl) (by kernel_rfl) (by kernel_rfl) (by rfl) hS (v := ?_) ?_ ?_
              rotate_left
              · (intro w' hS'; go_simp <;> try with_reducible rfl)
              try simp only [Act.put, List.setIfInBounds_toArray, List.set_cons_zero, List.set_cons_succ]
              refine rg_done (by kernel_rfl) ?_
              replace b3 := b3.keep hS (by simp)
              replace b4 := b4.keep hS (by simp)
              replace b5 := b5.keep hS (by simp)
              replace b11 := b11.keep hS (by simp)
              clear hS b13
              go_wp2
              go_roundw
              case rel => exact ⟨b3, b4, b5, b11, hb, by simp <;> assumption⟩
              case measure => simp [intOf]
          · skip
            obtain ⟨rfl, rfl⟩ : n3 = n2 ∧ l3 = false := ⟨HE2.out.1.trans (by simp), HE2.out.2.trans (by simp [hd])⟩
            go_wp2_with fail
            have hsz := hb.size
            try simp only [Act.put, List.setIfInBounds_toArray, List.set_cons_zero, List.set_cons_succ]
            go_cut [13, 14, 15] (fun p v0 v1 wx => ∃ q, p = .pointer (some ⟨q, 0, none⟩) ∧ v0 = .bool true ∧ v1 = .bool true ∧ Below w.heap.size w wx ∧ Blk wx q (fq q2) 27 ∧ Blk wx w.heap.size (fq ax ++ fq ay) 29 ∧ Blk wx (w.heap.size + 1) (fq bx ++ fq by') 29 ∧ Blk wx (w.heap.size + 1 + 1) (fq cx ++ fq cy) 29 ∧ Blk wx pl_b11 ((c3c (fq ax ++ fq ay) (fq bx ++ fq by') (fq cx ++ fq cy))) 33)
            case first =>
              refine rg_start [] (by kernel_rfl) (fun hS => ?_)
              replace hb := hb.drew
              refine rg_take 0 rfl (by kernel_rfl) (by kernel_rfl) (by kernel_rfl) (by rfl) hS (v := ?_) ?_ ?_
              rotate_left
              · (intro w' hS'; go_simp <;> try with_reducible rfl)
              try simp only [Act.put, List.setIfInBounds_toArray, List.set_cons_zero, List.set_cons_succ]
              refine rg_take 1 rfl (by kernel_rfl) (by kernel_rfl) (by kernel_rfl) (by rfl) hS (v := ?_) ?_ ?_
              rotate_left
              · (intro w' hS'; go_simp <;> try with_reducible rfl)
              try simp only [Act.put, List.setIfInBounds_toArray, List.set_cons_zero, List.set_cons_succ]
              refine rg_ldP 2 rfl (by kernel_rfl) (by kernel_rfl) (by kernel_rfl) (by rfl) hS rfl rfl b11 (by simp <;> omega) PA2 (pc_q _ _).whole ?_
              try simp only [Act.put, List.setIfInBounds_toArray, List.set_cons_zero, List.set_cons_succ]
              refine rg_take 3 rfl (by kernel_rfl) (by kernel_rfl) (by kernel_rfl) (by rfl) hS (v := ?_) ?_ ?_
              rotate_left
              · (intro w' hS'; go_simp <;> try with_reducible rfl)
              try simp only [Act.put, List.setIfInBounds_toArray, List.set_cons_zero, List.set_cons_succ]
              refine rg_take 4 rfl (by kernel_rfl) (by kernel_rfl) (by kernel_rfl) (by rfl) hS (v := ?_) ?_ ?_
              rotate_left
              · (intro w' hS'; go_simp <;> try with_reducible rfl)
              try simp only [Act.put, List.setIfInBounds_toArray, List.set_cons_zero, List.set_cons_succ]
              refine rg_take 5 rfl (by kernel_rfl) (by kernel_rfl) (by kernel_rfl) (by rfl) hS (v := .int .i64 0) (fun w' _ => (by go_simp <;> rfl)) ?_
              try simp only [Act.put, List.setIfInBounds_toArray, List.set_cons_zero, List.set_cons_succ]
              refine rg_take 6 rfl (by kernel_rfl) (by kernel_rfl) (by kernel_rfl) (by rfl) hS (v := ?_) ?_ ?_
              rotate_left
              · (intro w' hS'; go_simp <;> try with_reducible rfl)
              try simp only [Act.put, List.setIfInBounds_toArray, List.set_cons_zero, List.set_cons_succ]
              refine rg_ldP 7 rfl (by kernel_rfl) (by kernel_rfl) (by kernel_rfl) (by rfl) hS rfl rfl b11 (by simp <;> omega) PA0 (pc_q _ _).whole ?_
              try simp only [Act.put, List.setIfInBounds_toArray, List.set_cons_zero, List.set_cons_succ]
              refine rg_take 8 rfl (by kernel_rfl) (by kernel_rfl) (by kernel_rfl) (by rfl) hS (v := ?_) ?_ ?_
              rotate_left
              · (intro w' hS'; go_simp <;> try with_reducible rfl)
              try simp only [Act.put, List.setIfInBounds_toArray, List.set_cons_zero, List.set_cons_succ]
              refine rg_take 9 rfl (by kernel_rfl) (by kernel_rfl) (by kernel_rfl) (by rfl) hS (v := ?_) ?_ ?_
              rotate_left
              · (intro w' hS'; go_simp <;> try with_reducible rfl)
              try simp only [Act.put, List.setIfInBounds_toArray, List.set_cons_zero, List.set_cons_succ]
              refine rg_take 10 rfl (by kernel_rfl) (by kernel_rfl) (by kernel_rfl) (by rfl) hS (v := .int .i64 1) (fun w' _ => (by go_simp <;> rfl)) ?_
              try simp only [Act.put, List.setIfInBounds_toArray, List.set_cons_zero, List.set_cons_succ]
              refine rg_take 11 rfl (by kernel_rfl) (by kernel_rfl) (by kernel_rfl) (by rfl) hS (v := ?_) ?_ ?_
              rotate_left
              · (intro w' hS'; go_simp <;> try with_reducible rfl)
              try simp only [Act.put, List.setIfInBounds_toArray, List.set_cons_zero, List.set_cons_succ]
              refine rg_ldP 12 rfl (by kernel_rfl) (by kernel_rfl) (by kernel_rfl) (by rfl) hS rfl rfl b11 (by simp <;> omega) PA1 (pc_q _ _).whole ?_
              try simp only [Act.put, List.setIfInBounds_toArray, List.set_cons_zero, List.set_cons_succ]
              refine rg_two 13 18 rfl rfl (by kernel_rfl) (by rfl) (by rfl) (fun K hK => ?_) (fun K hK => ?_)
              · go_simp
                refine (HS2.out _).mono ?_
                rintro e w1 ⟨rfl, h1⟩
                refine hK _ _ (hS.call h1) (fun hS => ?_)
                clear hK K
                try replace an := an.call h1
                replace hb := bthen hb h1
                clear h1
                try simp only [Act.put, List.setIfInBounds_toArray, List.set_cons_zero, List.set_cons_succ]
                refine rg_take 14 rfl (by kernel_rfl) (by kernel_rfl) (by kernel_rfl) (by rfl) hS (v := ?_) ?_ ?_
                rotate_left
                · (intro w' hS'; go_simp <;> try with_reducible rfl)
                try simp only [Act.put, List.setIfInBounds_toArray, List.set_cons_zero, List.set_cons_succ]
                refine rg_take 15 rfl (by kernel_rfl) (by kernel_rfl) (by kernel_rfl) (by rfl) hS (v := ?_) ?_ ?_
                rotate_left
                · (intro w' hS'; go_simp <;> try with_reducible rfl)
                try simp only [Act.put, List.setIfInBounds_toArray, List.set_cons_zero, List.set_cons_succ]
                refine rg_take 16 rfl (by kernel_rfl) (by kernel_rfl) (by kernel_rfl) (by rfl) hS (v := ?_) ?_ ?_
                rotate_left
                · (intro w' hS'; go_simp <;> try with_reducible rfl)
                try simp only [Act.put, List.setIfInBounds_toArray, List.set_cons_zero, List.set_cons_succ]
                refine rg_take 17 rfl (by kernel_rfl) (by kernel_rfl) (by kernel_rfl) (by rfl) hS (v := ?_) ?_ ?_
                rotate_left
                · (intro w' hS'; go_simp <;> try with_reducible rfl)
                try simp only [Act.put, List.setIfInBounds_toArray, List.set_cons_zero, List.set_cons_succ]
                refine rg_eff 18 rfl (by kernel_rfl) (by rfl) (fun K hK => ?_)
                refine wp_alB (zs := rr false 0 false 0) rfl (by kernel_rfl) (fun pn qn an => ?_)
                replace qn := Nat.le_trans hS.1 qn
                refine hK _ _ (hS.alloc _) (fun hS => ?_)
                clear hK K
                replace hb := hb.alloc hb.size (.cells (rr false 0 false 0).toArray 27)
                try simp only [Act.put, List.setIfInBounds_toArray, List.set_cons_zero, List.set_cons_succ]
                refine rg_eff 19 rfl (by kernel_rfl) (by rfl) (fun K hK => ?_)
                refine wp_st (vs := fq q2) rfl rfl rfl an ((rr_length _ _ _ _).trans (rc_q q2).len.symm) (rc_q q2).whole (rc_q q2).one ?_
                refine hK _ _ (hS.row (.inr qn) _) (fun hS => ?_)
                clear hK K
                replace an := an.row (fq q2)
                replace hb := below_row hb (g := pn) (by omega) (fq q2).toArray
                try simp only [Act.put, List.setIfInBounds_toArray, List.set_cons_zero, List.set_cons_succ]
                refine rg_take 20 rfl (by kernel_rfl) (by kernel_rfl) (by kernel_rfl) (by rfl) hS (v := ?_) ?_ ?_
                rotate_left
                · (intro w' hS'; go_simp <;> try with_reducible rfl)
                try simp only [Act.put, List.setIfInBounds_toArray, List.set_cons_zero, List.set_cons_succ]
                refine rg_take 21 rfl (by kernel_rfl) (by kernel_rfl) (by kernel_rfl) (by rfl) hS (v := ?_) ?_ ?_
                rotate_left
                · (intro w' hS'; go_simp <;> try with_reducible rfl)
                try simp only [Act.put, List.setIfInBounds_toArray, List.set_cons_zero, List.set_cons_succ]
                refine rg_done (by kernel_rfl) ?_
                go_wp2_with fail
                go_meet
                case rel => exact ⟨pn, rfl, rfl, rfl, hb, an, b3.keep hS (by simp), b4.keep hS (by simp), b5.keep hS (by simp), b11.keep hS (by simp)⟩
              · refine wp_alB (zs := rr false 0 false 0) rfl (by kernel_rfl) (fun pn qn an => ?_)
                replace qn := Nat.le_trans hS.1 qn
                refine hK _ _ (hS.alloc _) (fun hS => ?_)
                clear hK K
                replace hb := hb.alloc hb.size (.cells (rr false 0 false 0).toArray 27)
                try simp only [Act.put, List.setIfInBounds_toArray, List.set_cons_zero, List.set_cons_succ]
                refine rg_eff 13 rfl (by kernel_rfl) (by rfl) (fun K hK => ?_)
                go_simp
                refine (HS2.out _).mono ?_
                rintro e w1 ⟨rfl, h1⟩
                refine hK _ _ (hS.call h1) (fun hS => ?_)
                clear hK K
                try replace an := an.call h1
                replace hb := bthen hb h1
                clear h1
                try simp only [Act.put, List.setIfInBounds_toArray, List.set_cons_zero, List.set_cons_succ]
                refine rg_take 14 rfl (by kernel_rfl) (by kernel_rfl) (by kernel_rfl) (by rfl) hS (v := ?_) ?_ ?_
                rotate_left
                · (intro w' hS'; go_simp <;> try with_reducible rfl)
                try simp only [Act.put, List.setIfInBounds_toArray, List.set_cons_zero, List.set_cons_succ]
                refine rg_take 15 rfl (by kernel_rfl) (by kernel_rfl) (by kernel_rfl) (by rfl) hS (v := ?_) ?_ ?_
                rotate_left
                · (intro w' hS'; go_simp <;> try with_reducible rfl)
                try simp only [Act.put, List.setIfInBounds_toArray, List.set_cons_zero, List.set_cons_succ]
                refine rg_take 16 rfl (by kernel_rfl) (by kernel_rfl) (by kernel_rfl) (by rfl) hS (v := ?_) ?_ ?_
                rotate_left
                · (intro w' hS'; go_simp <;> try with_reducible rfl)
                try simp only [Act.put, List.setIfInBounds_toArray, List.set_cons_zero, List.set_cons_succ]
                refine rg_take 17 rfl (by kernel_rfl) (by kernel_rfl) (by kernel_rfl) (by rfl) hS (v := ?_) ?_ ?_
                rotate_left
                · (intro w' hS'; go_simp <;> try with_reducible rfl)
                try simp only [Act.put, List.setIfInBounds_toArray, List.set_cons_zero, List.set_cons_succ]
                refine rg_eff 19 rfl (by kernel_rfl) (by rfl) (fun K hK => ?_)
                refine wp_st (vs := fq q2) rfl rfl rfl an ((rr_length _ _ _ _).trans (rc_q q2).len.symm) (rc_q q2).whole (rc_q q2).one ?_
                refine hK _ _ (hS.row (.inr qn) _) (fun hS => ?_)
                clear hK K
                replace an := an.row (fq q2)
                replace hb := below_row hb (g := pn) (by omega) (fq q2).toArray
                try simp only [Act.put, List.setIfInBounds_toArray, List.set_cons_zero, List.set_cons_succ]
                refine rg_take 20 rfl (by kernel_rfl) (by kernel_rfl) (by kernel_rfl) (by rfl) hS (v := ?_) ?_ ?_
                rotate_left
                · (intro w' hS'; go_simp <;> try with_reducible rfl)
                try simp only [Act.put, List.setIfInBounds_toArray, List.set_cons_zero, List.set_cons_succ]
                refine rg_take 21 rfl (by kernel_rfl) (by kernel_rfl) (by kernel_rfl) (by rfl) hS (v := ?_) ?_ ?_
                rotate_left
                · (intro w' hS'; go_simp <;> try with_reducible rfl)
                try simp only [Act.put, List.setIfInBounds_toArray, List.set_cons_zero, List.set_cons_succ]
                refine rg_done (by kernel_rfl) ?_
                go_wp2_with fail
                go_meet
                case rel => exact ⟨pn, rfl, rfl, rfl, hb, an, b3.keep hS (by simp), b4.keep hS (by simp), b5.keep hS (by simp), b11.keep hS (by simp)⟩
            case rest =>
              clear hb hsz b3 b4 b5 b11
              obtain ⟨pl_b13, rfl, rfl, rfl, hb, b13, b3, b4, b5, b11⟩ := hcut
              go_wp2_with fail
              refine rg_start [] (by kernel_rfl) (fun hS => ?_)
              replace hb := hb.drew
              refine rg_ldP 0 rfl (by kernel_rfl) (by kernel_rfl) (by kernel_rfl) (by rfl) hS rfl rfl b13 (by simp <;> omega) (part_all _) (rc_q _).whole ?_
              try simp only [Act.put, List.setIfInBounds_toArray, List.set_cons_zero, List.set_cons_succ]
              refine rg_eff 1 rfl (by kernel_rfl) (by rfl) (fun K hK => ?_)
              go_simp
              refine (HW.out _).mono ?_
              rintro e w1 ⟨rfl, h1⟩
              refine hK _ _ (hS.call h1) (fun hS => ?_)
              clear hK K
              replace hb := bthen hb h1
              clear h1
              try simp only [Act.put, List.setIfInBounds_toArray, List.set_cons_zero, List.set_cons_succ]
              refine rg_eff 2 rfl (by kernel_rfl) (by rfl) (fun K hK => ?_)
              go_simp
              refine (HC2.out _).mono ?_
              rintro e w1 ⟨rfl, h1⟩
              refine hK _ _ (hS.call h1) (fun hS => ?_)
              clear hK K
              replace hb := bthen hb h1
              clear h1
              try simp only [Act.put, List.setIfInBounds_toArray, List.set_cons_zero, List.set_cons_succ]
              refine rg_take 3 rfl (by kernel_rfl) (by kernel_rfl) (by kernel_rfl) (by rfl) hS (v := ?_) ?_ ?_
              rotate_left
              · (intro w' hS'; go_simp <;> try with_reducible rfl)
              try simp only [Act.put, List.setIfInBounds_toArray, List.set_cons_zero, List.set_cons_succ]
              refine rg_take 4 rfl (by kernel_rfl) (by kernel_rfl) (by kernel_rfl) (by rfl) hS (v := ?_) ?_ ?_
              rotate_left
              · (intro w' hS'; go_simp <;> try with_reducible rfl)
              try simp only [Act.put, List.setIfInBounds_toArray, List.set_cons_zero, List.set_cons_succ]
              refine rg_take 5 rfl (by kernel_rfl) (by kernel_rfl) (by kernel_rfl) (by rfl) hS (v := ?_) ?_ ?_
              rotate_left
              · (intro w' hS'; go_simp <;> try with_reducible rfl)
              try simp only [Act.put, List.setIfInBounds_toArray, List.set_cons_zero, List.set_cons_succ]
              refine rg_take 6 rfl (by kernel_rfl) (by kernel_rfl) (by kernel_rfl) (by rfl) hS (v := ?_) ?_ ?_
              rotate_left
              · (intro w' hS'; go_simp <;> try with_reducible rfl)
              try simp only [Act.put, List.setIfInBounds_toArray, List.set_cons_zero, List.set_cons_succ]
              refine rg_take 7 rfl (by kernel_rfl) (by kernel_rfl) (by kernel_rfl) (by rfl) hS (v := ?_) ?_ ?_
              rotate_left
              · (intro w' hS'; go_simp <;> try with_reducible rfl)
              try simp only [Act.put, List.setIfInBounds_toArray, List.set_cons_zero, List.set_cons_succ]
              refine rg_done (by kernel_rfl) ?_
              replace b3 := b3.keep hS (by simp)
              replace b4 := b4.keep hS (by simp)
              replace b5 := b5.keep hS (by simp)
              replace b11 := b11.keep hS (by simp)
              clear hS b13
              go_wp2
              go_roundw
              case rel => exact ⟨b3, b4, b5, b11, hb, by simp <;> assumption⟩
              case measure => simp [intOf]
        · skip
          obtain ⟨rfl, rfl⟩ : n3 = n2 ∧ l3 = true := ⟨HE2.out.1.trans (by simp), HE2.out.2.trans (by simp)⟩
          go_wp2_with fail
          have hsz := hb.size
          try simp only [Act.put, List.setIfInBounds_toArray, List.set_cons_zero, List.set_cons_succ]
          go_cut [13, 14, 15] (fun p v0 v1 wx => ∃ q, p = .pointer (some ⟨q, 0, none⟩) ∧ v0 = .bool true ∧ v1 = .bool true ∧ Below w.heap.size w wx ∧ Blk wx q (fq q2) 27 ∧ Blk wx w.heap.size (fq ax ++ fq ay) 29 ∧ Blk wx (w.heap.size + 1) (fq bx ++ fq by') 29 ∧ Blk wx (w.heap.size + 1 + 1) (fq cx ++ fq cy) 29 ∧ Blk wx pl_b11 ((c3c (fq ax ++ fq ay) (fq bx ++ fq by') (fq cx ++ fq cy))) 33)
          case first =>
            refine rg_start [] (by kernel_rfl) (fun hS => ?_)
            replace hb := hb.drew
            refine rg_take 0 rfl (by kernel_rfl) (by kernel_rfl) (by kernel_rfl) (by rfl) hS (v := ?_) ?_ ?_
            rotate_left
            · (intro w' hS'; go_simp <;> try with_reducible rfl)
            try simp only [Act.put, List.setIfInBounds_toArray, List.set_cons_zero, List.set_cons_succ]
            refine rg_take 1 rfl (by kernel_rfl) (by kernel_rfl) (by kernel_rfl) (by rfl) hS (v := ?_) ?_ ?_
            rotate_left
            · (intro w' hS'; go_simp <;> try with_reducible rfl)
            try simp only [Act.put, List.setIfInBounds_toArray, List.set_cons_zero, List.set_cons_succ]
            refine rg_ldP 2 rfl (by kernel_rfl) (by kernel_rfl) (by kernel_rfl) (by rfl) hS rfl rfl b11 (by simp <;> omega) PA2 (pc_q _ _).whole ?_
            try simp only [Act.put, List.setIfInBounds_toArray, List.set_cons_zero, List.set_cons_succ]
            refine rg_take 3 rfl (by kernel_rfl) (by kernel_rfl) (by kernel_rfl) (by rfl) hS (v := ?_) ?_ ?_
            rotate_left
            · (intro w' hS'; go_simp <;> try with_reducible rfl)
            try simp only [Act.put, List.setIfInBounds_toArray, List.set_cons_zero, List.set_cons_succ]
            refine rg_take 4 rfl (by kernel_rfl) (by kernel_rfl) (by kernel_rfl) (by rfl) hS (v := ?_) ?_ ?_
            rotate_left
            · (intro w' hS'; go_simp <;> try with_reducible rfl)
            try simp only [Act.put, List.setIfInBounds_toArray, List.set_cons_zero, List.set_cons_succ]
            refine rg_take 5 rfl (by kernel_rfl) (by kernel_rfl) (by kernel_rfl) (by rfl) hS (v := .int .i64 0) (fun w' _ => (by go_simp <;> rfl)) ?_
            try simp only [Act.put, List.setIfInBounds_toArray, List.set_cons_zero, List.set_cons_succ]
            refine rg_take 6 rfl (by kernel_rfl) (by kernel_rfl) (by kernel_rfl) (by rfl) hS (v := ?_) ?_ ?_
            rotate_left
            · (intro w' hS'; go_simp <;> try with_reducible rfl)
            try simp only [Act.put, List.setIfInBounds_toArray, List.set_cons_zero, List.set_cons_succ]
            refine rg_ldP 7 rfl (by kernel_rfl) (by kernel_rfl) (by kernel_rfl) (by rfl) hS rfl rfl b11 (by simp <;> omega) PA0 (pc_q _ _).whole ?_
            try simp only [Act.put, List.setIfInBounds_toArray, List.set_cons_zero, List.set_cons_succ]
            refine rg_take 8 rfl (by kernel_rfl) (by kernel_rfl) (by kernel_rfl) (by rfl) hS (v := ?_) ?_ ?_
            rotate_left
            · (intro w' hS'; go_simp <;> try with_reducible rfl)
            try simp only [Act.put, List.setIfInBounds_toArray, List.set_cons_zero, List.set_cons_succ]
            refine rg_take 9 rfl (by kernel_rfl) (by kernel_rfl) (by kernel_rfl) (by rfl) hS (v := ?_) ?_ ?_
            rotate_left
            · (intro w' hS'; go_simp <;> try with_reducible rfl)
            try simp only [Act.put, List.setIfInBounds_toArray, List.set_cons_zero, List.set_cons_succ]
            refine rg_take 10 rfl (by kernel_rfl) (by kernel_rfl) (by kernel_rfl) (by rfl) hS (v := .int .i64 1) (fun w' _ => (by go_simp <;> rfl)) ?_
            try simp only [Act.put, List.setIfInBounds_toArray, List.set_cons_zero, List.set_cons_succ]
            refine rg_take 11 rfl (by kernel_rfl) (by kernel_rfl) (by kernel_rfl) (by rfl) hS (v := ?_) ?_ ?_
            rotate_left
            · (intro w' hS'; go_simp <;> try with_reducible rfl)
            try simp only [Act.put, List.setIfInBounds_toArray, List.set_cons_zero, List.set_cons_succ]
            refine rg_ldP 12 rfl (by kernel_rfl) (by kernel_rfl) (by kernel_rfl) (by rfl) hS rfl rfl b11 (by simp <;> omega) PA1 (pc_q _ _).whole ?_
            try simp only [Act.put, List.setIfInBounds_toArray, List.set_cons_zero, List.set_cons_succ]
            refine rg_two 13 18 rfl rfl (by kernel_rfl) (by rfl) (by rfl) (fun K hK => ?_) (fun K hK => ?_)
            · go_simp
              refine (HS2.out _).mono ?_
              rintro e w1 ⟨rfl, h1⟩
              refine hK _ _ (hS.call h1) (fun hS => ?_)
              clear hK K
              try replace an := an.call h1
              replace hb := bthen hb h1
              clear h1
              try simp only [Act.put, List.setIfInBounds_toArray, List.set_cons_zero, List.set_cons_succ]
              refine rg_take 14 rfl (by kernel_rfl) (by kernel_rfl) (by kernel_rfl) (by rfl) hS (v := ?_) ?_ ?_
              rotate_left
              · (intro w' hS'; go_simp <;> try with_reducible rfl)
              try simp only [Act.put, List.setIfInBounds_toArray, List.set_cons_zero, List.set_cons_succ]
              refine rg_take 15 rfl (by kernel_rfl) (by kernel_rfl) (by kernel_rfl) (by rfl) hS (v := ?_) ?_ ?_
              rotate_left
              · (intro w' hS'; go_simp <;> try with_reducible rfl)
              try simp only [Act.put, List.setIfInBounds_toArray, List.set_cons_zero, List.set_cons_succ]
              refine rg_take 16 rfl (by kernel_rfl) (by kernel_rfl) (by kernel_rfl) (by rfl) hS (v := ?_) ?_ ?_
              rotate_left
              · (intro w' hS'; go_simp <;> try with_reducible rfl)
              try simp only [Act.put, List.setIfInBounds_toArray, List.set_cons_zero, List.set_cons_succ]
              refine rg_take 17 rfl (by kernel_rfl) (by kernel_rfl) (by kernel_rfl) (by rfl) hS (v := ?_) ?_ ?_
              rotate_left
              · (intro w' hS'; go_simp <;> try with_reducible rfl)
              try simp only [Act.put, List.setIfInBounds_toArray, List.set_cons_zero, List.set_cons_succ]
              refine rg_eff 18 rfl (by kernel_rfl) (by rfl) (fun K hK => ?_)
              refine wp_alB (zs := rr false 0 false 0) rfl (by kernel_rfl) (fun pn qn an => ?_)
              replace qn := Nat.le_trans hS.1 qn
              refine hK _ _ (hS.alloc _) (fun hS => ?_)
              clear hK K
              replace hb := hb.alloc hb.size (.cells (rr false 0 false 0).toArray 27)
              try simp only [Act.put, List.setIfInBounds_toArray, List.set_cons_zero, List.set_cons_succ]
              refine rg_eff 19 rfl (by kernel_rfl) (by rfl) (fun K hK => ?_)
              refine wp_st (vs := fq q2) rfl rfl rfl an ((rr_length _ _ _ _).trans (rc_q q2).len.symm) (rc_q q2).whole (rc_q q2).one ?_
              refine hK _ _ (hS.row (.inr qn) _) (fun hS => ?_)
              clear hK K
              replace an := an.row (fq q2)
              replace hb := below_row hb (g := pn) (by omega) (fq q2).toArray
              try simp only [Act.put, List.setIfInBounds_toArray, List.set_cons_zero, List.set_cons_succ]
              refine rg_take 20 rfl (by kernel_rfl) (by kernel_rfl) (by kernel_rfl) (by rfl) hS (v := ?_) ?_ ?_
              rotate_left
              · (intro w' hS'; go_simp <;> try with_reducible rfl)
              try simp only [Act.put, List.setIfInBounds_toArray, List.set_cons_zero, List.set_cons_succ]
              refine rg_take 21 rfl (by kernel_rfl) (by kernel_rfl) (by kernel_rfl) (by rfl) hS (v := ?_) ?_ ?_
              rotate_left
              · (intro w' hS'; go_simp <;> try with_reducible rfl)
              try simp only [Act.put, List.setIfInBounds_toArray, List.set_cons_zero, List.set_cons_succ]
              refine rg_done (by kernel_rfl) ?_
              go_wp2_with fail
              go_meet
              case rel => exact ⟨pn, rfl, rfl, rfl, hb, an, b3.keep hS (by simp), b4.keep hS (by simp), b5.keep hS (by simp), b11.keep hS (by simp)⟩
            · refine wp_alB (zs := rr false 0 false 0) rfl (by kernel_rfl) (fun pn qn an => ?_)
              replace qn := Nat.le_trans hS.1 qn
              refine hK _ _ (hS.alloc _) (fun hS => ?_)
              clear hK K
              replace hb := hb.alloc hb.size (.cells (rr false 0 false 0).toArray 27)
              try simp only [Act.put, List.setIfInBounds_toArray, List.set_cons_zero, List.set_cons_succ]
              refine rg_eff 13 rfl (by kernel_rfl) (by rfl) (fun K hK => ?_)
              go_simp
              refine (HS2.out _).mono ?_
              rintro e w1 ⟨rfl, h1⟩
              refine hK _ _ (hS.call h1) (fun hS => ?_)
              clear hK K
              try replace an := an.call h1
              replace hb := bthen hb h1
              clear h1
              try simp only [Act.put, List.setIfInBounds_toArray, List.set_cons_zero, List.set_cons_succ]
              refine rg_take 14 rfl (by kernel_rfl) (by kernel_rfl) (by kernel_rfl) (by rfl) hS (v := ?_) ?_ ?_
              rotate_left
              · (intro w' hS'; go_simp <;> try with_reducible rfl)
              try simp only [Act.put, List.setIfInBounds_toArray, List.set_cons_zero, List.set_cons_succ]
              refine rg_take 15 rfl (by kernel_rfl) (by kernel_rfl) (by kernel_rfl) (by rfl) hS (v := ?_) ?_ ?_
              rotate_left
              · (intro w' hS'; go_simp <;> try with_reducible rfl)
              try simp only [Act.put, List.setIfInBounds_toArray, List.set_cons_zero, List.set_cons_succ]
              refine rg_take 16 rfl (by kernel_rfl) (by kernel_rfl) (by kernel_rfl) (by rfl) hS (v := ?_) ?_ ?_
              rotate_left
              · (intro w' hS'; go_simp <;> try with_reducible rfl)
              try simp only [Act.put, List.setIfInBounds_toArray, List.set_cons_zero, List.set_cons_succ]
              refine rg_take 17 rfl (by kernel_rfl) (by kernel_rfl) (by kernel_rfl) (by rfl) hS (v := ?_) ?_ ?_
              rotate_left
              · (intro w' hS'; go_simp <;> try with_reducible rfl)
              try simp only [Act.put, List.setIfInBounds_toArray, List.set_cons_zero, List.set_cons_succ]
              refine rg_eff 19 rfl (by kernel_rfl) (by rfl) (fun K hK => ?_)
              refine wp_st (vs := fq q2) rfl rfl rfl an ((rr_length _ _ _ _).trans (rc_q q2).len.symm) (rc_q q2).whole (rc_q q2).one ?_
              refine hK _ _ (hS.row (.inr qn) _) (fun hS => ?_)
              clear hK K
              replace an := an.row (fq q2)
              replace hb := below_row hb (g := pn) (by omega) (fq q2).toArray
              try simp only [Act.put, List.setIfInBounds_toArray, List.set_cons_zero, List.set_cons_succ]
              refine rg_take 20 rfl (by kernel_rfl) (by kernel_rfl) (by kernel_rfl) (by rfl) hS (v := ?_) ?_ ?_
              rotate_left
              · (intro w' hS'; go_simp <;> try with_reducible rfl)
              try simp only [Act.put, List.setIfInBounds_toArray, List.set_cons_zero, List.set_cons_succ]
              refine rg_take 21 rfl (by kernel_rfl) (by kernel_rfl) (by kernel_rfl) (by rfl) hS (v := ?_) ?_ ?_
              rotate_left
              · (intro w' hS'; go_simp <;> try with_reducible rfl)
              try simp only [Act.put, List.setIfInBounds_toArray, List.set_cons_zero, List.set_cons_succ]
              refine rg_done (by kernel_rfl) ?_
              go_wp2_with fail
              go_meet
              case rel => exact ⟨pn, rfl, rfl, rfl, hb, an, b3.keep hS (by simp), b4.keep hS (by simp), b5.keep hS (by simp), b11.keep hS (by simp)⟩
          case rest =>
            clear hb hsz b3 b4 b5 b11
            obtain ⟨pl_b13, rfl, rfl, rfl, hb, b13, b3, b4, b5, b11⟩ := hcut
            go_wp2_with fail
            refine rg_start [] (by kernel_rfl) (fun hS => ?_)
            replace hb := hb.drew
            refine rg_ldP 0 rfl (by kernel_rfl) (by kernel_rfl) (by kernel_rfl) (by rfl) hS rfl rfl b13 (by simp <;> omega) (part_all _) (rc_q _).whole ?_
            try simp only [Act.put, List.setIfInBounds_toArray, List.set_cons_zero, List.set_cons_succ]
            refine rg_eff 1 rfl (by kernel_rfl) (by rfl) (fun K hK => ?_)
            go_simp
            refine (HW.out _).mono ?_
            rintro e w1 ⟨rfl, h1⟩
            refine hK _ _ (hS.call h1) (fun hS => ?_)
            clear hK K
            replace hb := bthen hb h1
            clear h1
            try simp only [Act.put, List.setIfInBounds_toArray, List.set_cons_zero, List.set_cons_succ]
            refine rg_eff 2 rfl (by kernel_rfl) (by rfl) (fun K hK => ?_)
            go_simp
            refine (HC2.out _).mono ?_
            rintro e w1 ⟨rfl, h1⟩
            refine hK _ _ (hS.call h1) (fun hS => ?_)
            clear hK K
            replace hb := bthen hb h1
            clear h1
            try simp only [Act.put, List.setIfInBounds_toArray, List.set_cons_zero, List.set_cons_succ]
            refine rg_take 3 rfl (by kernel_rfl) (by kernel_rfl) (by kernel_rfl) (by rfl) hS (v := ?_) ?_ ?_
            rotate_left
            · (intro w' hS'; go_simp <;> try with_reducible rfl)
            try simp only [Act.put, List.setIfInBounds_toArray, List.set_cons_zero, List.set_cons_succ]
            refine rg_take 4 rfl (by kernel_rfl) (by kernel_rfl) (by kernel_rfl) (by rfl) hS (v := ?_) ?_ ?_
            rotate_left
            · (intro w' hS'; go_simp <;> try with_reducible rfl)
            try simp only [Act.put, List.setIfInBounds_toArray, List.set_cons_zero, List.set_cons_succ]
            refine rg_take 5 rfl (by kernel_rfl) (by kernel_rfl) (by kernel_rfl) (by rfl) hS (v := ?_) ?_ ?_
            rotate_left
            · (intro w' hS'; go_simp <;> try with_reducible rfl)
            try simp only [Act.put, List.setIfInBounds_toArray, List.set_cons_zero, List.set_cons_succ]
            refine rg_take 6 rfl (by kernel_rfl) (by kernel_rfl) (by kernel_rfl) (by rfl) hS (v := ?_) ?_ ?_
            rotate_left
            · (intro w' hS'; go_simp <;> try with_reducible rfl)
            try simp only [Act.put, List.setIfInBounds_toArray, List.set_cons_zero, List.set_cons_succ]
            refine rg_take 7 rfl (by kernel_rfl) (by kernel_rfl) (by kernel_rfl) (by rfl) hS (v := ?_) ?_ ?_
            rotate_left
            · (intro w' hS'; go_simp <;> try with_reducible rfl)
            try simp only [Act.put, List.setIfInBounds_toArray, List.set_cons_zero, List.set_cons_succ]
            refine rg_done (by kernel_rfl) ?_
            replace b3 := b3.keep hS (by simp)
            replace b4 := b4.keep hS (by simp)
            replace b5 := b5.keep hS (by simp)
            replace b11 := b11.keep hS (by simp)
            clear hS b13
            go_wp2
            go_roundw
            case rel => exact ⟨b3, b4, b5, b11, hb, by simp <;> assumption⟩
            case measure => simp [intOf]
    · skip
      have hn3 := HN3.out
      have hgg := HGG.out
      clear HN3 HGG
      rcases l3 with _ | _
      · skip
        obtain rfl : g = true := hgg
        clear b11
        go_wp2_with (first | (with_reducible refine ldPt rfl rfl rfl b3 (rc_q _) (rc_q _) ?_) | (with_reducible refine ldPt rfl rfl rfl b4 (rc_q _) (rc_q _) ?_) | (with_reducible refine ldPt rfl rfl rfl b5 (rc_q _) (rc_q _) ?_))
        refine (HG1.out _).mono ?_
        rintro e w1 ⟨rfl, h1⟩
        replace b3 := b3.call h1
        replace b4 := b4.call h1
        replace b5 := b5.call h1
        replace hb := bthen hb h1
        clear h1
        go_wp2_with (first | (with_reducible refine ldPt rfl rfl rfl b3 (rc_q _) (rc_q _) ?_) | (with_reducible refine ldPt rfl rfl rfl b4 (rc_q _) (rc_q _) ?_) | (with_reducible refine ldPt rfl rfl rfl b5 (rc_q _) (rc_q _) ?_))
        refine (HG2.out _).mono ?_
        rintro e w1 ⟨rfl, h1⟩
        replace b3 := b3.call h1
        replace b4 := b4.call h1
        replace b5 := b5.call h1
        replace hb := bthen hb h1
        clear h1
        go_wp2_with (first | (with_reducible refine ldPt rfl rfl rfl b3 (rc_q _) (rc_q _) ?_) | (with_reducible refine ldPt rfl rfl rfl b4 (rc_q _) (rc_q _) ?_) | (with_reducible refine ldPt rfl rfl rfl b5 (rc_q _) (rc_q _) ?_))
        refine (HG3.out _).mono ?_
        rintro e w1 ⟨rfl, h1⟩
        replace hb := bthen hb h1
        clear h1
        go_wp2
        go_ret
        exact ⟨rfl, hb⟩
      · skip
        obtain rfl : g = false := hgg
        clear b11
        go_wp2_with (first | (with_reducible refine ldPt rfl rfl rfl b3 (rc_q _) (rc_q _) ?_) | (with_reducible refine ldPt rfl rfl rfl b4 (rc_q _) (rc_q _) ?_) | (with_reducible refine ldPt rfl rfl rfl b5 (rc_q _) (rc_q _) ?_))
        refine (HG1.out _).mono ?_
        rintro e w1 ⟨rfl, h1⟩
        replace b3 := b3.call h1
        replace b4 := b4.call h1
        replace b5 := b5.call h1
        replace hb := bthen hb h1
        clear h1
        go_wp2_with (first | (with_reducible refine ldPt rfl rfl rfl b3 (rc_q _) (rc_q _) ?_) | (with_reducible refine ldPt rfl rfl rfl b4 (rc_q _) (rc_q _) ?_) | (with_reducible refine ldPt rfl rfl rfl b5 (rc_q _) (rc_q _) ?_))
        refine (HG2.out _).mono ?_
        rintro e w1 ⟨rfl, h1⟩
        replace b3 := b3.call h1
        replace b4 := b4.call h1
        replace b5 := b5.call h1
        replace hb := bthen hb h1
        clear h1
        go_wp2_with (first | (with_reducible refine ldPt rfl rfl rfl b3 (rc_q _) (rc_q _) ?_) | (with_reducible refine ldPt rfl rfl rfl b4 (rc_q _) (rc_q _) ?_) | (with_reducible refine ldPt rfl rfl rfl b5 (rc_q _) (rc_q _) ?_))
        refine (HG3.out _).mono ?_
        rintro e w1 ⟨rfl, h1⟩
        replace hb := bthen hb h1
        clear h1
        go_wp2
        go_ret
        exact ⟨rfl, hb⟩
end Go.Proofs.YtckolhalggcenaaGreat
