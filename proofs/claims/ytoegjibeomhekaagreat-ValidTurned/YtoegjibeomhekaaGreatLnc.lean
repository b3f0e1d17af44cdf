/- Package line: are, between; what boxes and segments tell of points. -/
import Derived.Test.YtoegjibeomhekaaGreatLnb
import Derived.Test.YtoegjibeomhekaaGreatBsn
namespace Go.Proofs.YtoegjibeomhekaaGreat
set_option linter.unusedSimpArgs false
set_option linter.unusedVariables false
open Go.RowKit
set_option maxRecDepth 100000
/-- are: all of a row. -/
theorem lare_walk (n b f c : Nat) (A B : Nat → List Value) (s : Nat → Bool) (w : World) (hn : n ≤ 1000) (hA : ∀ k, k < n → Rc (A k) ∧ Rc (B k)) (hT : ∀ k, k < n → Tl 34 #[vl (A k ++ B k)] (.bool (s k))) (hbw : b < w.heap.size) (hr : ∀ k, k < n → w.rangeAt b (f + k * 132) (A k ++ B k)) (r : Bool) (hs : (r = true ∧ ∀ k, k < n → s k = true) ∨ (r = false ∧ ∃ k, k < n ∧ s k = false)) :
    Calls Tryz.prog 48 #[.slice (some ⟨b, f, none⟩) n c] w fun e w' => e = .returned (.bool r) ∧ Below w.heap.size w w' := by
  have HA := Lib.hid hA
  have HT := Lib.hid hT
  have Hr := Lib.hid hr
  have HS := Lib.hid hs
  unfold Tl vl at HT
  clear hA hT hr hs
  go_enter Tryz.func48, Tryz.ntmps48
  go_wp2
  go_loopw [7] (fun i wr => ∃ k : Nat, k ≤ n ∧ i = .int .i64 k ∧ (∀ j, j < k → s j = true) ∧ Below w.heap.size w wr) (fun i _ => n - (intOf i).toNat)
  case atStart => exact ⟨0, Nat.zero_le _, rfl, fun j hj => absurd hj (by omega), Below.refl _ _⟩
  case round =>
    obtain ⟨k, hk, rfl, hall, hb⟩ := hrel
    have HL := Lib.hid hall
    clear hall
    by_cases hlt : k < n
    · have r0 : wr.rangeAt b (f + k * 132) (A k ++ B k) := fun j v hv => by
        rw [hb.cell (p := ⟨b, f + k * 132 + j, none⟩) hbw]
        exact Hr.out k hlt j v hv
      have HF := Lib.hid (HT.out k hlt)
      have hlt' : (k : Int) < (n : Int) := by omega
      obtain ⟨ha, hb2⟩ := HA.out k hlt
      have HX := Lib.hid ha
      have HY := Lib.hid hb2
      clear ha hb2
      generalize A k = X at *
      generalize B k = Y at *
      have a3 := Blk.new wr p0 47 rfl
      have d3 := a3.row (X ++ Y)
      have hb' := below_row (hb.alloc hb.size (.cells p0.toArray 47)) (g := wr.heap.size) hb.size (X ++ Y).toArray
      go_wp2_with (first | (with_reducible refine ldPr rfl rfl rfl r0 HX.out HY.out ?_) | (with_reducible refine alP rfl rfl ?_) | (with_reducible refine stPt rfl rfl rfl rfl a3 p0_len HX.out HY.out ?_) | (with_reducible refine ldPt rfl rfl rfl d3 HX.out HY.out ?_))
      refine (HF.out _).mono ?_
      rintro e w1 ⟨rfl, h1⟩
      replace hb' := bthen hb' h1
      obtain ⟨sk, hsk⟩ : ∃ sk, s k = sk := ⟨_, rfl⟩
      rw [hsk]
      cases sk with
      | true =>
        have EK := Lib.hid hsk
        clear hsk
        go_wp2
        go_roundw
        case rel => exact ⟨k + 1, by omega, by go_num, fun j hj => by
          rcases Nat.lt_or_ge j k with h | h
          · exact HL.out j h
          · obtain rfl : j = k := by omega
            exact EK.out, hb'⟩
        case measure => simp [intOf]; omega
      | false =>
        have ER : r = false := by
          rcases HS.out with ⟨_, h⟩ | ⟨h, _⟩
          · rw [h k hlt] at hsk; cases hsk
          · exact h
        subst ER
        clear hsk
        go_wp2
        go_ret
        exact ⟨rfl, hb'⟩
    · obtain rfl : k = n := by omega
      have ER : r = true := by
        rcases HS.out with ⟨h, _⟩ | ⟨_, j, hj, h⟩
        · exact h
        · rw [HL.out j hj] at h; cases h
      subst ER
      go_wp2
      go_ret
      exact ⟨rfl, hb⟩
theorem lare_two {w : World} {b : Nat} {t : TypeId} {A B C D : List Value} {s s' : Bool} (hA : Rc A) (hB : Rc B) (hC : Rc C) (hD : Rc D) (T : Tl 34 #[vl (A ++ B)] (.bool s)) (T' : Tl 34 #[vl (C ++ D)] (.bool s')) (h : Blk w b (j2 (A ++ B) (C ++ D)) t) :
    Calls Tryz.prog 48 #[.slice (some ⟨b, 0, none⟩) 2 2] w fun e w' => e = .returned (.bool (s && s')) ∧ Below w.heap.size w w' :=
  lare_walk 2 b 0 2 (fun k => if k = 0 then A else C) (fun k => if k = 0 then B else D) (fun k => if k = 0 then s else s') w (by omega) (fun k hk => by
    rcases (show k = 0 ∨ k = 1 by omega) with rfl | rfl
    · exact ⟨hA, hB⟩
    · exact ⟨hC, hD⟩) (fun k hk => by
    rcases (show k = 0 ∨ k = 1 by omega) with rfl | rfl
    · exact T
    · exact T') h.lt (fun k hk => pr_two hA hB hC hD h k hk) (s && s') (by
    cases s with
    | false => exact .inr ⟨rfl, 0, by omega, rfl⟩
    | true =>
      cases s' with
      | false => exact .inr ⟨rfl, 1, by omega, rfl⟩
      | true => exact .inl ⟨rfl, fun k hk => by split <;> rfl⟩)
theorem lare_three {w : World} {b : Nat} {t : TypeId} {A B C D E F : List Value} {s s' s'' : Bool} (hA : Rc A) (hB : Rc B) (hC : Rc C) (hD : Rc D) (hE : Rc E) (hF : Rc F) (T : Tl 34 #[vl (A ++ B)] (.bool s)) (T' : Tl 34 #[vl (C ++ D)] (.bool s')) (T'' : Tl 34 #[vl (E ++ F)] (.bool s'')) (h : Blk w b (j3 (A ++ B) (C ++ D) (E ++ F)) t) :
    Calls Tryz.prog 48 #[.slice (some ⟨b, 0, none⟩) 3 3] w fun e w' => e = .returned (.bool (s && (s' && s''))) ∧ Below w.heap.size w w' :=
  lare_walk 3 b 0 3 (fun k => if k = 0 then A else if k = 1 then C else E) (fun k => if k = 0 then B else if k = 1 then D else F) (fun k => if k = 0 then s else if k = 1 then s' else s'') w (by omega) (fun k hk => by
    rcases (show k = 0 ∨ k = 1 ∨ k = 2 by omega) with rfl | rfl | rfl
    · exact ⟨hA, hB⟩
    · exact ⟨hC, hD⟩
    · exact ⟨hE, hF⟩) (fun k hk => by
    rcases (show k = 0 ∨ k = 1 ∨ k = 2 by omega) with rfl | rfl | rfl
    · exact T
    · exact T'
    · exact T'') h.lt (fun k hk => pr_three hA hB hC hD hE hF h k hk) (s && (s' && s'')) (by
    cases s with
    | false => exact .inr ⟨rfl, 0, by omega, rfl⟩
    | true =>
      cases s' with
      | false => exact .inr ⟨rfl, 1, by omega, rfl⟩
      | true =>
        cases s'' with
        | false => exact .inr ⟨rfl, 2, by omega, rfl⟩
        | true => exact .inl ⟨rfl, fun k hk => by split; rfl; split <;> rfl⟩)
theorem lpr_list {w : World} {b : Nat} {t : TypeId} {Ps : List (List Value)} (hl : ∀ P ∈ Ps, P.length = 132) (h : Blk w b (jn Ps) t) {k : Nat} {P : List Value} (hk : Ps[k]? = some P) : w.rangeAt b (0 + k * 132) P := fun j v hv => by
  apply h.cell
  rw [Nat.zero_add]
  exact flat_get 132 Ps k P j v hl hk hv
theorem lare_four {w : World} {b : Nat} {t : TypeId} {A B C D E F G H : List Value} {s s1 s2 s3 : Bool} (hA : Rc A) (hB : Rc B) (hC : Rc C) (hD : Rc D) (hE : Rc E) (hF : Rc F) (hG : Rc G) (hH : Rc H) (T : Tl 34 #[vl (A ++ B)] (.bool s)) (T1 : Tl 34 #[vl (C ++ D)] (.bool s1)) (T2 : Tl 34 #[vl (E ++ F)] (.bool s2)) (T3 : Tl 34 #[vl (G ++ H)] (.bool s3)) (h : Blk w b (jn [A ++ B, C ++ D, E ++ F, G ++ H]) t) :
    Calls Tryz.prog 48 #[.slice (some ⟨b, 0, none⟩) 4 4] w fun e w' => e = .returned (.bool (s && (s1 && (s2 && s3)))) ∧ Below w.heap.size w w' := by
  have hl : ∀ P ∈ [A ++ B, C ++ D, E ++ F, G ++ H], P.length = 132 := fun P hP => by
    simp only [List.mem_cons, List.not_mem_nil, or_false] at hP
    rcases hP with rfl | rfl | rfl | rfl
    · exact pt_len hA hB
    · exact pt_len hC hD
    · exact pt_len hE hF
    · exact pt_len hG hH
  refine lare_walk 4 b 0 4 (fun k => if k = 0 then A else if k = 1 then C else if k = 2 then E else G) (fun k => if k = 0 then B else if k = 1 then D else if k = 2 then F else H) (fun k => if k = 0 then s else if k = 1 then s1 else if k = 2 then s2 else s3) w (by omega) (fun k hk => ?_) (fun k hk => ?_) h.lt (fun k hk => ?_) _ ?_
  · rcases (show k = 0 ∨ k = 1 ∨ k = 2 ∨ k = 3 by omega) with rfl | rfl | rfl | rfl
    · exact ⟨hA, hB⟩
    · exact ⟨hC, hD⟩
    · exact ⟨hE, hF⟩
    · exact ⟨hG, hH⟩
  · rcases (show k = 0 ∨ k = 1 ∨ k = 2 ∨ k = 3 by omega) with rfl | rfl | rfl | rfl
    · exact T
    · exact T1
    · exact T2
    · exact T3
  · rcases (show k = 0 ∨ k = 1 ∨ k = 2 ∨ k = 3 by omega) with rfl | rfl | rfl | rfl <;> exact lpr_list hl h rfl
  · cases s with
    | false => exact .inr ⟨rfl, 0, by omega, rfl⟩
    | true =>
      cases s1 with
      | false => exact .inr ⟨rfl, 1, by omega, rfl⟩
      | true =>
        cases s2 with
        | false => exact .inr ⟨rfl, 2, by omega, rfl⟩
        | true =>
          cases s3 with
          | false => exact .inr ⟨rfl, 3, by omega, rfl⟩
          | true => exact .inl ⟨rfl, fun k hk => by simp⟩
theorem linfo_pt : ∃ i, Tryz.prog.info? 47 = some i ∧ i.size = 132 ∧ i.zero = some (.agg p0.toArray) := by
  have h1 := sizeP
  have h2 := zeroP
  rcases h : Tryz.prog.info? 47 with _ | i
  · rw [h] at h1; cases h1
  · rw [h] at h1 h2
    simp only [Option.map_some, Option.some.injEq] at h1 h2
    exact ⟨i, rfl, h1, h2⟩
theorem lp_build1 {A0 B0 : List Value} (h0 : Rc A0) (g0 : Rc B0) (w : World) : (Instr.buildSlice 24 1 #[(0, .agg (A0 ++ B0).toArray)]).run Tryz.prog w = .ok (.slice (some ⟨w.heap.size, 0, none⟩) 1 1) (w.alloc (.cells (jn [A0 ++ B0]).toArray 47)) := by
  obtain ⟨it, hi, hsz, hz⟩ := linfo_pt
  exact run_bs w Tryz.underlying24 hi hsz hz (Ps := [A0 ++ B0]) (fun P hP => by
    simp only [List.mem_cons, List.not_mem_nil, or_false] at hP
    rcases hP with rfl
    exact pt_len h0 g0) (by simp) (by simp)
theorem lbsP1 {ops : Array Oper} {rest : List Oper} {o : Oper} {a : Act} {w : World} {Q : Exit → Act → World → Prop} {x0 : Operand} {A0 B0 : List Value} (hgd : o.guard = none) (ho : o.op = .buildSlice 24 1 #[(0, x0)]) (e0 : a.eval x0 = .agg (A0 ++ B0).toArray) (h0 : Rc A0) (g0 : Rc B0)
    (hr : wpList Tryz.prog ops Q rest (a.put o.dst (.slice (some ⟨w.heap.size, 0, none⟩) 1 1)) (w.alloc (.cells (jn [A0 ++ B0]).toArray 47))) : wpList Tryz.prog ops Q (o :: rest) a w :=
  wpList_plain hgd fun K hK => by
    have := hK _ _ hr
    unfold Oper.wp execOp
    simp only [ho, Sem.run_bind]
    rw [show Array.map (fun x : Nat × Operand => (x.fst, a.eval x.snd)) #[(0, x0)] = #[(0, .agg (A0 ++ B0).toArray)] by simp [e0], lp_build1 h0 g0]
    exact this
theorem lp_build4 {A0 B0 A1 B1 A2 B2 A3 B3 : List Value} (h0 : Rc A0) (g0 : Rc B0) (h1 : Rc A1) (g1 : Rc B1) (h2 : Rc A2) (g2 : Rc B2) (h3 : Rc A3) (g3 : Rc B3) (w : World) : (Instr.buildSlice 24 4 #[(0, .agg (A0 ++ B0).toArray), (1, .agg (A1 ++ B1).toArray), (2, .agg (A2 ++ B2).toArray), (3, .agg (A3 ++ B3).toArray)]).run Tryz.prog w = .ok (.slice (some ⟨w.heap.size, 0, none⟩) 4 4) (w.alloc (.cells (jn [A0 ++ B0, A1 ++ B1, A2 ++ B2, A3 ++ B3]).toArray 47)) := by
  obtain ⟨it, hi, hsz, hz⟩ := linfo_pt
  exact run_bs w Tryz.underlying24 hi hsz hz (Ps := [A0 ++ B0, A1 ++ B1, A2 ++ B2, A3 ++ B3]) (fun P hP => by
    simp only [List.mem_cons, List.not_mem_nil, or_false] at hP
    rcases hP with rfl | rfl | rfl | rfl
    · exact pt_len h0 g0
    · exact pt_len h1 g1
    · exact pt_len h2 g2
    · exact pt_len h3 g3) (by simp) (by simp)
theorem lbsP4 {ops : Array Oper} {rest : List Oper} {o : Oper} {a : Act} {w : World} {Q : Exit → Act → World → Prop} {x0 x1 x2 x3 : Operand} {A0 B0 A1 B1 A2 B2 A3 B3 : List Value} (hgd : o.guard = none) (ho : o.op = .buildSlice 24 4 #[(0, x0), (1, x1), (2, x2), (3, x3)]) (e0 : a.eval x0 = .agg (A0 ++ B0).toArray) (e1 : a.eval x1 = .agg (A1 ++ B1).toArray) (e2 : a.eval x2 = .agg (A2 ++ B2).toArray) (e3 : a.eval x3 = .agg (A3 ++ B3).toArray) (h0 : Rc A0) (g0 : Rc B0) (h1 : Rc A1) (g1 : Rc B1) (h2 : Rc A2) (g2 : Rc B2) (h3 : Rc A3) (g3 : Rc B3)
    (hr : wpList Tryz.prog ops Q rest (a.put o.dst (.slice (some ⟨w.heap.size, 0, none⟩) 4 4)) (w.alloc (.cells (jn [A0 ++ B0, A1 ++ B1, A2 ++ B2, A3 ++ B3]).toArray 47))) : wpList Tryz.prog ops Q (o :: rest) a w :=
  wpList_plain hgd fun K hK => by
    have := hK _ _ hr
    unfold Oper.wp execOp
    simp only [ho, Sem.run_bind]
    rw [show Array.map (fun x : Nat × Operand => (x.fst, a.eval x.snd)) #[(0, x0), (1, x1), (2, x2), (3, x3)] = #[(0, .agg (A0 ++ B0).toArray), (1, .agg (A1 ++ B1).toArray), (2, .agg (A2 ++ B2).toArray), (3, .agg (A3 ++ B3).toArray)] by simp [e0, e1, e2, e3], lp_build4 h0 g0 h1 g1 h2 g2 h3 g3]
    exact this
set_option maxHeartbeats 1000000 in
theorem lbetween_walk {A B C D : List Value} (hA : Rc A) (hB : Rc B) (hC : Rc C) (hD : Rc D) : Tl 49 #[vl (A ++ B), vl (C ++ D)] (vl (sgm A B C D)) := by
  intro w
  unfold vl at *
  have HA := Lib.hid hA
  have HB := Lib.hid hB
  have HC := Lib.hid hC
  have HD := Lib.hid hD
  clear hA hB hC hD
  have b2 := (((Blk.new w (A ++ B) 47 rfl).old (.cells (C ++ D).toArray 47)).old (.cells (sgm r0 r0 r0 r0).toArray 93))
  have b3 := ((Blk.new (w.alloc (.cells (A ++ B).toArray 47)) (C ++ D) 47 (b := w.heap.size + 1) (by simp)).old (.cells (sgm r0 r0 r0 r0).toArray 93))
  have b4 := (Blk.new ((w.alloc (.cells (A ++ B).toArray 47)).alloc (.cells (C ++ D).toArray 47)) (sgm r0 r0 r0 r0) 93 (b := w.heap.size + 1 + 1) (by simp))
  have hb : Below w.heap.size w (((w.alloc (.cells (A ++ B).toArray 47)).alloc (.cells (C ++ D).toArray 47)).alloc (.cells (sgm r0 r0 r0 r0).toArray 93)) := ((((Below.refl _ _).alloc (Nat.le_refl _) _).alloc (by simp <;> omega) _).alloc (by simp <;> omega) _)
  have hk : (((w.alloc (.cells (A ++ B).toArray 47)).alloc (.cells (C ++ D).toArray 47)).alloc (.cells (sgm r0 r0 r0 r0).toArray 93)).heap.size = w.heap.size + 1 + 1 + 1 := by simp
  go_enter Tryz.func49, Tryz.ntmps49
  go_wp2_with (first | (with_reducible refine alG rfl rfl ?_) | (with_reducible refine ldX rfl rfl rfl b2 HA.out HB.out ?_) | (with_reducible refine ldY rfl rfl rfl b2 HA.out HB.out ?_) | (with_reducible refine ldX rfl rfl rfl b3 HC.out HD.out ?_) | (with_reducible refine ldY rfl rfl rfl b3 HC.out HD.out ?_) | (with_reducible refine ldPt rfl rfl rfl b2 HA.out HB.out ?_) | (with_reducible refine ldPt rfl rfl rfl b3 HC.out HD.out ?_) | (with_reducible refine bdS rfl rfl rfl rfl HA.out HC.out ?_) | (with_reducible refine bdS rfl rfl rfl rfl HB.out HD.out ?_) | (with_reducible refine bdB rfl rfl rfl rfl HA.out HB.out HC.out HD.out ?_) | (with_reducible refine bdG rfl rfl rfl rfl rfl HA.out HB.out HC.out HD.out ?_) | (with_reducible refine stG rfl rfl rfl rfl b4 (sgm_len rc0 rc0 rc0 rc0) HA.out HB.out HC.out HD.out ?_))
  exact ret_c (cs := sgm A B C D) rfl rfl rfl (wholeG HA.out HB.out HC.out HD.out) (b4.row _) ⟨rfl, below_row hb (by omega) _⟩
set_option maxHeartbeats 1000000 in
theorem covers_a {A B C D X Y : List Value} {t : Bool} (hA : Rc A) (hB : Rc B) (hC : Rc C) (hD : Rc D) (hX : Rc X) (hY : Rc Y) (T1 : Tl 76 #[vl (A ++ C), vl X] (.bool false)) (T2 : Tl 76 #[vl (B ++ D), vl Y] (.bool t)) : Tl 59 #[vl (bx A B C D), vl (X ++ Y)] (.bool false) := by
  intro w
  unfold vl at *
  have HT1 := Lib.hid T1
  have HT2 := Lib.hid T2
  have HA := Lib.hid hA
  have HB := Lib.hid hB
  have HC := Lib.hid hC
  have HD := Lib.hid hD
  have HX := Lib.hid hX
  have HY := Lib.hid hY
  unfold Tl at HT1 HT2
  clear T1 T2 hA hB hC hD hX hY
  have b2 := ((Blk.new w (bx A B C D) 91 rfl).old (.cells (X ++ Y).toArray 47))
  have b3 := (Blk.new (w.alloc (.cells (bx A B C D).toArray 91)) (X ++ Y) 47 (b := w.heap.size + 1) (by simp))
  have hb : Below w.heap.size w ((w.alloc (.cells (bx A B C D).toArray 91)).alloc (.cells (X ++ Y).toArray 47)) := (((Below.refl _ _).alloc (Nat.le_refl _) _).alloc (by simp <;> omega) _)
  have hk : ((w.alloc (.cells (bx A B C D).toArray 91)).alloc (.cells (X ++ Y).toArray 47)).heap.size = w.heap.size + 1 + 1 := by simp
  go_enter Tryz.func59, Tryz.ntmps59
  go_wp2_with (first | (with_reducible refine ldP rfl rfl rfl b2 bx_across (wholeS HA.out HC.out) ?_) | (with_reducible refine ldP rfl rfl rfl b3 partX HX.out.whole ?_))
  refine (HT1.out _).mono ?_
  rintro e w1 ⟨rfl, h1⟩
  replace b2 := b2.call h1
  replace b3 := b3.call h1
  replace hb := bthen hb h1
  clear h1
  go_wp2
  go_ret
  exact ⟨rfl, hb⟩
set_option maxHeartbeats 1000000 in
theorem covers_b {A B C D X Y : List Value} {t : Bool} (hA : Rc A) (hB : Rc B) (hC : Rc C) (hD : Rc D) (hX : Rc X) (hY : Rc Y) (T1 : Tl 76 #[vl (A ++ C), vl X] (.bool true)) (T2 : Tl 76 #[vl (B ++ D), vl Y] (.bool t)) : Tl 59 #[vl (bx A B C D), vl (X ++ Y)] (.bool t) := by
  intro w
  unfold vl at *
  have HT1 := Lib.hid T1
  have HT2 := Lib.hid T2
  have HA := Lib.hid hA
  have HB := Lib.hid hB
  have HC := Lib.hid hC
  have HD := Lib.hid hD
  have HX := Lib.hid hX
  have HY := Lib.hid hY
  unfold Tl at HT1 HT2
  clear T1 T2 hA hB hC hD hX hY
  have b2 := ((Blk.new w (bx A B C D) 91 rfl).old (.cells (X ++ Y).toArray 47))
  have b3 := (Blk.new (w.alloc (.cells (bx A B C D).toArray 91)) (X ++ Y) 47 (b := w.heap.size + 1) (by simp))
  have hb : Below w.heap.size w ((w.alloc (.cells (bx A B C D).toArray 91)).alloc (.cells (X ++ Y).toArray 47)) := (((Below.refl _ _).alloc (Nat.le_refl _) _).alloc (by simp <;> omega) _)
  have hk : ((w.alloc (.cells (bx A B C D).toArray 91)).alloc (.cells (X ++ Y).toArray 47)).heap.size = w.heap.size + 1 + 1 := by simp
  go_enter Tryz.func59, Tryz.ntmps59
  go_wp2_with (first | (with_reducible refine ldP rfl rfl rfl b2 bx_across (wholeS HA.out HC.out) ?_) | (with_reducible refine ldP rfl rfl rfl b3 partX HX.out.whole ?_))
  refine (HT1.out _).mono ?_
  rintro e w1 ⟨rfl, h1⟩
  replace b2 := b2.call h1
  replace b3 := b3.call h1
  replace hb := bthen hb h1
  clear h1
  go_wp2_with (first | (refine ldPg (by rfl) rfl rfl b2 (bx_up HA.out HC.out) (wholeS HB.out HD.out) ?_) | (refine ldPg (by rfl) rfl rfl b3 (partY HX.out) HY.out.whole ?_))
  refine (HT2.out _).mono ?_
  rintro e w1 ⟨rfl, h1⟩
  replace hb := bthen hb h1
  clear h1
  go_wp2
  go_ret
  exact ⟨rfl, hb⟩
set_option maxHeartbeats 1000000 in
theorem reaches_a {A B C D X Y U V : List Value} {t : Bool} (hA : Rc A) (hB : Rc B) (hC : Rc C) (hD : Rc D) (hX : Rc X) (hY : Rc Y) (hU : Rc U) (hV : Rc V) (T1 : Tl 103 #[vl (A ++ C), vl (X ++ U)] (.bool false)) (T2 : Tl 103 #[vl (B ++ D), vl (Y ++ V)] (.bool t)) : Tl 94 #[vl (bx A B C D), vl (bx X Y U V)] (.bool false) := by
  intro w
  unfold vl at *
  have HT1 := Lib.hid T1
  have HT2 := Lib.hid T2
  have HA := Lib.hid hA
  have HB := Lib.hid hB
  have HC := Lib.hid hC
  have HD := Lib.hid hD
  have HX := Lib.hid hX
  have HY := Lib.hid hY
  have HU := Lib.hid hU
  have HV := Lib.hid hV
  unfold Tl at HT1 HT2
  clear T1 T2 hA hB hC hD hX hY hU hV
  have b2 := ((Blk.new w (bx A B C D) 91 rfl).old (.cells (bx X Y U V).toArray 91))
  have b3 := (Blk.new (w.alloc (.cells (bx A B C D).toArray 91)) (bx X Y U V) 91 (b := w.heap.size + 1) (by simp))
  have hb : Below w.heap.size w ((w.alloc (.cells (bx A B C D).toArray 91)).alloc (.cells (bx X Y U V).toArray 91)) := (((Below.refl _ _).alloc (Nat.le_refl _) _).alloc (by simp <;> omega) _)
  have hk : ((w.alloc (.cells (bx A B C D).toArray 91)).alloc (.cells (bx X Y U V).toArray 91)).heap.size = w.heap.size + 1 + 1 := by simp
  go_enter Tryz.func94, Tryz.ntmps94
  go_wp2_with (first | (with_reducible refine ldP rfl rfl rfl b2 bx_across (wholeS HA.out HC.out) ?_) | (with_reducible refine ldP rfl rfl rfl b3 bx_across (wholeS HX.out HU.out) ?_))
  refine (HT1.out _).mono ?_
  rintro e w1 ⟨rfl, h1⟩
  replace b2 := b2.call h1
  replace b3 := b3.call h1
  replace hb := bthen hb h1
  clear h1
  go_wp2
  go_ret
  exact ⟨rfl, hb⟩
set_option maxHeartbeats 1000000 in
theorem reaches_b {A B C D X Y U V : List Value} {t : Bool} (hA : Rc A) (hB : Rc B) (hC : Rc C) (hD : Rc D) (hX : Rc X) (hY : Rc Y) (hU : Rc U) (hV : Rc V) (T1 : Tl 103 #[vl (A ++ C), vl (X ++ U)] (.bool true)) (T2 : Tl 103 #[vl (B ++ D), vl (Y ++ V)] (.bool t)) : Tl 94 #[vl (bx A B C D), vl (bx X Y U V)] (.bool t) := by
  intro w
  unfold vl at *
  have HT1 := Lib.hid T1
  have HT2 := Lib.hid T2
  have HA := Lib.hid hA
  have HB := Lib.hid hB
  have HC := Lib.hid hC
  have HD := Lib.hid hD
  have HX := Lib.hid hX
  have HY := Lib.hid hY
  have HU := Lib.hid hU
  have HV := Lib.hid hV
  unfold Tl at HT1 HT2
  clear T1 T2 hA hB hC hD hX hY hU hV
  have b2 := ((Blk.new w (bx A B C D) 91 rfl).old (.cells (bx X Y U V).toArray 91))
  have b3 := (Blk.new (w.alloc (.cells (bx A B C D).toArray 91)) (bx X Y U V) 91 (b := w.heap.size + 1) (by simp))
  have hb : Below w.heap.size w ((w.alloc (.cells (bx A B C D).toArray 91)).alloc (.cells (bx X Y U V).toArray 91)) := (((Below.refl _ _).alloc (Nat.le_refl _) _).alloc (by simp <;> omega) _)
  have hk : ((w.alloc (.cells (bx A B C D).toArray 91)).alloc (.cells (bx X Y U V).toArray 91)).heap.size = w.heap.size + 1 + 1 := by simp
  go_enter Tryz.func94, Tryz.ntmps94
  go_wp2_with (first | (with_reducible refine ldP rfl rfl rfl b2 bx_across (wholeS HA.out HC.out) ?_) | (with_reducible refine ldP rfl rfl rfl b3 bx_across (wholeS HX.out HU.out) ?_))
  refine (HT1.out _).mono ?_
  rintro e w1 ⟨rfl, h1⟩
  replace b2 := b2.call h1
  replace b3 := b3.call h1
  replace hb := bthen hb h1
  clear h1
  go_wp2_with (first | (refine ldPg (by rfl) rfl rfl b2 (bx_up HA.out HC.out) (wholeS HB.out HD.out) ?_) | (refine ldPg (by rfl) rfl rfl b3 (bx_up HX.out HU.out) (wholeS HY.out HV.out) ?_))
  refine (HT2.out _).mono ?_
  rintro e w1 ⟨rfl, h1⟩
  replace hb := bthen hb h1
  clear h1
  go_wp2
  go_ret
  exact ⟨rfl, hb⟩
set_option maxHeartbeats 1000000 in
theorem shas_a {A B C D X Y : List Value} {n : Int} (hA : Rc A) (hB : Rc B) (hC : Rc C) (hD : Rc D) (hX : Rc X) (hY : Rc Y) (T1 : Tl 59 #[vl (bx A B C D), vl (X ++ Y)] (.bool false)) (T2 : Tl 60 #[vl (sgm A B C D), vl (X ++ Y)] (.int .i64 n)) : Tl 50 #[vl (sgm A B C D), vl (X ++ Y)] (.bool false) := by
  intro w
  unfold vl at *
  have HT1 := Lib.hid T1
  have HT2 := Lib.hid T2
  have HA := Lib.hid hA
  have HB := Lib.hid hB
  have HC := Lib.hid hC
  have HD := Lib.hid hD
  have HX := Lib.hid hX
  have HY := Lib.hid hY
  unfold Tl at HT1 HT2
  clear T1 T2 hA hB hC hD hX hY
  have b2 := ((Blk.new w (sgm A B C D) 93 rfl).old (.cells (X ++ Y).toArray 47))
  have b3 := (Blk.new (w.alloc (.cells (sgm A B C D).toArray 93)) (X ++ Y) 47 (b := w.heap.size + 1) (by simp))
  have hb : Below w.heap.size w ((w.alloc (.cells (sgm A B C D).toArray 93)).alloc (.cells (X ++ Y).toArray 47)) := (((Below.refl _ _).alloc (Nat.le_refl _) _).alloc (by simp <;> omega) _)
  have hk : ((w.alloc (.cells (sgm A B C D).toArray 93)).alloc (.cells (X ++ Y).toArray 47)).heap.size = w.heap.size + 1 + 1 := by simp
  go_enter Tryz.func50, Tryz.ntmps50
  go_wp2_with (first | (with_reducible refine ldP rfl rfl rfl b2 sgm_box (wholeB HA.out HB.out HC.out HD.out) ?_) | (with_reducible refine ldP rfl rfl rfl b3 (part_all _) (wholeP HX.out HY.out) ?_))
  refine (HT1.out _).mono ?_
  rintro e w1 ⟨rfl, h1⟩
  replace b2 := b2.call h1
  replace b3 := b3.call h1
  replace hb := bthen hb h1
  clear h1
  go_wp2
  go_ret
  exact ⟨rfl, hb⟩
set_option maxHeartbeats 1000000 in
theorem shas_b {A B C D X Y : List Value} {n : Int} (hA : Rc A) (hB : Rc B) (hC : Rc C) (hD : Rc D) (hX : Rc X) (hY : Rc Y) (T1 : Tl 59 #[vl (bx A B C D), vl (X ++ Y)] (.bool true)) (T2 : Tl 60 #[vl (sgm A B C D), vl (X ++ Y)] (.int .i64 n)) : Tl 50 #[vl (sgm A B C D), vl (X ++ Y)] (.bool (decide (n = 0))) := by
  intro w
  unfold vl at *
  have HT1 := Lib.hid T1
  have HT2 := Lib.hid T2
  have HA := Lib.hid hA
  have HB := Lib.hid hB
  have HC := Lib.hid hC
  have HD := Lib.hid hD
  have HX := Lib.hid hX
  have HY := Lib.hid hY
  unfold Tl at HT1 HT2
  clear T1 T2 hA hB hC hD hX hY
  have b2 := ((Blk.new w (sgm A B C D) 93 rfl).old (.cells (X ++ Y).toArray 47))
  have b3 := (Blk.new (w.alloc (.cells (sgm A B C D).toArray 93)) (X ++ Y) 47 (b := w.heap.size + 1) (by simp))
  have hb : Below w.heap.size w ((w.alloc (.cells (sgm A B C D).toArray 93)).alloc (.cells (X ++ Y).toArray 47)) := (((Below.refl _ _).alloc (Nat.le_refl _) _).alloc (by simp <;> omega) _)
  have hk : ((w.alloc (.cells (sgm A B C D).toArray 93)).alloc (.cells (X ++ Y).toArray 47)).heap.size = w.heap.size + 1 + 1 := by simp
  go_enter Tryz.func50, Tryz.ntmps50
  go_wp2_with (first | (with_reducible refine ldP rfl rfl rfl b2 sgm_box (wholeB HA.out HB.out HC.out HD.out) ?_) | (with_reducible refine ldP rfl rfl rfl b3 (part_all _) (wholeP HX.out HY.out) ?_))
  refine (HT1.out _).mono ?_
  rintro e w1 ⟨rfl, h1⟩
  replace b2 := b2.call h1
  replace b3 := b3.call h1
  replace hb := bthen hb h1
  clear h1
  go_wp2_with (first | (refine ldPg (by rfl) rfl rfl b2 (part_all _) (wholeG HA.out HB.out HC.out HD.out) ?_) | (refine ldPg (by rfl) rfl rfl b3 (part_all _) (wholeP HX.out HY.out) ?_))
  refine (HT2.out _).mono ?_
  rintro e w1 ⟨rfl, h1⟩
  replace hb := bthen hb h1
  clear h1
  go_wp2
  go_ret
  exact ⟨rfl, hb⟩
set_option maxHeartbeats 1000000 in
theorem side_walk {A B C D X Y : List Value} {n : Int} (hA : Rc A) (hB : Rc B) (hC : Rc C) (hD : Rc D) (hX : Rc X) (hY : Rc Y) (T : Tl 77 #[vl (A ++ B), vl (C ++ D), vl (X ++ Y)] (.tuple #[.int .i64 n, .bool true])) : Tl 60 #[vl (sgm A B C D), vl (X ++ Y)] (.int .i64 n) := by
  intro w
  unfold vl at *
  have HT := Lib.hid T
  have HA := Lib.hid hA
  have HB := Lib.hid hB
  have HC := Lib.hid hC
  have HD := Lib.hid hD
  have HX := Lib.hid hX
  have HY := Lib.hid hY
  unfold Tl at HT
  clear T hA hB hC hD hX hY
  have b2 := ((Blk.new w (sgm A B C D) 93 rfl).old (.cells (X ++ Y).toArray 47))
  have b3 := (Blk.new (w.alloc (.cells (sgm A B C D).toArray 93)) (X ++ Y) 47 (b := w.heap.size + 1) (by simp))
  have hb : Below w.heap.size w ((w.alloc (.cells (sgm A B C D).toArray 93)).alloc (.cells (X ++ Y).toArray 47)) := (((Below.refl _ _).alloc (Nat.le_refl _) _).alloc (by simp <;> omega) _)
  have hk : ((w.alloc (.cells (sgm A B C D).toArray 93)).alloc (.cells (X ++ Y).toArray 47)).heap.size = w.heap.size + 1 + 1 := by simp
  go_enter Tryz.func60, Tryz.ntmps60
  go_wp2_with (first | (with_reducible refine ldP rfl rfl rfl b2 (sgm_a HA.out HB.out HC.out HD.out) (wholeP HA.out HB.out) ?_) | (with_reducible refine ldP rfl rfl rfl b2 (sgm_b HA.out HB.out HC.out HD.out) (wholeP HC.out HD.out) ?_) | (with_reducible refine ldP rfl rfl rfl b3 (part_all _) (wholeP HX.out HY.out) ?_))
  refine (HT.out _).mono ?_
  rintro e w1 ⟨rfl, h1⟩
  replace hb := bthen hb h1
  clear h1
  go_wp2
  go_ret
  exact ⟨rfl, hb⟩
theorem eqPgb' {ops : Array Oper} {rest : List Oper} {o : Oper} {a : Act} {w : World} {Q : Exit → Act → World → Prop} {p q : Operand} {x y u v : Rat} {ty : TypeId} {b : Bool} (hw : Region.wanted o (yielded ops a.tmps) = true) (ho : o.op = .binOp .eql 47 p q ty) (hp : a.eval p = .agg (fq x ++ fq y).toArray) (hq : a.eval q = .agg (fq u ++ fq v).toArray) (hx : Fq2 x) (hy : Fq2 y) (hu : Fq2 u) (hv : Fq2 v) (hb : decide (x = u ∧ y = v) = b)
    (hr : wpList Tryz.prog ops Q rest (a.put o.dst (.bool b)) w) : wpList Tryz.prog ops Q (o :: rest) a w := by
  subst hb
  exact eqPg hw ho hp hq hx hy hu hv hr
set_option maxHeartbeats 1000000 in
theorem ends_q {ax ay cx cy x y : Rat} (ha : Gd ax ay) (hc : Gd cx cy) (hx : Gd x y) : Tl 72 #[vl (sgm (fq ax) (fq ay) (fq cx) (fq cy)), vl (fq x ++ fq y)] (.bool (decide (x = ax ∧ y = ay) || decide (x = cx ∧ y = cy))) := by
  intro w
  unfold vl at *
  obtain ⟨b, hbb⟩ : ∃ b, decide (x = ax ∧ y = ay) = b := ⟨_, rfl⟩
  obtain ⟨c, hcc⟩ : ∃ c, decide (x = cx ∧ y = cy) = c := ⟨_, rfl⟩
  rw [hbb, hcc]
  have HQ : Hid (Fq2 x ∧ Fq2 y ∧ Fq2 ax ∧ Fq2 ay ∧ Fq2 cx ∧ Fq2 cy) := ⟨hx.f.1, hx.f.2, ha.f.1, ha.f.2, hc.f.1, hc.f.2⟩
  have HB := Lib.hid hbb
  have HC := Lib.hid hcc
  clear ha hc hx hbb hcc
  have b2 := ((Blk.new w (sgm (fq ax) (fq ay) (fq cx) (fq cy)) 93 rfl).old (.cells (fq x ++ fq y).toArray 47))
  have b3 := (Blk.new (w.alloc (.cells (sgm (fq ax) (fq ay) (fq cx) (fq cy)).toArray 93)) (fq x ++ fq y) 47 (b := w.heap.size + 1) (by simp))
  have hb : Below w.heap.size w ((w.alloc (.cells (sgm (fq ax) (fq ay) (fq cx) (fq cy)).toArray 93)).alloc (.cells (fq x ++ fq y).toArray 47)) := (((Below.refl _ _).alloc (Nat.le_refl _) _).alloc (by simp <;> omega) _)
  have hk : ((w.alloc (.cells (sgm (fq ax) (fq ay) (fq cx) (fq cy)).toArray 93)).alloc (.cells (fq x ++ fq y).toArray 47)).heap.size = w.heap.size + 1 + 1 := by simp
  cases b with
  | true =>
    go_enter Tryz.func72, Tryz.ntmps72
    go_wp2_with (first | (with_reducible refine ldP rfl rfl rfl b2 (sgm_a (rc_q _) (rc_q _) (rc_q _) (rc_q _)) (wholeP (rc_q _) (rc_q _)) ?_) | (with_reducible refine ldP rfl rfl rfl b3 (part_all _) (wholeP (rc_q _) (rc_q _)) ?_) | (with_reducible refine eqP1 rfl rfl rfl rfl HQ.out.1 HQ.out.2.1 HQ.out.2.2.1 HQ.out.2.2.2.1 HB.out ?_))
    go_ret
    exact ⟨rfl, hb⟩
  | false =>
    go_enter Tryz.func72, Tryz.ntmps72
    go_wp2_with (first | (with_reducible refine ldP rfl rfl rfl b2 (sgm_a (rc_q _) (rc_q _) (rc_q _) (rc_q _)) (wholeP (rc_q _) (rc_q _)) ?_) | (with_reducible refine ldP rfl rfl rfl b3 (part_all _) (wholeP (rc_q _) (rc_q _)) ?_) | (with_reducible refine eqP1 rfl rfl rfl rfl HQ.out.1 HQ.out.2.1 HQ.out.2.2.1 HQ.out.2.2.2.1 HB.out ?_) | (refine ldPg (by rfl) rfl rfl b2 (sgm_b (rc_q _) (rc_q _) (rc_q _) (rc_q _)) (wholeP (rc_q _) (rc_q _)) ?_) | (refine ldPg (by rfl) rfl rfl b3 (part_all _) (wholeP (rc_q _) (rc_q _)) ?_) | (refine eqPgb' (by rfl) rfl rfl rfl HQ.out.1 HQ.out.2.1 HQ.out.2.2.2.2.1 HQ.out.2.2.2.2.2 HC.out ?_))
    go_ret
    exact ⟨rfl, hb⟩
set_option maxHeartbeats 1000000 in
theorem splits_walk {A B C D X Y U V : List Value} {c d q : Int} {b : Bool} (hA : Rc A) (hB : Rc B) (hC : Rc C) (hD : Rc D) (hX : Rc X) (hY : Rc Y) (hU : Rc U) (hV : Rc V) (T1 : Tl 60 #[vl (sgm A B C D), vl (X ++ Y)] (.int .i64 c)) (T2 : Tl 60 #[vl (sgm A B C D), vl (U ++ V)] (.int .i64 d)) (hm : c * d = q) (hq : -9223372036854775808 ≤ q ∧ q ≤ 9223372036854775807) (he : decide (q < 0) = b) : Tl 95 #[vl (sgm A B C D), vl (sgm X Y U V)] (.bool b) := by
  intro w
  unfold vl at *
  have HT1 := Lib.hid T1
  have HT2 := Lib.hid T2
  have HA := Lib.hid hA
  have HB := Lib.hid hB
  have HC := Lib.hid hC
  have HD := Lib.hid hD
  have HX := Lib.hid hX
  have HY := Lib.hid hY
  have HU := Lib.hid hU
  have HV := Lib.hid hV
  have HM := Lib.hid hm
  have HQ := Lib.hid hq
  have HE := Lib.hid he
  unfold Tl at HT1 HT2
  clear T1 T2 hA hB hC hD hX hY hU hV hm hq he
  have b2 := ((Blk.new w (sgm A B C D) 93 rfl).old (.cells (sgm X Y U V).toArray 93))
  have b3 := (Blk.new (w.alloc (.cells (sgm A B C D).toArray 93)) (sgm X Y U V) 93 (b := w.heap.size + 1) (by simp))
  have hb : Below w.heap.size w ((w.alloc (.cells (sgm A B C D).toArray 93)).alloc (.cells (sgm X Y U V).toArray 93)) := (((Below.refl _ _).alloc (Nat.le_refl _) _).alloc (by simp <;> omega) _)
  have hk : ((w.alloc (.cells (sgm A B C D).toArray 93)).alloc (.cells (sgm X Y U V).toArray 93)).heap.size = w.heap.size + 1 + 1 := by simp
  go_enter Tryz.func95, Tryz.ntmps95
  go_wp2_with fail
  refine rg_start [] (by kernel_rfl) (fun hS => ?_)
  replace hb := hb.drew
  replace b2 := b2.drew
  replace b3 := b3.drew
  refine rg_ldP 0 rfl (by kernel_rfl) (by kernel_rfl) (by kernel_rfl) (by rfl) hS rfl rfl b2 (by simp <;> omega) (part_all _) (wholeG HA.out HB.out HC.out HD.out) ?_
  try simp only [Act.put, List.setIfInBounds_toArray, List.set_cons_zero, List.set_cons_succ]
  refine rg_take 1 rfl (by kernel_rfl) (by kernel_rfl) (by kernel_rfl) (by rfl) hS (v := ?_) ?_ ?_
  rotate_left
  · (intro w' hS'; go_simp <;> try with_reducible rfl)
  try simp only [Act.put, List.setIfInBounds_toArray, List.set_cons_zero, List.set_cons_succ]
  refine rg_ldP 2 rfl (by kernel_rfl) (by kernel_rfl) (by kernel_rfl) (by rfl) hS rfl rfl b3 (by simp <;> omega) (sgm_a HX.out HY.out HU.out HV.out) (wholeP HX.out HY.out) ?_
  try simp only [Act.put, List.setIfInBounds_toArray, List.set_cons_zero, List.set_cons_succ]
  refine rg_ldP 4 rfl (by kernel_rfl) (by kernel_rfl) (by kernel_rfl) (by rfl) hS rfl rfl b2 (by simp <;> omega) (part_all _) (wholeG HA.out HB.out HC.out HD.out) ?_
  try simp only [Act.put, List.setIfInBounds_toArray, List.set_cons_zero, List.set_cons_succ]
  refine rg_take 5 rfl (by kernel_rfl) (by kernel_rfl) (by kernel_rfl) (by rfl) hS (v := ?_) ?_ ?_
  rotate_left
  · (intro w' hS'; go_simp <;> try with_reducible rfl)
  try simp only [Act.put, List.setIfInBounds_toArray, List.set_cons_zero, List.set_cons_succ]
  refine rg_ldP 6 rfl (by kernel_rfl) (by kernel_rfl) (by kernel_rfl) (by rfl) hS rfl rfl b3 (by simp <;> omega) (sgm_b HX.out HY.out HU.out HV.out) (wholeP HU.out HV.out) ?_
  try simp only [Act.put, List.setIfInBounds_toArray, List.set_cons_zero, List.set_cons_succ]
  refine rg_eff 3 rfl (by kernel_rfl) (by rfl) (fun K hK => ?_)
  go_simp
  refine (HT1.out _).mono ?_
  rintro e w1 ⟨rfl, h1⟩
  refine hK _ _ (hS.call h1) (fun hS => ?_)
  clear hK K
  replace hb := bthen hb h1
  clear h1
  try simp only [Act.put, List.setIfInBounds_toArray, List.set_cons_zero, List.set_cons_succ]
  refine rg_eff 7 rfl (by kernel_rfl) (by rfl) (fun K hK => ?_)
  go_simp
  refine (HT2.out _).mono ?_
  rintro e w1 ⟨rfl, h1⟩
  refine hK _ _ (hS.call h1) (fun hS => ?_)
  clear hK K
  replace hb := bthen hb h1
  clear h1
  try simp only [Act.put, List.setIfInBounds_toArray, List.set_cons_zero, List.set_cons_succ]
  refine rg_take 8 rfl (by kernel_rfl) (by kernel_rfl) (by kernel_rfl) (by rfl) hS (v := .int .i64 q) (fun w' _ => op_mul HM.out HQ.out rfl rfl rfl w') ?_
  try simp only [Act.put, List.setIfInBounds_toArray, List.set_cons_zero, List.set_cons_succ]
  refine rg_take 9 rfl (by kernel_rfl) (by kernel_rfl) (by kernel_rfl) (by rfl) hS (v := .bool b) (fun w' _ => op_ltz HE.out rfl rfl w') ?_
  try simp only [Act.put, List.setIfInBounds_toArray, List.set_cons_zero, List.set_cons_succ]
  refine rg_take 10 rfl (by kernel_rfl) (by kernel_rfl) (by kernel_rfl) (by rfl) hS (v := ?_) ?_ ?_
  rotate_left
  · (intro w' hS'; go_simp <;> try with_reducible rfl)
  try simp only [Act.put, List.setIfInBounds_toArray, List.set_cons_zero, List.set_cons_succ]
  refine rg_done (by kernel_rfl) ?_
  go_wp2
  go_ret
  exact ⟨rfl, hb⟩
set_option maxHeartbeats 1000000 in
theorem crosses_a {A B C D X Y U V : List Value} {s t : Bool} (hA : Rc A) (hB : Rc B) (hC : Rc C) (hD : Rc D) (hX : Rc X) (hY : Rc Y) (hU : Rc U) (hV : Rc V) (T1 : Tl 94 #[vl (bx A B C D), vl (bx X Y U V)] (.bool false)) (T2 : Tl 95 #[vl (sgm A B C D), vl (sgm X Y U V)] (.bool s)) (T3 : Tl 95 #[vl (sgm X Y U V), vl (sgm A B C D)] (.bool t)) : Tl 83 #[vl (sgm A B C D), vl (sgm X Y U V)] (.bool false) := by
  intro w
  unfold vl at *
  have HT1 := Lib.hid T1
  have HT2 := Lib.hid T2
  have HT3 := Lib.hid T3
  have HA := Lib.hid hA
  have HB := Lib.hid hB
  have HC := Lib.hid hC
  have HD := Lib.hid hD
  have HX := Lib.hid hX
  have HY := Lib.hid hY
  have HU := Lib.hid hU
  have HV := Lib.hid hV
  unfold Tl at HT1 HT2 HT3
  clear T1 T2 T3 hA hB hC hD hX hY hU hV
  have b2 := ((Blk.new w (sgm A B C D) 93 rfl).old (.cells (sgm X Y U V).toArray 93))
  have b3 := (Blk.new (w.alloc (.cells (sgm A B C D).toArray 93)) (sgm X Y U V) 93 (b := w.heap.size + 1) (by simp))
  have hb : Below w.heap.size w ((w.alloc (.cells (sgm A B C D).toArray 93)).alloc (.cells (sgm X Y U V).toArray 93)) := (((Below.refl _ _).alloc (Nat.le_refl _) _).alloc (by simp <;> omega) _)
  have hk : ((w.alloc (.cells (sgm A B C D).toArray 93)).alloc (.cells (sgm X Y U V).toArray 93)).heap.size = w.heap.size + 1 + 1 := by simp
  go_enter Tryz.func83, Tryz.ntmps83
  go_wp2_with (first | (with_reducible refine ldP rfl rfl rfl b2 sgm_box (wholeB HA.out HB.out HC.out HD.out) ?_) | (with_reducible refine ldP rfl rfl rfl b3 sgm_box (wholeB HX.out HY.out HU.out HV.out) ?_))
  refine (HT1.out _).mono ?_
  rintro e w1 ⟨rfl, h1⟩
  replace b2 := b2.call h1
  replace b3 := b3.call h1
  replace hb := bthen hb h1
  clear h1
  go_wp2
  go_ret
  exact ⟨rfl, hb⟩
set_option maxHeartbeats 1000000 in
theorem crosses_b {A B C D X Y U V : List Value} {t : Bool} (hA : Rc A) (hB : Rc B) (hC : Rc C) (hD : Rc D) (hX : Rc X) (hY : Rc Y) (hU : Rc U) (hV : Rc V) (T1 : Tl 94 #[vl (bx A B C D), vl (bx X Y U V)] (.bool true)) (T2 : Tl 95 #[vl (sgm A B C D), vl (sgm X Y U V)] (.bool false)) (T3 : Tl 95 #[vl (sgm X Y U V), vl (sgm A B C D)] (.bool t)) : Tl 83 #[vl (sgm A B C D), vl (sgm X Y U V)] (.bool false) := by
  intro w
  unfold vl at *
  have HT1 := Lib.hid T1
  have HT2 := Lib.hid T2
  have HT3 := Lib.hid T3
  have HA := Lib.hid hA
  have HB := Lib.hid hB
  have HC := Lib.hid hC
  have HD := Lib.hid hD
  have HX := Lib.hid hX
  have HY := Lib.hid hY
  have HU := Lib.hid hU
  have HV := Lib.hid hV
  unfold Tl at HT1 HT2 HT3
  clear T1 T2 T3 hA hB hC hD hX hY hU hV
  have b2 := ((Blk.new w (sgm A B C D) 93 rfl).old (.cells (sgm X Y U V).toArray 93))
  have b3 := (Blk.new (w.alloc (.cells (sgm A B C D).toArray 93)) (sgm X Y U V) 93 (b := w.heap.size + 1) (by simp))
  have hb : Below w.heap.size w ((w.alloc (.cells (sgm A B C D).toArray 93)).alloc (.cells (sgm X Y U V).toArray 93)) := (((Below.refl _ _).alloc (Nat.le_refl _) _).alloc (by simp <;> omega) _)
  have hk : ((w.alloc (.cells (sgm A B C D).toArray 93)).alloc (.cells (sgm X Y U V).toArray 93)).heap.size = w.heap.size + 1 + 1 := by simp
  go_enter Tryz.func83, Tryz.ntmps83
  go_wp2_with (first | (with_reducible refine ldP rfl rfl rfl b2 sgm_box (wholeB HA.out HB.out HC.out HD.out) ?_) | (with_reducible refine ldP rfl rfl rfl b3 sgm_box (wholeB HX.out HY.out HU.out HV.out) ?_))
  refine (HT1.out _).mono ?_
  rintro e w1 ⟨rfl, h1⟩
  replace b2 := b2.call h1
  replace b3 := b3.call h1
  replace hb := bthen hb h1
  clear h1
  go_wp2_with (first | (refine ldPg (by rfl) rfl rfl b2 (part_all _) (wholeG HA.out HB.out HC.out HD.out) ?_) | (refine ldPg (by rfl) rfl rfl b3 (part_all _) (wholeG HX.out HY.out HU.out HV.out) ?_))
  refine (HT2.out _).mono ?_
  rintro e w1 ⟨rfl, h1⟩
  replace b2 := b2.call h1
  replace b3 := b3.call h1
  replace hb := bthen hb h1
  clear h1
  go_wp2
  go_ret
  exact ⟨rfl, hb⟩
set_option maxHeartbeats 1000000 in
theorem crosses_c {A B C D X Y U V : List Value} {t : Bool} (hA : Rc A) (hB : Rc B) (hC : Rc C) (hD : Rc D) (hX : Rc X) (hY : Rc Y) (hU : Rc U) (hV : Rc V) (T1 : Tl 94 #[vl (bx A B C D), vl (bx X Y U V)] (.bool true)) (T2 : Tl 95 #[vl (sgm A B C D), vl (sgm X Y U V)] (.bool true)) (T3 : Tl 95 #[vl (sgm X Y U V), vl (sgm A B C D)] (.bool t)) : Tl 83 #[vl (sgm A B C D), vl (sgm X Y U V)] (.bool t) := by
  intro w
  unfold vl at *
  have HT1 := Lib.hid T1
  have HT2 := Lib.hid T2
  have HT3 := Lib.hid T3
  have HA := Lib.hid hA
  have HB := Lib.hid hB
  have HC := Lib.hid hC
  have HD := Lib.hid hD
  have HX := Lib.hid hX
  have HY := Lib.hid hY
  have HU := Lib.hid hU
  have HV := Lib.hid hV
  unfold Tl at HT1 HT2 HT3
  clear T1 T2 T3 hA hB hC hD hX hY hU hV
  have b2 := ((Blk.new w (sgm A B C D) 93 rfl).old (.cells (sgm X Y U V).toArray 93))
  have b3 := (Blk.new (w.alloc (.cells (sgm A B C D).toArray 93)) (sgm X Y U V) 93 (b := w.heap.size + 1) (by simp))
  have hb : Below w.heap.size w ((w.alloc (.cells (sgm A B C D).toArray 93)).alloc (.cells (sgm X Y U V).toArray 93)) := (((Below.refl _ _).alloc (Nat.le_refl _) _).alloc (by simp <;> omega) _)
  have hk : ((w.alloc (.cells (sgm A B C D).toArray 93)).alloc (.cells (sgm X Y U V).toArray 93)).heap.size = w.heap.size + 1 + 1 := by simp
  go_enter Tryz.func83, Tryz.ntmps83
  go_wp2_with (first | (with_reducible refine ldP rfl rfl rfl b2 sgm_box (wholeB HA.out HB.out HC.out HD.out) ?_) | (with_reducible refine ldP rfl rfl rfl b3 sgm_box (wholeB HX.out HY.out HU.out HV.out) ?_))
  refine (HT1.out _).mono ?_
  rintro e w1 ⟨rfl, h1⟩
  replace b2 := b2.call h1
  replace b3 := b3.call h1
  replace hb := bthen hb h1
  clear h1
  go_wp2_with (first | (refine ldPg (by rfl) rfl rfl b2 (part_all _) (wholeG HA.out HB.out HC.out HD.out) ?_) | (refine ldPg (by rfl) rfl rfl b3 (part_all _) (wholeG HX.out HY.out HU.out HV.out) ?_))
  refine (HT2.out _).mono ?_
  rintro e w1 ⟨rfl, h1⟩
  replace b2 := b2.call h1
  replace b3 := b3.call h1
  replace hb := bthen hb h1
  clear h1
  go_wp2_with (first | (refine ldPg (by rfl) rfl rfl b2 (part_all _) (wholeG HA.out HB.out HC.out HD.out) ?_) | (refine ldPg (by rfl) rfl rfl b3 (part_all _) (wholeG HX.out HY.out HU.out HV.out) ?_))
  refine (HT3.out _).mono ?_
  rintro e w1 ⟨rfl, h1⟩
  replace hb := bthen hb h1
  clear h1
  go_wp2
  go_ret
  exact ⟨rfl, hb⟩
set_option maxHeartbeats 1000000 in
theorem past_walk {A B C D X Y U V : List Value} {s : Bool} (hA : Rc A) (hB : Rc B) (hC : Rc C) (hD : Rc D) (hX : Rc X) (hY : Rc Y) (hU : Rc U) (hV : Rc V) (T : Tl 83 #[vl (sgm A B C D), vl (sgm X Y U V)] (.bool s)) : Tl 71 #[vl (sgm A B C D), vl (sgm X Y U V)] (.int .i64 (if s then 2 else 0)) := by
  intro w
  unfold vl at *
  have HT := Lib.hid T
  have HA := Lib.hid hA
  have HB := Lib.hid hB
  have HC := Lib.hid hC
  have HD := Lib.hid hD
  have HX := Lib.hid hX
  have HY := Lib.hid hY
  have HU := Lib.hid hU
  have HV := Lib.hid hV
  unfold Tl at HT
  clear T hA hB hC hD hX hY hU hV
  have b2 := ((Blk.new w (sgm A B C D) 93 rfl).old (.cells (sgm X Y U V).toArray 93))
  have b3 := (Blk.new (w.alloc (.cells (sgm A B C D).toArray 93)) (sgm X Y U V) 93 (b := w.heap.size + 1) (by simp))
  have hb : Below w.heap.size w ((w.alloc (.cells (sgm A B C D).toArray 93)).alloc (.cells (sgm X Y U V).toArray 93)) := (((Below.refl _ _).alloc (Nat.le_refl _) _).alloc (by simp <;> omega) _)
  have hk : ((w.alloc (.cells (sgm A B C D).toArray 93)).alloc (.cells (sgm X Y U V).toArray 93)).heap.size = w.heap.size + 1 + 1 := by simp
  cases s
  all_goals
    go_enter Tryz.func71, Tryz.ntmps71
    go_wp2_with (first | (with_reducible refine ldP rfl rfl rfl b2 (part_all _) (wholeG HA.out HB.out HC.out HD.out) ?_) | (with_reducible refine ldP rfl rfl rfl b3 (part_all _) (wholeG HX.out HY.out HU.out HV.out) ?_))
    refine (HT.out _).mono ?_
    rintro e w1 ⟨rfl, h1⟩
    replace hb := bthen hb h1
    go_wp2
    go_ret
    exact ⟨rfl, hb⟩
end Go.Proofs.YtoegjibeomhekaaGreat
