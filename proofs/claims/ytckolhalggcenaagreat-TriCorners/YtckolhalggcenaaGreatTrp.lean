/- Joined of: Trd Trh Trp. -/
import Derived.Test.YtckolhalggcenaaGreatLnb
import Derived.Test.YtckolhalggcenaaGreatBsn
import Derived.Test.YtckolhalggcenaaGreatTrc
import Derived.Test.YtckolhalggcenaaGreatTsi
import Derived.Test.YtckolhalggcenaaGreatPnq
import Derived.Test.YtckolhalggcenaaGreatLnc
/- Triangles: are. -/
namespace Go.Proofs.YtckolhalggcenaaGreat
set_option linter.unusedSimpArgs false
set_option linter.unusedVariables false
open Go.RowKit
set_option maxRecDepth 100000
/-- are: all of a row. -/
theorem tare_walk (n b f c : Nat) (A B : Nat → List Value) (s : Nat → Bool) (w : World) (hn : n ≤ 1000) (hA : ∀ k, k < n → Rc (A k) ∧ Rc (B k)) (hT : ∀ k, k < n → Tl 33 #[vl (A k ++ B k)] (.bool (s k))) (hbw : b < w.heap.size) (hr : ∀ k, k < n → w.rangeAt b (f + k * 132) (A k ++ B k)) (r : Bool) (hs : (r = true ∧ ∀ k, k < n → s k = true) ∨ (r = false ∧ ∃ k, k < n ∧ s k = false)) :
    Calls Tryz.prog 16 #[.slice (some ⟨b, f, none⟩) n c] w fun e w' => e = .returned (.bool r) ∧ Below w.heap.size w w' := by
  have HA := Lib.hid hA
  have HT := Lib.hid hT
  have Hr := Lib.hid hr
  have HS := Lib.hid hs
  unfold Tl vl at HT
  clear hA hT hr hs
  go_enter Tryz.func16, Tryz.ntmps16
  go_wp2
  go_loopw [7] (fun i wr => ∃ k : Nat, k ≤ n ∧ i = .int .i64 k ∧ (∀ j, j < k → s j = true) ∧ Below w.heap.size w wr) (fun i _ => n - (intOf i).toNat)
  case atStart => exact ⟨0, Nat.zero_le _, rfl, fun j hj => absurd hj (by omega), Below.refl _ _⟩
  case round =>
    obtain ⟨k, hk, rfl, hall, hb⟩ := hrel
    have HL := Lib.hid hall
    clear hall
    by_cases hlt : k < n
    · have r0 : wr.rangeAt b (f + k * 132) (A k ++ B k) := fun j v hv => by
        rw [hb.cell (p := ⟨b, f + k * 132 + j, none⟩) hbw]
        exact Hr.out k hlt j v hv
      have HF := Lib.hid (HT.out k hlt)
      have hlt' : (k : Int) < (n : Int) := by omega
      obtain ⟨ha, hb2⟩ := HA.out k hlt
      have HX := Lib.hid ha
      have HY := Lib.hid hb2
      clear ha hb2
      generalize A k = X at *
      generalize B k = Y at *
      have a3 := Blk.new wr p0 29 rfl
      have d3 := a3.row (X ++ Y)
      have hb' := below_row (hb.alloc hb.size (.cells p0.toArray 29)) (g := wr.heap.size) hb.size (X ++ Y).toArray
      go_wp2_with (first | (with_reducible refine ldPr rfl rfl rfl r0 HX.out HY.out ?_) | (with_reducible refine alP rfl rfl ?_) | (with_reducible refine stPt rfl rfl rfl rfl a3 p0_len HX.out HY.out ?_) | (with_reducible refine ldPt rfl rfl rfl d3 HX.out HY.out ?_))
      refine (HF.out _).mono ?_
      rintro e w1 ⟨rfl, h1⟩
      replace hb' := bthen hb' h1
      obtain ⟨sk, hsk⟩ : ∃ sk, s k = sk := ⟨_, rfl⟩
      rw [hsk]
      cases sk with
      | true =>
        have EK := Lib.hid hsk
        clear hsk
        go_wp2
        go_roundw
        case rel => exact ⟨k + 1, by omega, by go_num, fun j hj => by
          rcases Nat.lt_or_ge j k with h | h
          · exact HL.out j h
          · obtain rfl : j = k := by omega
            exact EK.out, hb'⟩
        case measure => simp [intOf]; omega
      | false =>
        have ER : r = false := by
          rcases HS.out with ⟨_, h⟩ | ⟨h, _⟩
          · rw [h k hlt] at hsk; cases hsk
          · exact h
        subst ER
        clear hsk
        go_wp2
        go_ret
        exact ⟨rfl, hb'⟩
    · obtain rfl : k = n := by omega
      have ER : r = true := by
        rcases HS.out with ⟨h, _⟩ | ⟨_, j, hj, h⟩
        · exact h
        · rw [HL.out j hj] at h; cases h
      subst ER
      go_wp2
      go_ret
      exact ⟨rfl, hb⟩
theorem tare_three {w : World} {b : Nat} {t : TypeId} {A B C D E F : List Value} {s s' s'' : Bool} (hA : Rc A) (hB : Rc B) (hC : Rc C) (hD : Rc D) (hE : Rc E) (hF : Rc F) (T : Tl 33 #[vl (A ++ B)] (.bool s)) (T' : Tl 33 #[vl (C ++ D)] (.bool s')) (T'' : Tl 33 #[vl (E ++ F)] (.bool s'')) (h : Blk w b (j3 (A ++ B) (C ++ D) (E ++ F)) t) :
    Calls Tryz.prog 16 #[.slice (some ⟨b, 0, none⟩) 3 3] w fun e w' => e = .returned (.bool (s && (s' && s''))) ∧ Below w.heap.size w w' :=
  tare_walk 3 b 0 3 (fun k => if k = 0 then A else if k = 1 then C else E) (fun k => if k = 0 then B else if k = 1 then D else F) (fun k => if k = 0 then s else if k = 1 then s' else s'') w (by omega) (fun k hk => by
    rcases (show k = 0 ∨ k = 1 ∨ k = 2 by omega) with rfl | rfl | rfl
    · exact ⟨hA, hB⟩
    · exact ⟨hC, hD⟩
    · exact ⟨hE, hF⟩) (fun k hk => by
    rcases (show k = 0 ∨ k = 1 ∨ k = 2 by omega) with rfl | rfl | rfl
    · exact T
    · exact T'
    · exact T'') h.lt (fun k hk => pr_three hA hB hC hD hE hF h k hk) (s && (s' && s'')) (by
    cases s with
    | false => exact .inr ⟨rfl, 0, by omega, rfl⟩
    | true =>
      cases s' with
      | false => exact .inr ⟨rfl, 1, by omega, rfl⟩
      | true =>
        cases s'' with
        | false => exact .inr ⟨rfl, 2, by omega, rfl⟩
        | true => exact .inl ⟨rfl, fun k hk => by split; rfl; split <;> rfl⟩)
theorem tpr_list {w : World} {b : Nat} {t : TypeId} {Ps : List (List Value)} (hl : ∀ P ∈ Ps, P.length = 132) (h : Blk w b (jn Ps) t) {k : Nat} {P : List Value} (hk : Ps[k]? = some P) : w.rangeAt b (0 + k * 132) P := fun j v hv => by
  apply h.cell
  rw [Nat.zero_add]
  exact flat_get 132 Ps k P j v hl hk hv
theorem tare_four {w : World} {b : Nat} {t : TypeId} {A B C D E F G H : List Value} {s s1 s2 s3 : Bool} (hA : Rc A) (hB : Rc B) (hC : Rc C) (hD : Rc D) (hE : Rc E) (hF : Rc F) (hG : Rc G) (hH : Rc H) (T : Tl 33 #[vl (A ++ B)] (.bool s)) (T1 : Tl 33 #[vl (C ++ D)] (.bool s1)) (T2 : Tl 33 #[vl (E ++ F)] (.bool s2)) (T3 : Tl 33 #[vl (G ++ H)] (.bool s3)) (h : Blk w b (jn [A ++ B, C ++ D, E ++ F, G ++ H]) t) :
    Calls Tryz.prog 16 #[.slice (some ⟨b, 0, none⟩) 4 4] w fun e w' => e = .returned (.bool (s && (s1 && (s2 && s3)))) ∧ Below w.heap.size w w' := by
  have hl : ∀ P ∈ [A ++ B, C ++ D, E ++ F, G ++ H], P.length = 132 := fun P hP => by
    simp only [List.mem_cons, List.not_mem_nil, or_false] at hP
    rcases hP with rfl | rfl | rfl | rfl
    · exact pt_len hA hB
    · exact pt_len hC hD
    · exact pt_len hE hF
    · exact pt_len hG hH
  refine tare_walk 4 b 0 4 (fun k => if k = 0 then A else if k = 1 then C else if k = 2 then E else G) (fun k => if k = 0 then B else if k = 1 then D else if k = 2 then F else H) (fun k => if k = 0 then s else if k = 1 then s1 else if k = 2 then s2 else s3) w (by omega) (fun k hk => ?_) (fun k hk => ?_) h.lt (fun k hk => ?_) _ ?_
  · rcases (show k = 0 ∨ k = 1 ∨ k = 2 ∨ k = 3 by omega) with rfl | rfl | rfl | rfl
    · exact ⟨hA, hB⟩
    · exact ⟨hC, hD⟩
    · exact ⟨hE, hF⟩
    · exact ⟨hG, hH⟩
  · rcases (show k = 0 ∨ k = 1 ∨ k = 2 ∨ k = 3 by omega) with rfl | rfl | rfl | rfl
    · exact T
    · exact T1
    · exact T2
    · exact T3
  · rcases (show k = 0 ∨ k = 1 ∨ k = 2 ∨ k = 3 by omega) with rfl | rfl | rfl | rfl <;> exact tpr_list hl h rfl
  · cases s with
    | false => exact .inr ⟨rfl, 0, by omega, rfl⟩
    | true =>
      cases s1 with
      | false => exact .inr ⟨rfl, 1, by omega, rfl⟩
      | true =>
        cases s2 with
        | false => exact .inr ⟨rfl, 2, by omega, rfl⟩
        | true =>
          cases s3 with
          | false => exact .inr ⟨rfl, 3, by omega, rfl⟩
          | true => exact .inl ⟨rfl, fun k hk => by simp⟩
end Go.Proofs.YtckolhalggcenaaGreat

/- Package tri: Area2, Sides, Good, Sharp. -/
namespace Go.Proofs.YtckolhalggcenaaGreat
set_option linter.unusedSimpArgs false
set_option linter.unusedVariables false
open Go.RowKit
set_option maxRecDepth 100000
section
variable {ops : Array Oper} {rest : List Oper} {o : Oper} {a : Act} {w : World} {Q' : Exit → Act → World → Prop}
theorem fdC {t : TypeId} {x : Operand} {cs X : List Value} {k : Nat} (hgd : o.guard = none) (ho : o.op = .field t x k) (hx : a.eval x = .agg cs.toArray) (h : ∀ w, (Instr.field t (.agg cs.toArray) k).run Tryz.prog w = .ok (.agg X.toArray) w)
    (hr : wpList Tryz.prog ops Q' rest (a.put o.dst (.agg X.toArray)) w) : wpList Tryz.prog ops Q' (o :: rest) a w :=
  wpList_plain hgd fun K hK => by
    have := hK _ _ hr
    unfold Oper.wp execOp
    simp only [ho, Sem.run_bind]
    rw [hx, h w]
    exact this
end
section
variable {P : Program} {fn : Func} {a : Act} {w : World} {R : Ending → World → Prop}
theorem ret_ctt {p q r : Tmp} {ty t : TypeId} {b : Nat} {cs : List Value} {v u : Value} (hres : fn.results = #[.cell p ty, .tmp q, .tmp r]) (hd : a.defers = []) (hp : a.tmps.getD p undef = .pointer (some ⟨b, 0, none⟩)) (hq : a.tmps.getD q undef = v) (hr : a.tmps.getD r undef = u)
    (W : Whole P ty cs.length) (h : Blk w b cs t) (hR : R (.returned (.tuple #[.agg cs.toArray, v, u])) w) : bodyPost P fn R .ret a w := by
  have hp' : a.tmps[p]?.getD undef = .pointer (some ⟨b, 0, none⟩) := by simpa using hp
  have hq' : a.tmps[q]?.getD undef = v := by simpa using hq
  have hr' : a.tmps[r]?.getD undef = u := by simpa using hr
  exact bodyPost_ret (by simp [results, hres, hp', hq', hr', asAddr, W.load h]) hd hR
end
section
variable {ax ay bx by' cx cy : Rat} (ha : Gd ax ay) (hb' : Gd bx by') (hc : Gd cx cy)
abbrev tqr (ax ay bx by' cx cy : Rat) : List Value := cnc (fq ax ++ fq ay) (fq bx ++ fq by') (fq cx ++ fq cy)
include ha hb' hc
set_option maxHeartbeats 4000000 in
theorem Area2_w {q : Rat} (X : Tl 28 #[vl (tqr ax ay bx by' cx cy)] (vl (fq q))) : Tl 13 #[vp ax ay, vp bx by', vp cx cy] (.tuple #[vl (fq q), .bool true]) := by
  intro w
  have HT := Lib.hid (Isp_q ha)
  have HT' := Lib.hid (Isp_q hb')
  have HT'' := Lib.hid (Isp_q hc)
  have HM := Lib.hid (triangleOf_w (pc_q ax ay) (pc_q bx by') (pc_q cx cy))
  have HF := Lib.hid (fd_cn (pc_q ax ay) (pc_q bx by') (pc_q cx cy))
  have HX := Lib.hid X
  have hp1 := pc_q ax ay
  have hp2 := pc_q bx by'
  have hp3 := pc_q cx cy
  unfold tqr at *
  unfold vp vl at *
  unfold Tl at HM HX
  clear ha hb' hc X
  have b3 := ((((Blk.new w (fq ax ++ fq ay) 29 rfl).old (.cells (fq bx ++ fq by').toArray 29)).old (.cells (fq cx ++ fq cy).toArray 29)).old (.cells (rr false 0 false 0).toArray 27))
  have b4 := (((Blk.new (w.alloc (.cells (fq ax ++ fq ay).toArray 29)) (fq bx ++ fq by') 29 (b := w.heap.size + 1) (by simp)).old (.cells (fq cx ++ fq cy).toArray 29)).old (.cells (rr false 0 false 0).toArray 27))
  have b5 := ((Blk.new ((w.alloc (.cells (fq ax ++ fq ay).toArray 29)).alloc (.cells (fq bx ++ fq by').toArray 29)) (fq cx ++ fq cy) 29 (b := w.heap.size + 1 + 1) (by simp)).old (.cells (rr false 0 false 0).toArray 27))
  have b6 := (Blk.new (((w.alloc (.cells (fq ax ++ fq ay).toArray 29)).alloc (.cells (fq bx ++ fq by').toArray 29)).alloc (.cells (fq cx ++ fq cy).toArray 29)) (rr false 0 false 0) 27 (b := w.heap.size + 1 + 1 + 1) (by simp))
  have hb : Below w.heap.size w ((((w.alloc (.cells (fq ax ++ fq ay).toArray 29)).alloc (.cells (fq bx ++ fq by').toArray 29)).alloc (.cells (fq cx ++ fq cy).toArray 29)).alloc (.cells (rr false 0 false 0).toArray 27)) := (((((Below.refl _ _).alloc (Nat.le_refl _) _).alloc (by simp <;> omega) _).alloc (by simp <;> omega) _).alloc (by simp <;> omega) _)
  have hk : ((((w.alloc (.cells (fq ax ++ fq ay).toArray 29)).alloc (.cells (fq bx ++ fq by').toArray 29)).alloc (.cells (fq cx ++ fq cy).toArray 29)).alloc (.cells (rr false 0 false 0).toArray 27)).heap.size = w.heap.size + 1 + 1 + 1 + 1 := by simp
  go_enter Tryz.func13, Tryz.ntmps13
  go_wp2_with (first | (with_reducible refine ldPt rfl rfl rfl b3 (rc_q _) (rc_q _) ?_) | (with_reducible refine ldPt rfl rfl rfl b4 (rc_q _) (rc_q _) ?_) | (with_reducible refine ldPt rfl rfl rfl b5 (rc_q _) (rc_q _) ?_) | (with_reducible refine bsP3 rfl rfl rfl rfl rfl (rc_q _) (rc_q _) (rc_q _) (rc_q _) (rc_q _) (rc_q _) ?_) | (with_reducible refine alR rfl rfl ?_))
  have sl := Blk.new ((((w.alloc (.cells (fq ax ++ fq ay).toArray 29)).alloc (.cells (fq bx ++ fq by').toArray 29)).alloc (.cells (fq cx ++ fq cy).toArray 29)).alloc (.cells (rr false 0 false 0).toArray 27)) (j3 (fq ax ++ fq ay) (fq bx ++ fq by') (fq cx ++ fq cy)) 29 (b := w.heap.size + 1 + 1 + 1 + 1) hk.symm
  replace hb := hb.alloc hb.size (.cells (j3 (fq ax ++ fq ay) (fq bx ++ fq by') (fq cx ++ fq cy)).toArray 29)
  replace b3 := b3.old (.cells (j3 (fq ax ++ fq ay) (fq bx ++ fq by') (fq cx ++ fq cy)).toArray 29)
  replace b4 := b4.old (.cells (j3 (fq ax ++ fq ay) (fq bx ++ fq by') (fq cx ++ fq cy)).toArray 29)
  replace b5 := b5.old (.cells (j3 (fq ax ++ fq ay) (fq bx ++ fq by') (fq cx ++ fq cy)).toArray 29)
  replace b6 := b6.old (.cells (j3 (fq ax ++ fq ay) (fq bx ++ fq by') (fq cx ++ fq cy)).toArray 29)
  try rw [hk]
  try rw [show (((w.alloc (.cells (fq ax ++ fq ay).toArray 29)).alloc (.cells (fq bx ++ fq by').toArray 29)).alloc (.cells (fq cx ++ fq cy).toArray 29)).heap.size = w.heap.size + 1 + 1 + 1 by simp]
  refine (tare_three (rc_q _) (rc_q _) (rc_q _) (rc_q _) (rc_q _) (rc_q _) HT.out HT'.out HT''.out sl).mono ?_
  rintro e w1 ⟨rfl, h1⟩
  replace b3 := b3.call h1
  replace b4 := b4.call h1
  replace b5 := b5.call h1
  replace b6 := b6.call h1
  replace hb := bthen hb h1
  clear h1 sl hk
  go_wp2_with (first | (with_reducible refine ldPt rfl rfl rfl b3 (rc_q _) (rc_q _) ?_) | (with_reducible refine ldPt rfl rfl rfl b4 (rc_q _) (rc_q _) ?_) | (with_reducible refine ldPt rfl rfl rfl b5 (rc_q _) (rc_q _) ?_))
  refine (HM.out _).mono ?_
  rintro e w1 ⟨rfl, h1⟩
  replace b6 := b6.call h1
  replace hb := bthen hb h1
  clear h1
  go_wp2_with (first | (with_reducible refine fdC rfl rfl rfl HF.out ?_))
  refine (HX.out _).mono ?_
  rintro e w1 ⟨rfl, h1⟩
  replace b6 := b6.call h1
  replace hb := bthen hb h1
  clear h1
  go_wp2_with (first | (with_reducible refine stQ rfl rfl rfl rfl b6 (rr_length _ _ _ _) (rc_q _) ?_))
  exact ret_ct (cs := fq q) rfl rfl rfl rfl (rc_q _).whole (b6.row _) ⟨rfl, below_row hb (by omega) _⟩
set_option maxHeartbeats 4000000 in
theorem Sides_w {q0 q1 q2 : Rat} (X : Tl 27 #[vl (tqr ax ay bx by' cx cy)] (vl (c3c (fq q0) (fq q1) (fq q2)))) : Tl 12 #[vp ax ay, vp bx by', vp cx cy] (.tuple #[vl (c3c (fq q0) (fq q1) (fq q2)), .bool true]) := by
  intro w
  have HT := Lib.hid (Isp_q ha)
  have HT' := Lib.hid (Isp_q hb')
  have HT'' := Lib.hid (Isp_q hc)
  have HM := Lib.hid (triangleOf_w (pc_q ax ay) (pc_q bx by') (pc_q cx cy))
  have HF := Lib.hid (fd_cn (pc_q ax ay) (pc_q bx by') (pc_q cx cy))
  have HX := Lib.hid X
  have hp1 := pc_q ax ay
  have hp2 := pc_q bx by'
  have hp3 := pc_q cx cy
  unfold tqr at *
  unfold vp vl at *
  unfold Tl at HM HX
  clear ha hb' hc X
  have b3 := ((((Blk.new w (fq ax ++ fq ay) 29 rfl).old (.cells (fq bx ++ fq by').toArray 29)).old (.cells (fq cx ++ fq cy).toArray 29)).old (.cells (c3c zR zR zR).toArray 43))
  have b4 := (((Blk.new (w.alloc (.cells (fq ax ++ fq ay).toArray 29)) (fq bx ++ fq by') 29 (b := w.heap.size + 1) (by simp)).old (.cells (fq cx ++ fq cy).toArray 29)).old (.cells (c3c zR zR zR).toArray 43))
  have b5 := ((Blk.new ((w.alloc (.cells (fq ax ++ fq ay).toArray 29)).alloc (.cells (fq bx ++ fq by').toArray 29)) (fq cx ++ fq cy) 29 (b := w.heap.size + 1 + 1) (by simp)).old (.cells (c3c zR zR zR).toArray 43))
  have b6 := (Blk.new (((w.alloc (.cells (fq ax ++ fq ay).toArray 29)).alloc (.cells (fq bx ++ fq by').toArray 29)).alloc (.cells (fq cx ++ fq cy).toArray 29)) (c3c zR zR zR) 43 (b := w.heap.size + 1 + 1 + 1) (by simp))
  have hb : Below w.heap.size w ((((w.alloc (.cells (fq ax ++ fq ay).toArray 29)).alloc (.cells (fq bx ++ fq by').toArray 29)).alloc (.cells (fq cx ++ fq cy).toArray 29)).alloc (.cells (c3c zR zR zR).toArray 43)) := (((((Below.refl _ _).alloc (Nat.le_refl _) _).alloc (by simp <;> omega) _).alloc (by simp <;> omega) _).alloc (by simp <;> omega) _)
  have hk : ((((w.alloc (.cells (fq ax ++ fq ay).toArray 29)).alloc (.cells (fq bx ++ fq by').toArray 29)).alloc (.cells (fq cx ++ fq cy).toArray 29)).alloc (.cells (c3c zR zR zR).toArray 43)).heap.size = w.heap.size + 1 + 1 + 1 + 1 := by simp
  go_enter Tryz.func12, Tryz.ntmps12
  go_wp2_with (first | (with_reducible refine ldPt rfl rfl rfl b3 (rc_q _) (rc_q _) ?_) | (with_reducible refine ldPt rfl rfl rfl b4 (rc_q _) (rc_q _) ?_) | (with_reducible refine ldPt rfl rfl rfl b5 (rc_q _) (rc_q _) ?_) | (with_reducible refine bsP3 rfl rfl rfl rfl rfl (rc_q _) (rc_q _) (rc_q _) (rc_q _) (rc_q _) (rc_q _) ?_) | (with_reducible refine alR3 rfl rfl ?_))
  have sl := Blk.new ((((w.alloc (.cells (fq ax ++ fq ay).toArray 29)).alloc (.cells (fq bx ++ fq by').toArray 29)).alloc (.cells (fq cx ++ fq cy).toArray 29)).alloc (.cells (c3c zR zR zR).toArray 43)) (j3 (fq ax ++ fq ay) (fq bx ++ fq by') (fq cx ++ fq cy)) 29 (b := w.heap.size + 1 + 1 + 1 + 1) hk.symm
  replace hb := hb.alloc hb.size (.cells (j3 (fq ax ++ fq ay) (fq bx ++ fq by') (fq cx ++ fq cy)).toArray 29)
  replace b3 := b3.old (.cells (j3 (fq ax ++ fq ay) (fq bx ++ fq by') (fq cx ++ fq cy)).toArray 29)
  replace b4 := b4.old (.cells (j3 (fq ax ++ fq ay) (fq bx ++ fq by') (fq cx ++ fq cy)).toArray 29)
  replace b5 := b5.old (.cells (j3 (fq ax ++ fq ay) (fq bx ++ fq by') (fq cx ++ fq cy)).toArray 29)
  replace b6 := b6.old (.cells (j3 (fq ax ++ fq ay) (fq bx ++ fq by') (fq cx ++ fq cy)).toArray 29)
  try rw [hk]
  try rw [show (((w.alloc (.cells (fq ax ++ fq ay).toArray 29)).alloc (.cells (fq bx ++ fq by').toArray 29)).alloc (.cells (fq cx ++ fq cy).toArray 29)).heap.size = w.heap.size + 1 + 1 + 1 by simp]
  refine (tare_three (rc_q _) (rc_q _) (rc_q _) (rc_q _) (rc_q _) (rc_q _) HT.out HT'.out HT''.out sl).mono ?_
  rintro e w1 ⟨rfl, h1⟩
  replace b3 := b3.call h1
  replace b4 := b4.call h1
  replace b5 := b5.call h1
  replace b6 := b6.call h1
  replace hb := bthen hb h1
  clear h1 sl hk
  go_wp2_with (first | (with_reducible refine ldPt rfl rfl rfl b3 (rc_q _) (rc_q _) ?_) | (with_reducible refine ldPt rfl rfl rfl b4 (rc_q _) (rc_q _) ?_) | (with_reducible refine ldPt rfl rfl rfl b5 (rc_q _) (rc_q _) ?_))
  refine (HM.out _).mono ?_
  rintro e w1 ⟨rfl, h1⟩
  replace b6 := b6.call h1
  replace hb := bthen hb h1
  clear h1
  go_wp2_with fail
  refine (HX.out _).mono ?_
  rintro e w1 ⟨rfl, h1⟩
  replace b6 := b6.call h1
  replace hb := bthen hb h1
  clear h1
  go_wp2_with (first | (with_reducible refine stR3 rfl rfl rfl rfl b6 (r3_len (rc_rr _ _ _ _) (rc_rr _ _ _ _) (rc_rr _ _ _ _)) (rc_q _) (rc_q _) (rc_q _) ?_))
  exact ret_ct (cs := c3c (fq q0) (fq q1) (fq q2)) rfl rfl rfl rfl (wholeR3 (rc_q _) (rc_q _) (rc_q _)) (b6.row _) ⟨rfl, below_row hb (by omega) _⟩
set_option maxHeartbeats 4000000 in
theorem Good_w {b : Bool} (X : Tl 24 #[vl (tqr ax ay bx by' cx cy)] (.bool b)) : Tl 9 #[vp ax ay, vp bx by', vp cx cy] (.tuple #[.bool b, .bool true]) := by
  intro w
  have HT := Lib.hid (Isp_q ha)
  have HT' := Lib.hid (Isp_q hb')
  have HT'' := Lib.hid (Isp_q hc)
  have HM := Lib.hid (triangleOf_w (pc_q ax ay) (pc_q bx by') (pc_q cx cy))
  have HF := Lib.hid (fd_cn (pc_q ax ay) (pc_q bx by') (pc_q cx cy))
  have HX := Lib.hid X
  have hp1 := pc_q ax ay
  have hp2 := pc_q bx by'
  have hp3 := pc_q cx cy
  unfold tqr at *
  unfold vp vl at *
  unfold Tl at HM HX
  clear ha hb' hc X
  have b3 := (((Blk.new w (fq ax ++ fq ay) 29 rfl).old (.cells (fq bx ++ fq by').toArray 29)).old (.cells (fq cx ++ fq cy).toArray 29))
  have b4 := ((Blk.new (w.alloc (.cells (fq ax ++ fq ay).toArray 29)) (fq bx ++ fq by') 29 (b := w.heap.size + 1) (by simp)).old (.cells (fq cx ++ fq cy).toArray 29))
  have b5 := (Blk.new ((w.alloc (.cells (fq ax ++ fq ay).toArray 29)).alloc (.cells (fq bx ++ fq by').toArray 29)) (fq cx ++ fq cy) 29 (b := w.heap.size + 1 + 1) (by simp))
  have hb : Below w.heap.size w (((w.alloc (.cells (fq ax ++ fq ay).toArray 29)).alloc (.cells (fq bx ++ fq by').toArray 29)).alloc (.cells (fq cx ++ fq cy).toArray 29)) := ((((Below.refl _ _).alloc (Nat.le_refl _) _).alloc (by simp <;> omega) _).alloc (by simp <;> omega) _)
  have hk : (((w.alloc (.cells (fq ax ++ fq ay).toArray 29)).alloc (.cells (fq bx ++ fq by').toArray 29)).alloc (.cells (fq cx ++ fq cy).toArray 29)).heap.size = w.heap.size + 1 + 1 + 1 := by simp
  go_enter Tryz.func9, Tryz.ntmps9
  go_wp2_with (first | (with_reducible refine ldPt rfl rfl rfl b3 (rc_q _) (rc_q _) ?_) | (with_reducible refine ldPt rfl rfl rfl b4 (rc_q _) (rc_q _) ?_) | (with_reducible refine ldPt rfl rfl rfl b5 (rc_q _) (rc_q _) ?_) | (with_reducible refine bsP3 rfl rfl rfl rfl rfl (rc_q _) (rc_q _) (rc_q _) (rc_q _) (rc_q _) (rc_q _) ?_))
  have sl := Blk.new (((w.alloc (.cells (fq ax ++ fq ay).toArray 29)).alloc (.cells (fq bx ++ fq by').toArray 29)).alloc (.cells (fq cx ++ fq cy).toArray 29)) (j3 (fq ax ++ fq ay) (fq bx ++ fq by') (fq cx ++ fq cy)) 29 (b := w.heap.size + 1 + 1 + 1) hk.symm
  replace hb := hb.alloc hb.size (.cells (j3 (fq ax ++ fq ay) (fq bx ++ fq by') (fq cx ++ fq cy)).toArray 29)
  replace b3 := b3.old (.cells (j3 (fq ax ++ fq ay) (fq bx ++ fq by') (fq cx ++ fq cy)).toArray 29)
  replace b4 := b4.old (.cells (j3 (fq ax ++ fq ay) (fq bx ++ fq by') (fq cx ++ fq cy)).toArray 29)
  replace b5 := b5.old (.cells (j3 (fq ax ++ fq ay) (fq bx ++ fq by') (fq cx ++ fq cy)).toArray 29)
  try rw [hk]
  refine (tare_three (rc_q _) (rc_q _) (rc_q _) (rc_q _) (rc_q _) (rc_q _) HT.out HT'.out HT''.out sl).mono ?_
  rintro e w1 ⟨rfl, h1⟩
  replace b3 := b3.call h1
  replace b4 := b4.call h1
  replace b5 := b5.call h1
  replace hb := bthen hb h1
  clear h1 sl hk
  go_wp2_with (first | (with_reducible refine ldPt rfl rfl rfl b3 (rc_q _) (rc_q _) ?_) | (with_reducible refine ldPt rfl rfl rfl b4 (rc_q _) (rc_q _) ?_) | (with_reducible refine ldPt rfl rfl rfl b5 (rc_q _) (rc_q _) ?_))
  refine (HM.out _).mono ?_
  rintro e w1 ⟨rfl, h1⟩
  replace hb := bthen hb h1
  clear h1
  go_wp2_with fail
  refine (HX.out _).mono ?_
  rintro e w1 ⟨rfl, h1⟩
  replace hb := bthen hb h1
  clear h1
  go_wp2
  go_ret2
  exact ⟨rfl, hb⟩
set_option maxHeartbeats 4000000 in
theorem Sharp_w {q : Rat} {b : Bool} (X : Tl 18 #[vl (tqr ax ay bx by' cx cy)] (.tuple #[vl (fq q), .bool b])) : Tl 6 #[vp ax ay, vp bx by', vp cx cy] (.tuple #[vl (fq q), .bool b, .bool true]) := by
  intro w
  have HT := Lib.hid (Isp_q ha)
  have HT' := Lib.hid (Isp_q hb')
  have HT'' := Lib.hid (Isp_q hc)
  have HM := Lib.hid (triangleOf_w (pc_q ax ay) (pc_q bx by') (pc_q cx cy))
  have HF := Lib.hid (fd_cn (pc_q ax ay) (pc_q bx by') (pc_q cx cy))
  have HX := Lib.hid X
  have hp1 := pc_q ax ay
  have hp2 := pc_q bx by'
  have hp3 := pc_q cx cy
  unfold tqr at *
  unfold vp vl at *
  unfold Tl at HM HX
  clear ha hb' hc X
  have b3 := ((((Blk.new w (fq ax ++ fq ay) 29 rfl).old (.cells (fq bx ++ fq by').toArray 29)).old (.cells (fq cx ++ fq cy).toArray 29)).old (.cells (rr false 0 false 0).toArray 27))
  have b4 := (((Blk.new (w.alloc (.cells (fq ax ++ fq ay).toArray 29)) (fq bx ++ fq by') 29 (b := w.heap.size + 1) (by simp)).old (.cells (fq cx ++ fq cy).toArray 29)).old (.cells (rr false 0 false 0).toArray 27))
  have b5 := ((Blk.new ((w.alloc (.cells (fq ax ++ fq ay).toArray 29)).alloc (.cells (fq bx ++ fq by').toArray 29)) (fq cx ++ fq cy) 29 (b := w.heap.size + 1 + 1) (by simp)).old (.cells (rr false 0 false 0).toArray 27))
  have b6 := (Blk.new (((w.alloc (.cells (fq ax ++ fq ay).toArray 29)).alloc (.cells (fq bx ++ fq by').toArray 29)).alloc (.cells (fq cx ++ fq cy).toArray 29)) (rr false 0 false 0) 27 (b := w.heap.size + 1 + 1 + 1) (by simp))
  have hb : Below w.heap.size w ((((w.alloc (.cells (fq ax ++ fq ay).toArray 29)).alloc (.cells (fq bx ++ fq by').toArray 29)).alloc (.cells (fq cx ++ fq cy).toArray 29)).alloc (.cells (rr false 0 false 0).toArray 27)) := (((((Below.refl _ _).alloc (Nat.le_refl _) _).alloc (by simp <;> omega) _).alloc (by simp <;> omega) _).alloc (by simp <;> omega) _)
  have hk : ((((w.alloc (.cells (fq ax ++ fq ay).toArray 29)).alloc (.cells (fq bx ++ fq by').toArray 29)).alloc (.cells (fq cx ++ fq cy).toArray 29)).alloc (.cells (rr false 0 false 0).toArray 27)).heap.size = w.heap.size + 1 + 1 + 1 + 1 := by simp
  go_enter Tryz.func6, Tryz.ntmps6
  go_wp2_with (first | (with_reducible refine ldPt rfl rfl rfl b3 (rc_q _) (rc_q _) ?_) | (with_reducible refine ldPt rfl rfl rfl b4 (rc_q _) (rc_q _) ?_) | (with_reducible refine ldPt rfl rfl rfl b5 (rc_q _) (rc_q _) ?_) | (with_reducible refine bsP3 rfl rfl rfl rfl rfl (rc_q _) (rc_q _) (rc_q _) (rc_q _) (rc_q _) (rc_q _) ?_) | (with_reducible refine alR rfl rfl ?_))
  have sl := Blk.new ((((w.alloc (.cells (fq ax ++ fq ay).toArray 29)).alloc (.cells (fq bx ++ fq by').toArray 29)).alloc (.cells (fq cx ++ fq cy).toArray 29)).alloc (.cells (rr false 0 false 0).toArray 27)) (j3 (fq ax ++ fq ay) (fq bx ++ fq by') (fq cx ++ fq cy)) 29 (b := w.heap.size + 1 + 1 + 1 + 1) hk.symm
  replace hb := hb.alloc hb.size (.cells (j3 (fq ax ++ fq ay) (fq bx ++ fq by') (fq cx ++ fq cy)).toArray 29)
  replace b3 := b3.old (.cells (j3 (fq ax ++ fq ay) (fq bx ++ fq by') (fq cx ++ fq cy)).toArray 29)
  replace b4 := b4.old (.cells (j3 (fq ax ++ fq ay) (fq bx ++ fq by') (fq cx ++ fq cy)).toArray 29)
  replace b5 := b5.old (.cells (j3 (fq ax ++ fq ay) (fq bx ++ fq by') (fq cx ++ fq cy)).toArray 29)
  replace b6 := b6.old (.cells (j3 (fq ax ++ fq ay) (fq bx ++ fq by') (fq cx ++ fq cy)).toArray 29)
  try rw [hk]
  try rw [show (((w.alloc (.cells (fq ax ++ fq ay).toArray 29)).alloc (.cells (fq bx ++ fq by').toArray 29)).alloc (.cells (fq cx ++ fq cy).toArray 29)).heap.size = w.heap.size + 1 + 1 + 1 by simp]
  refine (tare_three (rc_q _) (rc_q _) (rc_q _) (rc_q _) (rc_q _) (rc_q _) HT.out HT'.out HT''.out sl).mono ?_
  rintro e w1 ⟨rfl, h1⟩
  replace b3 := b3.call h1
  replace b4 := b4.call h1
  replace b5 := b5.call h1
  replace b6 := b6.call h1
  replace hb := bthen hb h1
  clear h1 sl hk
  go_wp2_with (first | (with_reducible refine ldPt rfl rfl rfl b3 (rc_q _) (rc_q _) ?_) | (with_reducible refine ldPt rfl rfl rfl b4 (rc_q _) (rc_q _) ?_) | (with_reducible refine ldPt rfl rfl rfl b5 (rc_q _) (rc_q _) ?_))
  refine (HM.out _).mono ?_
  rintro e w1 ⟨rfl, h1⟩
  replace b6 := b6.call h1
  replace hb := bthen hb h1
  clear h1
  go_wp2_with (first | (with_reducible refine fdC rfl rfl rfl HF.out ?_))
  refine (HX.out _).mono ?_
  rintro e w1 ⟨rfl, h1⟩
  replace b6 := b6.call h1
  replace hb := bthen hb h1
  clear h1
  have n6 := b6.lt
  have f := Blk.new w1 (rr false 0 false 0) 27 rfl
  have b9 := laid_n w1 (rr false 0 false 0) (fq q) 27
  replace b6 := laid_o b6 (rr false 0 false 0) (fq q) 27
  replace hb := laid_b hb (rr false 0 false 0) (fq q) 27
  go_wp2_with (first | (with_reducible refine alR rfl rfl ?_) | (with_reducible refine stQ rfl rfl rfl rfl f (rr_length _ _ _ _) (rc_q _) ?_) | (with_reducible refine ldA' rfl rfl rfl b9 (rc_q _) ?_) | (with_reducible refine stQ rfl rfl rfl rfl b6 (rr_length _ _ _ _) (rc_q _) ?_))
  exact ret_ctt (cs := fq q) rfl rfl rfl rfl rfl (rc_q _).whole (b6.row _) ⟨rfl, below_row hb (by omega) _⟩
end
end Go.Proofs.YtckolhalggcenaaGreat

/- Package tri: Place. -/
namespace Go.Proofs.YtckolhalggcenaaGreat
set_option linter.unusedSimpArgs false
set_option linter.unusedVariables false
open Go.RowKit
set_option maxRecDepth 100000
section
variable {ax ay bx by' cx cy px py : Rat} (ha : Gd ax ay) (hb' : Gd bx by') (hc : Gd cx cy) (hp : Gd px py)
include ha hb' hc hp
set_option maxHeartbeats 4000000 in
theorem Place_w {k : Int} (L : Tl 25 #[vl (tqr ax ay bx by' cx cy)] (.bool true)) (X : Tl 26 #[vl (tqr ax ay bx by' cx cy), vp px py] (.int .i64 k)) : Tl 11 #[vp ax ay, vp bx by', vp cx cy, vp px py] (.tuple #[.int .i64 k, .bool true]) := by
  intro w
  have HT := Lib.hid (Isp_q ha)
  have HT1 := Lib.hid (Isp_q hb')
  have HT2 := Lib.hid (Isp_q hc)
  have HT3 := Lib.hid (Isp_q hp)
  have HM := Lib.hid (triangleOf_w (pc_q ax ay) (pc_q bx by') (pc_q cx cy))
  have HX := Lib.hid X
  have HL := Lib.hid L
  have hp1 := pc_q ax ay
  have hp2 := pc_q bx by'
  have hp3 := pc_q cx cy
  unfold tqr at *
  unfold vp vl at *
  unfold Tl at HM HX HL
  clear ha hb' hc hp X L
  have b4 := ((((Blk.new w (fq ax ++ fq ay) 29 rfl).old (.cells (fq bx ++ fq by').toArray 29)).old (.cells (fq cx ++ fq cy).toArray 29)).old (.cells (fq px ++ fq py).toArray 29))
  have b5 := (((Blk.new (w.alloc (.cells (fq ax ++ fq ay).toArray 29)) (fq bx ++ fq by') 29 (b := w.heap.size + 1) (by simp)).old (.cells (fq cx ++ fq cy).toArray 29)).old (.cells (fq px ++ fq py).toArray 29))
  have b6 := ((Blk.new ((w.alloc (.cells (fq ax ++ fq ay).toArray 29)).alloc (.cells (fq bx ++ fq by').toArray 29)) (fq cx ++ fq cy) 29 (b := w.heap.size + 1 + 1) (by simp)).old (.cells (fq px ++ fq py).toArray 29))
  have b7 := (Blk.new (((w.alloc (.cells (fq ax ++ fq ay).toArray 29)).alloc (.cells (fq bx ++ fq by').toArray 29)).alloc (.cells (fq cx ++ fq cy).toArray 29)) (fq px ++ fq py) 29 (b := w.heap.size + 1 + 1 + 1) (by simp))
  have hb : Below w.heap.size w ((((w.alloc (.cells (fq ax ++ fq ay).toArray 29)).alloc (.cells (fq bx ++ fq by').toArray 29)).alloc (.cells (fq cx ++ fq cy).toArray 29)).alloc (.cells (fq px ++ fq py).toArray 29)) := (((((Below.refl _ _).alloc (Nat.le_refl _) _).alloc (by simp <;> omega) _).alloc (by simp <;> omega) _).alloc (by simp <;> omega) _)
  have hk : ((((w.alloc (.cells (fq ax ++ fq ay).toArray 29)).alloc (.cells (fq bx ++ fq by').toArray 29)).alloc (.cells (fq cx ++ fq cy).toArray 29)).alloc (.cells (fq px ++ fq py).toArray 29)).heap.size = w.heap.size + 1 + 1 + 1 + 1 := by simp
  clear hk
  go_enter Tryz.func11, Tryz.ntmps11
  go_wp2_with (first | (with_reducible refine ldPt rfl rfl rfl b4 (rc_q _) (rc_q _) ?_) | (with_reducible refine ldPt rfl rfl rfl b5 (rc_q _) (rc_q _) ?_) | (with_reducible refine ldPt rfl rfl rfl b6 (rc_q _) (rc_q _) ?_))
  refine (HM.out _).mono ?_
  rintro e w1 ⟨rfl, h1⟩
  replace b4 := b4.call h1
  replace b5 := b5.call h1
  replace b6 := b6.call h1
  replace b7 := b7.call h1
  replace hb := bthen hb h1
  clear h1
  have f := Blk.new w1 (cnc p0 p0 p0) 55 rfl
  have b10 := f.row (cnc (fq ax ++ fq ay) (fq bx ++ fq by') (fq cx ++ fq cy))
  have lb4 := b4.lt
  replace b4 := (b4.old (.cells (cnc p0 p0 p0).toArray 55)).rowOther (g := w1.heap.size) (cnc (fq ax ++ fq ay) (fq bx ++ fq by') (fq cx ++ fq cy)).toArray (by omega)
  have lb5 := b5.lt
  replace b5 := (b5.old (.cells (cnc p0 p0 p0).toArray 55)).rowOther (g := w1.heap.size) (cnc (fq ax ++ fq ay) (fq bx ++ fq by') (fq cx ++ fq cy)).toArray (by omega)
  have lb6 := b6.lt
  replace b6 := (b6.old (.cells (cnc p0 p0 p0).toArray 55)).rowOther (g := w1.heap.size) (cnc (fq ax ++ fq ay) (fq bx ++ fq by') (fq cx ++ fq cy)).toArray (by omega)
  have lb7 := b7.lt
  replace b7 := (b7.old (.cells (cnc p0 p0 p0).toArray 55)).rowOther (g := w1.heap.size) (cnc (fq ax ++ fq ay) (fq bx ++ fq by') (fq cx ++ fq cy)).toArray (by omega)
  replace hb := below_row (hb.alloc hb.size (.cells (cnc p0 p0 p0).toArray 55)) (g := w1.heap.size) hb.size (cnc (fq ax ++ fq ay) (fq bx ++ fq by') (fq cx ++ fq cy)).toArray
  have hW : ((w1.alloc (.cells (cnc p0 p0 p0).toArray 55)).setRow w1.heap.size (cnc (fq ax ++ fq ay) (fq bx ++ fq by') (fq cx ++ fq cy)).toArray).heap.size = w1.heap.size + 1 := by simp
  go_wp2_with (first | (with_reducible refine alTr rfl rfl ?_) | (with_reducible refine stTr rfl rfl rfl rfl f cn0_len hp1 hp2 hp3 ?_) | (with_reducible refine ldPt rfl rfl rfl b4 (rc_q _) (rc_q _) ?_) | (with_reducible refine ldPt rfl rfl rfl b5 (rc_q _) (rc_q _) ?_) | (with_reducible refine ldPt rfl rfl rfl b6 (rc_q _) (rc_q _) ?_) | (with_reducible refine ldPt rfl rfl rfl b7 (rc_q _) (rc_q _) ?_) | (with_reducible refine lbsP4 rfl rfl rfl rfl rfl rfl (rc_q _) (rc_q _) (rc_q _) (rc_q _) (rc_q _) (rc_q _) (rc_q _) (rc_q _) ?_))
  clear f
  generalize (w1.alloc (.cells (cnc p0 p0 p0).toArray 55)).setRow w1.heap.size (cnc (fq ax ++ fq ay) (fq bx ++ fq by') (fq cx ++ fq cy)).toArray = W at *
  have sl := Blk.new W (jn [fq ax ++ fq ay, fq bx ++ fq by', fq cx ++ fq cy, fq px ++ fq py]) 29 (b := w1.heap.size + 1) hW.symm
  replace hb := hb.alloc hb.size (.cells (jn [fq ax ++ fq ay, fq bx ++ fq by', fq cx ++ fq cy, fq px ++ fq py]).toArray 29)
  replace b4 := b4.old (.cells (jn [fq ax ++ fq ay, fq bx ++ fq by', fq cx ++ fq cy, fq px ++ fq py]).toArray 29)
  replace b5 := b5.old (.cells (jn [fq ax ++ fq ay, fq bx ++ fq by', fq cx ++ fq cy, fq px ++ fq py]).toArray 29)
  replace b6 := b6.old (.cells (jn [fq ax ++ fq ay, fq bx ++ fq by', fq cx ++ fq cy, fq px ++ fq py]).toArray 29)
  replace b7 := b7.old (.cells (jn [fq ax ++ fq ay, fq bx ++ fq by', fq cx ++ fq cy, fq px ++ fq py]).toArray 29)
  replace b10 := b10.old (.cells (jn [fq ax ++ fq ay, fq bx ++ fq by', fq cx ++ fq cy, fq px ++ fq py]).toArray 29)
  try rw [hW]
  generalize w1.heap.size = pl_b10 at *
  refine (tare_four (rc_q _) (rc_q _) (rc_q _) (rc_q _) (rc_q _) (rc_q _) (rc_q _) (rc_q _) HT.out HT1.out HT2.out HT3.out sl).mono ?_
  rintro e w2 ⟨rfl, h1⟩
  replace b7 := b7.call h1
  replace b10 := b10.call h1
  replace hb := bthen hb h1
  clear h1 sl hW
  go_wp2_with (first | (refine ldPg (by rfl) rfl rfl b10 (part_all _) (wholeCn hp1 hp2 hp3) ?_))
  refine (HL.out _).mono ?_
  rintro e w1 ⟨rfl, h1⟩
  replace b7 := b7.call h1
  replace b10 := b10.call h1
  replace hb := bthen hb h1
  clear h1
  go_wp2_with (first | (with_reducible refine ldPt rfl rfl rfl b7 (rc_q _) (rc_q _) ?_) | (with_reducible refine ldP rfl rfl rfl b10 (part_all _) (wholeTr hp1 hp2 hp3) ?_))
  refine (HX.out _).mono ?_
  rintro e w1 ⟨rfl, h1⟩
  replace hb := bthen hb h1
  clear h1
  go_wp2
  go_ret2
  exact ⟨rfl, hb⟩
end
end Go.Proofs.YtckolhalggcenaaGreat
