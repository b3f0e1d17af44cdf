/- Package point: Cmp, less, times, between, Cross, Dot, Turn, Far. -/
import Derived.Test.YtoegjibeomhekaaGreatPns
import Derived.Deep.DeepCutAuto
namespace Go.Proofs.YtoegjibeomhekaaGreat
set_option linter.unusedSimpArgs false
set_option linter.unusedVariables false
open Go.RowKit
set_option maxRecDepth 100000
theorem pr_two {w : World} {b : Nat} {t : TypeId} {A B C D : List Value} (hA : Rc A) (hB : Rc B) (hC : Rc C) (hD : Rc D) (h : Blk w b (j2 (A ++ B) (C ++ D)) t) (k : Nat) (hk : k < 2) :
    w.rangeAt b (0 + k * 132) ((if k = 0 then A else C) ++ (if k = 0 then B else D)) := fun j v hv => by
  apply h.cell
  unfold j2
  have hj := (List.getElem?_eq_some_iff.1 hv).1
  rcases (show k = 0 ∨ k = 1 by omega) with rfl | rfl
  · change (A ++ B)[j]? = some v at hv
    change j < (A ++ B).length at hj
    rw [show 0 + 0 * 132 + j = j by omega, List.getElem?_append_left hj]; exact hv
  · change (C ++ D)[j]? = some v at hv
    rw [show 0 + 1 * 132 + j = 132 + j by omega, List.getElem?_append_right (by rw [pt_len hA hB]; omega), pt_len hA hB, Nat.add_sub_cancel_left]; exact hv
theorem are_two {w : World} {b : Nat} {t : TypeId} {A B C D : List Value} {s s' : Bool} (hA : Rc A) (hB : Rc B) (hC : Rc C) (hD : Rc D) (T : Tl 34 #[vl (A ++ B)] (.bool s)) (T' : Tl 34 #[vl (C ++ D)] (.bool s')) (h : Blk w b (j2 (A ++ B) (C ++ D)) t) :
    Calls Tryz.prog 57 #[.slice (some ⟨b, 0, none⟩) 2 2] w fun e w' => e = .returned (.bool (s && s')) ∧ Below w.heap.size w w' :=
  are_walk 2 b 0 2 (fun k => if k = 0 then A else C) (fun k => if k = 0 then B else D) (fun k => if k = 0 then s else s') w (by omega) (fun k hk => by
    rcases (show k = 0 ∨ k = 1 by omega) with rfl | rfl
    · exact ⟨hA, hB⟩
    · exact ⟨hC, hD⟩) (fun k hk => by
    rcases (show k = 0 ∨ k = 1 by omega) with rfl | rfl
    · exact T
    · exact T') h.lt (fun k hk => pr_two hA hB hC hD h k hk) (s && s') (by
    cases s with
    | false => exact .inr ⟨rfl, 0, by omega, rfl⟩
    | true =>
      cases s' with
      | false => exact .inr ⟨rfl, 1, by omega, rfl⟩
      | true => exact .inl ⟨rfl, fun k hk => by split <;> rfl⟩)
theorem pr_three {w : World} {b : Nat} {t : TypeId} {A B C D E F : List Value} (hA : Rc A) (hB : Rc B) (hC : Rc C) (hD : Rc D) (hE : Rc E) (hF : Rc F) (h : Blk w b (j3 (A ++ B) (C ++ D) (E ++ F)) t) (k : Nat) (hk : k < 3) :
    w.rangeAt b (0 + k * 132) ((if k = 0 then A else if k = 1 then C else E) ++ (if k = 0 then B else if k = 1 then D else F)) := fun j v hv => by
  apply h.cell
  unfold j3
  have hj := (List.getElem?_eq_some_iff.1 hv).1
  have l2 : (A ++ B ++ (C ++ D)).length = 264 := by rw [List.length_append, pt_len hA hB, pt_len hC hD]
  rcases (show k = 0 ∨ k = 1 ∨ k = 2 by omega) with rfl | rfl | rfl
  · change (A ++ B)[j]? = some v at hv
    change j < (A ++ B).length at hj
    rw [pt_len hA hB] at hj
    rw [show 0 + 0 * 132 + j = j by omega, List.getElem?_append_left (by omega), List.getElem?_append_left (by rw [pt_len hA hB]; exact hj)]; exact hv
  · change (C ++ D)[j]? = some v at hv
    change j < (C ++ D).length at hj
    rw [pt_len hC hD] at hj
    rw [show 0 + 1 * 132 + j = 132 + j by omega, List.getElem?_append_left (by omega), List.getElem?_append_right (by rw [pt_len hA hB]; omega), pt_len hA hB, Nat.add_sub_cancel_left]; exact hv
  · change (E ++ F)[j]? = some v at hv
    rw [show 0 + 2 * 132 + j = 264 + j by omega, List.getElem?_append_right (by rw [l2]; omega), l2, Nat.add_sub_cancel_left]; exact hv
theorem are_three {w : World} {b : Nat} {t : TypeId} {A B C D E F : List Value} {s s' s'' : Bool} (hA : Rc A) (hB : Rc B) (hC : Rc C) (hD : Rc D) (hE : Rc E) (hF : Rc F) (T : Tl 34 #[vl (A ++ B)] (.bool s)) (T' : Tl 34 #[vl (C ++ D)] (.bool s')) (T'' : Tl 34 #[vl (E ++ F)] (.bool s'')) (h : Blk w b (j3 (A ++ B) (C ++ D) (E ++ F)) t) :
    Calls Tryz.prog 57 #[.slice (some ⟨b, 0, none⟩) 3 3] w fun e w' => e = .returned (.bool (s && (s' && s''))) ∧ Below w.heap.size w w' :=
  are_walk 3 b 0 3 (fun k => if k = 0 then A else if k = 1 then C else E) (fun k => if k = 0 then B else if k = 1 then D else F) (fun k => if k = 0 then s else if k = 1 then s' else s'') w (by omega) (fun k hk => by
    rcases (show k = 0 ∨ k = 1 ∨ k = 2 by omega) with rfl | rfl | rfl
    · exact ⟨hA, hB⟩
    · exact ⟨hC, hD⟩
    · exact ⟨hE, hF⟩) (fun k hk => by
    rcases (show k = 0 ∨ k = 1 ∨ k = 2 by omega) with rfl | rfl | rfl
    · exact T
    · exact T'
    · exact T'') h.lt (fun k hk => pr_three hA hB hC hD hE hF h k hk) (s && (s' && s'')) (by
    cases s with
    | false => exact .inr ⟨rfl, 0, by omega, rfl⟩
    | true =>
      cases s' with
      | false => exact .inr ⟨rfl, 1, by omega, rfl⟩
      | true =>
        cases s'' with
        | false => exact .inr ⟨rfl, 2, by omega, rfl⟩
        | true => exact .inl ⟨rfl, fun k hk => by split; rfl; split <;> rfl⟩)
set_option maxHeartbeats 1000000 in
theorem Cmpp_bad {A B C D : List Value} {s s' : Bool} (hA : Rc A) (hB : Rc B) (hC : Rc C) (hD : Rc D) (T : Tl 34 #[vl (A ++ B)] (.bool s)) (T' : Tl 34 #[vl (C ++ D)] (.bool s')) (hs : (s && s') = false) : Tl 47 #[vl (A ++ B), vl (C ++ D)] (.tuple #[.int .i64 0, .bool false]) := by
  intro w
  have HT := Lib.hid T
  have HT' := Lib.hid T'
  have HS := Lib.hid hs
  clear T T' hs
  unfold vl at *
  have HA := Lib.hid hA
  have HB := Lib.hid hB
  have HC := Lib.hid hC
  have HD := Lib.hid hD
  clear hA hB hC hD
  have b2 := (Blk.new w (A ++ B) 47 rfl).old (.cells (C ++ D).toArray 47)
  have b3 := Blk.new (w.alloc (.cells (A ++ B).toArray 47)) (C ++ D) 47 (b := w.heap.size + 1) (by simp)
  have hb : Below w.heap.size w ((w.alloc (.cells (A ++ B).toArray 47)).alloc (.cells (C ++ D).toArray 47)) := ((Below.refl _ _).alloc (Nat.le_refl _) _).alloc (by simp) _
  have hk2 : ((w.alloc (.cells (A ++ B).toArray 47)).alloc (.cells (C ++ D).toArray 47)).heap.size = w.heap.size + 1 + 1 := by simp
  go_enter Tryz.func47, Tryz.ntmps47
  go_wp2_with (first | (with_reducible refine ldPt rfl rfl rfl b2 HA.out HB.out ?_) | (with_reducible refine ldPt rfl rfl rfl b3 HC.out HD.out ?_) | (with_reducible refine bsP2 rfl rfl rfl rfl HA.out HB.out HC.out HD.out ?_))
  have sl := Blk.new ((w.alloc (.cells (A ++ B).toArray 47)).alloc (.cells (C ++ D).toArray 47)) (j2 (A ++ B) (C ++ D)) 47 (b := w.heap.size + 1 + 1) hk2.symm
  replace b2 := b2.old (.cells (j2 (A ++ B) (C ++ D)).toArray 47)
  replace b3 := b3.old (.cells (j2 (A ++ B) (C ++ D)).toArray 47)
  replace hb := hb.alloc hb.size (.cells (j2 (A ++ B) (C ++ D)).toArray 47)
  clear hk2
  generalize ((w.alloc (.cells (A ++ B).toArray 47)).alloc (.cells (C ++ D).toArray 47)).alloc (.cells (j2 (A ++ B) (C ++ D)).toArray 47) = W at *
  refine (are_two HA.out HB.out HC.out HD.out HT.out HT'.out sl).mono ?_
  rintro e w1 ⟨rfl, h1⟩
  replace b2 := b2.call h1
  replace b3 := b3.call h1
  replace hb := bthen hb h1
  clear h1 sl
  rw [HS.out]
  go_wp2
  go_ret2
  exact ⟨rfl, hb⟩
set_option maxHeartbeats 1000000 in
theorem Cmpp_x {A B C D : List Value} {c : Int} (hA : Rc A) (hB : Rc B) (hC : Rc C) (hD : Rc D) (T : Tl 34 #[vl (A ++ B)] (.bool true)) (T' : Tl 34 #[vl (C ++ D)] (.bool true)) (TX : Tl 58 #[vl A, vl C] (.tuple #[.int .i64 c, .bool true])) (hc : ¬ c = 0) : Tl 47 #[vl (A ++ B), vl (C ++ D)] (.tuple #[.int .i64 c, .bool true]) := by
  intro w
  have HT := Lib.hid T
  have HT' := Lib.hid T'
  have HX := Lib.hid TX
  unfold Tl vl at HX
  clear T T' TX
  unfold vl at *
  have HA := Lib.hid hA
  have HB := Lib.hid hB
  have HC := Lib.hid hC
  have HD := Lib.hid hD
  clear hA hB hC hD
  have b2 := (Blk.new w (A ++ B) 47 rfl).old (.cells (C ++ D).toArray 47)
  have b3 := Blk.new (w.alloc (.cells (A ++ B).toArray 47)) (C ++ D) 47 (b := w.heap.size + 1) (by simp)
  have hb : Below w.heap.size w ((w.alloc (.cells (A ++ B).toArray 47)).alloc (.cells (C ++ D).toArray 47)) := ((Below.refl _ _).alloc (Nat.le_refl _) _).alloc (by simp) _
  have hk2 : ((w.alloc (.cells (A ++ B).toArray 47)).alloc (.cells (C ++ D).toArray 47)).heap.size = w.heap.size + 1 + 1 := by simp
  go_enter Tryz.func47, Tryz.ntmps47
  go_wp2_with (first | (with_reducible refine ldPt rfl rfl rfl b2 HA.out HB.out ?_) | (with_reducible refine ldPt rfl rfl rfl b3 HC.out HD.out ?_) | (with_reducible refine bsP2 rfl rfl rfl rfl HA.out HB.out HC.out HD.out ?_))
  have sl := Blk.new ((w.alloc (.cells (A ++ B).toArray 47)).alloc (.cells (C ++ D).toArray 47)) (j2 (A ++ B) (C ++ D)) 47 (b := w.heap.size + 1 + 1) hk2.symm
  replace b2 := b2.old (.cells (j2 (A ++ B) (C ++ D)).toArray 47)
  replace b3 := b3.old (.cells (j2 (A ++ B) (C ++ D)).toArray 47)
  replace hb := hb.alloc hb.size (.cells (j2 (A ++ B) (C ++ D)).toArray 47)
  clear hk2
  generalize ((w.alloc (.cells (A ++ B).toArray 47)).alloc (.cells (C ++ D).toArray 47)).alloc (.cells (j2 (A ++ B) (C ++ D)).toArray 47) = W at *
  refine (are_two HA.out HB.out HC.out HD.out HT.out HT'.out sl).mono ?_
  rintro e w1 ⟨rfl, h1⟩
  replace b2 := b2.call h1
  replace b3 := b3.call h1
  replace hb := bthen hb h1
  clear h1 sl
  go_wp2_with (first | (with_reducible refine ldX rfl rfl rfl b2 HA.out HB.out ?_) | (with_reducible refine ldY rfl rfl rfl b2 HA.out HB.out ?_) | (with_reducible refine ldX rfl rfl rfl b3 HC.out HD.out ?_) | (with_reducible refine ldY rfl rfl rfl b3 HC.out HD.out ?_))
  refine (HX.out _).mono ?_
  rintro e w1 ⟨rfl, h1⟩
  replace hb := bthen hb h1
  clear h1
  go_wp2
  go_ret2
  exact ⟨rfl, hb⟩
set_option maxHeartbeats 1000000 in
theorem Cmpp_y {A B C D : List Value} {c : Int} (hA : Rc A) (hB : Rc B) (hC : Rc C) (hD : Rc D) (T : Tl 34 #[vl (A ++ B)] (.bool true)) (T' : Tl 34 #[vl (C ++ D)] (.bool true)) (TX : Tl 58 #[vl A, vl C] (.tuple #[.int .i64 0, .bool true])) (TY : Tl 58 #[vl B, vl D] (.tuple #[.int .i64 c, .bool true])) : Tl 47 #[vl (A ++ B), vl (C ++ D)] (.tuple #[.int .i64 c, .bool true]) := by
  intro w
  have HT := Lib.hid T
  have HT' := Lib.hid T'
  have HX := Lib.hid TX
  have HY := Lib.hid TY
  unfold Tl vl at HX HY
  clear T T' TX TY
  unfold vl at *
  have HA := Lib.hid hA
  have HB := Lib.hid hB
  have HC := Lib.hid hC
  have HD := Lib.hid hD
  clear hA hB hC hD
  have b2 := (Blk.new w (A ++ B) 47 rfl).old (.cells (C ++ D).toArray 47)
  have b3 := Blk.new (w.alloc (.cells (A ++ B).toArray 47)) (C ++ D) 47 (b := w.heap.size + 1) (by simp)
  have hb : Below w.heap.size w ((w.alloc (.cells (A ++ B).toArray 47)).alloc (.cells (C ++ D).toArray 47)) := ((Below.refl _ _).alloc (Nat.le_refl _) _).alloc (by simp) _
  have hk2 : ((w.alloc (.cells (A ++ B).toArray 47)).alloc (.cells (C ++ D).toArray 47)).heap.size = w.heap.size + 1 + 1 := by simp
  go_enter Tryz.func47, Tryz.ntmps47
  go_wp2_with (first | (with_reducible refine ldPt rfl rfl rfl b2 HA.out HB.out ?_) | (with_reducible refine ldPt rfl rfl rfl b3 HC.out HD.out ?_) | (with_reducible refine bsP2 rfl rfl rfl rfl HA.out HB.out HC.out HD.out ?_))
  have sl := Blk.new ((w.alloc (.cells (A ++ B).toArray 47)).alloc (.cells (C ++ D).toArray 47)) (j2 (A ++ B) (C ++ D)) 47 (b := w.heap.size + 1 + 1) hk2.symm
  replace b2 := b2.old (.cells (j2 (A ++ B) (C ++ D)).toArray 47)
  replace b3 := b3.old (.cells (j2 (A ++ B) (C ++ D)).toArray 47)
  replace hb := hb.alloc hb.size (.cells (j2 (A ++ B) (C ++ D)).toArray 47)
  clear hk2
  generalize ((w.alloc (.cells (A ++ B).toArray 47)).alloc (.cells (C ++ D).toArray 47)).alloc (.cells (j2 (A ++ B) (C ++ D)).toArray 47) = W at *
  refine (are_two HA.out HB.out HC.out HD.out HT.out HT'.out sl).mono ?_
  rintro e w1 ⟨rfl, h1⟩
  replace b2 := b2.call h1
  replace b3 := b3.call h1
  replace hb := bthen hb h1
  clear h1 sl
  go_wp2_with (first | (with_reducible refine ldX rfl rfl rfl b2 HA.out HB.out ?_) | (with_reducible refine ldY rfl rfl rfl b2 HA.out HB.out ?_) | (with_reducible refine ldX rfl rfl rfl b3 HC.out HD.out ?_) | (with_reducible refine ldY rfl rfl rfl b3 HC.out HD.out ?_))
  refine (HX.out _).mono ?_
  rintro e w1 ⟨rfl, h1⟩
  replace b2 := b2.call h1
  replace b3 := b3.call h1
  replace hb := bthen hb h1
  clear h1
  go_wp2_with (first | (with_reducible refine ldX rfl rfl rfl b2 HA.out HB.out ?_) | (with_reducible refine ldY rfl rfl rfl b2 HA.out HB.out ?_) | (with_reducible refine ldX rfl rfl rfl b3 HC.out HD.out ?_) | (with_reducible refine ldY rfl rfl rfl b3 HC.out HD.out ?_))
  refine (HY.out _).mono ?_
  rintro e w1 ⟨rfl, h1⟩
  replace hb := bthen hb h1
  clear h1
  go_wp2
  go_ret2
  exact ⟨rfl, hb⟩
set_option maxHeartbeats 1000000 in
theorem less_walk {A B N : List Value} (hA : Rc A) (hB : Rc B) (hN : Rc N) (T : Tl 99 #[vl A, vl B] (.tuple #[vl N, .bool true])) : Tl 104 #[vl A, vl B] (vl N) := by
  intro w
  unfold vl at *
  have HT := Lib.hid T
  have HA := Lib.hid hA
  have HB := Lib.hid hB
  have HN := Lib.hid hN
  unfold Tl at HT
  clear T hA hB hN
  have b2 := ((Blk.new w A 45 rfl).old (.cells B.toArray 45)).old (.cells (rr false 0 false 0).toArray 45)
  have b3 := (Blk.new (w.alloc (.cells A.toArray 45)) B 45 (b := w.heap.size + 1) (by simp)).old (.cells (rr false 0 false 0).toArray 45)
  have b4 := Blk.new ((w.alloc (.cells A.toArray 45)).alloc (.cells B.toArray 45)) (rr false 0 false 0) 45 (b := w.heap.size + 1 + 1) (by simp)
  have hb : Below w.heap.size w (((w.alloc (.cells A.toArray 45)).alloc (.cells B.toArray 45)).alloc (.cells (rr false 0 false 0).toArray 45)) := (((Below.refl _ _).alloc (Nat.le_refl _) _).alloc (by simp) _).alloc (by simp; omega) _
  go_enter Tryz.func104, Tryz.ntmps104
  go_wp2_with (first | (with_reducible refine alR rfl rfl ?_) | (with_reducible refine ldA' rfl rfl rfl b2 HA.out ?_) | (with_reducible refine ldA' rfl rfl rfl b3 HB.out ?_))
  try rw [show ((w.alloc (.cells A.toArray 45)).alloc (.cells B.toArray 45)).heap.size = w.heap.size + 1 + 1 by simp]
  refine (HT.out _).mono ?_
  rintro e w1 ⟨rfl, h1⟩
  replace b4 := b4.call h1
  replace hb := bthen hb h1
  clear h1
  have l4 := b4.lt
  have f := Blk.new w1 (rr false 0 false 0) 45 rfl
  have b5 := laid_n w1 (rr false 0 false 0) (N) 45
  replace b4 := laid_o b4 (rr false 0 false 0) (N) 45
  replace hb := laid_b hb (rr false 0 false 0) (N) 45
  go_wp2_with (first | (with_reducible refine alR rfl rfl ?_) | (with_reducible refine stQ rfl rfl rfl rfl f (rr_length _ _ _ _) HN.out ?_) | (with_reducible refine ldA' rfl rfl rfl b5 HN.out ?_) | (with_reducible refine stQ rfl rfl rfl rfl b4 (rr_length _ _ _ _) HN.out ?_))
  clear f
  generalize (w1.alloc (.cells (rr false 0 false 0).toArray 45)).setRow w1.heap.size (N).toArray = W at *
  generalize w1.heap.size = pl_b5 at *
  exact ret_c (cs := N) rfl rfl rfl HN.out.whole (b4.row _) ⟨rfl, below_row hb (by omega) _⟩
set_option maxHeartbeats 1000000 in
theorem times_walk {A B N : List Value} (hA : Rc A) (hB : Rc B) (hN : Rc N) (T : Tl 106 #[vl A, vl B] (.tuple #[vl N, .bool true])) : Tl 100 #[vl A, vl B] (vl N) := by
  intro w
  unfold vl at *
  have HT := Lib.hid T
  have HA := Lib.hid hA
  have HB := Lib.hid hB
  have HN := Lib.hid hN
  unfold Tl at HT
  clear T hA hB hN
  have b2 := ((Blk.new w A 45 rfl).old (.cells B.toArray 45)).old (.cells (rr false 0 false 0).toArray 45)
  have b3 := (Blk.new (w.alloc (.cells A.toArray 45)) B 45 (b := w.heap.size + 1) (by simp)).old (.cells (rr false 0 false 0).toArray 45)
  have b4 := Blk.new ((w.alloc (.cells A.toArray 45)).alloc (.cells B.toArray 45)) (rr false 0 false 0) 45 (b := w.heap.size + 1 + 1) (by simp)
  have hb : Below w.heap.size w (((w.alloc (.cells A.toArray 45)).alloc (.cells B.toArray 45)).alloc (.cells (rr false 0 false 0).toArray 45)) := (((Below.refl _ _).alloc (Nat.le_refl _) _).alloc (by simp) _).alloc (by simp; omega) _
  go_enter Tryz.func100, Tryz.ntmps100
  go_wp2_with (first | (with_reducible refine alR rfl rfl ?_) | (with_reducible refine ldA' rfl rfl rfl b2 HA.out ?_) | (with_reducible refine ldA' rfl rfl rfl b3 HB.out ?_))
  try rw [show ((w.alloc (.cells A.toArray 45)).alloc (.cells B.toArray 45)).heap.size = w.heap.size + 1 + 1 by simp]
  refine (HT.out _).mono ?_
  rintro e w1 ⟨rfl, h1⟩
  replace b4 := b4.call h1
  replace hb := bthen hb h1
  clear h1
  have l4 := b4.lt
  have f := Blk.new w1 (rr false 0 false 0) 45 rfl
  have b5 := laid_n w1 (rr false 0 false 0) (N) 45
  replace b4 := laid_o b4 (rr false 0 false 0) (N) 45
  replace hb := laid_b hb (rr false 0 false 0) (N) 45
  go_wp2_with (first | (with_reducible refine alR rfl rfl ?_) | (with_reducible refine stQ rfl rfl rfl rfl f (rr_length _ _ _ _) HN.out ?_) | (with_reducible refine ldA' rfl rfl rfl b5 HN.out ?_) | (with_reducible refine stQ rfl rfl rfl rfl b4 (rr_length _ _ _ _) HN.out ?_))
  clear f
  generalize (w1.alloc (.cells (rr false 0 false 0).toArray 45)).setRow w1.heap.size (N).toArray = W at *
  generalize w1.heap.size = pl_b5 at *
  exact ret_c (cs := N) rfl rfl rfl HN.out.whole (b4.row _) ⟨rfl, below_row hb (by omega) _⟩
end Go.Proofs.YtoegjibeomhekaaGreat
