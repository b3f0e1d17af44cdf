/- Package point: Mid, of one to four points, of none, of too many. -/
import Derived.Test.YtiaikjeljhfadaaPng
namespace Go.Proofs.Ytiaikjeljhfadaa
set_option linter.unusedSimpArgs false
set_option linter.unusedVariables false
open Go.RowKit
set_option maxRecDepth 100000
set_option maxHeartbeats 1000000 in
theorem Mid_nil (w : World) : Calls Try.prog 59 #[.slice none 0 0] w fun e w' => e = .returned (.tuple #[vl p0, .bool false]) ∧ Below w.heap.size w w' := by
  unfold vl
  have b2 := Blk.new w p0 66 rfl
  have hb : Below w.heap.size w (w.alloc (.cells p0.toArray 66)) := (Below.refl _ _).alloc (Nat.le_refl _) _
  go_enter Try.func59, Try.ntmps59
  go_wp2_with (first | (with_reducible refine alP rfl rfl ?_) | (with_reducible refine bdP0 rfl rfl ?_) | (with_reducible refine stPt rfl rfl rfl rfl b2 p0_len (rc_rr false 0 false 0) (rc_rr false 0 false 0) ?_))
  exact ret_ct (cs := p0) (v := .bool false) rfl rfl rfl rfl (wholeP (rc_rr false 0 false 0) (rc_rr false 0 false 0)) (b2.row _) ⟨rfl, below_row hb (by omega) _⟩
set_option maxHeartbeats 1000000 in
theorem Mid_long (p : Option Addr) {n : Nat} (c : Nat) (hn : 4 < n) (hm : n ≤ 1000) (w : World) : Calls Try.prog 59 #[.slice p n c] w fun e w' => e = .returned (.tuple #[vl p0, .bool false]) ∧ Below w.heap.size w w' := by
  unfold vl
  have b2 := Blk.new w p0 66 rfl
  have hb : Below w.heap.size w (w.alloc (.cells p0.toArray 66)) := (Below.refl _ _).alloc (Nat.le_refl _) _
  have h1 : ¬ (n : Int) = 0 := by omega
  have h2 : (4 : Int) < (n : Int) := by omega
  have e2 : decide ((4 : Int) < (n : Int)) = true := decide_eq_true h2
  go_enter Try.func59, Try.ntmps59
  go_wp2_with (first | (with_reducible refine alP rfl rfl ?_) | (with_reducible refine bdP0 rfl rfl ?_) | (with_reducible refine stPt rfl rfl rfl rfl b2 p0_len (rc_rr false 0 false 0) (rc_rr false 0 false 0) ?_))
  exact ret_ct (cs := p0) (v := .bool false) rfl rfl rfl rfl (wholeP (rc_rr false 0 false 0) (rc_rr false 0 false 0)) (b2.row _) ⟨rfl, below_row hb (by omega) _⟩
theorem app_cell {w : World} {p : Nat} {X : List Value} {t : TypeId} (h : Blk w p X t) {j : Nat} {u : Value} (hj : X[j]? = some u) : w.cell? ((⟨p, 0, none⟩ : Addr).add j) = some u := by
  rw [show (⟨p, 0, none⟩ : Addr).add j = ⟨p, j, none⟩ by simp [Addr.add]; intro h; rw [h]]
  exact h.cell hj
theorem own_call {w w' : World} {base : Nat} {e : TypeId} {size : Nat} {v : Value} {n : Nat} {xs : List Value} (h : w.ownsRow base e size v n xs) (hb : Below w.heap.size w w') : w'.ownsRow base e size v n xs :=
  h.kept (row := none) ⟨hb.os, hb.tape, hb.output, hb.size, fun k hk _ => hb.block k hk⟩ (by
    rcases hv : v.ownBlock with _ | k
    · exact .inl rfl
    · exact .inr (by simp))
theorem own_laid {w : World} {base : Nat} {e : TypeId} {size : Nat} {v : Value} {n : Nat} {xs : List Value} (h : w.ownsRow base e size v n xs) (o : Obj) (vs : Array Value) : ((w.alloc o).setRow w.heap.size vs).ownsRow base e size v n xs :=
  (h.alloc o).kept (row := some w.heap.size) ⟨rfl, rfl, rfl, by simp, fun k _ hk => setRow_other _ _ _ _ (fun e => hk (by rw [e]))⟩ (by
    rcases hv : v.ownBlock with _ | k
    · exact .inl rfl
    · have := (h.lt k hv).2
      exact .inr (fun e => by injection e with e1; omega))
set_option maxHeartbeats 4000000 in
theorem Mid_walk (n b f c : Nat) (A B : Nat → List Value) (M1 M2 : List Value) (w : World) (h1 : 1 ≤ n) (h4 : n ≤ 4) (hA : ∀ k, k < n → Rc (A k) ∧ Rc (B k)) (hT : ∀ k, k < n → Tl 56 #[vl (A k ++ B k)] (.bool true)) (hbw : b < w.heap.size) (hr : ∀ k, k < n → w.rangeAt b (f + k * 132) (A k ++ B k)) (hM1 : Rc M1) (hM2 : Rc M2)
    (T1 : ∀ (w' : World) (v : Value) (base : Nat), w'.ownsRow base 45 66 v n (cat A n) → Calls Try.prog 108 #[v] w' fun e w2 => e = .returned (vl M1) ∧ Below w'.heap.size w' w2)
    (T2 : ∀ (w' : World) (v : Value) (base : Nat), w'.ownsRow base 45 66 v n (cat B n) → Calls Try.prog 108 #[v] w' fun e w2 => e = .returned (vl M2) ∧ Below w'.heap.size w' w2) :
    Calls Try.prog 59 #[.slice (some ⟨b, f, none⟩) n c] w fun e w' => e = .returned (.tuple #[vl (M1 ++ M2), .bool true]) ∧ Below w.heap.size w w' := by
  have HAr := Lib.hid (fun (w' : World) (hb : b < w'.heap.size) (hr : ∀ k, k < n → w'.rangeAt b (f + k * 132) (A k ++ B k)) => are_walk n b f c A B (fun _ => true) w' (by omega) hA hT hb hr true (.inl ⟨rfl, fun _ _ => rfl⟩))
  unfold vl at *
  have HA := Lib.hid hA
  have Hr := Lib.hid hr
  have HM1 := Lib.hid hM1
  have HM2 := Lib.hid hM2
  have HT1 := Lib.hid T1
  have HT2 := Lib.hid T2
  clear hA hT hr hM1 hM2 T1 T2
  have b2 := Blk.new w p0 66 rfl
  have hb : Below w.heap.size w (w.alloc (.cells p0.toArray 66)) := (Below.refl _ _).alloc (Nat.le_refl _) _
  have hz : w.heap.size + 1 ≤ (w.alloc (.cells p0.toArray 66)).heap.size := by simp
  have hn1 : ¬ (n : Int) = 0 := by omega
  have hn4 : ¬ (4 : Int) < (n : Int) := by omega
  have en4 : decide ((4 : Int) < (n : Int)) = false := decide_eq_false hn4
  have Rr : Hid (∀ w', Below w.heap.size w w' → ∀ k, k < n → w'.rangeAt b (f + k * 132) (A k ++ B k)) := fun w' h k hk j v hv => by
    rw [h.cell (p := ⟨b, f + k * 132 + j, none⟩) hbw]
    exact Hr.out k hk j v hv
  obtain ⟨i0, hi, hz0, hz1, hz2⟩ := info_parts info_rat
  go_enter Try.func59, Try.ntmps59
  go_wp2_with (first | (with_reducible refine alP rfl rfl ?_))
  refine (HAr.out _ (Nat.lt_of_lt_of_le hbw hb.size) (Rr.out _ hb)).mono ?_
  rintro e w1 ⟨rfl, h1'⟩
  replace b2 := b2.call h1'
  replace hz := Nat.le_trans hz h1'.size
  replace hb := bthen hb h1'
  clear h1' HAr
  go_wp2_with fail
  go_loopw [4, 5, 24] (fun x y i wr => ∃ k : Nat, k ≤ n ∧ i = .int .i64 k ∧ wr.ownsRow (w.heap.size + 1) 45 66 x k (cat A k) ∧ wr.ownsRow (w.heap.size + 1) 45 66 y k (cat B k) ∧ Ds x y ∧ Blk wr w.heap.size p0 66 ∧ Below w.heap.size w wr ∧ w.heap.size + 1 ≤ wr.heap.size) (fun _ _ i _ => n - (intOf i).toNat)
  case atStart => exact ⟨0, Nat.zero_le _, rfl, World.ownsRow_nil _ _ _ _, World.ownsRow_nil _ _ _ _, (fun k h => by cases h), b2, hb, hz⟩
  case round =>
    clear b2 hb hz
    obtain ⟨k, hk, rfl, o4, o5, hd, b2, hb, hz⟩ := hrel
    by_cases hlt : k < n
    · have r0 := Rr.out wr hb k hlt
      have hlt' : (k : Int) < (n : Int) := by omega
      obtain ⟨ha, hb2⟩ := HA.out k hlt
      have HX := Lib.hid ha
      have HY := Lib.hid hb2
      have EX : Hid (cat A (k + 1) = cat A k ++ A k) := rfl
      have EY : Hid (cat B (k + 1) = cat B k ++ B k) := rfl
      clear ha hb2
      obtain ⟨X, hX⟩ : ∃ X, A k = X := ⟨_, rfl⟩
      obtain ⟨Y, hY⟩ : ∃ Y, B k = Y := ⟨_, rfl⟩
      rw [hX] at r0 HX EX
      rw [hY] at r0 HY EY
      clear hX hY
      have a3 := Blk.new wr p0 66 rfl
      have b7 := a3.row (X ++ Y)
      have hb' := below_row (hb.alloc hb.size (.cells p0.toArray 66)) (g := wr.heap.size) hb.size (X ++ Y).toArray
      have o4' := own_laid o4 (.cells p0.toArray 66) (X ++ Y).toArray
      have o5' := own_laid o5 (.cells p0.toArray 66) (X ++ Y).toArray
      have b2' := laid_o b2 p0 (X ++ Y) 66
      have l4 := fun j (h : u4.ownBlock = some j) => o4.lt j h
      have l5 := fun j (h : u5.ownBlock = some j) => o5.lt j h
      have L4 := Lib.hid l4
      have L5 := Lib.hid l5
      have hz' : wr.heap.size + 1 ≤ ((wr.alloc (.cells p0.toArray 66)).setRow wr.heap.size (X ++ Y).toArray).heap.size := by simp
      have HDs := Lib.hid hd
      clear o4 o5 b2 hb l4 l5 hd
      go_wp2_with (first | (with_reducible refine ldPr rfl rfl rfl r0 HX.out HY.out ?_) | (with_reducible refine alP rfl rfl ?_) | (with_reducible refine stPt rfl rfl rfl rfl a3 p0_len HX.out HY.out ?_))
      clear r0 a3
      generalize (wr.alloc (.cells p0.toArray 66)).setRow wr.heap.size (X ++ Y).toArray = W at *
      obtain ⟨z, hzz⟩ : ∃ z, wr.heap.size = z := ⟨_, rfl⟩
      rw [hzz] at L4 L5 hz hz' b7 ⊢
      clear hzz
      have m7 : Hid (z ∉ gl u4 ++ gl u5) := by
        intro h
        rcases List.mem_append.1 h with h | h
        · have := L4.out z (gl_mem.1 h); omega
        · have := L5.out z (gl_mem.1 h); omega
      have m2 : Hid (w.heap.size ∉ gl u4 ++ gl u5) := by
        intro h
        rcases List.mem_append.1 h with h | h
        · have := L4.out _ (gl_mem.1 h); omega
        · have := L5.out _ (gl_mem.1 h); omega
      have g4 : Hid (∀ j, u4.ownBlock = some j → j ∈ gl u4 ++ gl u5 ∨ W.heap.size ≤ j) := fun j h => .inl (List.mem_append.2 (.inl (gl_mem.2 h)))
      have g5 : Hid (∀ j, u5.ownBlock = some j → j ∈ gl u4 ++ gl u5 ∨ W.heap.size ≤ j) := fun j h => .inl (List.mem_append.2 (.inr (gl_mem.2 h)))
      have hsz := hb'.size
      refine rg_start (gl u4 ++ gl u5) (by kernel_rfl) (fun hS => ?_)
      replace hb' := hb'.drew
      have hsz' : w.heap.size + 1 ≤ W.heap.size := by omega
      replace o4' := o4'.drew
      replace o5' := o5'.drew
      refine rg_take 0 rfl (by kernel_rfl) (by kernel_rfl) (by kernel_rfl) (by rfl) hS (v := ?_) ?_ ?_
      rotate_left
      · (intro w' hS'; go_simp <;> try with_reducible rfl)
      try simp only [Act.put, List.setIfInBounds_toArray, List.set_cons_zero, List.set_cons_succ]
      refine rg_take 1 rfl (by kernel_rfl) (by kernel_rfl) (by kernel_rfl) (by rfl) hS (v := ?_) ?_ ?_
      rotate_left
      · (intro w' hS'; go_simp <;> try with_reducible rfl)
      try simp only [Act.put, List.setIfInBounds_toArray, List.set_cons_zero, List.set_cons_succ]
      refine rg_ldP 2 rfl (by kernel_rfl) (by kernel_rfl) (by kernel_rfl) (by rfl) hS rfl rfl b7 m7.out partX HX.out.whole ?_
      try simp only [Act.put, List.setIfInBounds_toArray, List.set_cons_zero, List.set_cons_succ]
      refine rg_take 5 rfl (by kernel_rfl) (by kernel_rfl) (by kernel_rfl) (by rfl) hS (v := ?_) ?_ ?_
      rotate_left
      · (intro w' hS'; go_simp <;> try with_reducible rfl)
      try simp only [Act.put, List.setIfInBounds_toArray, List.set_cons_zero, List.set_cons_succ]
      refine rg_take 6 rfl (by kernel_rfl) (by kernel_rfl) (by kernel_rfl) (by rfl) hS (v := ?_) ?_ ?_
      rotate_left
      · (intro w' hS'; go_simp <;> try with_reducible rfl)
      try simp only [Act.put, List.setIfInBounds_toArray, List.set_cons_zero, List.set_cons_succ]
      refine rg_ldP 7 rfl (by kernel_rfl) (by kernel_rfl) (by kernel_rfl) (by rfl) hS rfl rfl b7 m7.out (partY HX.out) HY.out.whole ?_
      try simp only [Act.put, List.setIfInBounds_toArray, List.set_cons_zero, List.set_cons_succ]
      refine rg_two 3 8 rfl rfl (by kernel_rfl) (by rfl) (by rfl) (fun K hK => ?_) (fun K hK => ?_)
      · refine wp_bsL HX.out rfl rfl (fun p3 q3 a3 => ?_)
        replace q3 := Nat.le_trans hS.1 q3
        refine hK _ _ (hS.alloc _) (fun hS => ?_)
        clear hK K
        replace o4' := o4'.alloc (.cells X.toArray 45)
        replace o5' := o5'.alloc (.cells X.toArray 45)
        try replace a8 := a8.old (.cells X.toArray 45)
        replace hb' := hb'.alloc hb'.size (.cells X.toArray 45)
        try simp only [Act.put, List.setIfInBounds_toArray, List.set_cons_zero, List.set_cons_succ]
        refine rg_two 4 8 rfl rfl (by kernel_rfl) (by rfl) (by rfl) (fun K hK => ?_) (fun K hK => ?_)
        · refine wp_append_own2 _ _ _ 59 rfl (w.heap.size + 1) 45 i0 (.agg (rr false 0 false 0).toArray) 66 264 Try.underlying59 hi hz0 hz1 hz2 rfl (by decide) _ _ _ rfl o4' ⟨p3, 0, none⟩ 1 1 X rfl (by rw [HX.out.len]) (fun j u hj => app_cell a3 hj) HX.out.one (by unfold maxLen; omega) (by omega) (Nat.le_trans hsz' hS.1) ?_
          intro v4 w4 n4 e4 y4
          refine hK _ _ (hS.grown e4 g4.out) (fun hS => ?_)
          clear hK K
          have d4 : Ds v4 u5 := HDs.out.step y4 (fun j h => (o5'.lt j h).2)
          replace o5' := o5'.kept e4 HDs.out.kept
          try replace a8 := a8.grown e4 (fun h => by have := L4.out _ h; omega)
          replace hb' := hb'.grown e4 hb'.size (fun j h => by have := L4.out j h; omega)
          replace o4' := n4
          try simp only [Act.put, List.setIfInBounds_toArray, List.set_cons_zero, List.set_cons_succ]
          refine rg_eff 8 rfl (by kernel_rfl) (by rfl) (fun K hK => ?_)
          refine wp_bsL HY.out rfl rfl (fun p8 q8 a8 => ?_)
          replace q8 := Nat.le_trans hS.1 q8
          refine hK _ _ (hS.alloc _) (fun hS => ?_)
          clear hK K
          replace o4' := o4'.alloc (.cells Y.toArray 45)
          replace o5' := o5'.alloc (.cells Y.toArray 45)
          try replace a3 := a3.old (.cells Y.toArray 45)
          replace hb' := hb'.alloc hb'.size (.cells Y.toArray 45)
          try simp only [Act.put, List.setIfInBounds_toArray, List.set_cons_zero, List.set_cons_succ]
          refine rg_eff 9 rfl (by kernel_rfl) (by rfl) (fun K hK => ?_)
          refine wp_append_own2 _ _ _ 59 rfl (w.heap.size + 1) 45 i0 (.agg (rr false 0 false 0).toArray) 66 264 Try.underlying59 hi hz0 hz1 hz2 rfl (by decide) _ _ _ rfl o5' ⟨p8, 0, none⟩ 1 1 Y rfl (by rw [HY.out.len]) (fun j u hj => app_cell a8 hj) HY.out.one (by unfold maxLen; omega) (by omega) (Nat.le_trans hsz' hS.1) ?_
          intro v5 w5 n5 e5 y5
          refine hK _ _ (hS.grown e5 g5.out) (fun hS => ?_)
          clear hK K
          have d5 : Ds v4 v5 := (d4.symm.step y5 (fun j h => (o4'.lt j h).2)).symm
          replace o4' := o4'.kept e5 d4.symm.kept
          replace hb' := hb'.grown e5 hb'.size (fun j h => by have := L5.out j h; omega)
          replace o5' := n5
          try simp only [Act.put, List.setIfInBounds_toArray, List.set_cons_zero, List.set_cons_succ]
          refine rg_take 10 rfl (by kernel_rfl) (by kernel_rfl) (by kernel_rfl) (by rfl) hS (v := ?_) ?_ ?_
          rotate_left
          · (intro w' hS'; go_simp <;> try with_reducible rfl)
          try simp only [Act.put, List.setIfInBounds_toArray, List.set_cons_zero, List.set_cons_succ]
          refine rg_take 11 rfl (by kernel_rfl) (by kernel_rfl) (by kernel_rfl) (by rfl) hS (v := ?_) ?_ ?_
          rotate_left
          · (intro w' hS'; go_simp <;> try with_reducible rfl)
          try simp only [Act.put, List.setIfInBounds_toArray, List.set_cons_zero, List.set_cons_succ]
          refine rg_done (by kernel_rfl) ?_
          go_wp2
          go_roundw
          case rel => exact ⟨k + 1, by omega, by go_num, by rw [EX.out]; exact o4', by rw [EY.out]; exact o5', d5, b2'.keep hS m2.out, hb', Nat.le_trans hsz' hS.1⟩
          case measure => simp [intOf]; omega
        · refine wp_bsL HY.out rfl rfl (fun p8 q8 a8 => ?_)
          replace q8 := Nat.le_trans hS.1 q8
          refine hK _ _ (hS.alloc _) (fun hS => ?_)
          clear hK K
          replace o4' := o4'.alloc (.cells Y.toArray 45)
          replace o5' := o5'.alloc (.cells Y.toArray 45)
          try replace a3 := a3.old (.cells Y.toArray 45)
          replace hb' := hb'.alloc hb'.size (.cells Y.toArray 45)
          try simp only [Act.put, List.setIfInBounds_toArray, List.set_cons_zero, List.set_cons_succ]
          refine rg_eff 4 rfl (by kernel_rfl) (by rfl) (fun K hK => ?_)
          refine wp_append_own2 _ _ _ 59 rfl (w.heap.size + 1) 45 i0 (.agg (rr false 0 false 0).toArray) 66 264 Try.underlying59 hi hz0 hz1 hz2 rfl (by decide) _ _ _ rfl o4' ⟨p3, 0, none⟩ 1 1 X rfl (by rw [HX.out.len]) (fun j u hj => app_cell a3 hj) HX.out.one (by unfold maxLen; omega) (by omega) (Nat.le_trans hsz' hS.1) ?_
          intro v4 w4 n4 e4 y4
          refine hK _ _ (hS.grown e4 g4.out) (fun hS => ?_)
          clear hK K
          have d4 : Ds v4 u5 := HDs.out.step y4 (fun j h => (o5'.lt j h).2)
          replace o5' := o5'.kept e4 HDs.out.kept
          try replace a8 := a8.grown e4 (fun h => by have := L4.out _ h; omega)
          replace hb' := hb'.grown e4 hb'.size (fun j h => by have := L4.out j h; omega)
          replace o4' := n4
          try simp only [Act.put, List.setIfInBounds_toArray, List.set_cons_zero, List.set_cons_succ]
          refine rg_eff 9 rfl (by kernel_rfl) (by rfl) (fun K hK => ?_)
          refine wp_append_own2 _ _ _ 59 rfl (w.heap.size + 1) 45 i0 (.agg (rr false 0 false 0).toArray) 66 264 Try.underlying59 hi hz0 hz1 hz2 rfl (by decide) _ _ _ rfl o5' ⟨p8, 0, none⟩ 1 1 Y rfl (by rw [HY.out.len]) (fun j u hj => app_cell a8 hj) HY.out.one (by unfold maxLen; omega) (by omega) (Nat.le_trans hsz' hS.1) ?_
          intro v5 w5 n5 e5 y5
          refine hK _ _ (hS.grown e5 g5.out) (fun hS => ?_)
          clear hK K
          have d5 : Ds v4 v5 := (d4.symm.step y5 (fun j h => (o4'.lt j h).2)).symm
          replace o4' := o4'.kept e5 d4.symm.kept
          replace hb' := hb'.grown e5 hb'.size (fun j h => by have := L5.out j h; omega)
          replace o5' := n5
          try simp only [Act.put, List.setIfInBounds_toArray, List.set_cons_zero, List.set_cons_succ]
          refine rg_take 10 rfl (by kernel_rfl) (by kernel_rfl) (by kernel_rfl) (by rfl) hS (v := ?_) ?_ ?_
          rotate_left
          · (intro w' hS'; go_simp <;> try with_reducible rfl)
          try simp only [Act.put, List.setIfInBounds_toArray, List.set_cons_zero, List.set_cons_succ]
          refine rg_take 11 rfl (by kernel_rfl) (by kernel_rfl) (by kernel_rfl) (by rfl) hS (v := ?_) ?_ ?_
          rotate_left
          · (intro w' hS'; go_simp <;> try with_reducible rfl)
          try simp only [Act.put, List.setIfInBounds_toArray, List.set_cons_zero, List.set_cons_succ]
          refine rg_done (by kernel_rfl) ?_
          go_wp2
          go_roundw
          case rel => exact ⟨k + 1, by omega, by go_num, by rw [EX.out]; exact o4', by rw [EY.out]; exact o5', d5, b2'.keep hS m2.out, hb', Nat.le_trans hsz' hS.1⟩
          case measure => simp [intOf]; omega
      · refine wp_bsL HY.out rfl rfl (fun p8 q8 a8 => ?_)
        replace q8 := Nat.le_trans hS.1 q8
        refine hK _ _ (hS.alloc _) (fun hS => ?_)
        clear hK K
        replace o4' := o4'.alloc (.cells Y.toArray 45)
        replace o5' := o5'.alloc (.cells Y.toArray 45)
        try replace a3 := a3.old (.cells Y.toArray 45)
        replace hb' := hb'.alloc hb'.size (.cells Y.toArray 45)
        try simp only [Act.put, List.setIfInBounds_toArray, List.set_cons_zero, List.set_cons_succ]
        refine rg_eff 3 rfl (by kernel_rfl) (by rfl) (fun K hK => ?_)
        refine wp_bsL HX.out rfl rfl (fun p3 q3 a3 => ?_)
        replace q3 := Nat.le_trans hS.1 q3
        refine hK _ _ (hS.alloc _) (fun hS => ?_)
        clear hK K
        replace o4' := o4'.alloc (.cells X.toArray 45)
        replace o5' := o5'.alloc (.cells X.toArray 45)
        try replace a8 := a8.old (.cells X.toArray 45)
        replace hb' := hb'.alloc hb'.size (.cells X.toArray 45)
        try simp only [Act.put, List.setIfInBounds_toArray, List.set_cons_zero, List.set_cons_succ]
        refine rg_eff 4 rfl (by kernel_rfl) (by rfl) (fun K hK => ?_)
        refine wp_append_own2 _ _ _ 59 rfl (w.heap.size + 1) 45 i0 (.agg (rr false 0 false 0).toArray) 66 264 Try.underlying59 hi hz0 hz1 hz2 rfl (by decide) _ _ _ rfl o4' ⟨p3, 0, none⟩ 1 1 X rfl (by rw [HX.out.len]) (fun j u hj => app_cell a3 hj) HX.out.one (by unfold maxLen; omega) (by omega) (Nat.le_trans hsz' hS.1) ?_
        intro v4 w4 n4 e4 y4
        refine hK _ _ (hS.grown e4 g4.out) (fun hS => ?_)
        clear hK K
        have d4 : Ds v4 u5 := HDs.out.step y4 (fun j h => (o5'.lt j h).2)
        replace o5' := o5'.kept e4 HDs.out.kept
        try replace a8 := a8.grown e4 (fun h => by have := L4.out _ h; omega)
        replace hb' := hb'.grown e4 hb'.size (fun j h => by have := L4.out j h; omega)
        replace o4' := n4
        try simp only [Act.put, List.setIfInBounds_toArray, List.set_cons_zero, List.set_cons_succ]
        refine rg_eff 9 rfl (by kernel_rfl) (by rfl) (fun K hK => ?_)
        refine wp_append_own2 _ _ _ 59 rfl (w.heap.size + 1) 45 i0 (.agg (rr false 0 false 0).toArray) 66 264 Try.underlying59 hi hz0 hz1 hz2 rfl (by decide) _ _ _ rfl o5' ⟨p8, 0, none⟩ 1 1 Y rfl (by rw [HY.out.len]) (fun j u hj => app_cell a8 hj) HY.out.one (by unfold maxLen; omega) (by omega) (Nat.le_trans hsz' hS.1) ?_
        intro v5 w5 n5 e5 y5
        refine hK _ _ (hS.grown e5 g5.out) (fun hS => ?_)
        clear hK K
        have d5 : Ds v4 v5 := (d4.symm.step y5 (fun j h => (o4'.lt j h).2)).symm
        replace o4' := o4'.kept e5 d4.symm.kept
        replace hb' := hb'.grown e5 hb'.size (fun j h => by have := L5.out j h; omega)
        replace o5' := n5
        try simp only [Act.put, List.setIfInBounds_toArray, List.set_cons_zero, List.set_cons_succ]
        refine rg_take 10 rfl (by kernel_rfl) (by kernel_rfl) (by kernel_rfl) (by rfl) hS (v := ?_) ?_ ?_
        rotate_left
        · (intro w' hS'; go_simp <;> try with_reducible rfl)
        try simp only [Act.put, List.setIfInBounds_toArray, List.set_cons_zero, List.set_cons_succ]
        refine rg_take 11 rfl (by kernel_rfl) (by kernel_rfl) (by kernel_rfl) (by rfl) hS (v := ?_) ?_ ?_
        rotate_left
        · (intro w' hS'; go_simp <;> try with_reducible rfl)
        try simp only [Act.put, List.setIfInBounds_toArray, List.set_cons_zero, List.set_cons_succ]
        refine rg_done (by kernel_rfl) ?_
        go_wp2
        go_roundw
        case rel => exact ⟨k + 1, by omega, by go_num, by rw [EX.out]; exact o4', by rw [EY.out]; exact o5', d5, b2'.keep hS m2.out, hb', Nat.le_trans hsz' hS.1⟩
        case measure => simp [intOf]; omega
    · obtain rfl : k = n := by omega
      go_wp2_with fail
      refine (HT1.out _ _ _ o4).mono ?_
      rintro e w1 ⟨rfl, h1'⟩
      have o5' := own_call o5 h1'
      replace b2 := b2.call h1'
      replace hb := bthen hb h1'
      clear h1' o4 o5
      go_wp2_with fail
      refine (HT2.out _ _ _ o5').mono ?_
      rintro e w2 ⟨rfl, h1'⟩
      replace b2 := b2.call h1'
      replace hb := bthen hb h1'
      go_wp2_with (first | (with_reducible refine bdP rfl rfl rfl rfl HM1.out HM2.out ?_) | (with_reducible refine stPt rfl rfl rfl rfl b2 p0_len HM1.out HM2.out ?_))
      exact ret_ct (cs := M1 ++ M2) (v := .bool true) rfl rfl rfl rfl (wholeP HM1.out HM2.out) (b2.row _) ⟨rfl, below_row hb (Nat.le_refl _) _⟩
end Go.Proofs.Ytiaikjeljhfadaa
