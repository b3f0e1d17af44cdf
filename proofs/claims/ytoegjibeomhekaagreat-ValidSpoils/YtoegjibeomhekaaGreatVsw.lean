/- ValidSpoils: its walk. -/
import Derived.Test.YtoegjibeomhekaaGreatVkn
import Derived.RegionTactic
import Derived.BigRegion
namespace Go.Proofs.YtoegjibeomhekaaGreat
set_option linter.unusedSimpArgs false
set_option linter.unusedVariables false
open Go.RowKit
set_option maxRecDepth 100000
set_option maxHeartbeats 8000000 in
theorem spoils_walk (X Y N K : Int) (h1 : 0 ≤ X ∧ X ≤ 255) (h2 : 0 ≤ Y ∧ Y ≤ 255) (h3 : 0 ≤ N ∧ N ≤ 255) (h4 : 0 ≤ K ∧ K ≤ 255) (w : World) :
    Calls Tryz.prog 5 #[.int .u8 X, .int .u8 Y, .int .u8 N, .int .u8 K] w fun e w' => e = .returned (.bool true) ∧ Below w.heap.size w w' := by
  have HKn := Lib.hid (known9_any w)
  go_enter Tryz.func5, Tryz.ntmps5
  go_wp2_with fail
  refine HKn.out.mono ?_
  rintro e w1 ⟨rfl, hb⟩
  go_wp2_with fail
  have hx : 0 ≤ X % 30 ∧ X % 30 ≤ 29 := by omega
  have hy : 0 ≤ Y % 30 ∧ Y % 30 ≤ 29 := by omega
  have hn : 1 ≤ N % 30 + 1 ∧ N % 30 + 1 ≤ 30 := by omega
  have hk : 0 ≤ K % 8 ∧ K % 8 ≤ 7 := by omega
  generalize X % 30 = x at *
  generalize Y % 30 = y at *
  generalize N % 30 + 1 = n at *
  refine (square_any x y n (by omega) (by omega) (by omega) _).mono ?_
  rintro e w2 ⟨g, q, rfl, G, S, hg, hq, k1⟩
  replace hg := Nat.le_trans hb.size hg
  replace hq := Nat.le_trans hb.size hq
  replace hb := bthen hb k1
  clear k1 HKn
  have G0 : Blk w2 g [.int .i64 x, .int .i64 y, .int .i64 0, .int .i64 (x + n), .int .i64 y, .int .i64 0, .int .i64 (x + n), .int .i64 (y + n), .int .i64 0, .int .i64 x, .int .i64 (y + n), .int .i64 0] 31 := G
  have S0 : Blk w2 q [.int .i64 0, .int .i64 1, .int .i64 1, .int .i64 1, .int .i64 2, .int .i64 2, .int .i64 2, .int .i64 3, .int .i64 3, .int .i64 3, .int .i64 0, .int .i64 4] 33 := S
  have hb0 := hb
  have hgl := G0.lt
  have hql := S0.lt
  have D := Blk.new w2 [.slice (some ⟨g, 0, none⟩) 4 4, .slice (some ⟨q, 0, none⟩) 4 4, .slice none 0 0] 26 rfl
  replace G := G.old (.cells #[.slice (some ⟨g, 0, none⟩) 4 4, .slice (some ⟨q, 0, none⟩) 4 4, .slice none 0 0] 26)
  replace S := S.old (.cells #[.slice (some ⟨g, 0, none⟩) 4 4, .slice (some ⟨q, 0, none⟩) 4 4, .slice none 0 0] 26)
  have hd := hb.size
  replace hb := hb.alloc hd (.cells #[.slice (some ⟨g, 0, none⟩) 4 4, .slice (some ⟨q, 0, none⟩) 4 4, .slice none 0 0] 26)
  have hgd : g ≠ w2.heap.size := fun e => by subst e; unfold Blk at G D; rw [G] at D; simp [cTs, sqV] at D
  have hqd : q ≠ w2.heap.size := fun e => by subst e; unfold Blk at S D; rw [S] at D; simp [cTs, sqS] at D
  have hqg : q ≠ g := fun e => by subst e; unfold Blk at G S; rw [G] at S; simp [cTs, sqV, sqS] at S
  have G' : Blk _ g [.int .i64 x, .int .i64 y, .int .i64 0, .int .i64 (x + n), .int .i64 y, .int .i64 0, .int .i64 (x + n), .int .i64 (y + n), .int .i64 0, .int .i64 x, .int .i64 (y + n), .int .i64 0] 31 := G
  have S' : Blk _ q [.int .i64 0, .int .i64 1, .int .i64 1, .int .i64 1, .int .i64 2, .int .i64 2, .int .i64 2, .int .i64 3, .int .i64 3, .int .i64 3, .int .i64 0, .int .i64 4] 33 := S
  have hk8 : K % 8 = 0 ∨ K % 8 = 1 ∨ K % 8 = 2 ∨ K % 8 = 3 ∨ K % 8 = 4 ∨ K % 8 = 5 ∨ K % 8 = 6 ∨ K % 8 = 7 := by omega
  clear G S
  rcases hk8 with hk8 | hk8 | hk8 | hk8 | hk8 | hk8 | hk8 | hk8
  case inl =>
    have c0 := D.cell (i := 0) rfl
    have cf0 := D.frozen 0
    have c1 := D.cell (i := 1) rfl
    have cf1 := D.frozen 1
    have c2 := D.cell (i := 2) rfl
    have cf2 := D.frozen 2
    go_wp2_with fail
    generalize w2.alloc (.cells #[.slice (some ⟨g, 0, none⟩) 4 4, .slice (some ⟨q, 0, none⟩) 4 4, .slice none 0 0] 26) = W at *
    generalize w2.heap.size = d at *
    have G : Blk W g (cTs (sqV x y n)) 31 := G'
    have S : Blk W q (cTs sqS) 33 := S'
    clear cf0 cf1 cf2 c0 c1 c2
    refine (Check_at (RdT.lit G) (RdT.lit S) (RdP.nil _ none 0) (Nat.le_of_ble_eq_true rfl) (Nat.le_of_ble_eq_true rfl) (Nat.le_of_ble_eq_true rfl) (by simp) (spoil_0 hx hy hn)).mono ?_
    rintro e w3 ⟨rfl, k1⟩
    replace hb := bthen hb k1
    clear k1
    go_wp2
    go_ret
    exact ⟨rfl, hb⟩
  case inr.inl =>
    go_wp2_with fail
    generalize w2.alloc (.cells #[.slice (some ⟨g, 0, none⟩) 4 4, .slice (some ⟨q, 0, none⟩) 4 4, .slice none 0 0] 26) = W at *
    generalize w2.heap.size = d at *
    have c0 := D.cell (i := 0) rfl
    have cf0 := D.frozen 0
    have c1 := D.cell (i := 1) rfl
    have cf1 := D.frozen 1
    have c2 := D.cell (i := 2) rfl
    have cf2 := D.frozen 2
    have g0 := G'.cell (i := 0) rfl
    have gf0 := G'.frozen 0
    have g1 := G'.cell (i := 1) rfl
    have gf1 := G'.frozen 1
    have g2 := G'.cell (i := 2) rfl
    have gf2 := G'.frozen 2
    have g3 := G'.cell (i := 3) rfl
    have gf3 := G'.frozen 3
    have g4 := G'.cell (i := 4) rfl
    have gf4 := G'.frozen 4
    have g5 := G'.cell (i := 5) rfl
    have gf5 := G'.frozen 5
    go_region
    have D2 := (((D.setOther (g := g) 3 (.int .i64 x) (Ne.symm hgd)).setOther (g := g) 4 (.int .i64 y) (Ne.symm hgd)).setOther (g := g) 5 (.int .i64 0) (Ne.symm hgd)).drew
    have G2 := (((G'.set 3 (.int .i64 x)).set 4 (.int .i64 y)).set 5 (.int .i64 0)).drew
    have S2 := (((S'.setOther (g := g) 3 (.int .i64 x) hqg).setOther (g := g) 4 (.int .i64 y) hqg).setOther (g := g) 5 (.int .i64 0) hqg).drew
    replace hb := (((hb.setCell (p := ⟨g, 3, none⟩) hg (.int .i64 x)).setCell (p := ⟨g, 4, none⟩) hg (.int .i64 y)).setCell (p := ⟨g, 5, none⟩) hg (.int .i64 0)).drew
    have e0 := D2.cell (i := 0) rfl
    have e1 := D2.cell (i := 1) rfl
    have e2 := D2.cell (i := 2) rfl
    go_wp2_with fail
    generalize (((W.setCell ⟨g, 3, none⟩ (.int .i64 x)).setCell ⟨g, 4, none⟩ (.int .i64 y)).setCell ⟨g, 5, none⟩ (.int .i64 0)).drew = W2 at *
    have G : Blk W2 g (cTs [(x, y, 0), (x, y, 0), (x + n, y + n, 0), (x, y + n, 0)]) 31 := G2
    have S : Blk W2 q (cTs sqS) 33 := S2
    refine (Check_at (RdT.lit G) (RdT.lit S) (RdP.nil _ none 0) (Nat.le_of_ble_eq_true rfl) (Nat.le_of_ble_eq_true rfl) (Nat.le_of_ble_eq_true rfl) (by simp) (spoil_1 hx hy hn)).mono ?_
    rintro e w3 ⟨rfl, k1⟩
    replace hb := bthen hb k1
    clear k1
    go_wp2
    go_ret
    exact ⟨rfl, hb⟩
  case inr.inr.inl =>
    have c0 := D.cell (i := 0) rfl
    have cf0 := D.frozen 0
    have c1 := D.cell (i := 1) rfl
    have cf1 := D.frozen 1
    have c2 := D.cell (i := 2) rfl
    have cf2 := D.frozen 2
    have D2 := Blk.new w2 [.slice (some ⟨g, 0, none⟩) 4 4, .slice (some ⟨q, 0, none⟩) 3 4, .slice none 0 0] 26 rfl
    have e0 := D2.cell (i := 0) rfl
    have e1 := D2.cell (i := 1) rfl
    have e2 := D2.cell (i := 2) rfl
    have G2 := G0.old (.cells #[.slice (some ⟨g, 0, none⟩) 4 4, .slice (some ⟨q, 0, none⟩) 3 4, .slice none 0 0] 26)
    have S2 := S0.old (.cells #[.slice (some ⟨g, 0, none⟩) 4 4, .slice (some ⟨q, 0, none⟩) 3 4, .slice none 0 0] 26)
    replace hb := hb0.alloc hb0.size (.cells #[.slice (some ⟨g, 0, none⟩) 4 4, .slice (some ⟨q, 0, none⟩) 3 4, .slice none 0 0] 26)
    go_wp2_with fail
    generalize w2.alloc (.cells #[.slice (some ⟨g, 0, none⟩) 4 4, .slice (some ⟨q, 0, none⟩) 3 4, .slice none 0 0] 26) = W at *
    have G : Blk W g (cTs (sqV x y n)) 31 := G2
    have S : Blk W q (cTs sqS) 33 := S2
    refine (Check_at (RdT.lit G) (RdT.lit_take (k := 3) S (by decide)) (RdP.nil _ none 0) (Nat.le_of_ble_eq_true rfl) (Nat.le_of_ble_eq_true rfl) (Nat.le_of_ble_eq_true rfl) (by simp) (spoil_2 hx hy hn)).mono ?_
    rintro e w3 ⟨rfl, k1⟩
    replace hb := bthen hb k1
    clear k1
    go_wp2
    go_ret
    exact ⟨rfl, hb⟩
  case inr.inr.inr.inl =>
    go_wp2_with fail
    generalize w2.alloc (.cells #[.slice (some ⟨g, 0, none⟩) 4 4, .slice (some ⟨q, 0, none⟩) 4 4, .slice none 0 0] 26) = W at *
    generalize w2.heap.size = d at *
    have S1 : Blk W q (cTs sqS) 33 := S'
    have o1 : W.ownsRow w.heap.size 33 3 (.slice (some ⟨q, 0, none⟩) 4 4) 4 (cTs sqS) := own_cTs S1 hq (by decide)
    have hsz := hb.size
    have hdw := D.lt
    have r0 : W.rangeAt q 0 (cT (0, 1, 1)) := cT_rng (S'.cell (i := 0) rfl) (S'.cell (i := 1) rfl) (S'.cell (i := 2) rfl)
    have hG : ∀ k, (Value.slice (some ⟨q, 0, none⟩) 4 4).ownBlock = some k → k ∈ [q, d] := by
      intro k hk
      simp [Value.ownBlock] at hk
      simp [hk]
    have HG := Lib.hid hG
    have HQd : Hid ((Value.slice (some ⟨q, 0, none⟩) 4 4).ownBlock ≠ some d) := by show _ ≠ _; simp [Value.ownBlock]; exact hqd
    have HQg : Hid ((Value.slice (some ⟨q, 0, none⟩) 4 4).ownBlock ≠ some g) := by show _ ≠ _; simp [Value.ownBlock]; exact hqg
    have HHD : Hid (w.heap.size ≤ d) := hd
    clear hG
    refine rg_start [q, d] (by kernel_rfl) (fun hS => ?_)
    have Dq := D.drew
    have Sq := S'.drew
    have Gq := G'.drew
    replace o1 := o1.drew
    replace hb := hb.drew
    refine rg_take 0 rfl (by kernel_rfl) (by kernel_rfl) (by kernel_rfl) (by rfl) hS (v := ?_) ?_ ?_
    rotate_left
    · (intro w' hS'; go_simp <;> try with_reducible rfl)
    try simp only [Act.put, List.setIfInBounds_toArray, List.set_cons_zero, List.set_cons_succ]
    refine rg_take 2 rfl (by kernel_rfl) (by kernel_rfl) (by kernel_rfl) (by rfl) hS (v := ?_) ?_ ?_
    rotate_left
    · (intro w' hS'; go_simp <;> try with_reducible rfl)
    try simp only [Act.put, List.setIfInBounds_toArray, List.set_cons_zero, List.set_cons_succ]
    refine rg_two 1 3 rfl rfl (by kernel_rfl) (by rfl) (by rfl) (fun K hK => ?_) (fun K hK => ?_)
    · have c1 := Dq.cell (i := 1) rfl
      go_simp
      refine hK _ _ hS (fun hS => ?_)
      clear hK K c1
      try simp only [Act.put, List.setIfInBounds_toArray, List.set_cons_zero, List.set_cons_succ]
      refine rg_eff 3 rfl (by kernel_rfl) (by rfl) (fun K hK => ?_)
      have c1 := Dq.cell (i := 1) rfl
      go_simp
      refine hK _ _ hS (fun hS => ?_)
      clear hK K c1
      try simp only [Act.put, List.setIfInBounds_toArray, List.set_cons_zero, List.set_cons_succ]
      refine rg_take 4 rfl (by kernel_rfl) (by kernel_rfl) (by kernel_rfl) (by rfl) hS (v := ?_) ?_ ?_
      rotate_left
      · (intro w' hS'; go_simp <;> try with_reducible rfl)
      try simp only [Act.put, List.setIfInBounds_toArray, List.set_cons_zero, List.set_cons_succ]
      refine rg_eff 5 rfl (by kernel_rfl) (by rfl) (fun K hK => ?_)
      have c0 := Sq.cell (i := 0) rfl
      have c1 := Sq.cell (i := 1) rfl
      have c2 := Sq.cell (i := 2) rfl
      go_simp
      refine hK _ _ hS (fun hS => ?_)
      clear hK K c0 c1 c2
      try simp only [Act.put, List.setIfInBounds_toArray, List.set_cons_zero, List.set_cons_succ]
      refine rg_eff 6 rfl (by kernel_rfl) (by rfl) (fun K hK => ?_)
      refine wp_bs1Sg rfl rfl (fun gq wq gle BZ hqq => ?_)
      refine hK _ _ (hS.call hqq) (fun hS => ?_)
      clear hK K
      replace hb := hb.trans (hqq.mono hb.size)
      replace o1 := own_call o1 hqq
      replace Dq := Dq.call hqq
      replace Sq := Sq.call hqq
      replace Gq := Gq.call hqq
      clear hqq gle
      try simp only [Act.put, List.setIfInBounds_toArray, List.set_cons_zero, List.set_cons_succ]
      refine rg_eff 7 rfl (by kernel_rfl) (by rfl) (fun K hK => ?_)
      refine wp_ap1Sg (v := .slice (some ⟨q, 0, none⟩) 4 4) rfl rfl rfl o1 BZ (by decide) hb.size (fun v3 w3 o3 hgw => ?_)
      refine hK _ _ (vgrown hS hgw HG.out) (fun hS => ?_)
      clear hK K
      have h3 : Below w.heap.size _ _ := (Below.refl _ _).grown hgw hb.size (fun k hk => (o1.lt k hk).1)
      have Dk := Dq.grown hgw HQd.out
      have Gk := Gq.grown hgw HQg.out
      replace hb := hb.trans h3
      clear hgw h3 o1 BZ Dq Gq
      replace o3 : w3.ownsRow w.heap.size 33 3 v3 5 (cTs (sqS ++ [(0, 1, 1)])) := o3
      obtain ⟨g4, c4, rfl⟩ := own_form o3 (by decide)
      try simp only [Act.put, List.setIfInBounds_toArray, List.set_cons_zero, List.set_cons_succ]
      refine rg_take 8 rfl (by kernel_rfl) (by kernel_rfl) (by kernel_rfl) (by rfl) hS (v := ?_) ?_ ?_
      rotate_left
      · (intro w' hS'; go_simp <;> try with_reducible rfl)
      try simp only [Act.put, List.setIfInBounds_toArray, List.set_cons_zero, List.set_cons_succ]
      refine rg_eff 9 rfl (by kernel_rfl) (by rfl) (fun K hK => ?_)
      have c1 := Dk.cell (i := 1) rfl
      have f1 := Dk.frozen 1
      go_simp
      refine hK _ _ (hS.cell (.inl (by simp)) _ _) (fun hS => ?_)
      clear hK K c1 f1
      try simp only [Act.put, List.setIfInBounds_toArray, List.set_cons_zero, List.set_cons_succ]
      refine rg_take 10 rfl (by kernel_rfl) (by kernel_rfl) (by kernel_rfl) (by rfl) hS (v := ?_) ?_ ?_
      rotate_left
      · (intro w' hS'; go_simp <;> try with_reducible rfl)
      try simp only [Act.put, List.setIfInBounds_toArray, List.set_cons_zero, List.set_cons_succ]
      refine rg_done (by kernel_rfl) ?_
      have D2 := Dk.set 1 (.slice (some ⟨g4, 0, none⟩) 5 c4)
      have G2 := Gk.setOther (g := d) 1 (.slice (some ⟨g4, 0, none⟩) 5 c4) hgd
      have o5 := RdT.of (xs := sqS ++ [(0, 1, 1)]) (vown_set o3 Dk (by decide) 1 (.slice (some ⟨g4, 0, none⟩) 5 c4))
      replace hb := hb.setCell (p := ⟨d, 1, none⟩) HHD.out (.slice (some ⟨g4, 0, none⟩) 5 c4)
      have e0 := D2.cell (i := 0) rfl
      have e1 := D2.cell (i := 1) rfl
      have e2 := D2.cell (i := 2) rfl
      go_wp2_with fail
      generalize w3.setCell ⟨d, 1, none⟩ (.slice (some ⟨g4, 0, none⟩) 5 c4) = W2 at *
      have G : Blk W2 g (cTs (sqV x y n)) 31 := G2
      clear hS
      refine (Check_at (RdT.lit G) o5 (RdP.nil _ none 0) (Nat.le_of_ble_eq_true rfl) (Nat.le_of_ble_eq_true rfl) (Nat.le_of_ble_eq_true rfl) (by simp) (spoil_3 hx hy hn)).mono ?_
      rintro e w3 ⟨rfl, k1⟩
      replace hb := bthen hb k1
      clear k1
      go_wp2
      go_ret
      exact ⟨rfl, hb⟩
    · have c1 := Dq.cell (i := 1) rfl
      go_simp
      refine hK _ _ hS (fun hS => ?_)
      clear hK K c1
      try simp only [Act.put, List.setIfInBounds_toArray, List.set_cons_zero, List.set_cons_succ]
      refine rg_take 4 rfl (by kernel_rfl) (by kernel_rfl) (by kernel_rfl) (by rfl) hS (v := ?_) ?_ ?_
      rotate_left
      · (intro w' hS'; go_simp <;> try with_reducible rfl)
      try simp only [Act.put, List.setIfInBounds_toArray, List.set_cons_zero, List.set_cons_succ]
      refine rg_two 1 5 rfl rfl (by kernel_rfl) (by rfl) (by rfl) (fun K hK => ?_) (fun K hK => ?_)
      · have c1 := Dq.cell (i := 1) rfl
        go_simp
        refine hK _ _ hS (fun hS => ?_)
        clear hK K c1
        try simp only [Act.put, List.setIfInBounds_toArray, List.set_cons_zero, List.set_cons_succ]
        refine rg_eff 5 rfl (by kernel_rfl) (by rfl) (fun K hK => ?_)
        have c0 := Sq.cell (i := 0) rfl
        have c1 := Sq.cell (i := 1) rfl
        have c2 := Sq.cell (i := 2) rfl
        go_simp
        refine hK _ _ hS (fun hS => ?_)
        clear hK K c0 c1 c2
        try simp only [Act.put, List.setIfInBounds_toArray, List.set_cons_zero, List.set_cons_succ]
        refine rg_eff 6 rfl (by kernel_rfl) (by rfl) (fun K hK => ?_)
        refine wp_bs1Sg rfl rfl (fun gq wq gle BZ hqq => ?_)
        refine hK _ _ (hS.call hqq) (fun hS => ?_)
        clear hK K
        replace hb := hb.trans (hqq.mono hb.size)
        replace o1 := own_call o1 hqq
        replace Dq := Dq.call hqq
        replace Sq := Sq.call hqq
        replace Gq := Gq.call hqq
        clear hqq gle
        try simp only [Act.put, List.setIfInBounds_toArray, List.set_cons_zero, List.set_cons_succ]
        refine rg_eff 7 rfl (by kernel_rfl) (by rfl) (fun K hK => ?_)
        refine wp_ap1Sg (v := .slice (some ⟨q, 0, none⟩) 4 4) rfl rfl rfl o1 BZ (by decide) hb.size (fun v3 w3 o3 hgw => ?_)
        refine hK _ _ (vgrown hS hgw HG.out) (fun hS => ?_)
        clear hK K
        have h3 : Below w.heap.size _ _ := (Below.refl _ _).grown hgw hb.size (fun k hk => (o1.lt k hk).1)
        have Dk := Dq.grown hgw HQd.out
        have Gk := Gq.grown hgw HQg.out
        replace hb := hb.trans h3
        clear hgw h3 o1 BZ Dq Gq
        replace o3 : w3.ownsRow w.heap.size 33 3 v3 5 (cTs (sqS ++ [(0, 1, 1)])) := o3
        obtain ⟨g4, c4, rfl⟩ := own_form o3 (by decide)
        try simp only [Act.put, List.setIfInBounds_toArray, List.set_cons_zero, List.set_cons_succ]
        refine rg_take 8 rfl (by kernel_rfl) (by kernel_rfl) (by kernel_rfl) (by rfl) hS (v := ?_) ?_ ?_
        rotate_left
        · (intro w' hS'; go_simp <;> try with_reducible rfl)
        try simp only [Act.put, List.setIfInBounds_toArray, List.set_cons_zero, List.set_cons_succ]
        refine rg_eff 9 rfl (by kernel_rfl) (by rfl) (fun K hK => ?_)
        have c1 := Dk.cell (i := 1) rfl
        have f1 := Dk.frozen 1
        go_simp
        refine hK _ _ (hS.cell (.inl (by simp)) _ _) (fun hS => ?_)
        clear hK K c1 f1
        try simp only [Act.put, List.setIfInBounds_toArray, List.set_cons_zero, List.set_cons_succ]
        refine rg_take 10 rfl (by kernel_rfl) (by kernel_rfl) (by kernel_rfl) (by rfl) hS (v := ?_) ?_ ?_
        rotate_left
        · (intro w' hS'; go_simp <;> try with_reducible rfl)
        try simp only [Act.put, List.setIfInBounds_toArray, List.set_cons_zero, List.set_cons_succ]
        refine rg_done (by kernel_rfl) ?_
        have D2 := Dk.set 1 (.slice (some ⟨g4, 0, none⟩) 5 c4)
        have G2 := Gk.setOther (g := d) 1 (.slice (some ⟨g4, 0, none⟩) 5 c4) hgd
        have o5 := RdT.of (xs := sqS ++ [(0, 1, 1)]) (vown_set o3 Dk (by decide) 1 (.slice (some ⟨g4, 0, none⟩) 5 c4))
        replace hb := hb.setCell (p := ⟨d, 1, none⟩) HHD.out (.slice (some ⟨g4, 0, none⟩) 5 c4)
        have e0 := D2.cell (i := 0) rfl
        have e1 := D2.cell (i := 1) rfl
        have e2 := D2.cell (i := 2) rfl
        go_wp2_with fail
        generalize w3.setCell ⟨d, 1, none⟩ (.slice (some ⟨g4, 0, none⟩) 5 c4) = W2 at *
        have G : Blk W2 g (cTs (sqV x y n)) 31 := G2
        clear hS
        refine (Check_at (RdT.lit G) o5 (RdP.nil _ none 0) (Nat.le_of_ble_eq_true rfl) (Nat.le_of_ble_eq_true rfl) (Nat.le_of_ble_eq_true rfl) (by simp) (spoil_3 hx hy hn)).mono ?_
        rintro e w3 ⟨rfl, k1⟩
        replace hb := bthen hb k1
        clear k1
        go_wp2
        go_ret
        exact ⟨rfl, hb⟩
      · have c0 := Sq.cell (i := 0) rfl
        have c1 := Sq.cell (i := 1) rfl
        have c2 := Sq.cell (i := 2) rfl
        go_simp
        refine hK _ _ hS (fun hS => ?_)
        clear hK K c0 c1 c2
        try simp only [Act.put, List.setIfInBounds_toArray, List.set_cons_zero, List.set_cons_succ]
        refine rg_two 1 6 rfl rfl (by kernel_rfl) (by rfl) (by rfl) (fun K hK => ?_) (fun K hK => ?_)
        · have c1 := Dq.cell (i := 1) rfl
          go_simp
          refine hK _ _ hS (fun hS => ?_)
          clear hK K c1
          try simp only [Act.put, List.setIfInBounds_toArray, List.set_cons_zero, List.set_cons_succ]
          refine rg_eff 6 rfl (by kernel_rfl) (by rfl) (fun K hK => ?_)
          refine wp_bs1Sg rfl rfl (fun gq wq gle BZ hqq => ?_)
          refine hK _ _ (hS.call hqq) (fun hS => ?_)
          clear hK K
          replace hb := hb.trans (hqq.mono hb.size)
          replace o1 := own_call o1 hqq
          replace Dq := Dq.call hqq
          replace Sq := Sq.call hqq
          replace Gq := Gq.call hqq
          clear hqq gle
          try simp only [Act.put, List.setIfInBounds_toArray, List.set_cons_zero, List.set_cons_succ]
          refine rg_eff 7 rfl (by kernel_rfl) (by rfl) (fun K hK => ?_)
          refine wp_ap1Sg (v := .slice (some ⟨q, 0, none⟩) 4 4) rfl rfl rfl o1 BZ (by decide) hb.size (fun v3 w3 o3 hgw => ?_)
          refine hK _ _ (vgrown hS hgw HG.out) (fun hS => ?_)
          clear hK K
          have h3 : Below w.heap.size _ _ := (Below.refl _ _).grown hgw hb.size (fun k hk => (o1.lt k hk).1)
          have Dk := Dq.grown hgw HQd.out
          have Gk := Gq.grown hgw HQg.out
          replace hb := hb.trans h3
          clear hgw h3 o1 BZ Dq Gq
          replace o3 : w3.ownsRow w.heap.size 33 3 v3 5 (cTs (sqS ++ [(0, 1, 1)])) := o3
          obtain ⟨g4, c4, rfl⟩ := own_form o3 (by decide)
          try simp only [Act.put, List.setIfInBounds_toArray, List.set_cons_zero, List.set_cons_succ]
          refine rg_take 8 rfl (by kernel_rfl) (by kernel_rfl) (by kernel_rfl) (by rfl) hS (v := ?_) ?_ ?_
          rotate_left
          · (intro w' hS'; go_simp <;> try with_reducible rfl)
          try simp only [Act.put, List.setIfInBounds_toArray, List.set_cons_zero, List.set_cons_succ]
          refine rg_eff 9 rfl (by kernel_rfl) (by rfl) (fun K hK => ?_)
          have c1 := Dk.cell (i := 1) rfl
          have f1 := Dk.frozen 1
          go_simp
          refine hK _ _ (hS.cell (.inl (by simp)) _ _) (fun hS => ?_)
          clear hK K c1 f1
          try simp only [Act.put, List.setIfInBounds_toArray, List.set_cons_zero, List.set_cons_succ]
          refine rg_take 10 rfl (by kernel_rfl) (by kernel_rfl) (by kernel_rfl) (by rfl) hS (v := ?_) ?_ ?_
          rotate_left
          · (intro w' hS'; go_simp <;> try with_reducible rfl)
          try simp only [Act.put, List.setIfInBounds_toArray, List.set_cons_zero, List.set_cons_succ]
          refine rg_done (by kernel_rfl) ?_
          have D2 := Dk.set 1 (.slice (some ⟨g4, 0, none⟩) 5 c4)
          have G2 := Gk.setOther (g := d) 1 (.slice (some ⟨g4, 0, none⟩) 5 c4) hgd
          have o5 := RdT.of (xs := sqS ++ [(0, 1, 1)]) (vown_set o3 Dk (by decide) 1 (.slice (some ⟨g4, 0, none⟩) 5 c4))
          replace hb := hb.setCell (p := ⟨d, 1, none⟩) HHD.out (.slice (some ⟨g4, 0, none⟩) 5 c4)
          have e0 := D2.cell (i := 0) rfl
          have e1 := D2.cell (i := 1) rfl
          have e2 := D2.cell (i := 2) rfl
          go_wp2_with fail
          generalize w3.setCell ⟨d, 1, none⟩ (.slice (some ⟨g4, 0, none⟩) 5 c4) = W2 at *
          have G : Blk W2 g (cTs (sqV x y n)) 31 := G2
          clear hS
          refine (Check_at (RdT.lit G) o5 (RdP.nil _ none 0) (Nat.le_of_ble_eq_true rfl) (Nat.le_of_ble_eq_true rfl) (Nat.le_of_ble_eq_true rfl) (by simp) (spoil_3 hx hy hn)).mono ?_
          rintro e w3 ⟨rfl, k1⟩
          replace hb := bthen hb k1
          clear k1
          go_wp2
          go_ret
          exact ⟨rfl, hb⟩
        · refine wp_bs1Sg rfl rfl (fun gq wq gle BZ hqq => ?_)
          refine hK _ _ (hS.call hqq) (fun hS => ?_)
          clear hK K
          replace hb := hb.trans (hqq.mono hb.size)
          replace o1 := own_call o1 hqq
          replace Dq := Dq.call hqq
          replace Sq := Sq.call hqq
          replace Gq := Gq.call hqq
          clear hqq gle
          try simp only [Act.put, List.setIfInBounds_toArray, List.set_cons_zero, List.set_cons_succ]
          refine rg_eff 1 rfl (by kernel_rfl) (by rfl) (fun K hK => ?_)
          have c1 := Dq.cell (i := 1) rfl
          go_simp
          refine hK _ _ hS (fun hS => ?_)
          clear hK K c1
          try simp only [Act.put, List.setIfInBounds_toArray, List.set_cons_zero, List.set_cons_succ]
          refine rg_eff 7 rfl (by kernel_rfl) (by rfl) (fun K hK => ?_)
          refine wp_ap1Sg (v := .slice (some ⟨q, 0, none⟩) 4 4) rfl rfl rfl o1 BZ (by decide) hb.size (fun v3 w3 o3 hgw => ?_)
          refine hK _ _ (vgrown hS hgw HG.out) (fun hS => ?_)
          clear hK K
          have h3 : Below w.heap.size _ _ := (Below.refl _ _).grown hgw hb.size (fun k hk => (o1.lt k hk).1)
          have Dk := Dq.grown hgw HQd.out
          have Gk := Gq.grown hgw HQg.out
          replace hb := hb.trans h3
          clear hgw h3 o1 BZ Dq Gq
          replace o3 : w3.ownsRow w.heap.size 33 3 v3 5 (cTs (sqS ++ [(0, 1, 1)])) := o3
          obtain ⟨g4, c4, rfl⟩ := own_form o3 (by decide)
          try simp only [Act.put, List.setIfInBounds_toArray, List.set_cons_zero, List.set_cons_succ]
          refine rg_take 8 rfl (by kernel_rfl) (by kernel_rfl) (by kernel_rfl) (by rfl) hS (v := ?_) ?_ ?_
          rotate_left
          · (intro w' hS'; go_simp <;> try with_reducible rfl)
          try simp only [Act.put, List.setIfInBounds_toArray, List.set_cons_zero, List.set_cons_succ]
          refine rg_eff 9 rfl (by kernel_rfl) (by rfl) (fun K hK => ?_)
          have c1 := Dk.cell (i := 1) rfl
          have f1 := Dk.frozen 1
          go_simp
          refine hK _ _ (hS.cell (.inl (by simp)) _ _) (fun hS => ?_)
          clear hK K c1 f1
          try simp only [Act.put, List.setIfInBounds_toArray, List.set_cons_zero, List.set_cons_succ]
          refine rg_take 10 rfl (by kernel_rfl) (by kernel_rfl) (by kernel_rfl) (by rfl) hS (v := ?_) ?_ ?_
          rotate_left
          · (intro w' hS'; go_simp <;> try with_reducible rfl)
          try simp only [Act.put, List.setIfInBounds_toArray, List.set_cons_zero, List.set_cons_succ]
          refine rg_done (by kernel_rfl) ?_
          have D2 := Dk.set 1 (.slice (some ⟨g4, 0, none⟩) 5 c4)
          have G2 := Gk.setOther (g := d) 1 (.slice (some ⟨g4, 0, none⟩) 5 c4) hgd
          have o5 := RdT.of (xs := sqS ++ [(0, 1, 1)]) (vown_set o3 Dk (by decide) 1 (.slice (some ⟨g4, 0, none⟩) 5 c4))
          replace hb := hb.setCell (p := ⟨d, 1, none⟩) HHD.out (.slice (some ⟨g4, 0, none⟩) 5 c4)
          have e0 := D2.cell (i := 0) rfl
          have e1 := D2.cell (i := 1) rfl
          have e2 := D2.cell (i := 2) rfl
          go_wp2_with fail
          generalize w3.setCell ⟨d, 1, none⟩ (.slice (some ⟨g4, 0, none⟩) 5 c4) = W2 at *
          have G : Blk W2 g (cTs (sqV x y n)) 31 := G2
          clear hS
          refine (Check_at (RdT.lit G) o5 (RdP.nil _ none 0) (Nat.le_of_ble_eq_true rfl) (Nat.le_of_ble_eq_true rfl) (Nat.le_of_ble_eq_true rfl) (by simp) (spoil_3 hx hy hn)).mono ?_
          rintro e w3 ⟨rfl, k1⟩
          replace hb := bthen hb k1
          clear k1
          go_wp2
          go_ret
          exact ⟨rfl, hb⟩
  case inr.inr.inr.inr.inl =>
    have c0 := D.cell (i := 0) rfl
    have cf0 := D.frozen 0
    have c1 := D.cell (i := 1) rfl
    have cf1 := D.frozen 1
    have c2 := D.cell (i := 2) rfl
    have cf2 := D.frozen 2
    have D2 := Blk.new (w2.setCell ⟨q, 1, none⟩ (.int .i64 2)) [.slice (some ⟨g, 0, none⟩) 4 4, .slice (some ⟨q, 0, none⟩) 4 4, .slice none 0 0] 26 rfl
    have z2 : (w2.setCell ⟨q, 1, none⟩ (.int .i64 2)).heap.size = w2.heap.size := by simp [World.setCell]
    rw [z2] at D2
    have G2 := (G0.setOther (g := q) 1 (.int .i64 2) (Ne.symm hqg)).old (.cells #[.slice (some ⟨g, 0, none⟩) 4 4, .slice (some ⟨q, 0, none⟩) 4 4, .slice none 0 0] 26)
    have S2 := (S0.set 1 (.int .i64 2)).old (.cells #[.slice (some ⟨g, 0, none⟩) 4 4, .slice (some ⟨q, 0, none⟩) 4 4, .slice none 0 0] 26)
    replace hb := (hb0.setCell (p := ⟨q, 1, none⟩) hq (.int .i64 2)).alloc (by rw [z2]; exact hd) (.cells #[.slice (some ⟨g, 0, none⟩) 4 4, .slice (some ⟨q, 0, none⟩) 4 4, .slice none 0 0] 26)
    have sc := S'.cell (i := 1) rfl
    have sf := S'.frozen 1
    have e0 := D2.cell (i := 0) rfl
    have e1 := D2.cell (i := 1) rfl
    have e2 := D2.cell (i := 2) rfl
    clear z2
    go_wp2_with fail
    generalize (w2.setCell ⟨q, 1, none⟩ (.int .i64 2)).alloc (.cells #[.slice (some ⟨g, 0, none⟩) 4 4, .slice (some ⟨q, 0, none⟩) 4 4, .slice none 0 0] 26) = W at *
    have G : Blk W g (cTs (sqV x y n)) 31 := G2
    have S : Blk W q (cTs [(0, 2, 1), (1, 2, 2), (2, 3, 3), (3, 0, 4)]) 33 := S2
    refine (Check_at (RdT.lit G) (RdT.lit S) (RdP.nil _ none 0) (Nat.le_of_ble_eq_true rfl) (Nat.le_of_ble_eq_true rfl) (Nat.le_of_ble_eq_true rfl) (by simp) (spoil_4 hx hy hn)).mono ?_
    rintro e w3 ⟨rfl, k1⟩
    replace hb := bthen hb k1
    clear k1
    go_wp2
    go_ret
    exact ⟨rfl, hb⟩
  case inr.inr.inr.inr.inr.inl =>
    go_wp2_with fail
    generalize w2.alloc (.cells #[.slice (some ⟨g, 0, none⟩) 4 4, .slice (some ⟨q, 0, none⟩) 4 4, .slice none 0 0] 26) = W at *
    generalize w2.heap.size = d at *
    have c0 := D.cell (i := 0) rfl
    have cf0 := D.frozen 0
    have c1 := D.cell (i := 1) rfl
    have cf1 := D.frozen 1
    have c2 := D.cell (i := 2) rfl
    have cf2 := D.frozen 2
    have g3 := G'.cell (i := 3) rfl
    have gf3 := G'.frozen 3
    have g4 := G'.cell (i := 4) rfl
    have gf4 := G'.frozen 4
    have g5 := G'.cell (i := 5) rfl
    have gf5 := G'.frozen 5
    have g6 := G'.cell (i := 6) rfl
    have gf6 := G'.frozen 6
    have g7 := G'.cell (i := 7) rfl
    have gf7 := G'.frozen 7
    have g8 := G'.cell (i := 8) rfl
    have gf8 := G'.frozen 8
    go_region
    have D2 := ((((((D.setOther (g := g) 3 (.int .i64 (x + n)) (Ne.symm hgd)).setOther (g := g) 4 (.int .i64 (y + n)) (Ne.symm hgd)).setOther (g := g) 5 (.int .i64 0) (Ne.symm hgd)).setOther (g := g) 6 (.int .i64 (x + n)) (Ne.symm hgd)).setOther (g := g) 7 (.int .i64 y) (Ne.symm hgd)).setOther (g := g) 8 (.int .i64 0) (Ne.symm hgd)).drew
    have G2 := ((((((G'.set 3 (.int .i64 (x + n))).set 4 (.int .i64 (y + n))).set 5 (.int .i64 0)).set 6 (.int .i64 (x + n))).set 7 (.int .i64 y)).set 8 (.int .i64 0)).drew
    have S2 := ((((((S'.setOther (g := g) 3 (.int .i64 (x + n)) hqg).setOther (g := g) 4 (.int .i64 (y + n)) hqg).setOther (g := g) 5 (.int .i64 0) hqg).setOther (g := g) 6 (.int .i64 (x + n)) hqg).setOther (g := g) 7 (.int .i64 y) hqg).setOther (g := g) 8 (.int .i64 0) hqg).drew
    replace hb := ((((((hb.setCell (p := ⟨g, 3, none⟩) hg (.int .i64 (x + n))).setCell (p := ⟨g, 4, none⟩) hg (.int .i64 (y + n))).setCell (p := ⟨g, 5, none⟩) hg (.int .i64 0)).setCell (p := ⟨g, 6, none⟩) hg (.int .i64 (x + n))).setCell (p := ⟨g, 7, none⟩) hg (.int .i64 y)).setCell (p := ⟨g, 8, none⟩) hg (.int .i64 0)).drew
    have e0 := D2.cell (i := 0) rfl
    have e1 := D2.cell (i := 1) rfl
    have e2 := D2.cell (i := 2) rfl
    go_wp2_with fail
    generalize ((((((W.setCell ⟨g, 3, none⟩ (.int .i64 (x + n))).setCell ⟨g, 4, none⟩ (.int .i64 (y + n))).setCell ⟨g, 5, none⟩ (.int .i64 0)).setCell ⟨g, 6, none⟩ (.int .i64 (x + n))).setCell ⟨g, 7, none⟩ (.int .i64 y)).setCell ⟨g, 8, none⟩ (.int .i64 0)).drew = W2 at *
    have G : Blk W2 g (cTs [(x, y, 0), (x + n, y + n, 0), (x + n, y, 0), (x, y + n, 0)]) 31 := G2
    have S : Blk W2 q (cTs sqS) 33 := S2
    refine (Check_at (RdT.lit G) (RdT.lit S) (RdP.nil _ none 0) (Nat.le_of_ble_eq_true rfl) (Nat.le_of_ble_eq_true rfl) (Nat.le_of_ble_eq_true rfl) (by simp) (spoil_5 hx hy hn)).mono ?_
    rintro e w3 ⟨rfl, k1⟩
    replace hb := bthen hb k1
    clear k1
    go_wp2
    go_ret
    exact ⟨rfl, hb⟩
  case inr.inr.inr.inr.inr.inr.inl =>
    have c0 := D.cell (i := 0) rfl
    have cf0 := D.frozen 0
    have c1 := D.cell (i := 1) rfl
    have cf1 := D.frozen 1
    have c2 := D.cell (i := 2) rfl
    have cf2 := D.frozen 2
    have D2 := Blk.new (w2.setCell ⟨q, 8, none⟩ (.int .i64 (-1))) [.slice (some ⟨g, 0, none⟩) 4 4, .slice (some ⟨q, 0, none⟩) 4 4, .slice none 0 0] 26 rfl
    have z2 : (w2.setCell ⟨q, 8, none⟩ (.int .i64 (-1))).heap.size = w2.heap.size := by simp [World.setCell]
    rw [z2] at D2
    have G2 := (G0.setOther (g := q) 8 (.int .i64 (-1)) (Ne.symm hqg)).old (.cells #[.slice (some ⟨g, 0, none⟩) 4 4, .slice (some ⟨q, 0, none⟩) 4 4, .slice none 0 0] 26)
    have S2 := (S0.set 8 (.int .i64 (-1))).old (.cells #[.slice (some ⟨g, 0, none⟩) 4 4, .slice (some ⟨q, 0, none⟩) 4 4, .slice none 0 0] 26)
    replace hb := (hb0.setCell (p := ⟨q, 8, none⟩) hq (.int .i64 (-1))).alloc (by rw [z2]; exact hd) (.cells #[.slice (some ⟨g, 0, none⟩) 4 4, .slice (some ⟨q, 0, none⟩) 4 4, .slice none 0 0] 26)
    have sc := S'.cell (i := 8) rfl
    have sf := S'.frozen 8
    have e0 := D2.cell (i := 0) rfl
    have e1 := D2.cell (i := 1) rfl
    have e2 := D2.cell (i := 2) rfl
    clear z2
    go_wp2_with fail
    generalize (w2.setCell ⟨q, 8, none⟩ (.int .i64 (-1))).alloc (.cells #[.slice (some ⟨g, 0, none⟩) 4 4, .slice (some ⟨q, 0, none⟩) 4 4, .slice none 0 0] 26) = W at *
    have G : Blk W g (cTs (sqV x y n)) 31 := G2
    have S : Blk W q (cTs [(0, 1, 1), (1, 2, 2), (2, 3, -1), (3, 0, 4)]) 33 := S2
    refine (Check_at (RdT.lit G) (RdT.lit S) (RdP.nil _ none 0) (Nat.le_of_ble_eq_true rfl) (Nat.le_of_ble_eq_true rfl) (Nat.le_of_ble_eq_true rfl) (by simp) (spoil_6 hx hy hn)).mono ?_
    rintro e w3 ⟨rfl, k1⟩
    replace hb := bthen hb k1
    clear k1
    go_wp2
    go_ret
    exact ⟨rfl, hb⟩
  case inr.inr.inr.inr.inr.inr.inr =>
    have c0 := D.cell (i := 0) rfl
    have cf0 := D.frozen 0
    have c1 := D.cell (i := 1) rfl
    have cf1 := D.frozen 1
    have c2 := D.cell (i := 2) rfl
    have cf2 := D.frozen 2
    have D2 := Blk.new (w2.setCell ⟨g, 10, none⟩ (.int .i64 65)) [.slice (some ⟨g, 0, none⟩) 4 4, .slice (some ⟨q, 0, none⟩) 4 4, .slice none 0 0] 26 rfl
    have z2 : (w2.setCell ⟨g, 10, none⟩ (.int .i64 65)).heap.size = w2.heap.size := by simp [World.setCell]
    rw [z2] at D2
    have S2 := (S0.setOther (g := g) 10 (.int .i64 65) hqg).old (.cells #[.slice (some ⟨g, 0, none⟩) 4 4, .slice (some ⟨q, 0, none⟩) 4 4, .slice none 0 0] 26)
    have G2 := (G0.set 10 (.int .i64 65)).old (.cells #[.slice (some ⟨g, 0, none⟩) 4 4, .slice (some ⟨q, 0, none⟩) 4 4, .slice none 0 0] 26)
    replace hb := (hb0.setCell (p := ⟨g, 10, none⟩) hg (.int .i64 65)).alloc (by rw [z2]; exact hd) (.cells #[.slice (some ⟨g, 0, none⟩) 4 4, .slice (some ⟨q, 0, none⟩) 4 4, .slice none 0 0] 26)
    have sc := G'.cell (i := 10) rfl
    have sf := G'.frozen 10
    have e0 := D2.cell (i := 0) rfl
    have e1 := D2.cell (i := 1) rfl
    have e2 := D2.cell (i := 2) rfl
    clear z2
    go_wp2_with fail
    generalize (w2.setCell ⟨g, 10, none⟩ (.int .i64 65)).alloc (.cells #[.slice (some ⟨g, 0, none⟩) 4 4, .slice (some ⟨q, 0, none⟩) 4 4, .slice none 0 0] 26) = W at *
    have G : Blk W g (cTs [(x, y, 0), (x + n, y, 0), (x + n, y + n, 0), (x, 65, 0)]) 31 := G2
    have S : Blk W q (cTs sqS) 33 := S2
    refine (Check_at (RdT.lit G) (RdT.lit S) (RdP.nil _ none 0) (Nat.le_of_ble_eq_true rfl) (Nat.le_of_ble_eq_true rfl) (Nat.le_of_ble_eq_true rfl) (by simp) (spoil_7 hx hy hn)).mono ?_
    rintro e w3 ⟨rfl, k1⟩
    replace hb := bthen hb k1
    clear k1
    go_wp2
    go_ret
    exact ⟨rfl, hb⟩
end Go.Proofs.YtoegjibeomhekaaGreat
