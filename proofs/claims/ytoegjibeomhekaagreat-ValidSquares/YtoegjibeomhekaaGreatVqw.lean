/- ValidSquares: its walk. -/
import Derived.Test.YtoegjibeomhekaaGreatVkn
import Derived.Test.YtoegjibeomhekaaGreatVpt
namespace Go.Proofs.YtoegjibeomhekaaGreat
set_option linter.unusedSimpArgs false
set_option linter.unusedVariables false
open Go.RowKit
set_option maxRecDepth 100000
theorem own_ne_ty {w : World} {B n size g c : Nat} {e : TypeId} {xs : List Value} (h : w.ownsRow B e size (.slice (some ⟨g, 0, none⟩) n c) n xs) {k : Nat} {cs : List Value} {t : TypeId} (hB : Blk w k cs t) (hne : e ≠ t) : g ≠ k := by
  rcases h.2 with ⟨h0, _⟩ | ⟨g', cap, cur, hv, _, hh, _⟩
  · cases h0
  · injection hv with hv
    injection hv with hv
    injection hv with hv
    subst hv
    rintro rfl
    unfold Blk at hB
    rw [hh] at hB
    simp only [Option.some.injEq, Obj.cells.injEq] at hB
    exact hne hB.2.1
theorem own_ne_sz {w : World} {B n size g c : Nat} {e : TypeId} {xs : List Value} (h : w.ownsRow B e size (.slice (some ⟨g, 0, none⟩) n c) n xs) {k : Nat} {cs : List Value} {t : TypeId} (hB : Blk w k cs t) (hl : cs.length < n * size) : g ≠ k := by
  rcases h.2 with ⟨h0, _⟩ | ⟨g', cap, cur, hv, _, hh, hcap, _, hs, _⟩
  · cases h0
  · injection hv with hv _ hc
    injection hv with hv
    injection hv with hv
    subst hv hc
    rintro rfl
    unfold Blk at hB
    rw [hh] at hB
    simp only [Option.some.injEq, Obj.cells.injEq] at hB
    rw [hB.1] at hs
    have := Nat.mul_le_mul_right size hcap
    simp at hs
    omega
theorem own_ne_own {w : World} {B n size size' m g c k c' : Nat} {e t : TypeId} {xs ys : List Value} (h : w.ownsRow B e size (.slice (some ⟨g, 0, none⟩) n c) n xs) (h' : w.ownsRow B t size' (.slice (some ⟨k, 0, none⟩) m c') m ys) (hne : e ≠ t) : g ≠ k := by
  rcases h'.2 with ⟨h0, _⟩ | ⟨g', cap, cur, hv, _, hh, _⟩
  · cases h0
  · injection hv with hv
    injection hv with hv
    injection hv with hv
    subst hv
    exact own_ne_ty (cs := cur.toList) h (by unfold Blk; rw [hh]) hne
theorem own_grown {w w' : World} {B n size g c : Nat} {e : TypeId} {xs : List Value} {row : Option Nat} (h : w.ownsRow B e size (.slice (some ⟨g, 0, none⟩) n c) n xs) (hg : w.grownBy w' row) (hr : row ≠ some g) : w'.ownsRow B e size (.slice (some ⟨g, 0, none⟩) n c) n xs := by
  refine ⟨h.1, ?_⟩
  rcases h.2 with ⟨h0, _⟩ | ⟨g', cap, cur, hv, hb, hh, r⟩
  · cases h0
  · injection hv with hv hv2 hv3
    injection hv with hv
    injection hv with hv
    subst hv
    have hlt : g < w.heap.size := (Array.getElem?_eq_some_iff.1 hh).1
    exact .inr ⟨g, cap, cur, by rw [hv3], hb, (hg.block g hlt (fun e => hr e.symm)).trans hh, r⟩
theorem own_ne_blk {w : World} {g k : Nat} {cs ds : List Value} {t u : TypeId} (h : Blk w g cs t) (h' : Blk w k ds u) (hl : cs ≠ ds) : k ≠ g := by
  rintro rfl
  unfold Blk at h h'
  rw [h] at h'
  simp only [Option.some.injEq, Obj.cells.injEq] at h'
  exact hl (by simpa using h'.1)
theorem builtS2 (x y : Int) : Tryz.prog.built 33 [(0, .int .i64 x), (1, .int .i64 y)] = some #[.int .i64 x, .int .i64 y, .int .i64 0] := by kernel_rfl
theorem sqS_in : ∀ p ∈ sqS, (0 ≤ p.1 ∧ p.1 ≤ 3) ∧ (0 ≤ p.2.1 ∧ p.2.1 ≤ 3) := by decide
set_option maxHeartbeats 16000000 in
theorem squares_walk (X Y N U V M : Int) (h1 : 0 ≤ X ∧ X ≤ 255) (h2 : 0 ≤ Y ∧ Y ≤ 255) (h3 : 0 ≤ N ∧ N ≤ 255) (h4 : 0 ≤ U ∧ U ≤ 255) (h5 : 0 ≤ V ∧ V ≤ 255) (h6 : 0 ≤ M ∧ M ≤ 255) (w : World) :
    Calls Tryz.prog 4 #[.int .u8 X, .int .u8 Y, .int .u8 N, .int .u8 U, .int .u8 V, .int .u8 M] w fun e w' => e = .returned (.bool true) ∧ Below w.heap.size w w' := by
  have HKn := Lib.hid (known9_any w)
  go_enter Tryz.func4, Tryz.ntmps4
  go_wp2_with fail
  refine HKn.out.mono ?_
  rintro e w1 ⟨rfl, hb⟩
  go_wp2_with fail
  have ha : 0 ≤ X % 30 ∧ X % 30 ≤ 29 := by omega
  have hbb : 0 ≤ Y % 30 ∧ Y % 30 ≤ 29 := by omega
  have hc : 1 ≤ N % 30 + 1 ∧ N % 30 + 1 ≤ 30 := by omega
  have hp : 0 ≤ U % 30 ∧ U % 30 ≤ 29 := by omega
  have hq : 0 ≤ V % 30 ∧ V % 30 ≤ 29 := by omega
  have hr : 1 ≤ M % 30 + 1 ∧ M % 30 + 1 ≤ 30 := by omega
  generalize X % 30 = a at *
  generalize Y % 30 = b at *
  generalize N % 30 + 1 = c at *
  generalize U % 30 = p at *
  generalize V % 30 = q at *
  generalize M % 30 + 1 = r at *
  refine (square_any a b c (by omega) (by omega) (by omega) _).mono ?_
  rintro e w2 ⟨g, q0, rfl, G, S, hg, hq0, k1⟩
  replace hg := Nat.le_trans hb.size hg
  replace hq0 := Nat.le_trans hb.size hq0
  replace hb := bthen hb k1
  clear k1 HKn
  go_wp2_with fail
  refine (square_any p q r (by omega) (by omega) (by omega) _).mono ?_
  rintro e w3 ⟨ge, he, rfl, E, F, hge, hhe, k1⟩
  have gl := G.lt
  have sl := S.lt
  replace G := G.call k1
  replace S := S.call k1
  have hgge : g ≠ ge := by omega
  have hqhe : q0 ≠ he := by omega
  replace hge := Nat.le_trans hb.size hge
  replace hhe := Nat.le_trans hb.size hhe
  replace hb := bthen hb k1
  clear k1 gl sl
  have D := (Blk.new w3 [.slice (some ⟨g, 0, none⟩) 4 4, .slice (some ⟨q0, 0, none⟩) 4 4, .slice none 0 0] 26 rfl).old (.cells #[.slice (some ⟨ge, 0, none⟩) 4 4, .slice (some ⟨he, 0, none⟩) 4 4, .slice none 0 0] 26)
  have DE := Blk.new (w3.alloc (.cells #[.slice (some ⟨g, 0, none⟩) 4 4, .slice (some ⟨q0, 0, none⟩) 4 4, .slice none 0 0] 26)) [.slice (some ⟨ge, 0, none⟩) 4 4, .slice (some ⟨he, 0, none⟩) 4 4, .slice none 0 0] 26 (b := w3.heap.size + 1) (by simp)
  have hd := hb.size
  replace G := (G.old (.cells #[.slice (some ⟨g, 0, none⟩) 4 4, .slice (some ⟨q0, 0, none⟩) 4 4, .slice none 0 0] 26)).old (.cells #[.slice (some ⟨ge, 0, none⟩) 4 4, .slice (some ⟨he, 0, none⟩) 4 4, .slice none 0 0] 26)
  replace S := (S.old (.cells #[.slice (some ⟨g, 0, none⟩) 4 4, .slice (some ⟨q0, 0, none⟩) 4 4, .slice none 0 0] 26)).old (.cells #[.slice (some ⟨ge, 0, none⟩) 4 4, .slice (some ⟨he, 0, none⟩) 4 4, .slice none 0 0] 26)
  replace E := (E.old (.cells #[.slice (some ⟨g, 0, none⟩) 4 4, .slice (some ⟨q0, 0, none⟩) 4 4, .slice none 0 0] 26)).old (.cells #[.slice (some ⟨ge, 0, none⟩) 4 4, .slice (some ⟨he, 0, none⟩) 4 4, .slice none 0 0] 26)
  replace F := (F.old (.cells #[.slice (some ⟨g, 0, none⟩) 4 4, .slice (some ⟨q0, 0, none⟩) 4 4, .slice none 0 0] 26)).old (.cells #[.slice (some ⟨ge, 0, none⟩) 4 4, .slice (some ⟨he, 0, none⟩) 4 4, .slice none 0 0] 26)
  replace hb := hb.alloc hb.size (.cells #[.slice (some ⟨g, 0, none⟩) 4 4, .slice (some ⟨q0, 0, none⟩) 4 4, .slice none 0 0] 26)
  replace hb := hb.alloc hb.size (.cells #[.slice (some ⟨ge, 0, none⟩) 4 4, .slice (some ⟨he, 0, none⟩) 4 4, .slice none 0 0] 26)
  have HRa := Lib.hid ha
  have HRb := Lib.hid hbb
  have HRc := Lib.hid hc
  have HRp := Lib.hid hp
  have HRq := Lib.hid hq
  have HRr := Lib.hid hr
  have HD : Hid (w.heap.size ≤ w3.heap.size) := hd
  go_wp2_with fail
  generalize (w3.alloc (.cells #[.slice (some ⟨g, 0, none⟩) 4 4, .slice (some ⟨q0, 0, none⟩) 4 4, .slice none 0 0] 26)).alloc (.cells #[.slice (some ⟨ge, 0, none⟩) 4 4, .slice (some ⟨he, 0, none⟩) 4 4, .slice none 0 0] 26) = W at *
  generalize w3.heap.size = d at *
  have OV : W.ownsRow w.heap.size 31 3 (.slice (some ⟨g, 0, none⟩) 4 4) 4 (cTs (sqV a b c)) := own_cTs G hg (Nat.le_of_ble_eq_true rfl)
  have OS : W.ownsRow w.heap.size 33 3 (.slice (some ⟨q0, 0, none⟩) 4 4) 4 (cTs sqS) := own_cTs S hq0 (Nat.le_of_ble_eq_true rfl)
  clear G S hd
  go_loopw [21] (fun j wr => ∃ (i : Nat) (gv cv gs cs : Nat), i ≤ 4 ∧ j = .int .i64 (i : Int) ∧ Blk wr d [.slice (some ⟨gv, 0, none⟩) (4 + i) cv, .slice (some ⟨gs, 0, none⟩) (4 + i) cs, .slice none 0 0] 26 ∧ wr.ownsRow w.heap.size 31 3 (.slice (some ⟨gv, 0, none⟩) (4 + i) cv) (4 + i) (cTs (sqV a b c ++ (sqV p q r).take i)) ∧ wr.ownsRow w.heap.size 33 3 (.slice (some ⟨gs, 0, none⟩) (4 + i) cs) (4 + i) (cTs (sqS ++ (sqS.take i).map up4)) ∧ gv ≠ ge ∧ gs ≠ he ∧ Blk wr (d + 1) [.slice (some ⟨ge, 0, none⟩) 4 4, .slice (some ⟨he, 0, none⟩) 4 4, .slice none 0 0] 26 ∧ Blk wr ge (cTs (sqV p q r)) 31 ∧ Blk wr he (cTs sqS) 33 ∧ Below w.heap.size w wr) (fun j _ => 4 - (intOf j).toNat)
  case atStart => exact ⟨0, g, 4, q0, 4, by omega, rfl, D, by simpa using OV, by simpa using OS, hgge, hqhe, DE, E, F, hb⟩
  case round =>
    obtain ⟨i, gv, cv, gs, cs, hi, rfl, D, OV, OS, n1, n2, DE, E, F, hb⟩ := hrel
    by_cases hlt : i < 4
    · obtain ⟨⟨vx, vy, vm⟩, hv⟩ : ∃ t, (sqV p q r)[i]? = some t := ⟨_, List.getElem?_eq_getElem (by show i < 4; exact hlt)⟩
      obtain ⟨⟨sx, sy, sm⟩, hs⟩ : ∃ t, sqS[i]? = some t := ⟨_, List.getElem?_eq_getElem (by show i < 4; exact hlt)⟩
      have hsi := sqS_in _ (List.mem_of_getElem? hs)
      simp only at hsi
      obtain ⟨_, _, ee, _, p1, p2, p3⟩ := (RdT.lit E).at hv
      injection ee with ee
      injection ee with e1 e2
      subst e1 e2
      obtain ⟨_, _, ee, _, s1, s2, s3⟩ := (RdT.lit F).at hs
      injection ee with ee
      injection ee with e1 e2
      subst e1 e2
      simp only [Nat.zero_add] at p1 p2 p3 s1 s2 s3
      have HV : Hid ((sqV p q r).take (i + 1) = (sqV p q r).take i ++ [(vx, vy, vm)]) := by show _ = _; rw [List.take_add_one, hv]; rfl
      have HS : Hid ((sqS.take (i + 1)).map up4 = (sqS.take i).map up4 ++ [(sx + 4, sy + 4, 0)]) := by show _ = _; rw [List.take_add_one, hs]; simp [up4]
      have m1 := own_ne_ty OV D (by decide)
      have m2 := own_ne_ty OV DE (by decide)
      have m3 := own_ne_ty OV F (by decide)
      have m4 := own_ne_ty OS D (by decide)
      have m5 := own_ne_ty OS DE (by decide)
      have m6 := own_ne_ty OS E (by decide)
      have dl := D.lt
      have hs0 := hs
      clear hv hs
      have hw0 := HD.out
      have HGV : Hid (∀ k, (Value.slice (some ⟨gv, 0, none⟩) (4 + i) cv).ownBlock = some k → k ∈ [gv, d]) := by
        apply Lib.hid
        intro k hk
        simp [Value.ownBlock] at hk
        simp [hk]
      have HGS : Hid (∀ k, (Value.slice (some ⟨gs, 0, none⟩) (4 + i) cs).ownBlock = some k → k ∈ [gs, d]) := by
        apply Lib.hid
        intro k hk
        simp [Value.ownBlock] at hk
        simp [hk]
      have HVn : Hid (∀ k, gv ≠ k → (Value.slice (some ⟨gv, 0, none⟩) (4 + i) cv).ownBlock ≠ some k) := by
        apply Lib.hid
        intro k hk
        simp [Value.ownBlock]; exact hk
      have HSn : Hid (∀ k, gs ≠ k → (Value.slice (some ⟨gs, 0, none⟩) (4 + i) cs).ownBlock ≠ some k) := by
        apply Lib.hid
        intro k hk
        simp [Value.ownBlock]; exact hk
      have N0 : Hid ((gv ≠ d ∧ gv ≠ d + 1 ∧ gv ≠ he ∧ gv ≠ ge) ∧ (gs ≠ d ∧ gs ≠ d + 1 ∧ gs ≠ ge ∧ gs ≠ he)) := ⟨⟨m1, m2, m3, n1⟩, m4, m5, m6, n2⟩
      have nde : Hid (d + 1 ∉ [gv, d]) := by show _ ∉ _; simp; omega
      have nge : Hid (ge ∉ [gv, d]) := by
        show _ ∉ _
        have := own_ne_blk D E (by simp [cTs, sqV])
        simp; omega
      have hi4 : ((4 + i : Nat) : Int) = 4 + (i : Int) := by omega
      have rE : wr.rangeAt ge (i * 3) (cT (vx, vy, vm)) := cT_rng p1 p2 p3
      have gel := E.lt
      have HSi : Hid (sqS[i]? = some (sx, sy, sm)) := hs0
      clear m1 m2 m3 m4 m5 m6 n1 n2 p1 p2 p3 s1 s2 s3 hs0
      go_wp2_with fail
      have m7 : Hid (gv ≠ gs ∧ gs ≠ gv) := ⟨own_ne_own OV OS (by decide), Ne.symm (own_ne_own OV OS (by decide))⟩
      have HDn : Hid (d + 1 ≠ d ∧ ge ≠ d ∧ he ≠ d) := ⟨by omega, own_ne_blk D E (by simp [cTs, sqV]), own_ne_blk D F (by simp [cTs, sqS])⟩
      go_cut [] (fun wx => ∃ gv' cv' : Nat, Blk wx d [.slice (some ⟨gv', 0, none⟩) (4 + i + 1) cv', .slice (some ⟨gs, 0, none⟩) (4 + i) cs, .slice none 0 0] 26 ∧ wx.ownsRow w.heap.size 31 3 (.slice (some ⟨gv', 0, none⟩) (4 + i + 1) cv') (4 + i + 1) (cTs (sqV a b c ++ (sqV p q r).take (i + 1))) ∧ wx.ownsRow w.heap.size 33 3 (.slice (some ⟨gs, 0, none⟩) (4 + i) cs) (4 + i) (cTs (sqS ++ (sqS.take i).map up4)) ∧ Blk wx (d + 1) [.slice (some ⟨ge, 0, none⟩) 4 4, .slice (some ⟨he, 0, none⟩) 4 4, .slice none 0 0] 26 ∧ Blk wx ge (cTs (sqV p q r)) 31 ∧ Blk wx he (cTs sqS) 33 ∧ Below w.heap.size w wx)
      case first =>
        as_aux_lemma =>
        refine rg_start [gv, d] (by kernel_rfl) (fun hS => ?_)
        have Dq := D.drew
        have DEq := DE.drew
        have Eq := E.drew
        have Fq := F.drew
        replace OV := OV.drew
        replace OS := OS.drew
        replace hb := hb.drew
        refine rg_take 0 rfl (by kernel_rfl) (by kernel_rfl) (by kernel_rfl) (by rfl) hS (v := ?_) ?_ ?_
        rotate_left
        · (intro w' hS'; go_simp <;> try with_reducible rfl)
        try simp only [Act.put, List.setIfInBounds_toArray, List.set_cons_zero, List.set_cons_succ]
        refine rg_take 2 rfl (by kernel_rfl) (by kernel_rfl) (by kernel_rfl) (by rfl) hS (v := ?_) ?_ ?_
        rotate_left
        · (intro w' hS'; go_simp <;> try with_reducible rfl)
        try simp only [Act.put, List.setIfInBounds_toArray, List.set_cons_zero, List.set_cons_succ]
        refine rg_take 3 rfl (by kernel_rfl) (by kernel_rfl) (by kernel_rfl) (by rfl) hS (v := ?_) ?_ ?_
        rotate_left
        · (intro w' hS'; have hc := vkeep hS' nde.out (DE.cell (i := 0) rfl); go_simp <;> try with_reducible rfl)
        try simp only [Act.put, List.setIfInBounds_toArray, List.set_cons_zero, List.set_cons_succ]
        refine rg_take 4 rfl (by kernel_rfl) (by kernel_rfl) (by kernel_rfl) (by rfl) hS (v := ?_) ?_ ?_
        rotate_left
        · (intro w' hS'; go_simp <;> try with_reducible rfl)
        try simp only [Act.put, List.setIfInBounds_toArray, List.set_cons_zero, List.set_cons_succ]
        refine rg_take 5 rfl (by kernel_rfl) (by kernel_rfl) (by kernel_rfl) (by rfl) hS (v := ?_) ?_ ?_
        rotate_left
        · (intro w' hS'; go_simp <;> try with_reducible rfl)
        try simp only [Act.put, List.setIfInBounds_toArray, List.set_cons_zero, List.set_cons_succ]
        refine rg_take 6 rfl (by kernel_rfl) (by kernel_rfl) (by kernel_rfl) (by rfl) hS (v := (.agg (cT (vx, vy, vm)).toArray)) (fun w' hS' => (lop_rng rfl (by rfl) rE gel nge.out hS' (whVt _))) ?_
        try simp only [Act.put, List.setIfInBounds_toArray, List.set_cons_zero, List.set_cons_succ]
        refine rg_two 1 7 rfl rfl (by kernel_rfl) (by rfl) (by rfl) (fun K hK => ?_) (fun K hK => ?_)
        · have c0 := Dq.cell (i := 0) rfl
          go_simp
          refine hK _ _ hS (fun hS => ?_)
          clear hK K c0
          try simp only [Act.put, List.setIfInBounds_toArray, List.set_cons_zero, List.set_cons_succ]
          refine rg_eff 7 rfl (by kernel_rfl) (by rfl) (fun K hK => ?_)
          refine wp_bs1Vt rfl (by rfl) (fun gq wq gle BZ hqq => ?_)
          refine hK _ _ (hS.call hqq) (fun hS => ?_)
          clear hK K
          replace hb := hb.trans (hqq.mono hb.size)
          replace OV := own_call OV hqq
          replace OS := own_call OS hqq
          replace Dq := Dq.call hqq
          replace DEq := DEq.call hqq
          replace Eq := Eq.call hqq
          replace Fq := Fq.call hqq
          clear hqq gle
          try simp only [Act.put, List.setIfInBounds_toArray, List.set_cons_zero, List.set_cons_succ]
          refine rg_eff 8 rfl (by kernel_rfl) (by rfl) (fun K hK => ?_)
          refine wp_ap1Vt (v := .slice (some ⟨gv, 0, none⟩) (4 + i) cv) rfl rfl rfl OV BZ (by omega) hb.size (fun v3 w3 o3 hgw => ?_)
          refine hK _ _ (vgrown hS hgw HGV.out) (fun hS => ?_)
          clear hK K
          have h3 : Below w.heap.size _ _ := (Below.refl _ _).grown hgw hb.size (fun k hk => (OV.lt k hk).1)
          replace Dq := Dq.grown hgw (HVn.out _ N0.out.1.1)
          replace DEq := DEq.grown hgw (HVn.out _ N0.out.1.2.1)
          replace Fq := Fq.grown hgw (HVn.out _ N0.out.1.2.2.1)
          replace Eq := Eq.grown hgw (HVn.out _ N0.out.1.2.2.2)
          replace OS := own_grown OS hgw (HVn.out _ m7.out.1)
          replace hb := hb.trans h3
          clear hgw h3 OV BZ
          obtain ⟨g5, c5, rfl⟩ := own_form o3 (by omega)
          try simp only [Act.put, List.setIfInBounds_toArray, List.set_cons_zero, List.set_cons_succ]
          refine rg_take 9 rfl (by kernel_rfl) (by kernel_rfl) (by kernel_rfl) (by rfl) hS (v := ?_) ?_ ?_
          rotate_left
          · (intro w' hS'; go_simp <;> try with_reducible rfl)
          try simp only [Act.put, List.setIfInBounds_toArray, List.set_cons_zero, List.set_cons_succ]
          refine rg_eff 10 rfl (by kernel_rfl) (by rfl) (fun K hK => ?_)
          have c0 := Dq.cell (i := 0) rfl
          have f0 := Dq.frozen 0
          go_simp
          refine hK _ _ (hS.cell (.inl (by simp)) _ _) (fun hS => ?_)
          clear hK K c0 f0
          try simp only [Act.put, List.setIfInBounds_toArray, List.set_cons_zero, List.set_cons_succ]
          refine rg_done (by kernel_rfl) ?_
          have OW := vown_set o3 Dq (by decide) 0 (.slice (some ⟨g5, 0, none⟩) (4 + i + 1) c5)
          have OX := vown_set OS Dq (by decide) 0 (.slice (some ⟨g5, 0, none⟩) (4 + i + 1) c5)
          have DD := Dq.set 0 (.slice (some ⟨g5, 0, none⟩) (4 + i + 1) c5)
          have DX := DEq.setOther (g := d) 0 (.slice (some ⟨g5, 0, none⟩) (4 + i + 1) c5) HDn.out.1
          have EX := Eq.setOther (g := d) 0 (.slice (some ⟨g5, 0, none⟩) (4 + i + 1) c5) HDn.out.2.1
          have FX := Fq.setOther (g := d) 0 (.slice (some ⟨g5, 0, none⟩) (4 + i + 1) c5) HDn.out.2.2
          replace hb := hb.setCell (p := ⟨d, 0, none⟩) HD.out (.slice (some ⟨g5, 0, none⟩) (4 + i + 1) c5)
          go_wp2_with fail
          go_meet
          case rel => exact ⟨g5, c5, DD, by rw [HV.out, ← List.append_assoc, cTs_app]; exact OW, OX, DX, EX, FX, hb⟩
        · refine wp_bs1Vt rfl (by rfl) (fun gq wq gle BZ hqq => ?_)
          refine hK _ _ (hS.call hqq) (fun hS => ?_)
          clear hK K
          replace hb := hb.trans (hqq.mono hb.size)
          replace OV := own_call OV hqq
          replace OS := own_call OS hqq
          replace Dq := Dq.call hqq
          replace DEq := DEq.call hqq
          replace Eq := Eq.call hqq
          replace Fq := Fq.call hqq
          clear hqq gle
          try simp only [Act.put, List.setIfInBounds_toArray, List.set_cons_zero, List.set_cons_succ]
          refine rg_eff 1 rfl (by kernel_rfl) (by rfl) (fun K hK => ?_)
          have c0 := Dq.cell (i := 0) rfl
          go_simp
          refine hK _ _ hS (fun hS => ?_)
          clear hK K c0
          try simp only [Act.put, List.setIfInBounds_toArray, List.set_cons_zero, List.set_cons_succ]
          refine rg_eff 8 rfl (by kernel_rfl) (by rfl) (fun K hK => ?_)
          refine wp_ap1Vt (v := .slice (some ⟨gv, 0, none⟩) (4 + i) cv) rfl rfl rfl OV BZ (by omega) hb.size (fun v3 w3 o3 hgw => ?_)
          refine hK _ _ (vgrown hS hgw HGV.out) (fun hS => ?_)
          clear hK K
          have h3 : Below w.heap.size _ _ := (Below.refl _ _).grown hgw hb.size (fun k hk => (OV.lt k hk).1)
          replace Dq := Dq.grown hgw (HVn.out _ N0.out.1.1)
          replace DEq := DEq.grown hgw (HVn.out _ N0.out.1.2.1)
          replace Fq := Fq.grown hgw (HVn.out _ N0.out.1.2.2.1)
          replace Eq := Eq.grown hgw (HVn.out _ N0.out.1.2.2.2)
          replace OS := own_grown OS hgw (HVn.out _ m7.out.1)
          replace hb := hb.trans h3
          clear hgw h3 OV BZ
          obtain ⟨g5, c5, rfl⟩ := own_form o3 (by omega)
          try simp only [Act.put, List.setIfInBounds_toArray, List.set_cons_zero, List.set_cons_succ]
          refine rg_take 9 rfl (by kernel_rfl) (by kernel_rfl) (by kernel_rfl) (by rfl) hS (v := ?_) ?_ ?_
          rotate_left
          · (intro w' hS'; go_simp <;> try with_reducible rfl)
          try simp only [Act.put, List.setIfInBounds_toArray, List.set_cons_zero, List.set_cons_succ]
          refine rg_eff 10 rfl (by kernel_rfl) (by rfl) (fun K hK => ?_)
          have c0 := Dq.cell (i := 0) rfl
          have f0 := Dq.frozen 0
          go_simp
          refine hK _ _ (hS.cell (.inl (by simp)) _ _) (fun hS => ?_)
          clear hK K c0 f0
          try simp only [Act.put, List.setIfInBounds_toArray, List.set_cons_zero, List.set_cons_succ]
          refine rg_done (by kernel_rfl) ?_
          have OW := vown_set o3 Dq (by decide) 0 (.slice (some ⟨g5, 0, none⟩) (4 + i + 1) c5)
          have OX := vown_set OS Dq (by decide) 0 (.slice (some ⟨g5, 0, none⟩) (4 + i + 1) c5)
          have DD := Dq.set 0 (.slice (some ⟨g5, 0, none⟩) (4 + i + 1) c5)
          have DX := DEq.setOther (g := d) 0 (.slice (some ⟨g5, 0, none⟩) (4 + i + 1) c5) HDn.out.1
          have EX := Eq.setOther (g := d) 0 (.slice (some ⟨g5, 0, none⟩) (4 + i + 1) c5) HDn.out.2.1
          have FX := Fq.setOther (g := d) 0 (.slice (some ⟨g5, 0, none⟩) (4 + i + 1) c5) HDn.out.2.2
          replace hb := hb.setCell (p := ⟨d, 0, none⟩) HD.out (.slice (some ⟨g5, 0, none⟩) (4 + i + 1) c5)
          go_wp2_with fail
          go_meet
          case rel => exact ⟨g5, c5, DD, by rw [HV.out, ← List.append_assoc, cTs_app]; exact OW, OX, DX, EX, FX, hb⟩
      case rest =>
        clear D OV OS DE E F hb rE gel HGV HVn nge nde m7 hw0 dl
        obtain ⟨g5, c5, D, OV, OS, DE, E, F, hb⟩ := hcut
        obtain ⟨_, _, ee, _, s1, s2, s3⟩ := (RdT.lit F).at HSi.out
        injection ee with ee
        injection ee with e1 e2
        subst e1 e2
        simp only [Nat.zero_add] at s1 s2 s3
        have kw1 : IntKind.i64.wrap (sx + 4) = sx + 4 := by rw [IntKind.wrap_i64]; omega
        have kw2 : IntKind.i64.wrap (sy + 4) = sy + 4 := by rw [IntKind.wrap_i64]; omega
        have M0 : Hid ((g5 ≠ d ∧ g5 ≠ gs ∧ g5 ≠ ge) ∧ (gs ≠ g5)) := ⟨⟨own_ne_ty OV D (by decide), own_ne_own OV OS (by decide), own_ne_sz OV E (by simp [cTs, sqV]; omega)⟩, Ne.symm (own_ne_own OV OS (by decide))⟩
        have nde2 : Hid (d + 1 ∉ [gs, d]) := by
          show _ ∉ _
          have := N0.out.2.2.1
          simp; omega
        have nhe : Hid (he ∉ [gs, d]) := by
          show _ ∉ _
          have := N0.out.2.2.2.2
          have := HDn.out.2.2
          simp; omega
        clear s3
        go_wp2_with fail
        refine rg_start [gs, d] (by kernel_rfl) (fun hS => ?_)
        have Dq := D.drew
        have DEq := DE.drew
        have Eq := E.drew
        have Fq := F.drew
        replace OV := OV.drew
        replace OS := OS.drew
        replace hb := hb.drew
        refine rg_take 0 rfl (by kernel_rfl) (by kernel_rfl) (by kernel_rfl) (by rfl) hS (v := ?_) ?_ ?_
        rotate_left
        · (intro w' hS'; go_simp <;> try with_reducible rfl)
        try simp only [Act.put, List.setIfInBounds_toArray, List.set_cons_zero, List.set_cons_succ]
        refine rg_take 2 rfl (by kernel_rfl) (by kernel_rfl) (by kernel_rfl) (by rfl) hS (v := ?_) ?_ ?_
        rotate_left
        · (intro w' hS'; go_simp <;> try with_reducible rfl)
        try simp only [Act.put, List.setIfInBounds_toArray, List.set_cons_zero, List.set_cons_succ]
        refine rg_take 3 rfl (by kernel_rfl) (by kernel_rfl) (by kernel_rfl) (by rfl) hS (v := ?_) ?_ ?_
        rotate_left
        · (intro w' hS'; have hc := vkeep hS' nde2.out (DE.cell (i := 1) rfl); go_simp <;> try with_reducible rfl)
        try simp only [Act.put, List.setIfInBounds_toArray, List.set_cons_zero, List.set_cons_succ]
        refine rg_take 4 rfl (by kernel_rfl) (by kernel_rfl) (by kernel_rfl) (by rfl) hS (v := ?_) ?_ ?_
        rotate_left
        · (intro w' hS'; go_simp <;> try with_reducible rfl)
        try simp only [Act.put, List.setIfInBounds_toArray, List.set_cons_zero, List.set_cons_succ]
        refine rg_take 5 rfl (by kernel_rfl) (by kernel_rfl) (by kernel_rfl) (by rfl) hS (v := ?_) ?_ ?_
        rotate_left
        · (intro w' hS'; go_simp <;> try with_reducible rfl)
        try simp only [Act.put, List.setIfInBounds_toArray, List.set_cons_zero, List.set_cons_succ]
        refine rg_take 6 rfl (by kernel_rfl) (by kernel_rfl) (by kernel_rfl) (by rfl) hS (v := ?_) ?_ ?_
        rotate_left
        · (intro w' hS'; go_simp <;> try with_reducible rfl)
        try simp only [Act.put, List.setIfInBounds_toArray, List.set_cons_zero, List.set_cons_succ]
        refine rg_take 7 rfl (by kernel_rfl) (by kernel_rfl) (by kernel_rfl) (by rfl) hS (v := ?_) ?_ ?_
        rotate_left
        · (intro w' hS'; have hc := vkeep hS' nhe.out s1; go_simp <;> try with_reducible rfl)
        try simp only [Act.put, List.setIfInBounds_toArray, List.set_cons_zero, List.set_cons_succ]
        refine rg_take 8 rfl (by kernel_rfl) (by kernel_rfl) (by kernel_rfl) (by rfl) hS (v := ?_) ?_ ?_
        rotate_left
        · (intro w' hS'; go_simp <;> try with_reducible rfl)
        try simp only [Act.put, List.setIfInBounds_toArray, List.set_cons_zero, List.set_cons_succ]
        refine rg_take 9 rfl (by kernel_rfl) (by kernel_rfl) (by kernel_rfl) (by rfl) hS (v := ?_) ?_ ?_
        rotate_left
        · (intro w' hS'; go_simp <;> try with_reducible rfl)
        try simp only [Act.put, List.setIfInBounds_toArray, List.set_cons_zero, List.set_cons_succ]
        refine rg_take 10 rfl (by kernel_rfl) (by kernel_rfl) (by kernel_rfl) (by rfl) hS (v := ?_) ?_ ?_
        rotate_left
        · (intro w' hS'; have hc := vkeep hS' nde2.out (DE.cell (i := 1) rfl); go_simp <;> try with_reducible rfl)
        try simp only [Act.put, List.setIfInBounds_toArray, List.set_cons_zero, List.set_cons_succ]
        refine rg_take 11 rfl (by kernel_rfl) (by kernel_rfl) (by kernel_rfl) (by rfl) hS (v := ?_) ?_ ?_
        rotate_left
        · (intro w' hS'; go_simp <;> try with_reducible rfl)
        try simp only [Act.put, List.setIfInBounds_toArray, List.set_cons_zero, List.set_cons_succ]
        refine rg_take 12 rfl (by kernel_rfl) (by kernel_rfl) (by kernel_rfl) (by rfl) hS (v := ?_) ?_ ?_
        rotate_left
        · (intro w' hS'; go_simp <;> try with_reducible rfl)
        try simp only [Act.put, List.setIfInBounds_toArray, List.set_cons_zero, List.set_cons_succ]
        refine rg_take 13 rfl (by kernel_rfl) (by kernel_rfl) (by kernel_rfl) (by rfl) hS (v := ?_) ?_ ?_
        rotate_left
        · (intro w' hS'; go_simp <;> try with_reducible rfl)
        try simp only [Act.put, List.setIfInBounds_toArray, List.set_cons_zero, List.set_cons_succ]
        refine rg_take 14 rfl (by kernel_rfl) (by kernel_rfl) (by kernel_rfl) (by rfl) hS (v := ?_) ?_ ?_
        rotate_left
        · (intro w' hS'; have hc := vkeep hS' nhe.out s2; go_simp <;> try with_reducible rfl)
        try simp only [Act.put, List.setIfInBounds_toArray, List.set_cons_zero, List.set_cons_succ]
        refine rg_take 15 rfl (by kernel_rfl) (by kernel_rfl) (by kernel_rfl) (by rfl) hS (v := ?_) ?_ ?_
        rotate_left
        · (intro w' hS'; go_simp <;> try with_reducible rfl)
        try simp only [Act.put, List.setIfInBounds_toArray, List.set_cons_zero, List.set_cons_succ]
        refine rg_build 16 rfl (by kernel_rfl) (by kernel_rfl) (by kernel_rfl) (by rfl) hS rfl (builtS2 (sx + 4) (sy + 4)) (by simp [Act.eval]) ?_
        try simp only [Act.put, List.setIfInBounds_toArray, List.set_cons_zero, List.set_cons_succ]
        refine rg_two 1 17 rfl rfl (by kernel_rfl) (by rfl) (by rfl) (fun K hK => ?_) (fun K hK => ?_)
        · have c0 := Dq.cell (i := 1) rfl
          go_simp
          refine hK _ _ hS (fun hS => ?_)
          clear hK K c0
          try simp only [Act.put, List.setIfInBounds_toArray, List.set_cons_zero, List.set_cons_succ]
          refine rg_eff 17 rfl (by kernel_rfl) (by rfl) (fun K hK => ?_)
          refine wp_bs1Sg rfl (by rfl) (fun gq wq gle BZ hqq => ?_)
          refine hK _ _ (hS.call hqq) (fun hS => ?_)
          clear hK K
          replace hb := hb.trans (hqq.mono hb.size)
          replace OV := own_call OV hqq
          replace OS := own_call OS hqq
          replace Dq := Dq.call hqq
          replace DEq := DEq.call hqq
          replace Eq := Eq.call hqq
          replace Fq := Fq.call hqq
          clear hqq gle
          try simp only [Act.put, List.setIfInBounds_toArray, List.set_cons_zero, List.set_cons_succ]
          refine rg_eff 18 rfl (by kernel_rfl) (by rfl) (fun K hK => ?_)
          refine wp_ap1Sg (v := .slice (some ⟨gs, 0, none⟩) (4 + i) cs) rfl rfl rfl OS BZ (by omega) hb.size (fun v3 w3 o3 hgw => ?_)
          refine hK _ _ (vgrown hS hgw HGS.out) (fun hS => ?_)
          clear hK K
          have h3 : Below w.heap.size _ _ := (Below.refl _ _).grown hgw hb.size (fun k hk => (OS.lt k hk).1)
          replace Dq := Dq.grown hgw (HSn.out _ N0.out.2.1)
          replace DEq := DEq.grown hgw (HSn.out _ N0.out.2.2.1)
          replace Eq := Eq.grown hgw (HSn.out _ N0.out.2.2.2.1)
          replace Fq := Fq.grown hgw (HSn.out _ N0.out.2.2.2.2)
          replace OV := own_grown OV hgw (HSn.out _ M0.out.2)
          replace hb := hb.trans h3
          clear hgw h3 OS BZ
          obtain ⟨q5, k5, rfl⟩ := own_form o3 (by omega)
          try simp only [Act.put, List.setIfInBounds_toArray, List.set_cons_zero, List.set_cons_succ]
          refine rg_take 19 rfl (by kernel_rfl) (by kernel_rfl) (by kernel_rfl) (by rfl) hS (v := ?_) ?_ ?_
          rotate_left
          · (intro w' hS'; go_simp <;> try with_reducible rfl)
          try simp only [Act.put, List.setIfInBounds_toArray, List.set_cons_zero, List.set_cons_succ]
          refine rg_eff 20 rfl (by kernel_rfl) (by rfl) (fun K hK => ?_)
          have c0 := Dq.cell (i := 1) rfl
          have f0 := Dq.frozen 1
          go_simp
          refine hK _ _ (hS.cell (.inl (by simp)) _ _) (fun hS => ?_)
          clear hK K c0 f0
          try simp only [Act.put, List.setIfInBounds_toArray, List.set_cons_zero, List.set_cons_succ]
          refine rg_done (by kernel_rfl) ?_
          have OW := vown_set o3 Dq (by decide) 1 (.slice (some ⟨q5, 0, none⟩) (4 + i + 1) k5)
          have OX := vown_set OV Dq (by decide) 1 (.slice (some ⟨q5, 0, none⟩) (4 + i + 1) k5)
          have DD := Dq.set 1 (.slice (some ⟨q5, 0, none⟩) (4 + i + 1) k5)
          have DX := DEq.setOther (g := d) 1 (.slice (some ⟨q5, 0, none⟩) (4 + i + 1) k5) HDn.out.1
          have EX := Eq.setOther (g := d) 1 (.slice (some ⟨q5, 0, none⟩) (4 + i + 1) k5) HDn.out.2.1
          have FX := Fq.setOther (g := d) 1 (.slice (some ⟨q5, 0, none⟩) (4 + i + 1) k5) HDn.out.2.2
          replace hb := hb.setCell (p := ⟨d, 1, none⟩) HD.out (.slice (some ⟨q5, 0, none⟩) (4 + i + 1) k5)
          have hq5 := own_ne_sz o3 Fq (by simp [cTs, sqS]; omega)
          go_wp2_with fail
          go_roundw
          case rel => exact ⟨i + 1, g5, c5, q5, k5, by omega, by go_num, DD, OX, by rw [HS.out, ← List.append_assoc, cTs_app]; exact OW, M0.out.1.2.2, hq5, DX, EX, FX, hb⟩
          case measure => simp [intOf]; omega
        · refine wp_bs1Sg rfl (by rfl) (fun gq wq gle BZ hqq => ?_)
          refine hK _ _ (hS.call hqq) (fun hS => ?_)
          clear hK K
          replace hb := hb.trans (hqq.mono hb.size)
          replace OV := own_call OV hqq
          replace OS := own_call OS hqq
          replace Dq := Dq.call hqq
          replace DEq := DEq.call hqq
          replace Eq := Eq.call hqq
          replace Fq := Fq.call hqq
          clear hqq gle
          try simp only [Act.put, List.setIfInBounds_toArray, List.set_cons_zero, List.set_cons_succ]
          refine rg_eff 1 rfl (by kernel_rfl) (by rfl) (fun K hK => ?_)
          have c0 := Dq.cell (i := 1) rfl
          go_simp
          refine hK _ _ hS (fun hS => ?_)
          clear hK K c0
          try simp only [Act.put, List.setIfInBounds_toArray, List.set_cons_zero, List.set_cons_succ]
          refine rg_eff 18 rfl (by kernel_rfl) (by rfl) (fun K hK => ?_)
          refine wp_ap1Sg (v := .slice (some ⟨gs, 0, none⟩) (4 + i) cs) rfl rfl rfl OS BZ (by omega) hb.size (fun v3 w3 o3 hgw => ?_)
          refine hK _ _ (vgrown hS hgw HGS.out) (fun hS => ?_)
          clear hK K
          have h3 : Below w.heap.size _ _ := (Below.refl _ _).grown hgw hb.size (fun k hk => (OS.lt k hk).1)
          replace Dq := Dq.grown hgw (HSn.out _ N0.out.2.1)
          replace DEq := DEq.grown hgw (HSn.out _ N0.out.2.2.1)
          replace Eq := Eq.grown hgw (HSn.out _ N0.out.2.2.2.1)
          replace Fq := Fq.grown hgw (HSn.out _ N0.out.2.2.2.2)
          replace OV := own_grown OV hgw (HSn.out _ M0.out.2)
          replace hb := hb.trans h3
          clear hgw h3 OS BZ
          obtain ⟨q5, k5, rfl⟩ := own_form o3 (by omega)
          try simp only [Act.put, List.setIfInBounds_toArray, List.set_cons_zero, List.set_cons_succ]
          refine rg_take 19 rfl (by kernel_rfl) (by kernel_rfl) (by kernel_rfl) (by rfl) hS (v := ?_) ?_ ?_
          rotate_left
          · (intro w' hS'; go_simp <;> try with_reducible rfl)
          try simp only [Act.put, List.setIfInBounds_toArray, List.set_cons_zero, List.set_cons_succ]
          refine rg_eff 20 rfl (by kernel_rfl) (by rfl) (fun K hK => ?_)
          have c0 := Dq.cell (i := 1) rfl
          have f0 := Dq.frozen 1
          go_simp
          refine hK _ _ (hS.cell (.inl (by simp)) _ _) (fun hS => ?_)
          clear hK K c0 f0
          try simp only [Act.put, List.setIfInBounds_toArray, List.set_cons_zero, List.set_cons_succ]
          refine rg_done (by kernel_rfl) ?_
          have OW := vown_set o3 Dq (by decide) 1 (.slice (some ⟨q5, 0, none⟩) (4 + i + 1) k5)
          have OX := vown_set OV Dq (by decide) 1 (.slice (some ⟨q5, 0, none⟩) (4 + i + 1) k5)
          have DD := Dq.set 1 (.slice (some ⟨q5, 0, none⟩) (4 + i + 1) k5)
          have DX := DEq.setOther (g := d) 1 (.slice (some ⟨q5, 0, none⟩) (4 + i + 1) k5) HDn.out.1
          have EX := Eq.setOther (g := d) 1 (.slice (some ⟨q5, 0, none⟩) (4 + i + 1) k5) HDn.out.2.1
          have FX := Fq.setOther (g := d) 1 (.slice (some ⟨q5, 0, none⟩) (4 + i + 1) k5) HDn.out.2.2
          replace hb := hb.setCell (p := ⟨d, 1, none⟩) HD.out (.slice (some ⟨q5, 0, none⟩) (4 + i + 1) k5)
          have hq5 := own_ne_sz o3 Fq (by simp [cTs, sqS]; omega)
          go_wp2_with fail
          go_roundw
          case rel => exact ⟨i + 1, g5, c5, q5, k5, by omega, by go_num, DD, OX, by rw [HS.out, ← List.append_assoc, cTs_app]; exact OW, M0.out.1.2.2, hq5, DX, EX, FX, hb⟩
          case measure => simp [intOf]; omega
    · obtain rfl : i = 4 := by omega
      have RV : RdT wr (.slice (some ⟨gv, 0, none⟩) 8 cv) (v2q a b c p q r) := RdT.of OV
      have RS : RdT wr (.slice (some ⟨gs, 0, none⟩) 8 cs) s2q := RdT.of OS
      have HRV := Lib.hid RV
      have HRS := Lib.hid RS
      have D8 : Blk wr d [.slice (some ⟨gv, 0, none⟩) 8 cv, .slice (some ⟨gs, 0, none⟩) 8 cs, .slice none 0 0] 26 := D
      clear RV RS OV OS D DE E F n1 n2
      rename_i K0 hK0 hbX
      have HK0 := Lib.hid hK0
      clear hK0
      go_wp2_with fail
      refine HK0.out _ _ ?_
      refine wp_seq_k fun K1 hK1 => ?_
      have k1 : IntKind.i64.wrap (a + c) = a + c := by rw [IntKind.wrap_i64]; omega
      have k2 : IntKind.i64.wrap (p + r) = p + r := by rw [IntKind.wrap_i64]; omega
      have k3 : IntKind.i64.wrap (b + c) = b + c := by rw [IntKind.wrap_i64]; omega
      have k4 : IntKind.i64.wrap (q + r) = q + r := by rw [IntKind.wrap_i64]; omega
      clear ha hbb hc hp hq hr HK0
      go_cut [22] (fun v wx => (∃ z : Bool, v = .bool z ∧ (z = true ↔ Apart a b c p q r)) ∧ wx = wr)
      case first =>
        as_aux_lemma =>
          by_cases c1 : a + c < p
          · have HZ : Hid (Apart a b c p q r) := .inl c1
            go_wp2_with fail
            go_meet
            case rel => exact ⟨⟨true, rfl, by simp [HZ.out]⟩, rfl⟩
          by_cases c2 : p + r < a
          · have HZ : Hid (Apart a b c p q r) := .inr (.inl c2)
            go_wp2_with fail
            go_meet
            case rel => exact ⟨⟨true, rfl, by simp [HZ.out]⟩, rfl⟩
          by_cases c3 : b + c < q
          · have HZ : Hid (Apart a b c p q r) := .inr (.inr (.inl c3))
            go_wp2_with fail
            go_meet
            case rel => exact ⟨⟨true, rfl, by simp [HZ.out]⟩, rfl⟩
          by_cases c4 : q + r < b
          · have HZ : Hid (Apart a b c p q r) := .inr (.inr (.inr c4))
            go_wp2_with fail
            go_meet
            case rel => exact ⟨⟨true, rfl, by simp [HZ.out]⟩, rfl⟩
          · have HZ : Hid (¬ Apart a b c p q r) := by show ¬ _; unfold Apart; omega
            go_wp2_with fail
            go_meet
            case rel => exact ⟨⟨false, by first | rfl | (simp; omega), by simp [HZ.out]⟩, rfl⟩
      case rest =>
        obtain ⟨⟨z1, rfl, hz1⟩, rfl⟩ := hcut
        have HZ1 := Lib.hid hz1
        clear hz1
        have k1 : IntKind.i64.wrap (a + c) = a + c := by rw [IntKind.wrap_i64]; have := HRa.out; have := HRc.out; omega
        have k2 : IntKind.i64.wrap (p + r) = p + r := by rw [IntKind.wrap_i64]; have := HRp.out; have := HRr.out; omega
        have k3 : IntKind.i64.wrap (b + c) = b + c := by rw [IntKind.wrap_i64]; have := HRb.out; have := HRc.out; omega
        have k4 : IntKind.i64.wrap (q + r) = q + r := by rw [IntKind.wrap_i64]; have := HRq.out; have := HRr.out; omega
        refine hK1 _ _ ?_
        refine wp_seq_k fun K2 hK2 => ?_
        go_cut [23] (fun v wx => (∃ z : Bool, v = .bool z ∧ (z = true ↔ Inside a b c p q r)) ∧ wx = wc)
        case first =>
          as_aux_lemma =>
            by_cases c0 : a < p
            rotate_left
            · by_cases d0 : p < a
              rotate_left
              · have HZ : Hid (¬ Inside a b c p q r) := (by show ¬ _; unfold Inside; omega)
                go_wp2_with fail
                go_meet
                case rel => exact ⟨⟨false, by first | rfl | (simp; omega), by simp [HZ.out]⟩, rfl⟩
              by_cases d1 : q < b
              rotate_left
              · have HZ : Hid (¬ Inside a b c p q r) := (by show ¬ _; unfold Inside; omega)
                go_wp2_with fail
                go_meet
                case rel => exact ⟨⟨false, by first | rfl | (simp; omega), by simp [HZ.out]⟩, rfl⟩
              by_cases d2 : a + c < p + r
              rotate_left
              · have HZ : Hid (¬ Inside a b c p q r) := (by show ¬ _; unfold Inside; omega)
                go_wp2_with fail
                go_meet
                case rel => exact ⟨⟨false, by first | rfl | (simp; omega), by simp [HZ.out]⟩, rfl⟩
              by_cases d3 : b + c < q + r
              rotate_left
              · have HZ : Hid (¬ Inside a b c p q r) := (by show ¬ _; unfold Inside; omega)
                go_wp2_with fail
                go_meet
                case rel => exact ⟨⟨false, by first | rfl | (simp; omega), by simp [HZ.out]⟩, rfl⟩
              have HZ : Hid (Inside a b c p q r) := (by show Inside a b c p q r; unfold Inside; omega)
              go_wp2_with fail
              go_meet
              case rel => exact ⟨⟨true, by first | rfl | (simp; omega), by simp [HZ.out]⟩, rfl⟩
            by_cases c1 : b < q
            rotate_left
            · have e0 : ¬ p < a := by omega
              have HZ : Hid (¬ Inside a b c p q r) := (by show ¬ _; unfold Inside; omega)
              go_wp2_with fail
              go_meet
              case rel => exact ⟨⟨false, by first | rfl | (simp; omega), by simp [HZ.out]⟩, rfl⟩
            by_cases c2 : p + r < a + c
            rotate_left
            · have e0 : ¬ p < a := by omega
              have HZ : Hid (¬ Inside a b c p q r) := (by show ¬ _; unfold Inside; omega)
              go_wp2_with fail
              go_meet
              case rel => exact ⟨⟨false, by first | rfl | (simp; omega), by simp [HZ.out]⟩, rfl⟩
            by_cases c3 : q + r < b + c
            rotate_left
            · have e0 : ¬ p < a := by omega
              have HZ : Hid (¬ Inside a b c p q r) := (by show ¬ _; unfold Inside; omega)
              go_wp2_with fail
              go_meet
              case rel => exact ⟨⟨false, by first | rfl | (simp; omega), by simp [HZ.out]⟩, rfl⟩
            have HZ : Hid (Inside a b c p q r) := (by show Inside a b c p q r; unfold Inside; omega)
            go_wp2_with fail
            go_meet
            case rel => exact ⟨⟨true, by first | rfl | (simp; omega), by simp [HZ.out]⟩, rfl⟩
        case rest =>
          obtain ⟨⟨z2, rfl, hz2⟩, rfl⟩ := hcut
          have HZ2 := Lib.hid hz2
          clear hz2 k1 k2 k3 k4
          refine hK2 _ _ ?_
          have HT := Lib.hid (two_chk HRa.out HRb.out HRc.out HRp.out HRq.out HRr.out)
          have c0 := D8.cell (i := 0) rfl
          have c1 := D8.cell (i := 1) rfl
          have c2 := D8.cell (i := 2) rfl
          go_wp2_with fail
          clear c0 c1 c2 D8
          by_cases hAI : Apart a b c p q r ∨ Inside a b c p q r
          · have HV := HT.out.1 hAI
            rcases hAI with hA | hI
            · obtain rfl : z1 = true := HZ1.out.2 hA
              clear hA
              refine (Check_at HRV.out HRS.out (RdP.nil _ none 0) (Nat.le_of_ble_eq_true rfl) (Nat.le_of_ble_eq_true rfl) (Nat.le_of_ble_eq_true rfl) (by simp) HV).mono ?_
              rintro e w5 ⟨rfl, k1⟩
              replace hb := hb.trans (k1.mono hb.size)
              clear k1
              clear HZ1 HZ2 HT HRV HRS HV
              go_wp2
              go_ret
              exact ⟨by first | rfl | (simp; done), hb⟩
            · obtain rfl : z2 = true := HZ2.out.2 hI
              clear hI
              cases z1
              · refine (Check_at HRV.out HRS.out (RdP.nil _ none 0) (Nat.le_of_ble_eq_true rfl) (Nat.le_of_ble_eq_true rfl) (Nat.le_of_ble_eq_true rfl) (by simp) HV).mono ?_
                rintro e w5 ⟨rfl, k1⟩
                replace hb := hb.trans (k1.mono hb.size)
                clear k1
                clear HZ1 HZ2 HT HRV HRS HV
                go_wp2
                go_ret
                exact ⟨by first | rfl | (simp; done), hb⟩
              · refine (Check_at HRV.out HRS.out (RdP.nil _ none 0) (Nat.le_of_ble_eq_true rfl) (Nat.le_of_ble_eq_true rfl) (Nat.le_of_ble_eq_true rfl) (by simp) HV).mono ?_
                rintro e w5 ⟨rfl, k1⟩
                replace hb := hb.trans (k1.mono hb.size)
                clear k1
                clear HZ1 HZ2 HT HRV HRS HV
                go_wp2
                go_ret
                exact ⟨by first | rfl | (simp; done), hb⟩
          · obtain rfl : z1 = false := by
              cases z1
              · rfl
              · exact absurd (.inl (HZ1.out.1 rfl)) hAI
            obtain rfl : z2 = false := by
              cases z2
              · rfl
              · exact absurd (.inr (HZ2.out.1 rfl)) hAI
            rcases HT.out.2 hAI with HV | HV
            · clear hAI
              refine (Check_at HRV.out HRS.out (RdP.nil _ none 0) (Nat.le_of_ble_eq_true rfl) (Nat.le_of_ble_eq_true rfl) (Nat.le_of_ble_eq_true rfl) (by simp) HV).mono ?_
              rintro e w5 ⟨rfl, k1⟩
              replace hb := hb.trans (k1.mono hb.size)
              clear k1
              clear HZ1 HZ2 HT HRV HRS HV
              go_wp2
              go_ret
              exact ⟨by first | rfl | (simp; done), hb⟩
            · clear hAI
              refine (Check_at HRV.out HRS.out (RdP.nil _ none 0) (Nat.le_of_ble_eq_true rfl) (Nat.le_of_ble_eq_true rfl) (Nat.le_of_ble_eq_true rfl) (by simp) HV).mono ?_
              rintro e w5 ⟨rfl, k1⟩
              replace hb := hb.trans (k1.mono hb.size)
              clear k1
              clear HZ1 HZ2 HT HRV HRS HV
              go_wp2
              go_ret
              exact ⟨by first | rfl | (simp; done), hb⟩
end Go.Proofs.YtoegjibeomhekaaGreat
