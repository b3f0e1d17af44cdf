/- option.take: a size. -/
import Derived.Test.YthcgbchgfdkhiaaDoorZta
namespace Go.Proofs.YthcgbchgfdkhiaaDoor
set_option linter.unusedSimpArgs false
set_option linter.unusedVariables false
open Go.RowKit
set_option maxRecDepth 100000
theorem w40 {a b c : Int} : Whole Tryd.prog 40 ([.int .i64 a, .int .i64 b, .int .i64 c] : List Value).length := ⟨_, Tryd.underlying40, rfl, by kernel_rfl⟩
theorem ptr3 {w : World} {g b : Nat} {t : TypeId} (h : Blk w g [.pointer (some ⟨b, 0, none⟩), .pointer (some ⟨b, 1, none⟩), .pointer (some ⟨b, 2, none⟩)] t) : ∀ (i : Nat) q, o3[i]? = some q → w.cell? ⟨g, i, none⟩ = some (.pointer (some ⟨b, q, none⟩)) := by
  intro i q hq
  match i, hq with
  | 0, hq => (have : 0 = q := by simpa [o3] using hq); subst this; exact h.cell rfl
  | 1, hq => (have : 1 = q := by simpa [o3] using hq); subst this; exact h.cell rfl
  | 2, hq => (have : 2 = q := by simpa [o3] using hq); subst this; exact h.cell rfl
  | n + 3, hq => simp [o3] at hq
set_option maxHeartbeats 4000000 in
theorem take_s (s : ByteArray) (r : List UInt8) (B b : Nat) (o : Opt) (w : World) (hs : s.size = r.length + 1) (hX : s.extract 1 (r.length + 1) = tx r) (hl : r.length ≤ 1000000) (d1 : ((s[0].toNat : Int) == 104) = false) (d2 : ((s[0].toNat : Int) == 99) = false) (d3 : ((s[0].toNat : Int) == 115) = true)
    (hO : Opb B b o w) (hbB : b < B) (hBw : B ≤ w.heap.size) (hE : Env w) (hz : o.z.length ≤ 1000000) :
    Calls Tryd.prog 15 #[.pointer (some ⟨b, 0, none⟩), .string s] w fun e w' => e = .returned (.bool (rdOk 3 (splits [44] r))) ∧ Below b w w' ∧ (rdOk 3 (splits [44] r) = true → Opb B b { o with z := o.z ++ [trip (splits [44] r)] } w') := by
  obtain ⟨zv, hB0, hown⟩ := hO
  have g0 := ne_empty s (by omega)
  have k9 : (1 : Int) ≤ (r.length : Int) + 1 := by omega
  have hlt := hB0.lt
  have hb0 : Below w.heap.size w ((w.alloc (.cells z3.toArray 40)).alloc (.cells #[.pointer (some ⟨w.heap.size, 0, none⟩), .pointer (some ⟨w.heap.size, 1, none⟩), .pointer (some ⟨w.heap.size, 2, none⟩)] 55)) := ((Below.refl w.heap.size w).alloc (Nat.le_refl _) _).alloc (by simp) _
  have BS0 := (Blk.new w z3 40 rfl).old (.cells #[.pointer (some ⟨w.heap.size, 0, none⟩), .pointer (some ⟨w.heap.size, 1, none⟩), .pointer (some ⟨w.heap.size, 2, none⟩)] 55)
  have BP0 := Blk.new (w.alloc (.cells z3.toArray 40)) [.pointer (some ⟨w.heap.size, 0, none⟩), .pointer (some ⟨w.heap.size, 1, none⟩), .pointer (some ⟨w.heap.size, 2, none⟩)] 55 (show w.heap.size + 1 = _ by simp)
  have HR := Lib.hid (read_two r (w.heap.size + 1) 3 w.heap.size o3 z3 40 _ hl (by decide) (hE.below hb0) (ptr3 BP0) (by omega) BS0 (by decide))
  have HO := Lib.hid hown
  have HB := Lib.hid hB0
  have HB00 := Lib.hid hb0
  have HZ := Lib.hid hz
  clear hown hE hB0 hb0 BS0 BP0 hz
  obtain ⟨P, hP⟩ : ∃ P, splits [44] r = P := ⟨_, rfl⟩
  rw [hP] at HR ⊢
  clear hP
  have e3 : o3.length = 3 := rfl
  rw [e3] at HR
  clear e3
  go_enter Tryd.func15, Tryd.ntmps15
  go_wp2_with fail
  refine HR.out.mono ?_
  rintro e w1 ⟨rfl, hOt, ns, hS1, hns⟩
  have hw1 : Below w.heap.size w w1 := HB00.out.trans (hOt.below (Nat.le_refl _) HB00.out.size)
  obtain ⟨x, y, z, hxyz⟩ := puts3 ns
  have HT : Hid (rdOk 3 P = true → trip P = (x, y, z)) := fun h => by
    have h1 := hns h
    subst h1
    obtain ⟨hh1, _⟩ : P.length = 3 ∧ P.all intOk = true := (rd_thr P).2 h
    match P, hh1 with
    | [a, b, c], _ =>
      have h5 : ([.int .i64 (intV a), .int .i64 (intV b), .int .i64 (intV c)] : List Value) = [.int .i64 x, .int .i64 y, .int .i64 z] := hxyz
      simp only [List.cons.injEq, Value.int.injEq, true_and, and_true] at h5
      obtain ⟨rfl, rfl, rfl⟩ := h5
      rfl
  rw [hxyz] at hS1
  have BS := hS1
  have BB := HB.out.call hw1
  have OW := owns_below HO.out hw1
  have hz1 := Nat.le_trans hBw hw1.size
  have hb : Below b w w1 := hw1.mono (by omega)
  have hG : ∀ k, zv.ownBlock = some k → k ∈ b :: zv.ownBlock.toList := fun k hk => by rw [hk]; simp
  have hsG : w.heap.size ∉ b :: zv.ownBlock.toList := fun h => by
    rcases List.mem_cons.1 h with h | h
    · omega
    · have := (HO.out.lt _ (by simpa using h)).2; omega
  have HG := Lib.hid hG
  have HSG := Lib.hid hsG
  have HXYZ := Lib.hid hxyz
  have HHS := Lib.hid hs
  clear HR hOt hns hxyz hS1 hw1 HB HO HB00 hG hsG
  go_wp2_with fail
  refine rg_start (b :: zv.ownBlock.toList) (by kernel_rfl) (fun hS => ?_)
  replace BB := BB.drew
  replace OW := OW.drew
  replace hb := hb.drew
  replace hz1 : B ≤ w1.drew.heap.size := hz1
  refine rg_take 0 rfl (by kernel_rfl) (by kernel_rfl) (by kernel_rfl) (by rfl) hS (v := ?_) ?_ ?_
  rotate_left
  · (intro w' hS'; go_simp <;> try with_reducible rfl)
  try simp only [Act.put, List.setIfInBounds_toArray, List.set_cons_zero, List.set_cons_succ]
  refine rg_take 1 rfl (by kernel_rfl) (by kernel_rfl) (by kernel_rfl) (by rfl) hS (v := ?_) ?_ ?_
  rotate_left
  · (intro w' hS'; go_simp <;> try with_reducible rfl)
  try simp only [Act.put, List.setIfInBounds_toArray, List.set_cons_zero, List.set_cons_succ]
  refine rg_take 2 rfl (by kernel_rfl) (by kernel_rfl) (by kernel_rfl) (by rfl) hS (v := ?_) ?_ ?_
  rotate_left
  · (intro w' hS'; go_simp <;> try with_reducible rfl)
  try simp only [Act.put, List.setIfInBounds_toArray, List.set_cons_zero, List.set_cons_succ]
  refine rg_take 3 rfl (by kernel_rfl) (by kernel_rfl) (by kernel_rfl) (by rfl) hS (v := ?_) ?_ ?_
  rotate_left
  · (intro w' hS'; go_simp <;> try with_reducible rfl)
  try simp only [Act.put, List.setIfInBounds_toArray, List.set_cons_zero, List.set_cons_succ]
  refine rg_ld 5 rfl (by kernel_rfl) (by kernel_rfl) (by kernel_rfl) (by rfl) hS rfl rfl BS HSG.out w40 ?_
  try simp only [Act.put, List.setIfInBounds_toArray, List.set_cons_zero, List.set_cons_succ]
  refine rg_two 4 6 rfl rfl (by kernel_rfl) (by rfl) (by rfl) (fun K hK => ?_) (fun K hK => ?_)
  · have c2 := BB.cell (i := 2) rfl
    go_simp
    refine hK _ _ hS (fun hS => ?_)
    clear hK K c2
    try simp only [Act.put, List.setIfInBounds_toArray, List.set_cons_zero, List.set_cons_succ]
    refine rg_eff 6 rfl (by kernel_rfl) (by rfl) (fun K hK => ?_)
    refine wp_bsZ1q rfl rfl (fun gq wq gle BZ hq => ?_)
    refine hK _ _ (hS.call hq) (fun hS => ?_)
    clear hK K
    replace hb := hb.trans (hq.mono (by omega))
    replace hz1 := Nat.le_trans hz1 hq.size
    replace BB := BB.call hq
    replace OW := owns_below OW hq
    clear hq gle
    try simp only [Act.put, List.setIfInBounds_toArray, List.set_cons_zero, List.set_cons_succ]
    refine rg_eff 7 rfl (by kernel_rfl) (by rfl) (fun K hK => ?_)
    refine wp_appZ rfl rfl rfl OW BZ (Nat.le_trans HZ.out (by decide)) hz1 (fun v3 w3 OW3 hg => ?_)
    refine hK _ _ (hS.grown hg HG.out) (fun hS => ?_)
    clear hK K
    have h3 : Below B _ _ := (Below.refl B _).grown hg hz1 (fun k hk => (OW.lt k hk).1)
    replace hb := hb.trans (h3.mono (by omega))
    replace BB := BB.below h3 hbB
    clear hg h3 OW BZ
    obtain ⟨g4, c4, rfl⟩ := Go.Joins.ownsRow_form OW3 (by omega)
    try simp only [Act.put, List.setIfInBounds_toArray, List.set_cons_zero, List.set_cons_succ]
    refine rg_take 8 rfl (by kernel_rfl) (by kernel_rfl) (by kernel_rfl) (by rfl) hS (v := ?_) ?_ ?_
    rotate_left
    · (intro w' hS'; go_simp <;> try with_reducible rfl)
    try simp only [Act.put, List.setIfInBounds_toArray, List.set_cons_zero, List.set_cons_succ]
    refine rg_take 9 rfl (by kernel_rfl) (by kernel_rfl) (by kernel_rfl) (by rfl) hS (v := ?_) ?_ ?_
    rotate_left
    · (intro w' hS'; go_simp <;> try with_reducible rfl)
    try simp only [Act.put, List.setIfInBounds_toArray, List.set_cons_zero, List.set_cons_succ]
    refine rg_eff 10 rfl (by kernel_rfl) (by rfl) (fun K hK => ?_)
    have c2 := BB.cell (i := 2) rfl
    have f2 := BB.frozen 2
    go_simp
    refine hK _ _ (hS.cell (.inl (List.mem_cons_self ..)) _ _) (fun hS => ?_)
    clear hK K c2 f2
    have BF := BB.set 2 (.slice (some ⟨g4, 0, none⟩) (o.z.length + 1) c4)
    have OWF := ownsRow_setCell_below OW3 (show (⟨b, 2, none⟩ : Addr).block < B from hbB) (.slice (some ⟨g4, 0, none⟩) (o.z.length + 1) c4)
    replace hb : Below b w (w3.setCell ⟨b, 2, none⟩ (.slice (some ⟨g4, 0, none⟩) (o.z.length + 1) c4)) := hb.setCell (Nat.le_refl b) _
    try simp only [Act.put, List.setIfInBounds_toArray, List.set_cons_zero, List.set_cons_succ]
    refine rg_done (by kernel_rfl) ?_
    have HF := Lib.hid (show Below b w _ ∧ (rdOk 3 P = true → Opb B b { o with z := o.z ++ [trip P] } _) from ⟨hb, fun h => ⟨_, BF, by rw [HT.out h]; simpa [celZ] using OWF⟩⟩)
    clear BF OWF hb BB OW3 hS
    go_wp2
    go_ret
    exact ⟨rfl, HF.out⟩
  · refine wp_bsZ1q rfl rfl (fun gq wq gle BZ hq => ?_)
    refine hK _ _ (hS.call hq) (fun hS => ?_)
    clear hK K
    replace hb := hb.trans (hq.mono (by omega))
    replace hz1 := Nat.le_trans hz1 hq.size
    replace BB := BB.call hq
    replace OW := owns_below OW hq
    clear hq gle
    try simp only [Act.put, List.setIfInBounds_toArray, List.set_cons_zero, List.set_cons_succ]
    refine rg_eff 4 rfl (by kernel_rfl) (by rfl) (fun K hK => ?_)
    have c2 := BB.cell (i := 2) rfl
    go_simp
    refine hK _ _ hS (fun hS => ?_)
    clear hK K c2
    try simp only [Act.put, List.setIfInBounds_toArray, List.set_cons_zero, List.set_cons_succ]
    refine rg_eff 7 rfl (by kernel_rfl) (by rfl) (fun K hK => ?_)
    refine wp_appZ rfl rfl rfl OW BZ (Nat.le_trans HZ.out (by decide)) hz1 (fun v3 w3 OW3 hg => ?_)
    refine hK _ _ (hS.grown hg HG.out) (fun hS => ?_)
    clear hK K
    have h3 : Below B _ _ := (Below.refl B _).grown hg hz1 (fun k hk => (OW.lt k hk).1)
    replace hb := hb.trans (h3.mono (by omega))
    replace BB := BB.below h3 hbB
    clear hg h3 OW BZ
    obtain ⟨g4, c4, rfl⟩ := Go.Joins.ownsRow_form OW3 (by omega)
    try simp only [Act.put, List.setIfInBounds_toArray, List.set_cons_zero, List.set_cons_succ]
    refine rg_take 8 rfl (by kernel_rfl) (by kernel_rfl) (by kernel_rfl) (by rfl) hS (v := ?_) ?_ ?_
    rotate_left
    · (intro w' hS'; go_simp <;> try with_reducible rfl)
    try simp only [Act.put, List.setIfInBounds_toArray, List.set_cons_zero, List.set_cons_succ]
    refine rg_take 9 rfl (by kernel_rfl) (by kernel_rfl) (by kernel_rfl) (by rfl) hS (v := ?_) ?_ ?_
    rotate_left
    · (intro w' hS'; go_simp <;> try with_reducible rfl)
    try simp only [Act.put, List.setIfInBounds_toArray, List.set_cons_zero, List.set_cons_succ]
    refine rg_eff 10 rfl (by kernel_rfl) (by rfl) (fun K hK => ?_)
    have c2 := BB.cell (i := 2) rfl
    have f2 := BB.frozen 2
    go_simp
    refine hK _ _ (hS.cell (.inl (List.mem_cons_self ..)) _ _) (fun hS => ?_)
    clear hK K c2 f2
    have BF := BB.set 2 (.slice (some ⟨g4, 0, none⟩) (o.z.length + 1) c4)
    have OWF := ownsRow_setCell_below OW3 (show (⟨b, 2, none⟩ : Addr).block < B from hbB) (.slice (some ⟨g4, 0, none⟩) (o.z.length + 1) c4)
    replace hb : Below b w (w3.setCell ⟨b, 2, none⟩ (.slice (some ⟨g4, 0, none⟩) (o.z.length + 1) c4)) := hb.setCell (Nat.le_refl b) _
    try simp only [Act.put, List.setIfInBounds_toArray, List.set_cons_zero, List.set_cons_succ]
    refine rg_done (by kernel_rfl) ?_
    have HF := Lib.hid (show Below b w _ ∧ (rdOk 3 P = true → Opb B b { o with z := o.z ++ [trip P] } _) from ⟨hb, fun h => ⟨_, BF, by rw [HT.out h]; simpa [celZ] using OWF⟩⟩)
    clear BF OWF hb BB OW3 hS
    go_wp2
    go_ret
    exact ⟨rfl, HF.out⟩
end Go.Proofs.YthcgbchgfdkhiaaDoor
