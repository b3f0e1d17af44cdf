/- A vertex of a list is read. -/
import Derived.Test.YtpalfmgloddhcaaGreatDoorYok
namespace Go.Proofs.YtpalfmgloddhcaaGreatDoor
set_option linter.unusedSimpArgs false
set_option linter.unusedVariables false
open Go.RowKit
set_option maxRecDepth 100000
/-- The cells of three numbers. -/
def c3i (x y z : Int) : List Value := [.int .i64 x, .int .i64 y, .int .i64 z]
theorem wholeVt (x y z : Int) : Whole Tryz.prog 38 (c3i x y z).length := ⟨_, Tryz.underlying38, rfl, by kernel_rfl⟩
theorem c3i_one (x y z : Int) : ∀ v ∈ c3i x y z, v.oneCell' = true := by
  intro v hv
  simp only [c3i, List.mem_cons, List.not_mem_nil, or_false] at hv
  rcases hv with rfl | rfl | rfl <;> rfl
theorem builtVt (x y : Int) : Tryz.prog.built 38 [(0, .int .i64 x), (1, .int .i64 y)] = some (c3i x y 0).toArray := by kernel_rfl
theorem zeroVert : (Tryz.prog.info? 38).map (·.zero) = some (some (.agg (c3i 0 0 0).toArray)) := by kernel_rfl
set_option maxHeartbeats 8000000 in
theorem vItem {P : List UInt8 → Prop} {w0 : World} {b g1 g2 g3 : Nat} {r : Rd} {w : World} (at_ : Nat) (m : Int) (h : Rdr w0 b r w) (hok : Okr P r) (hat : at_ ≤ 1000)
    (B1 : Blk w g1 [.pointer (some ⟨b, 0, none⟩)] 62) (B2 : Blk w g2 [.int .i64 (at_ : Int)] 3) (B3 : Blk w g3 [.int .i64 m] 3) :
    Calls Tryz.prog 66 #[.pointer (some ⟨g1, 0, none⟩), .pointer (some ⟨g2, 0, none⟩), .pointer (some ⟨g3, 0, none⟩)] w fun e w' =>
      e = .returned (.agg (c3i (vVal at_ m r).1 (vVal at_ m r).2.1 (vVal at_ m r).2.2).toArray) ∧ Rdr w0 b (vSt at_ m r) w' ∧ Oth b w w' := by
  have n1 := h.ne B1 (by simp)
  have n2 := h.ne B2 (by simp)
  have n3 := h.ne B3 (by simp)
  have HO := Lib.hid (Oth.refl b w)
  have HR := Lib.hid h
  have hsw := h.1.size
  clear h
  go_enter Tryz.func66, Tryz.ntmps66
  have B0 := Blk.new w (c3i 0 0 0) 38 rfl
  have HR0 := Lib.hid (HR.out.call ((Below.refl _ _).alloc (Nat.le_refl _) (.cells (c3i 0 0 0).toArray 38)))
  have n0 := HR0.out.ne B0 (by simp [c3i])
  replace B1 := B1.old (.cells (c3i 0 0 0).toArray 38)
  replace B2 := B2.old (.cells (c3i 0 0 0).toArray 38)
  replace B3 := B3.old (.cells (c3i 0 0 0).toArray 38)
  have HO0 := Lib.hid (HO.out.then ((Below.refl _ _).alloc (Nat.le_refl _) (.cells (c3i 0 0 0).toArray 38)))
  clear HR HO
  go_wp2_with (first | (with_reducible refine al_blk rfl rfl zeroVert ?_))
  generalize w.alloc (.cells (c3i 0 0 0).toArray 38) = W at *
  obtain ⟨p0, HP0, HS0⟩ : ∃ p, Hid (w.heap.size = p) ∧ Hid (w0.heap.size ≤ p) := ⟨_, rfl, hsw⟩
  have hp0 := HP0.out
  rw [hp0] at B0 n0 ⊢
  clear hp0 hsw
  have hs0 := HR0.out.1.size
  have hs1 := HO0.out.size
  have HP1 := Lib.hid hok.hd
  have ok1 := hok.number
  have hl0 := hok.wl
  try simp only [Act.put, List.setIfInBounds_toArray, List.set_cons_zero, List.set_cons_succ]
  go_cut [4] (fun p wx => ∃ q, p = .pointer (some ⟨q, 0, none⟩) ∧ Rdr w0 b r.number.number wx ∧ Oth b w wx ∧ Blk wx q (c3i r.num r.number.num 0) 38 ∧ Blk wx g1 [.pointer (some ⟨b, 0, none⟩)] 62 ∧ Blk wx g2 [.int .i64 (at_ : Int)] 3 ∧ Blk wx g3 [.int .i64 m] 3 ∧ Blk wx p0 (c3i 0 0 0) 38 ∧ p0 < q)
  case first =>
    refine rg_start [b] (by kernel_rfl) (fun hS => ?_)
    have HR1 := HR0.out.call ((Below.refl _ _).drew)
    have HO1 := Lib.hid (HO0.out.then ((Below.refl _ _).drew))
    refine rg_take 0 rfl (by kernel_rfl) (by kernel_rfl) (by kernel_rfl) (by rfl) hS (v := ?_) ?_ ?_
    rotate_left
    · (intro w' hS'; have hc := (B1.keep hS' (by simp <;> omega)).cell (i := 0) (v := (.pointer (some ⟨b, 0, none⟩))) rfl; go_simp <;> try with_reducible rfl)
    try simp only [Act.put, List.setIfInBounds_toArray, List.set_cons_zero, List.set_cons_succ]
    refine rg_take 1 rfl (by kernel_rfl) (by kernel_rfl) (by kernel_rfl) (by rfl) hS (v := ?_) ?_ ?_
    rotate_left
    · (intro w' hS'; go_simp <;> try with_reducible rfl)
    try simp only [Act.put, List.setIfInBounds_toArray, List.set_cons_zero, List.set_cons_succ]
    refine rg_take 2 rfl (by kernel_rfl) (by kernel_rfl) (by kernel_rfl) (by rfl) hS (v := ?_) ?_ ?_
    rotate_left
    · (intro w' hS'; go_simp <;> try with_reducible rfl)
    try simp only [Act.put, List.setIfInBounds_toArray, List.set_cons_zero, List.set_cons_succ]
    refine rg_take 4 rfl (by kernel_rfl) (by kernel_rfl) (by kernel_rfl) (by rfl) hS (v := ?_) ?_ ?_
    rotate_left
    · (intro w' hS'; have hc := (B1.keep hS' (by simp <;> omega)).cell (i := 0) (v := (.pointer (some ⟨b, 0, none⟩))) rfl; go_simp <;> try with_reducible rfl)
    try simp only [Act.put, List.setIfInBounds_toArray, List.set_cons_zero, List.set_cons_succ]
    refine rg_take 5 rfl (by kernel_rfl) (by kernel_rfl) (by kernel_rfl) (by rfl) hS (v := ?_) ?_ ?_
    rotate_left
    · (intro w' hS'; go_simp <;> try with_reducible rfl)
    try simp only [Act.put, List.setIfInBounds_toArray, List.set_cons_zero, List.set_cons_succ]
    refine rg_take 6 rfl (by kernel_rfl) (by kernel_rfl) (by kernel_rfl) (by rfl) hS (v := ?_) ?_ ?_
    rotate_left
    · (intro w' hS'; go_simp <;> try with_reducible rfl)
    try simp only [Act.put, List.setIfInBounds_toArray, List.set_cons_zero, List.set_cons_succ]
    refine rg_two 3 9 rfl rfl (by kernel_rfl) (by rfl) (by rfl) (fun K hK => ?_) (fun K hK => ?_)
    · go_simp
      refine (number_any HR1 hok.wl HP1.out.1).mono ?_
      rintro e w1 ⟨rfl, k1, k2⟩
      refine hK _ _ (hS.oth k2 (by simp)) (fun hS => ?_)
      clear hK K
      replace HR1 := k1
      replace HO1 := Lib.hid (HO1.out.trans k2)
      try replace an := an.oth k2 (by omega)
      clear k1 k2
      try simp only [Act.put, List.setIfInBounds_toArray, List.set_cons_zero, List.set_cons_succ]
      refine rg_two 7 9 rfl rfl (by kernel_rfl) (by rfl) (by rfl) (fun K hK => ?_) (fun K hK => ?_)
      · go_simp
        refine (number_any HR1 ok1.wl ok1.hd.1).mono ?_
        rintro e w2 ⟨rfl, k1, k2⟩
        refine hK _ _ (hS.oth k2 (by simp)) (fun hS => ?_)
        clear hK K
        replace HR1 := k1
        replace HO1 := Lib.hid (HO1.out.trans k2)
        try replace an := an.oth k2 (by omega)
        clear k1 k2
        try simp only [Act.put, List.setIfInBounds_toArray, List.set_cons_zero, List.set_cons_succ]
        refine rg_build 8 rfl (by kernel_rfl) (by kernel_rfl) (by kernel_rfl) (by rfl) hS rfl (builtVt r.num r.number.num) (by simp [Act.eval]) ?_
        try simp only [Act.put, List.setIfInBounds_toArray, List.set_cons_zero, List.set_cons_succ]
        refine rg_eff 9 rfl (by kernel_rfl) (by rfl) (fun K hK => ?_)
        refine wp_alB (zs := c3i 0 0 0) rfl zeroVert (fun pn qn an => ?_)
        replace qn := Nat.le_trans hS.1 qn
        have nn := HR1.call ((Below.refl _ _).alloc (Nat.le_refl _) (.cells (c3i 0 0 0).toArray 38))
        have nb := nn.ne an (by simp [c3i])
        replace HR1 := nn
        clear nn
        replace HO1 := Lib.hid (HO1.out.then ((Below.refl _ _).alloc (Nat.le_refl _) (.cells (c3i 0 0 0).toArray 38)))
        refine hK _ _ (hS.alloc _) (fun hS => ?_)
        clear hK K
        try simp only [Act.put, List.setIfInBounds_toArray, List.set_cons_zero, List.set_cons_succ]
        refine rg_eff 10 rfl (by kernel_rfl) (by rfl) (fun K hK => ?_)
        refine wp_st (vs := c3i r.num r.number.num 0) rfl rfl rfl an rfl (wholeVt _ _ _) (c3i_one _ _ _) ?_
        refine hK _ _ (hS.row (.inr qn) _) (fun hS => ?_)
        clear hK K
        replace an := an.row (c3i r.num r.number.num 0)
        replace HR1 := HR1.setRow (Ne.symm nb) (Nat.le_trans hs0 qn) (c3i r.num r.number.num 0).toArray
        replace HO1 := Lib.hid (HO1.out.setRow (g := pn) (Nat.le_trans hs1 qn) (c3i r.num r.number.num 0).toArray)
        try simp only [Act.put, List.setIfInBounds_toArray, List.set_cons_zero, List.set_cons_succ]
        refine rg_done (by kernel_rfl) ?_
        go_wp2_with fail
        go_meet
        case rel => exact ⟨pn, rfl, HR1, HO1.out, an, B1.keep hS (by simp; omega), B2.keep hS (by simp; omega), B3.keep hS (by simp; omega), B0.keep hS (by simp; omega), Nat.lt_of_lt_of_le B0.lt qn⟩
      · refine wp_alB (zs := c3i 0 0 0) rfl zeroVert (fun pn qn an => ?_)
        replace qn := Nat.le_trans hS.1 qn
        have nn := HR1.call ((Below.refl _ _).alloc (Nat.le_refl _) (.cells (c3i 0 0 0).toArray 38))
        have nb := nn.ne an (by simp [c3i])
        replace HR1 := nn
        clear nn
        replace HO1 := Lib.hid (HO1.out.then ((Below.refl _ _).alloc (Nat.le_refl _) (.cells (c3i 0 0 0).toArray 38)))
        refine hK _ _ (hS.alloc _) (fun hS => ?_)
        clear hK K
        try simp only [Act.put, List.setIfInBounds_toArray, List.set_cons_zero, List.set_cons_succ]
        refine rg_eff 7 rfl (by kernel_rfl) (by rfl) (fun K hK => ?_)
        go_simp
        refine (number_any HR1 ok1.wl ok1.hd.1).mono ?_
        rintro e w2 ⟨rfl, k1, k2⟩
        refine hK _ _ (hS.oth k2 (by simp)) (fun hS => ?_)
        clear hK K
        replace HR1 := k1
        replace HO1 := Lib.hid (HO1.out.trans k2)
        try replace an := an.oth k2 (by omega)
        clear k1 k2
        try simp only [Act.put, List.setIfInBounds_toArray, List.set_cons_zero, List.set_cons_succ]
        refine rg_build 8 rfl (by kernel_rfl) (by kernel_rfl) (by kernel_rfl) (by rfl) hS rfl (builtVt r.num r.number.num) (by simp [Act.eval]) ?_
        try simp only [Act.put, List.setIfInBounds_toArray, List.set_cons_zero, List.set_cons_succ]
        refine rg_eff 10 rfl (by kernel_rfl) (by rfl) (fun K hK => ?_)
        refine wp_st (vs := c3i r.num r.number.num 0) rfl rfl rfl an rfl (wholeVt _ _ _) (c3i_one _ _ _) ?_
        refine hK _ _ (hS.row (.inr qn) _) (fun hS => ?_)
        clear hK K
        replace an := an.row (c3i r.num r.number.num 0)
        replace HR1 := HR1.setRow (Ne.symm nb) (Nat.le_trans hs0 qn) (c3i r.num r.number.num 0).toArray
        replace HO1 := Lib.hid (HO1.out.setRow (g := pn) (Nat.le_trans hs1 qn) (c3i r.num r.number.num 0).toArray)
        try simp only [Act.put, List.setIfInBounds_toArray, List.set_cons_zero, List.set_cons_succ]
        refine rg_done (by kernel_rfl) ?_
        go_wp2_with fail
        go_meet
        case rel => exact ⟨pn, rfl, HR1, HO1.out, an, B1.keep hS (by simp; omega), B2.keep hS (by simp; omega), B3.keep hS (by simp; omega), B0.keep hS (by simp; omega), Nat.lt_of_lt_of_le B0.lt qn⟩
    · refine wp_alB (zs := c3i 0 0 0) rfl zeroVert (fun pn qn an => ?_)
      replace qn := Nat.le_trans hS.1 qn
      have nn := HR1.call ((Below.refl _ _).alloc (Nat.le_refl _) (.cells (c3i 0 0 0).toArray 38))
      have nb := nn.ne an (by simp [c3i])
      replace HR1 := nn
      clear nn
      replace HO1 := Lib.hid (HO1.out.then ((Below.refl _ _).alloc (Nat.le_refl _) (.cells (c3i 0 0 0).toArray 38)))
      refine hK _ _ (hS.alloc _) (fun hS => ?_)
      clear hK K
      try simp only [Act.put, List.setIfInBounds_toArray, List.set_cons_zero, List.set_cons_succ]
      refine rg_eff 3 rfl (by kernel_rfl) (by rfl) (fun K hK => ?_)
      go_simp
      refine (number_any HR1 hok.wl HP1.out.1).mono ?_
      rintro e w1 ⟨rfl, k1, k2⟩
      refine hK _ _ (hS.oth k2 (by simp)) (fun hS => ?_)
      clear hK K
      replace HR1 := k1
      replace HO1 := Lib.hid (HO1.out.trans k2)
      try replace an := an.oth k2 (by omega)
      clear k1 k2
      try simp only [Act.put, List.setIfInBounds_toArray, List.set_cons_zero, List.set_cons_succ]
      refine rg_eff 7 rfl (by kernel_rfl) (by rfl) (fun K hK => ?_)
      go_simp
      refine (number_any HR1 ok1.wl ok1.hd.1).mono ?_
      rintro e w2 ⟨rfl, k1, k2⟩
      refine hK _ _ (hS.oth k2 (by simp)) (fun hS => ?_)
      clear hK K
      replace HR1 := k1
      replace HO1 := Lib.hid (HO1.out.trans k2)
      try replace an := an.oth k2 (by omega)
      clear k1 k2
      try simp only [Act.put, List.setIfInBounds_toArray, List.set_cons_zero, List.set_cons_succ]
      refine rg_build 8 rfl (by kernel_rfl) (by kernel_rfl) (by kernel_rfl) (by rfl) hS rfl (builtVt r.num r.number.num) (by simp [Act.eval]) ?_
      try simp only [Act.put, List.setIfInBounds_toArray, List.set_cons_zero, List.set_cons_succ]
      refine rg_eff 10 rfl (by kernel_rfl) (by rfl) (fun K hK => ?_)
      refine wp_st (vs := c3i r.num r.number.num 0) rfl rfl rfl an rfl (wholeVt _ _ _) (c3i_one _ _ _) ?_
      refine hK _ _ (hS.row (.inr qn) _) (fun hS => ?_)
      clear hK K
      replace an := an.row (c3i r.num r.number.num 0)
      replace HR1 := HR1.setRow (Ne.symm nb) (Nat.le_trans hs0 qn) (c3i r.num r.number.num 0).toArray
      replace HO1 := Lib.hid (HO1.out.setRow (g := pn) (Nat.le_trans hs1 qn) (c3i r.num r.number.num 0).toArray)
      try simp only [Act.put, List.setIfInBounds_toArray, List.set_cons_zero, List.set_cons_succ]
      refine rg_done (by kernel_rfl) ?_
      go_wp2_with fail
      go_meet
      case rel => exact ⟨pn, rfl, HR1, HO1.out, an, B1.keep hS (by simp; omega), B2.keep hS (by simp; omega), B3.keep hS (by simp; omega), B0.keep hS (by simp; omega), Nat.lt_of_lt_of_le B0.lt qn⟩
  case rest =>
    clear B0 B1 B2 B3 HR0 HO0 hs0 hs1
    obtain ⟨q, rfl, k1, k2, A, B1, B2, B3, B0, hpq⟩ := hcut
    have HK2 := Lib.hid k2
    have HOK := Lib.hid ok1
    clear k2 hok ok1 hl0 HP1
    generalize hr2 : r.number.number = r2 at *
    have ok2 : Okr P r2 := hr2 ▸ HOK.out.number
    have nq := k1.ne A (by simp [c3i])
    have nq1 := B1.apart A (by simp [c3i])
    have nq3 := B3.apart A (by simp [c3i])
    try simp only [Act.put, List.setIfInBounds_toArray, List.set_cons_zero, List.set_cons_succ]
    go_wp2_with fail
    refine rg_start [b] (by kernel_rfl) (fun hS => ?_)
    have HR1 := k1.call ((Below.refl _ _).drew)
    replace HK2 := Lib.hid (HK2.out.then ((Below.refl _ _).drew))
    clear k1
    refine rg_take 0 rfl (by kernel_rfl) (by kernel_rfl) (by kernel_rfl) (by rfl) hS (v := ?_) ?_ ?_
    rotate_left
    · (intro w' hS'; have hc := (B1.keep hS' (by simp <;> omega)).cell (i := 0) (v := (.pointer (some ⟨b, 0, none⟩))) rfl; go_simp <;> try with_reducible rfl)
    try simp only [Act.put, List.setIfInBounds_toArray, List.set_cons_zero, List.set_cons_succ]
    refine rg_take 1 rfl (by kernel_rfl) (by kernel_rfl) (by kernel_rfl) (by rfl) hS (v := ?_) ?_ ?_
    rotate_left
    · (intro w' hS'; go_simp <;> try with_reducible rfl)
    try simp only [Act.put, List.setIfInBounds_toArray, List.set_cons_zero, List.set_cons_succ]
    refine rg_take 2 rfl (by kernel_rfl) (by kernel_rfl) (by kernel_rfl) (by rfl) hS (v := ?_) ?_ ?_
    rotate_left
    · (intro w' hS'; go_simp <;> try with_reducible rfl)
    try simp only [Act.put, List.setIfInBounds_toArray, List.set_cons_zero, List.set_cons_succ]
    refine rg_take 3 rfl (by kernel_rfl) (by kernel_rfl) (by kernel_rfl) (by rfl) hS (v := ?_) ?_ ?_
    rotate_left
    · (intro w' hS'; have hc := (B2.keep hS' (by simp <;> omega)).cell (i := 0) (v := (.int .i64 (at_ : Int))) rfl; go_simp <;> try with_reducible rfl)
    try simp only [Act.put, List.setIfInBounds_toArray, List.set_cons_zero, List.set_cons_succ]
    refine rg_eff 4 rfl (by kernel_rfl) (by rfl) (fun K hK => ?_)
    go_simp
    refine (skip_any at_ hat HR1 ok2.wl).mono ?_
    rintro e w1 ⟨rfl, k1, k2⟩
    refine hK _ _ (hS.oth k2 (by simp)) (fun hS => ?_)
    clear hK K
    replace HR1 := k1
    replace HK2 := Lib.hid (HK2.out.trans k2)
    clear k1 k2
    try simp only [Act.put, List.setIfInBounds_toArray, List.set_cons_zero, List.set_cons_succ]
    refine rg_done (by kernel_rfl) ?_
    replace A := A.keep hS (by simp; omega)
    replace B0 := B0.keep hS (by simp; omega)
    replace B1 := B1.keep hS (by simp; omega)
    replace B3 := B3.keep hS (by simp; omega)
    have ok3 := ok2.skip at_
    clear B2 hS
    go_wp2_with fail
    refine rg_start [b, q] (by kernel_rfl) (fun hS => ?_)
    have HR2 := HR1.call ((Below.refl _ _).drew)
    replace HK2 := Lib.hid (HK2.out.then ((Below.refl _ _).drew))
    clear HR1
    replace A := A.drew
    replace B0 := B0.drew
    refine rg_take 0 rfl (by kernel_rfl) (by kernel_rfl) (by kernel_rfl) (by rfl) hS (v := ?_) ?_ ?_
    rotate_left
    · (intro w' hS'; have hc := (B1.keep hS' (by simp <;> omega)).cell (i := 0) (v := (.pointer (some ⟨b, 0, none⟩))) rfl; go_simp <;> try with_reducible rfl)
    try simp only [Act.put, List.setIfInBounds_toArray, List.set_cons_zero, List.set_cons_succ]
    refine rg_take 1 rfl (by kernel_rfl) (by kernel_rfl) (by kernel_rfl) (by rfl) hS (v := ?_) ?_ ?_
    rotate_left
    · (intro w' hS'; go_simp <;> try with_reducible rfl)
    try simp only [Act.put, List.setIfInBounds_toArray, List.set_cons_zero, List.set_cons_succ]
    refine rg_take 2 rfl (by kernel_rfl) (by kernel_rfl) (by kernel_rfl) (by rfl) hS (v := ?_) ?_ ?_
    rotate_left
    · (intro w' hS'; go_simp <;> try with_reducible rfl)
    try simp only [Act.put, List.setIfInBounds_toArray, List.set_cons_zero, List.set_cons_succ]
    refine rg_take 3 rfl (by kernel_rfl) (by kernel_rfl) (by kernel_rfl) (by rfl) hS (v := ?_) ?_ ?_
    rotate_left
    · (intro w' hS'; have hc := (B3.keep hS' (by simp <;> omega)).cell (i := 0) (v := (.int .i64 m)) rfl; go_simp <;> try with_reducible rfl)
    try simp only [Act.put, List.setIfInBounds_toArray, List.set_cons_zero, List.set_cons_succ]
    refine rg_eff 4 rfl (by kernel_rfl) (by rfl) (fun K hK => ?_)
    go_simp
    refine (mark_any HR2 ok3.wl ok3.hd.1 m).mono ?_
    rintro e w2 ⟨rfl, k1, k2⟩
    refine hK _ _ (hS.oth k2 (by simp)) (fun hS => ?_)
    clear hK K
    replace HR2 := k1
    replace A := A.oth k2 (by omega)
    replace B0 := B0.oth k2 (by omega)
    replace HK2 := Lib.hid (HK2.out.trans k2)
    clear k1 k2
    try simp only [Act.put, List.setIfInBounds_toArray, List.set_cons_zero, List.set_cons_succ]
    refine rg_take 5 rfl (by kernel_rfl) (by kernel_rfl) (by kernel_rfl) (by rfl) hS (v := ?_) ?_ ?_
    rotate_left
    · (intro w' hS'; go_simp <;> try with_reducible rfl)
    try simp only [Act.put, List.setIfInBounds_toArray, List.set_cons_zero, List.set_cons_succ]
    refine rg_eff 6 rfl (by kernel_rfl) (by rfl) (fun K hK => ?_)
    have cc := A.cell (i := 2) rfl
    have cf := A.frozen 2
    unfold Oper.wp execOp
    go_simp
    refine hK _ _ (hS.cell (.inl (by simp)) _ _) (fun hS => ?_)
    clear hK K cc cf
    replace HR2 := HR2.cellOther (Ne.symm nq) (Nat.le_trans HS0.out (Nat.le_of_lt hpq)) 2 (.int .i64 ((Rd.skip at_ r2).markN m))
    replace B0 := B0.setOther (g := q) 2 (.int .i64 ((Rd.skip at_ r2).markN m)) (by omega)
    replace A := A.set 2 (.int .i64 ((Rd.skip at_ r2).markN m))
    replace HK2 := Lib.hid (HK2.out.cellNew (by rw [HP0.out]; exact Nat.le_of_lt hpq) 2 (.int .i64 ((Rd.skip at_ r2).markN m)))
    try simp only [Act.put, List.setIfInBounds_toArray, List.set_cons_zero, List.set_cons_succ]
    refine rg_done (by kernel_rfl) ?_
    clear hS B1 B3
    try simp only [Act.put, List.setIfInBounds_toArray, List.set_cons_zero, List.set_cons_succ]
    go_wp2_with (first | (with_reducible refine ld_blk (cs := c3i r.num r.number.num ((Rd.skip at_ r2).markN m)) rfl rfl rfl A _ Tryz.underlying38 rfl (by kernel_rfl) ?_) | (with_reducible refine st_blk (vs := c3i r.num r.number.num ((Rd.skip at_ r2).markN m)) rfl rfl rfl rfl B0 rfl (by kernel_rfl) (c3i_one _ _ _) ?_))
    have HR3 := HR2.setRow (Ne.symm n0) HS0.out (c3i r.num r.number.num ((Rd.skip at_ r2).markN m)).toArray
    have e1 : vSt at_ m r = (Rd.skip at_ r2).mark m := by rw [← hr2]; rfl
    have e2 : vVal at_ m r = (r.num, r.number.num, (Rd.skip at_ r2).markN m) := by rw [← hr2]; rfl
    rw [← e1] at HR3
    exact ret_c (cs := c3i r.num r.number.num ((Rd.skip at_ r2).markN m)) rfl rfl rfl (wholeVt _ _ _) (B0.row _) ⟨by rw [e2], HR3, HK2.out.setRow (by rw [HP0.out]; exact Nat.le_refl _) _⟩
end Go.Proofs.YtpalfmgloddhcaaGreatDoor
