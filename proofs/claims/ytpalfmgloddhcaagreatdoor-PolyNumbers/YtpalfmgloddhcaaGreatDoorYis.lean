/- A segment of a list is read. -/
import Derived.Test.YtpalfmgloddhcaaGreatDoorYiv
namespace Go.Proofs.YtpalfmgloddhcaaGreatDoor
set_option linter.unusedSimpArgs false
set_option linter.unusedVariables false
open Go.RowKit
set_option maxRecDepth 100000
theorem wholeSeg (x y z : Int) : Whole Tryz.prog 41 (c3i x y z).length := ⟨_, Tryz.underlying41, rfl, by kernel_rfl⟩
theorem builtSeg (x y z : Int) : Tryz.prog.built 41 [(0, .int .i64 x), (1, .int .i64 y), (2, .int .i64 z)] = some (c3i x y z).toArray := by kernel_rfl
theorem zeroSeg : (Tryz.prog.info? 41).map (·.zero) = some (some (.agg (c3i 0 0 0).toArray)) := by kernel_rfl
theorem op_sub {o : Oper} {a : Act} {x y : Operand} {p q : Int} {ty : TypeId} (h : -9223372036854775808 ≤ p - q ∧ p - q ≤ 9223372036854775807) (ho : o.op = .binOp .sub 3 x y ty) (hx : a.eval x = .int .i64 p) (hy : a.eval y = .int .i64 q) (w : World) :
    (execOp a.eval o).run Tryz.prog w = .ok (.value (.int .i64 (p - q))) w := by
  have hw : IntKind.i64.wrap (p - q) = p - q := by rw [IntKind.wrap_i64]; omega
  unfold execOp
  simp only [ho, hx, hy]
  go_simp
set_option maxHeartbeats 8000000 in
theorem sItem {P : List UInt8 → Prop} {w0 : World} {b g1 g2 g3 g4 : Nat} {r : Rd} {w : World} (lo hi m : Int) (h : Rdr w0 b r w) (hok : Okr P r) (hlo : -4000000000 ≤ lo ∧ lo ≤ 4000000000)
    (B1 : Blk w g1 [.pointer (some ⟨b, 0, none⟩)] 62) (B2 : Blk w g2 [.int .i64 lo] 3) (B3 : Blk w g3 [.int .i64 hi] 3) (B4 : Blk w g4 [.int .i64 m] 3) :
    Calls Tryz.prog 71 #[.pointer (some ⟨g1, 0, none⟩), .pointer (some ⟨g2, 0, none⟩), .pointer (some ⟨g3, 0, none⟩), .pointer (some ⟨g4, 0, none⟩)] w fun e w' =>
      e = .returned (.agg (c3i (sVal lo hi m r).1 (sVal lo hi m r).2.1 (sVal lo hi m r).2.2).toArray) ∧ Rdr w0 b (sSt lo hi m r) w' ∧ Oth b w w' := by
  have n1 := h.ne B1 (by simp)
  have n2 := h.ne B2 (by simp)
  have n3 := h.ne B3 (by simp)
  have n4 := h.ne B4 (by simp)
  have HO := Lib.hid (Oth.refl b w)
  have HR := Lib.hid h
  have hsw := h.1.size
  clear h
  go_enter Tryz.func71, Tryz.ntmps71
  have B0 := Blk.new w (c3i 0 0 0) 41 rfl
  have HR0 := Lib.hid (HR.out.call ((Below.refl _ _).alloc (Nat.le_refl _) (.cells (c3i 0 0 0).toArray 41)))
  have n0 := HR0.out.ne B0 (by simp [c3i])
  replace B1 := B1.old (.cells (c3i 0 0 0).toArray 41)
  replace B2 := B2.old (.cells (c3i 0 0 0).toArray 41)
  replace B3 := B3.old (.cells (c3i 0 0 0).toArray 41)
  replace B4 := B4.old (.cells (c3i 0 0 0).toArray 41)
  have m1 := B1.apart B0 (by simp [c3i])
  have m2 := B2.apart B0 (by simp [c3i])
  have m3 := B3.apart B0 (by simp [c3i])
  have m4 := B4.apart B0 (by simp [c3i])
  have HO0 := Lib.hid (HO.out.then ((Below.refl _ _).alloc (Nat.le_refl _) (.cells (c3i 0 0 0).toArray 41)))
  clear HR HO
  go_wp2_with (first | (with_reducible refine al_blk rfl rfl zeroSeg ?_))
  generalize w.alloc (.cells (c3i 0 0 0).toArray 41) = W at *
  obtain ⟨p0, HP0, HS0⟩ : ∃ p, Hid (w.heap.size = p) ∧ Hid (w0.heap.size ≤ p) := ⟨_, rfl, hsw⟩
  have hp0 := HP0.out
  rw [hp0] at B0 n0 m1 m2 m3 m4 ⊢
  clear hp0 hsw
  have ok1 := hok.among lo hi
  have ok2 := ok1.among lo hi
  have i1 := intN_in r.hd
  have i2 := intN_in (r.among lo hi).hd
  try simp only [Act.put, List.setIfInBounds_toArray, List.set_cons_zero, List.set_cons_succ]
  refine rg_start [b, p0] (by kernel_rfl) (fun hS => ?_)
  have HR1 := HR0.out.call ((Below.refl _ _).drew)
  have HO1 := Lib.hid (HO0.out.then ((Below.refl _ _).drew))
  replace B0 := B0.drew
  refine rg_take 0 rfl (by kernel_rfl) (by kernel_rfl) (by kernel_rfl) (by rfl) hS (v := ?_) ?_ ?_
  rotate_left
  · (intro w' hS'; have hc := (B1.keep hS' (by simp <;> omega)).cell (i := 0) (v := (.pointer (some ⟨b, 0, none⟩))) rfl; go_simp <;> try with_reducible rfl)
  try simp only [Act.put, List.setIfInBounds_toArray, List.set_cons_zero, List.set_cons_succ]
  refine rg_take 1 rfl (by kernel_rfl) (by kernel_rfl) (by kernel_rfl) (by rfl) hS (v := ?_) ?_ ?_
  rotate_left
  · (intro w' hS'; go_simp <;> try with_reducible rfl)
  try simp only [Act.put, List.setIfInBounds_toArray, List.set_cons_zero, List.set_cons_succ]
  refine rg_take 2 rfl (by kernel_rfl) (by kernel_rfl) (by kernel_rfl) (by rfl) hS (v := ?_) ?_ ?_
  rotate_left
  · (intro w' hS'; go_simp <;> try with_reducible rfl)
  try simp only [Act.put, List.setIfInBounds_toArray, List.set_cons_zero, List.set_cons_succ]
  refine rg_take 3 rfl (by kernel_rfl) (by kernel_rfl) (by kernel_rfl) (by rfl) hS (v := ?_) ?_ ?_
  rotate_left
  · (intro w' hS'; have hc := (B2.keep hS' (by simp <;> omega)).cell (i := 0) (v := (.int .i64 lo)) rfl; go_simp <;> try with_reducible rfl)
  try simp only [Act.put, List.setIfInBounds_toArray, List.set_cons_zero, List.set_cons_succ]
  refine rg_take 4 rfl (by kernel_rfl) (by kernel_rfl) (by kernel_rfl) (by rfl) hS (v := ?_) ?_ ?_
  rotate_left
  · (intro w' hS'; have hc := (B3.keep hS' (by simp <;> omega)).cell (i := 0) (v := (.int .i64 hi)) rfl; go_simp <;> try with_reducible rfl)
  try simp only [Act.put, List.setIfInBounds_toArray, List.set_cons_zero, List.set_cons_succ]
  refine rg_take 6 rfl (by kernel_rfl) (by kernel_rfl) (by kernel_rfl) (by rfl) hS (v := ?_) ?_ ?_
  rotate_left
  · (intro w' hS'; have hc := (B2.keep hS' (by simp <;> omega)).cell (i := 0) (v := (.int .i64 lo)) rfl; go_simp <;> try with_reducible rfl)
  try simp only [Act.put, List.setIfInBounds_toArray, List.set_cons_zero, List.set_cons_succ]
  refine rg_take 8 rfl (by kernel_rfl) (by kernel_rfl) (by kernel_rfl) (by rfl) hS (v := ?_) ?_ ?_
  rotate_left
  · (intro w' hS'; have hc := (B1.keep hS' (by simp <;> omega)).cell (i := 0) (v := (.pointer (some ⟨b, 0, none⟩))) rfl; go_simp <;> try with_reducible rfl)
  try simp only [Act.put, List.setIfInBounds_toArray, List.set_cons_zero, List.set_cons_succ]
  refine rg_take 9 rfl (by kernel_rfl) (by kernel_rfl) (by kernel_rfl) (by rfl) hS (v := ?_) ?_ ?_
  rotate_left
  · (intro w' hS'; go_simp <;> try with_reducible rfl)
  try simp only [Act.put, List.setIfInBounds_toArray, List.set_cons_zero, List.set_cons_succ]
  refine rg_take 10 rfl (by kernel_rfl) (by kernel_rfl) (by kernel_rfl) (by rfl) hS (v := ?_) ?_ ?_
  rotate_left
  · (intro w' hS'; go_simp <;> try with_reducible rfl)
  try simp only [Act.put, List.setIfInBounds_toArray, List.set_cons_zero, List.set_cons_succ]
  refine rg_take 11 rfl (by kernel_rfl) (by kernel_rfl) (by kernel_rfl) (by rfl) hS (v := ?_) ?_ ?_
  rotate_left
  · (intro w' hS'; have hc := (B2.keep hS' (by simp <;> omega)).cell (i := 0) (v := (.int .i64 lo)) rfl; go_simp <;> try with_reducible rfl)
  try simp only [Act.put, List.setIfInBounds_toArray, List.set_cons_zero, List.set_cons_succ]
  refine rg_take 12 rfl (by kernel_rfl) (by kernel_rfl) (by kernel_rfl) (by rfl) hS (v := ?_) ?_ ?_
  rotate_left
  · (intro w' hS'; have hc := (B3.keep hS' (by simp <;> omega)).cell (i := 0) (v := (.int .i64 hi)) rfl; go_simp <;> try with_reducible rfl)
  try simp only [Act.put, List.setIfInBounds_toArray, List.set_cons_zero, List.set_cons_succ]
  refine rg_take 14 rfl (by kernel_rfl) (by kernel_rfl) (by kernel_rfl) (by rfl) hS (v := ?_) ?_ ?_
  rotate_left
  · (intro w' hS'; have hc := (B2.keep hS' (by simp <;> omega)).cell (i := 0) (v := (.int .i64 lo)) rfl; go_simp <;> try with_reducible rfl)
  try simp only [Act.put, List.setIfInBounds_toArray, List.set_cons_zero, List.set_cons_succ]
  refine rg_take 16 rfl (by kernel_rfl) (by kernel_rfl) (by kernel_rfl) (by rfl) hS (v := ?_) ?_ ?_
  rotate_left
  · (intro w' hS'; have hc := (B1.keep hS' (by simp <;> omega)).cell (i := 0) (v := (.pointer (some ⟨b, 0, none⟩))) rfl; go_simp <;> try with_reducible rfl)
  try simp only [Act.put, List.setIfInBounds_toArray, List.set_cons_zero, List.set_cons_succ]
  refine rg_take 17 rfl (by kernel_rfl) (by kernel_rfl) (by kernel_rfl) (by rfl) hS (v := ?_) ?_ ?_
  rotate_left
  · (intro w' hS'; go_simp <;> try with_reducible rfl)
  try simp only [Act.put, List.setIfInBounds_toArray, List.set_cons_zero, List.set_cons_succ]
  refine rg_take 18 rfl (by kernel_rfl) (by kernel_rfl) (by kernel_rfl) (by rfl) hS (v := ?_) ?_ ?_
  rotate_left
  · (intro w' hS'; go_simp <;> try with_reducible rfl)
  try simp only [Act.put, List.setIfInBounds_toArray, List.set_cons_zero, List.set_cons_succ]
  refine rg_take 19 rfl (by kernel_rfl) (by kernel_rfl) (by kernel_rfl) (by rfl) hS (v := ?_) ?_ ?_
  rotate_left
  · (intro w' hS'; have hc := (B4.keep hS' (by simp <;> omega)).cell (i := 0) (v := (.int .i64 m)) rfl; go_simp <;> try with_reducible rfl)
  try simp only [Act.put, List.setIfInBounds_toArray, List.set_cons_zero, List.set_cons_succ]
  refine rg_eff 5 rfl (by kernel_rfl) (by rfl) (fun K hK => ?_)
  go_simp
  refine (among_any HR1 hok.wl hok.hd.1 lo hi).mono ?_
  rintro e w1 ⟨rfl, k1, k2⟩
  refine hK _ _ (hS.oth k2 (by simp)) (fun hS => ?_)
  clear hK K
  replace HR1 := k1
  replace B0 := B0.oth k2 (by omega)
  replace HO1 := Lib.hid (HO1.out.trans k2)
  clear k1 k2
  try simp only [Act.put, List.setIfInBounds_toArray, List.set_cons_zero, List.set_cons_succ]
  refine rg_take 7 rfl (by kernel_rfl) (by kernel_rfl) (by kernel_rfl) (by rfl) hS (v := .int .i64 (r.num - lo)) (fun w' _ => op_sub (by have := i1; have : r.num = intN r.hd := rfl; omega) rfl rfl rfl w') ?_
  try simp only [Act.put, List.setIfInBounds_toArray, List.set_cons_zero, List.set_cons_succ]
  refine rg_eff 13 rfl (by kernel_rfl) (by rfl) (fun K hK => ?_)
  go_simp
  refine (among_any HR1 ok1.wl ok1.hd.1 lo hi).mono ?_
  rintro e w2 ⟨rfl, k1, k2⟩
  refine hK _ _ (hS.oth k2 (by simp)) (fun hS => ?_)
  clear hK K
  replace HR1 := k1
  replace B0 := B0.oth k2 (by omega)
  replace HO1 := Lib.hid (HO1.out.trans k2)
  clear k1 k2
  try simp only [Act.put, List.setIfInBounds_toArray, List.set_cons_zero, List.set_cons_succ]
  refine rg_take 15 rfl (by kernel_rfl) (by kernel_rfl) (by kernel_rfl) (by rfl) hS (v := .int .i64 ((r.among lo hi).num - lo)) (fun w' _ => op_sub (by have := i2; have : (r.among lo hi).num = intN (r.among lo hi).hd := rfl; omega) rfl rfl rfl w') ?_
  try simp only [Act.put, List.setIfInBounds_toArray, List.set_cons_zero, List.set_cons_succ]
  refine rg_eff 20 rfl (by kernel_rfl) (by rfl) (fun K hK => ?_)
  go_simp
  refine (mark_any HR1 ok2.wl ok2.hd.1 m).mono ?_
  rintro e w3 ⟨rfl, k1, k2⟩
  refine hK _ _ (hS.oth k2 (by simp)) (fun hS => ?_)
  clear hK K
  replace HR1 := k1
  replace B0 := B0.oth k2 (by omega)
  replace HO1 := Lib.hid (HO1.out.trans k2)
  clear k1 k2
  try simp only [Act.put, List.setIfInBounds_toArray, List.set_cons_zero, List.set_cons_succ]
  refine rg_build 21 rfl (by kernel_rfl) (by kernel_rfl) (by kernel_rfl) (by rfl) hS rfl (builtSeg (r.num - lo) ((r.among lo hi).num - lo) (((r.among lo hi).among lo hi).markN m)) (by simp [Act.eval]) ?_
  try simp only [Act.put, List.setIfInBounds_toArray, List.set_cons_zero, List.set_cons_succ]
  refine rg_eff 22 rfl (by kernel_rfl) (by rfl) (fun K hK => ?_)
  refine wp_st (vs := c3i (r.num - lo) ((r.among lo hi).num - lo) (((r.among lo hi).among lo hi).markN m)) rfl rfl rfl B0 rfl (wholeSeg _ _ _) (c3i_one _ _ _) ?_
  refine hK _ _ (hS.row (.inl (by simp)) _) (fun hS => ?_)
  clear hK K
  try simp only [Act.put, List.setIfInBounds_toArray, List.set_cons_zero, List.set_cons_succ]
  refine rg_done (by kernel_rfl) ?_
  go_wp2
  have HR3 := HR1.setRow (Ne.symm n0) HS0.out (c3i (r.num - lo) ((r.among lo hi).num - lo) (((r.among lo hi).among lo hi).markN m)).toArray
  exact ret_c (cs := c3i (r.num - lo) ((r.among lo hi).num - lo) (((r.among lo hi).among lo hi).markN m)) rfl rfl rfl (wholeSeg _ _ _) (B0.row _) ⟨rfl, HR3, HO1.out.setRow (by rw [HP0.out]; exact Nat.le_refl _) _⟩
end Go.Proofs.YtpalfmgloddhcaaGreatDoor
