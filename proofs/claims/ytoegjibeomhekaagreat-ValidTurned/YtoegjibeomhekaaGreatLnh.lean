/- Package line over the rational numbers: how two segments meet. -/
import Derived.Test.YtoegjibeomhekaaGreatLng
import Derived.Test.YtoegjibeomhekaaGreatLnd
namespace Go.Proofs.YtoegjibeomhekaaGreat
set_option linter.unusedSimpArgs false
set_option linter.unusedVariables false
open Go.RowKit
set_option maxRecDepth 100000
/-- The ends of one that lie on the other; whether a point is an end; whether they part each other's ends; what they have in common. -/
def fl (b : Bool) (p : Rat × Rat) : List (Rat × Rat) := if b then [p] else []
def ls (ax ay ex ey cx cy dx dy : Rat) : List (Rat × Rat) := fl (onq ax ay ex ey cx cy) (cx, cy) ++ fl (onq ax ay ex ey dx dy) (dx, dy)
def enq (ax ay ex ey : Rat) (p : Rat × Rat) : Bool := decide (p.1 = ax ∧ p.2 = ay) || decide (p.1 = ex ∧ p.2 = ey)
def spq (ax ay ex ey cx cy dx dy : Rat) : Bool := decide (sd ax ay ex ey cx cy * sd ax ay ex ey dx dy < 0)
def xq (ax ay ex ey cx cy dx dy : Rat) : Bool := (oq ax ex cx dx && oq ay ey cy dy) && (spq ax ay ex ey cx cy dx dy && spq cx cy dx dy ax ay ex ey)
def lq (ax ay ex ey cx cy dx dy : Rat) : List (Rat × Rat) := ls ax ay ex ey cx cy dx dy ++ ls cx cy dx dy ax ay ex ey
def okq (ax ay ex ey cx cy dx dy : Rat) : Prop := ∀ q ∈ lq ax ay ex ey cx cy dx dy, q = (lq ax ay ex ey cx cy dx dy).headD (0, 0) ∧ enq ax ay ex ey q = true ∧ enq cx cy dx dy q = true
instance (ax ay ex ey cx cy dx dy : Rat) : Decidable (okq ax ay ex ey cx cy dx dy) := inferInstanceAs (Decidable (∀ q ∈ lq ax ay ex ey cx cy dx dy, q = (lq ax ay ex ey cx cy dx dy).headD (0, 0) ∧ enq ax ay ex ey q = true ∧ enq cx cy dx dy q = true))
def mq (ax ay ex ey cx cy dx dy : Rat) : Int := if lq ax ay ex ey cx cy dx dy = [] then (if xq ax ay ex ey cx cy dx dy then 2 else 0) else if okq ax ay ex ey cx cy dx dy then 1 else 2
theorem ls_len (ax ay ex ey cx cy dx dy : Rat) : (ls ax ay ex ey cx cy dx dy).length ≤ 10 := by
  unfold ls fl
  split <;> split <;> simp
theorem ls_mem {ax ay ex ey cx cy dx dy : Rat} {p : Rat × Rat} (h : p ∈ ls ax ay ex ey cx cy dx dy) : (p = (cx, cy) ∧ onq ax ay ex ey cx cy = true) ∨ (p = (dx, dy) ∧ onq ax ay ex ey dx dy = true) := by
  unfold ls fl at h
  rcases List.mem_append.1 h with h | h
  · split at h
    · rename_i e; exact .inl ⟨by simpa using h, e⟩
    · simp at h
  · split at h
    · rename_i e; exact .inr ⟨by simpa using h, e⟩
    · simp at h
theorem pk_fl (r s : Bool) (px py qx qy : Rat) : pk (fun k => if k = 0 then r else s) (fun k => (if k = 0 then fq px else fq qx) ++ (if k = 0 then fq py else fq qy)) 2 = (fl r (px, py) ++ fl s (qx, qy)).map cp2 := by
  cases r <;> cases s <;> rfl
section
variable {ax ay ex ey cx cy dx dy : Rat} (g1 : Gd ax ay) (g2 : Gd ex ey) (g3 : Gd cx cy) (g4 : Gd dx dy)
include g1 g2 g3 g4
theorem splits_q : Tl 95 #[vg ax ay ex ey, vg cx cy dx dy] (.bool (spq ax ay ex ey cx cy dx dy)) :=
  splits_walk (rc_q _) (rc_q _) (rc_q _) (rc_q _) (rc_q _) (rc_q _) (rc_q _) (rc_q _) (side_q g1 g2 g3) (side_q g1 g2 g4) rfl (by unfold sd; exact cq2 _ _ _ _) rfl
theorem reaches_q : Tl 94 #[vl (bx (fq ax) (fq ay) (fq ex) (fq ey)), vl (bx (fq cx) (fq cy) (fq dx) (fq dy))] (.bool (oq ax ex cx dx && oq ay ey cy dy)) := by
  have T1 := overlaps_q g1.1 g2.1 g3.1 g4.1
  have T2 := overlaps_q g1.2 g2.2 g3.2 g4.2
  cases h : oq ax ex cx dx
  · rw [h] at T1
    exact reaches_a (rc_q _) (rc_q _) (rc_q _) (rc_q _) (rc_q _) (rc_q _) (rc_q _) (rc_q _) T1 T2
  · rw [h] at T1
    exact reaches_b (rc_q _) (rc_q _) (rc_q _) (rc_q _) (rc_q _) (rc_q _) (rc_q _) (rc_q _) T1 T2
theorem crosses_q : Tl 83 #[vg ax ay ex ey, vg cx cy dx dy] (.bool (xq ax ay ex ey cx cy dx dy)) := by
  have T1 := reaches_q g1 g2 g3 g4
  have T2 := splits_q g1 g2 g3 g4
  have T3 := splits_q g3 g4 g1 g2
  unfold xq
  cases h : (oq ax ex cx dx && oq ay ey cy dy)
  · rw [h] at T1
    exact crosses_a (rc_q _) (rc_q _) (rc_q _) (rc_q _) (rc_q _) (rc_q _) (rc_q _) (rc_q _) T1 T2 T3
  · rw [h] at T1
    cases h' : spq ax ay ex ey cx cy dx dy
    · rw [h'] at T2
      exact crosses_b (rc_q _) (rc_q _) (rc_q _) (rc_q _) (rc_q _) (rc_q _) (rc_q _) (rc_q _) T1 T2 T3
    · rw [h'] at T2
      exact crosses_c (rc_q _) (rc_q _) (rc_q _) (rc_q _) (rc_q _) (rc_q _) (rc_q _) (rc_q _) T1 T2 T3
theorem past_q : Tl 71 #[vg ax ay ex ey, vg cx cy dx dy] (.int .i64 (if xq ax ay ex ey cx cy dx dy then 2 else 0)) :=
  past_walk (rc_q _) (rc_q _) (rc_q _) (rc_q _) (rc_q _) (rc_q _) (rc_q _) (rc_q _) (crosses_q g1 g2 g3 g4)
theorem shared_q (w : World) : Calls Tryz.prog 70 #[vl (sgm (fq ax) (fq ay) (fq ex) (fq ey)), vl (sgm (fq cx) (fq cy) (fq dx) (fq dy))] w fun e w' => ∃ v, e = .returned v ∧ w'.ownsRow w.heap.size 47 132 v (ls ax ay ex ey cx cy dx dy).length (jn ((ls ax ay ex ey cx cy dx dy).map cp2)) ∧ Below w.heap.size w w' := by
  have := shared_walk (rc_q ax) (rc_q ay) (rc_q ex) (rc_q ey) (rc_q cx) (rc_q cy) (rc_q dx) (rc_q dy) (has_q g1 g2 g3) (has_q g1 g2 g4) w
  rw [pk_fl, List.length_map] at this
  exact this
theorem meet_q : Tl 56 #[vg ax ay ex ey, vg cx cy dx dy] (.int .i64 (mq ax ay ex ey cx cy dx dy)) := by
  refine meet_walk (L1 := ls ax ay ex ey cx cy dx dy) (L2 := ls cx cy dx dy ax ay ex ey) (n := (lq ax ay ex ey cx cy dx dy).length) (x0 := ((lq ax ay ex ey cx cy dx dy).headD (0, 0)).1) (y0 := ((lq ax ay ex ey cx cy dx dy).headD (0, 0)).2) (e1 := enq ax ay ex ey) (e2 := enq cx cy dx dy)
    (rc_q _) (rc_q _) (rc_q _) (rc_q _) (rc_q _) (rc_q _) (rc_q _) (rc_q _) (ls_len _ _ _ _ _ _ _ _) (ls_len _ _ _ _ _ _ _ _) (by unfold lq; rw [List.length_append]) (shared_q g1 g2 g3 g4) (shared_q g3 g4 g1 g2) (past_q g1 g2 g3 g4) (fun hn => ?_) (fun p hp => ?_) ?_
  · show (lq ax ay ex ey cx cy dx dy)[0]? = some ((lq ax ay ex ey cx cy dx dy).headD (0, 0))
    cases h : lq ax ay ex ey cx cy dx dy with
    | nil => rw [h] at hn; exact absurd rfl hn
    | cons p l => rfl
  · rcases List.mem_append.1 hp with h | h
    · rcases ls_mem h with ⟨rfl, _⟩ | ⟨rfl, _⟩
      · exact ⟨g3, ends_q g1 g2 g3, ends_q g3 g4 g3⟩
      · exact ⟨g4, ends_q g1 g2 g4, ends_q g3 g4 g4⟩
    · rcases ls_mem h with ⟨rfl, _⟩ | ⟨rfl, _⟩
      · exact ⟨g1, ends_q g1 g2 g1, ends_q g3 g4 g1⟩
      · exact ⟨g2, ends_q g1 g2 g2, ends_q g3 g4 g2⟩
  · by_cases h : lq ax ay ex ey cx cy dx dy = []
    · exact .inl ⟨by rw [h]; rfl, by unfold mq; rw [if_pos h]⟩
    · have hn : (lq ax ay ex ey cx cy dx dy).length ≠ 0 := fun e => h (List.length_eq_zero_iff.1 e)
      by_cases h2 : okq ax ay ex ey cx cy dx dy
      · exact .inr (.inl ⟨hn, by unfold mq; rw [if_neg h, if_pos h2], h2⟩)
      · refine .inr (.inr ⟨hn, by unfold mq; rw [if_neg h, if_neg h2], ?_⟩)
        exact Classical.byContradiction fun hc => h2 fun q hq => Classical.byContradiction fun hc' => hc ⟨q, hq, hc'⟩
end
set_option maxHeartbeats 2000000 in
theorem Meet_q {ax ay ex ey cx cy dx dy : Rat} (g1 : Gd ax ay) (g2 : Gd ex ey) (g3 : Gd cx cy) (g4 : Gd dx dy) : Tl 46 #[vp ax ay, vp ex ey, vp cx cy, vp dx dy] (.tuple #[.int .i64 (mq ax ay ex ey cx cy dx dy), .bool true]) := by
  intro w
  have HT := Lib.hid (Isp_q g1)
  have HT1 := Lib.hid (Isp_q g2)
  have HT2 := Lib.hid (Isp_q g3)
  have HT3 := Lib.hid (Isp_q g4)
  have HB := Lib.hid (between_l ax ay ex ey)
  have HC := Lib.hid (between_l cx cy dx dy)
  have HH := Lib.hid (meet_q g1 g2 g3 g4)
  unfold vp vl at *
  unfold vg vl at HB HC HH
  unfold Tl at HB HC HH
  clear g1 g2 g3 g4
  generalize mq ax ay ex ey cx cy dx dy = r at *
  have b4 := ((((Blk.new w (fq ax ++ fq ay) 47 rfl).old (.cells (fq ex ++ fq ey).toArray 47)).old (.cells (fq cx ++ fq cy).toArray 47)).old (.cells (fq dx ++ fq dy).toArray 47))
  have b5 := (((Blk.new (w.alloc (.cells (fq ax ++ fq ay).toArray 47)) (fq ex ++ fq ey) 47 (b := w.heap.size + 1) (by simp)).old (.cells (fq cx ++ fq cy).toArray 47)).old (.cells (fq dx ++ fq dy).toArray 47))
  have b6 := ((Blk.new ((w.alloc (.cells (fq ax ++ fq ay).toArray 47)).alloc (.cells (fq ex ++ fq ey).toArray 47)) (fq cx ++ fq cy) 47 (b := w.heap.size + 1 + 1) (by simp)).old (.cells (fq dx ++ fq dy).toArray 47))
  have b7 := (Blk.new (((w.alloc (.cells (fq ax ++ fq ay).toArray 47)).alloc (.cells (fq ex ++ fq ey).toArray 47)).alloc (.cells (fq cx ++ fq cy).toArray 47)) (fq dx ++ fq dy) 47 (b := w.heap.size + 1 + 1 + 1) (by simp))
  have hb : Below w.heap.size w ((((w.alloc (.cells (fq ax ++ fq ay).toArray 47)).alloc (.cells (fq ex ++ fq ey).toArray 47)).alloc (.cells (fq cx ++ fq cy).toArray 47)).alloc (.cells (fq dx ++ fq dy).toArray 47)) := (((((Below.refl _ _).alloc (Nat.le_refl _) _).alloc (by simp <;> omega) _).alloc (by simp <;> omega) _).alloc (by simp <;> omega) _)
  have hk : ((((w.alloc (.cells (fq ax ++ fq ay).toArray 47)).alloc (.cells (fq ex ++ fq ey).toArray 47)).alloc (.cells (fq cx ++ fq cy).toArray 47)).alloc (.cells (fq dx ++ fq dy).toArray 47)).heap.size = w.heap.size + 1 + 1 + 1 + 1 := by simp
  go_enter Tryz.func46, Tryz.ntmps46
  go_wp2_with (first | (with_reducible refine ldPt rfl rfl rfl b4 (rc_q _) (rc_q _) ?_) | (with_reducible refine ldPt rfl rfl rfl b5 (rc_q _) (rc_q _) ?_) | (with_reducible refine ldPt rfl rfl rfl b6 (rc_q _) (rc_q _) ?_) | (with_reducible refine ldPt rfl rfl rfl b7 (rc_q _) (rc_q _) ?_) | (with_reducible refine lbsP4 rfl rfl rfl rfl rfl rfl (rc_q _) (rc_q _) (rc_q _) (rc_q _) (rc_q _) (rc_q _) (rc_q _) (rc_q _) ?_))
  have sl := Blk.new ((((w.alloc (.cells (fq ax ++ fq ay).toArray 47)).alloc (.cells (fq ex ++ fq ey).toArray 47)).alloc (.cells (fq cx ++ fq cy).toArray 47)).alloc (.cells (fq dx ++ fq dy).toArray 47)) (jn [fq ax ++ fq ay, fq ex ++ fq ey, fq cx ++ fq cy, fq dx ++ fq dy]) 47 (b := w.heap.size + 1 + 1 + 1 + 1) hk.symm
  replace hb := hb.alloc hb.size (.cells (jn [fq ax ++ fq ay, fq ex ++ fq ey, fq cx ++ fq cy, fq dx ++ fq dy]).toArray 47)
  replace b4 := b4.old (.cells (jn [fq ax ++ fq ay, fq ex ++ fq ey, fq cx ++ fq cy, fq dx ++ fq dy]).toArray 47)
  replace b5 := b5.old (.cells (jn [fq ax ++ fq ay, fq ex ++ fq ey, fq cx ++ fq cy, fq dx ++ fq dy]).toArray 47)
  replace b6 := b6.old (.cells (jn [fq ax ++ fq ay, fq ex ++ fq ey, fq cx ++ fq cy, fq dx ++ fq dy]).toArray 47)
  replace b7 := b7.old (.cells (jn [fq ax ++ fq ay, fq ex ++ fq ey, fq cx ++ fq cy, fq dx ++ fq dy]).toArray 47)
  try rw [hk]
  refine (lare_four (rc_q _) (rc_q _) (rc_q _) (rc_q _) (rc_q _) (rc_q _) (rc_q _) (rc_q _) HT.out HT1.out HT2.out HT3.out sl).mono ?_
  rintro e w1 ⟨rfl, h1⟩
  replace b4 := b4.call h1
  replace b5 := b5.call h1
  replace b6 := b6.call h1
  replace b7 := b7.call h1
  replace hb := bthen hb h1
  clear h1 sl hk
  go_wp2_with fail
  refine rg_start [] (by kernel_rfl) (fun hS => ?_)
  replace hb := hb.drew
  replace b4 := b4.drew
  replace b5 := b5.drew
  replace b6 := b6.drew
  replace b7 := b7.drew
  refine rg_ldP 0 rfl (by kernel_rfl) (by kernel_rfl) (by kernel_rfl) (by rfl) hS rfl rfl b4 (by simp <;> omega) (part_all _) (wholeP (rc_q _) (rc_q _)) ?_
  try simp only [Act.put, List.setIfInBounds_toArray, List.set_cons_zero, List.set_cons_succ]
  refine rg_ldP 1 rfl (by kernel_rfl) (by kernel_rfl) (by kernel_rfl) (by rfl) hS rfl rfl b5 (by simp <;> omega) (part_all _) (wholeP (rc_q _) (rc_q _)) ?_
  try simp only [Act.put, List.setIfInBounds_toArray, List.set_cons_zero, List.set_cons_succ]
  refine rg_ldP 3 rfl (by kernel_rfl) (by kernel_rfl) (by kernel_rfl) (by rfl) hS rfl rfl b6 (by simp <;> omega) (part_all _) (wholeP (rc_q _) (rc_q _)) ?_
  try simp only [Act.put, List.setIfInBounds_toArray, List.set_cons_zero, List.set_cons_succ]
  refine rg_ldP 4 rfl (by kernel_rfl) (by kernel_rfl) (by kernel_rfl) (by rfl) hS rfl rfl b7 (by simp <;> omega) (part_all _) (wholeP (rc_q _) (rc_q _)) ?_
  try simp only [Act.put, List.setIfInBounds_toArray, List.set_cons_zero, List.set_cons_succ]
  refine rg_eff 2 rfl (by kernel_rfl) (by rfl) (fun K hK => ?_)
  go_simp
  refine (HB.out _).mono ?_
  rintro e w1 ⟨rfl, h1⟩
  refine hK _ _ (hS.call h1) (fun hS => ?_)
  clear hK K
  replace hb := bthen hb h1
  clear h1
  try simp only [Act.put, List.setIfInBounds_toArray, List.set_cons_zero, List.set_cons_succ]
  refine rg_eff 5 rfl (by kernel_rfl) (by rfl) (fun K hK => ?_)
  go_simp
  refine (HC.out _).mono ?_
  rintro e w1 ⟨rfl, h1⟩
  refine hK _ _ (hS.call h1) (fun hS => ?_)
  clear hK K
  replace hb := bthen hb h1
  clear h1
  try simp only [Act.put, List.setIfInBounds_toArray, List.set_cons_zero, List.set_cons_succ]
  refine rg_eff 6 rfl (by kernel_rfl) (by rfl) (fun K hK => ?_)
  go_simp
  refine (HH.out _).mono ?_
  rintro e w1 ⟨rfl, h1⟩
  refine hK _ _ (hS.call h1) (fun hS => ?_)
  clear hK K
  replace hb := bthen hb h1
  clear h1
  try simp only [Act.put, List.setIfInBounds_toArray, List.set_cons_zero, List.set_cons_succ]
  refine rg_take 7 rfl (by kernel_rfl) (by kernel_rfl) (by kernel_rfl) (by rfl) hS (v := ?_) ?_ ?_
  rotate_left
  · (intro w' hS'; go_simp <;> try with_reducible rfl)
  try simp only [Act.put, List.setIfInBounds_toArray, List.set_cons_zero, List.set_cons_succ]
  refine rg_take 8 rfl (by kernel_rfl) (by kernel_rfl) (by kernel_rfl) (by rfl) hS (v := ?_) ?_ ?_
  rotate_left
  · (intro w' hS'; go_simp <;> try with_reducible rfl)
  try simp only [Act.put, List.setIfInBounds_toArray, List.set_cons_zero, List.set_cons_succ]
  refine rg_done (by kernel_rfl) ?_
  go_wp2
  go_ret2
  exact ⟨rfl, hb⟩
end Go.Proofs.YtoegjibeomhekaaGreat
