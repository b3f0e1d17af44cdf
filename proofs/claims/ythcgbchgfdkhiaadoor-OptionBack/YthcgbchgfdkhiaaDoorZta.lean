/- option.take: what one word does. -/
import Derived.Test.YthcgbchgfdkhiaaDoorZpu
import Derived.Deep.DeepCutAuto
namespace Go.Proofs.YthcgbchgfdkhiaaDoor
set_option linter.unusedSimpArgs false
set_option linter.unusedVariables false
open Go.RowKit
set_option maxRecDepth 100000
def celZ (p : Int × Int × Int) : List Value := [.int .i64 p.1, .int .i64 p.2.1, .int .i64 p.2.2]
/-- Block b holds the options o, its sizes in a row of their own. -/
def Opb (B b : Nat) (o : Opt) (w : World) : Prop := ∃ zv, Blk w b [.int .i64 o.h, .int .i64 o.c, zv] 25 ∧ w.ownsRow B 40 3 zv o.z.length (o.z.flatMap celZ)
theorem ptr1 {w : World} {g : Nat} {p : Addr} {t : TypeId} (h : Blk w g [.pointer (some p)] t) (b o : Nat) (e : p = ⟨b, o, none⟩) : ∀ (i : Nat) q, [o][i]? = some q → w.cell? ⟨g, i, none⟩ = some (.pointer (some ⟨b, q, none⟩)) := by
  intro i q hq
  match i, hq with
  | 0, hq => simp at hq; subst hq; subst e; exact h.cell rfl
  | n + 1, hq => simp at hq
set_option maxHeartbeats 4000000 in
theorem take_h (s : ByteArray) (r : List UInt8) (B b : Nat) (o : Opt) (w : World) (hs : s.size = r.length + 1) (hX : s.extract 1 (r.length + 1) = tx r) (hl : r.length ≤ 1000000) (d1 : ((s[0].toNat : Int) == 104) = true) (hO : Opb B b o w) (hbB : b < B) (hBw : B ≤ w.heap.size) (hE : Env w) :
    Calls Tryd.prog 15 #[.pointer (some ⟨b, 0, none⟩), .string s] w fun e w' => e = .returned (.bool (intOk r)) ∧ Below b w w' ∧ (intOk r = true → Opb B b { o with h := intV r } w') := by
  obtain ⟨zv, hb, hown⟩ := hO
  have g0 := ne_empty s (by omega)
  have k9 : (1 : Int) ≤ (r.length : Int) + 1 := by omega
  have hlt := hb.lt
  have HO := Lib.hid hown
  have HB := Lib.hid hb
  have HE := Lib.hid hE
  clear hown hE hb
  go_enter Tryd.func15, Tryd.ntmps15
  go_wp2_with fail
  refine rg_start [b] (by kernel_rfl) (fun hS => ?_)
  refine rg_take 0 rfl (by kernel_rfl) (by kernel_rfl) (by kernel_rfl) (by rfl) hS (v := ?_) ?_ ?_
  rotate_left
  · (intro w' hS'; go_simp <;> try with_reducible rfl)
  try simp only [Act.put, List.setIfInBounds_toArray, List.set_cons_zero, List.set_cons_succ]
  refine rg_take 1 rfl (by kernel_rfl) (by kernel_rfl) (by kernel_rfl) (by rfl) hS (v := ?_) ?_ ?_
  rotate_left
  · (intro w' hS'; go_simp <;> try with_reducible rfl)
  try simp only [Act.put, List.setIfInBounds_toArray, List.set_cons_zero, List.set_cons_succ]
  refine rg_take 2 rfl (by kernel_rfl) (by kernel_rfl) (by kernel_rfl) (by rfl) hS (v := ?_) ?_ ?_
  rotate_left
  · (intro w' hS'; go_simp <;> try with_reducible rfl)
  try simp only [Act.put, List.setIfInBounds_toArray, List.set_cons_zero, List.set_cons_succ]
  refine rg_take 3 rfl (by kernel_rfl) (by kernel_rfl) (by kernel_rfl) (by rfl) hS (v := ?_) ?_ ?_
  rotate_left
  · (intro w' hS'; go_simp <;> try with_reducible rfl)
  try simp only [Act.put, List.setIfInBounds_toArray, List.set_cons_zero, List.set_cons_succ]
  refine rg_take 4 rfl (by kernel_rfl) (by kernel_rfl) (by kernel_rfl) (by rfl) hS (v := ?_) ?_ ?_
  rotate_left
  · (intro w' hS'; go_simp <;> try with_reducible rfl)
  try simp only [Act.put, List.setIfInBounds_toArray, List.set_cons_zero, List.set_cons_succ]
  refine rg_eff 5 rfl (by kernel_rfl) (by rfl) (fun K hK => ?_)
  refine wp_bsP1q rfl rfl (fun gq wq gle BQ hq => ?_)
  refine hK _ _ (hS.call hq) (fun hS => ?_)
  clear hK K
  try simp only [Act.put, List.setIfInBounds_toArray, List.set_cons_zero, List.set_cons_succ]
  refine rg_eff 6 rfl (by kernel_rfl) (by rfl) (fun K hK => ?_)
  go_simp
  have HR := read_two r gq 1 b [0] _ _ wq hl (by simp) ((HE.out.below ((Below.refl _ _).drew)).below hq) (ptr1 BQ b 0 rfl) (by have : (w.drew).heap.size = w.heap.size := rfl; omega) ((HB.out.drew).call hq) (by simp)
  refine HR.mono ?_
  rintro e w1 ⟨rfl, hOt, ns, hB2, hns⟩
  refine hK _ _ (hS.oth (by simp) hOt) (fun hS => ?_)
  clear hK K
  try simp only [Act.put, List.setIfInBounds_toArray, List.set_cons_zero, List.set_cons_succ]
  refine rg_take 7 rfl (by kernel_rfl) (by kernel_rfl) (by kernel_rfl) (by rfl) hS (v := ?_) ?_ ?_
  rotate_left
  · (intro w' hS'; go_simp <;> try with_reducible rfl)
  try simp only [Act.put, List.setIfInBounds_toArray, List.set_cons_zero, List.set_cons_succ]
  refine rg_done (by kernel_rfl) ?_
  have e1 : rdOk [0].length (splits [44] r) = intOk r := rd_one r
  rw [e1] at hns ⊢
  have ho2 : Oth b w w1 := (Oth.of ((Below.refl w.heap.size w).drew)).trans ((Oth.of hq).trans hOt)
  have HF : Hid (Below b w w1 ∧ (intOk r = true → Opb B b { o with h := intV r } w1)) := ⟨ho2.below (Nat.le_refl _) (by omega), fun h => by
    have := hns h
    rw [rd_one_val h] at this
    subst this
    exact ⟨zv, hB2, owns_oth HO.out ho2 hbB⟩⟩
  clear hns hB2 hOt hq BQ hS HR
  go_wp2
  go_ret
  exact ⟨congrArg (fun x => Ending.returned (Value.bool x)) (rd_one r), HF.out⟩
set_option maxHeartbeats 4000000 in
theorem take_c (s : ByteArray) (r : List UInt8) (B b : Nat) (o : Opt) (w : World) (hs : s.size = r.length + 1) (hX : s.extract 1 (r.length + 1) = tx r) (hl : r.length ≤ 1000000) (d1 : ((s[0].toNat : Int) == 104) = false) (d2 : ((s[0].toNat : Int) == 99) = true) (hO : Opb B b o w) (hbB : b < B) (hBw : B ≤ w.heap.size) (hE : Env w) :
    Calls Tryd.prog 15 #[.pointer (some ⟨b, 0, none⟩), .string s] w fun e w' => e = .returned (.bool (intOk r)) ∧ Below b w w' ∧ (intOk r = true → Opb B b { o with c := intV r } w') := by
  obtain ⟨zv, hb, hown⟩ := hO
  have g0 := ne_empty s (by omega)
  have k9 : (1 : Int) ≤ (r.length : Int) + 1 := by omega
  have hlt := hb.lt
  have HO := Lib.hid hown
  have HB := Lib.hid hb
  have HE := Lib.hid hE
  clear hown hE hb
  go_enter Tryd.func15, Tryd.ntmps15
  go_wp2_with fail
  refine rg_start [b] (by kernel_rfl) (fun hS => ?_)
  refine rg_take 0 rfl (by kernel_rfl) (by kernel_rfl) (by kernel_rfl) (by rfl) hS (v := ?_) ?_ ?_
  rotate_left
  · (intro w' hS'; go_simp <;> try with_reducible rfl)
  try simp only [Act.put, List.setIfInBounds_toArray, List.set_cons_zero, List.set_cons_succ]
  refine rg_take 1 rfl (by kernel_rfl) (by kernel_rfl) (by kernel_rfl) (by rfl) hS (v := ?_) ?_ ?_
  rotate_left
  · (intro w' hS'; go_simp <;> try with_reducible rfl)
  try simp only [Act.put, List.setIfInBounds_toArray, List.set_cons_zero, List.set_cons_succ]
  refine rg_take 2 rfl (by kernel_rfl) (by kernel_rfl) (by kernel_rfl) (by rfl) hS (v := ?_) ?_ ?_
  rotate_left
  · (intro w' hS'; go_simp <;> try with_reducible rfl)
  try simp only [Act.put, List.setIfInBounds_toArray, List.set_cons_zero, List.set_cons_succ]
  refine rg_take 3 rfl (by kernel_rfl) (by kernel_rfl) (by kernel_rfl) (by rfl) hS (v := ?_) ?_ ?_
  rotate_left
  · (intro w' hS'; go_simp <;> try with_reducible rfl)
  try simp only [Act.put, List.setIfInBounds_toArray, List.set_cons_zero, List.set_cons_succ]
  refine rg_take 4 rfl (by kernel_rfl) (by kernel_rfl) (by kernel_rfl) (by rfl) hS (v := ?_) ?_ ?_
  rotate_left
  · (intro w' hS'; go_simp <;> try with_reducible rfl)
  try simp only [Act.put, List.setIfInBounds_toArray, List.set_cons_zero, List.set_cons_succ]
  refine rg_eff 5 rfl (by kernel_rfl) (by rfl) (fun K hK => ?_)
  refine wp_bsP1q rfl rfl (fun gq wq gle BQ hq => ?_)
  refine hK _ _ (hS.call hq) (fun hS => ?_)
  clear hK K
  try simp only [Act.put, List.setIfInBounds_toArray, List.set_cons_zero, List.set_cons_succ]
  refine rg_eff 6 rfl (by kernel_rfl) (by rfl) (fun K hK => ?_)
  go_simp
  have HR := read_two r gq 1 b [1] _ _ wq hl (by simp) ((HE.out.below ((Below.refl _ _).drew)).below hq) (ptr1 BQ b 1 rfl) (by have : (w.drew).heap.size = w.heap.size := rfl; omega) ((HB.out.drew).call hq) (by simp)
  refine HR.mono ?_
  rintro e w1 ⟨rfl, hOt, ns, hB2, hns⟩
  refine hK _ _ (hS.oth (by simp) hOt) (fun hS => ?_)
  clear hK K
  try simp only [Act.put, List.setIfInBounds_toArray, List.set_cons_zero, List.set_cons_succ]
  refine rg_take 7 rfl (by kernel_rfl) (by kernel_rfl) (by kernel_rfl) (by rfl) hS (v := ?_) ?_ ?_
  rotate_left
  · (intro w' hS'; go_simp <;> try with_reducible rfl)
  try simp only [Act.put, List.setIfInBounds_toArray, List.set_cons_zero, List.set_cons_succ]
  refine rg_done (by kernel_rfl) ?_
  have e1 : rdOk [1].length (splits [44] r) = intOk r := rd_one r
  rw [e1] at hns ⊢
  have ho2 : Oth b w w1 := (Oth.of ((Below.refl w.heap.size w).drew)).trans ((Oth.of hq).trans hOt)
  have HF : Hid (Below b w w1 ∧ (intOk r = true → Opb B b { o with c := intV r } w1)) := ⟨ho2.below (Nat.le_refl _) (by omega), fun h => by
    have := hns h
    rw [rd_one_val h] at this
    subst this
    exact ⟨zv, hB2, owns_oth HO.out ho2 hbB⟩⟩
  clear hns hB2 hOt hq BQ hS HR
  go_wp2
  go_ret
  exact ⟨congrArg (fun x => Ending.returned (Value.bool x)) (rd_one r), HF.out⟩
end Go.Proofs.YthcgbchgfdkhiaaDoor
