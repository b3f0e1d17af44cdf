/- Joined of: Mrg Mrl Tcr. -/
import Derived.Test.YtckolhalggcenaaGreatMrf
import Derived.Test.YtckolhalggcenaaGreatTsx
import Derived.Test.YtckolhalggcenaaGreatMgx
import Derived.Test.YtckolhalggcenaaGreatIsr
import Derived.Test.YtckolhalggcenaaGreatPnf
/- The reference's fractions: plus, MulRat, DivRat. -/
namespace Go.Proofs.YtckolhalggcenaaGreat
set_option linter.unusedSimpArgs false
set_option linter.unusedVariables false
open Go.RowKit
set_option maxRecDepth 100000
theorem rat_z {u v : Value} {M D : Nat} {w : World} {s : Bool} {z : Int} (hz : zn s M = z) (h : Mv w u M) (h' : Mv w v D) (hA : nw M ≤ 32) (hD : nw D ≤ 32) (h0 : D ≠ 0) :
    Calls Tryz.prog 72 #[.bool s, u, v] w fun e w' => e = .returned (.tuple #[vq (Rat.divInt z D), .bool true]) ∧ Below w.heap.size w w' := by
  have R := rat_any s h h' hA hD h0
  obtain ⟨q1, q2⟩ := frac_q (n := z) (d := (D : Int)) (by omega)
  have hm : z.natAbs = M := by rw [← hz, zn_abs]
  rw [hm, Int.natAbs_natCast] at q1 q2
  rw [decide_eq_false (show ¬ (D : Int) < 0 by omega)] at q1
  have e : zn s (M / Nat.gcd M D) = zn (decide (z < 0) != false) (M / Nat.gcd M D) := by
    by_cases h1 : M = 0
    · rw [h1, Nat.zero_div]
      unfold zn
      split <;> split <;> simp
    · have : s = (decide (z < 0) != false) := by
        rw [← hz]
        unfold zn
        cases s <;> simp <;> omega
      rw [← this]
  rw [e, q1, q2] at R
  exact R
set_option maxHeartbeats 4000000 in
theorem MulRat_g {n d m e N D p q r s : Int} (hn : fits n) (hd : fits d) (hm : fits m) (he : fits e) (T : Tl 19 #[vf n d, vf m e] (.tuple #[.int .i64 p, .int .i64 q, .int .i64 r, .int .i64 s, .bool false])) (B : Tl 20 #[vf n d, vf m e] (.bool true))
    (HR : Hid (∀ {u v : Value} {w : World}, Mv w u (n.natAbs * m.natAbs) → Mv w v (d.natAbs * e.natAbs) → Calls Tryz.prog 72 #[.bool (decide (n < 0) != decide (m < 0)), u, v] w fun e w' => e = .returned (.tuple #[.agg (fr N D).toArray, .bool true]) ∧ Below w.heap.size w w')) :
    Tl 50 #[vf n d, vf m e] (.tuple #[vf N D, .bool true]) := by
  intro w
  unfold vf at *
  have HT := Lib.hid T
  have HB := Lib.hid B
  have N1 := Lib.hid (fun w => neg_mk hn w)
  have N2 := Lib.hid (fun w => neg_mk hm w)
  have O1 := Lib.hid (fun w => of_mk hn w)
  have O2 := Lib.hid (fun w => of_mk hd w)
  have O3 := Lib.hid (fun w => of_mk hm w)
  have O4 := Lib.hid (fun w => of_mk he w)
  have HL : Hid (nw n.natAbs ≤ 400 ∧ nw d.natAbs ≤ 400 ∧ nw m.natAbs ≤ 400 ∧ nw e.natAbs ≤ 400) := by
    have h1 := nw_le_of hn
    have h2 := nw_le_of hd
    have h3 := nw_le_of hm
    have h4 := nw_le_of he
    exact ⟨by omega, by omega, by omega, by omega⟩
  unfold Tl at HT HB
  try unfold vw at N1 N2
  obtain ⟨sn, hsn⟩ : ∃ s, decide (n < 0) = s := ⟨_, rfl⟩
  obtain ⟨sm, hsm⟩ : ∃ s, decide (m < 0) = s := ⟨_, rfl⟩
  rw [hsn] at N1 HR
  rw [hsm] at N2 HR
  clear T B hn hd hm he hsn hsm
  have b2 := (((Blk.new w (fr n d) 27 rfl).old (.cells (fr m e).toArray 27)).old (.cells (rr false 0 false 0).toArray 27))
  have b3 := ((Blk.new (w.alloc (.cells (fr n d).toArray 27)) (fr m e) 27 (b := w.heap.size + 1) (by simp)).old (.cells (rr false 0 false 0).toArray 27))
  have b4 := (Blk.new ((w.alloc (.cells (fr n d).toArray 27)).alloc (.cells (fr m e).toArray 27)) (rr false 0 false 0) 27 (b := w.heap.size + 1 + 1) (by simp))
  have hb : Below w.heap.size w (((w.alloc (.cells (fr n d).toArray 27)).alloc (.cells (fr m e).toArray 27)).alloc (.cells (rr false 0 false 0).toArray 27)) := ((((Below.refl _ _).alloc (Nat.le_refl _) _).alloc (by simp <;> omega) _).alloc (by simp <;> omega) _)
  have hk : (((w.alloc (.cells (fr n d).toArray 27)).alloc (.cells (fr m e).toArray 27)).alloc (.cells (rr false 0 false 0).toArray 27)).heap.size = w.heap.size + 1 + 1 + 1 := by simp
  go_enter Tryz.func50, Tryz.ntmps50
  go_wp2_with (first | (with_reducible refine alR rfl rfl ?_) | (with_reducible refine ldFr rfl rfl rfl b2 ?_) | (with_reducible refine ldFr rfl rfl rfl b3 ?_))
  try rw [show ((w.alloc (.cells (fr n d).toArray 27)).alloc (.cells (fr m e).toArray 27)).heap.size = w.heap.size + 1 + 1 by simp]
  refine (HT.out _).mono ?_
  rintro e w1 ⟨rfl, h1⟩
  replace b2 := b2.call h1
  replace b3 := b3.call h1
  replace b4 := b4.call h1
  replace hb := bthen hb h1
  clear h1
  go_wp2_with (first | (with_reducible refine ldFr rfl rfl rfl b2 ?_) | (with_reducible refine ldFr rfl rfl rfl b3 ?_))
  refine (HB.out _).mono ?_
  rintro e w1 ⟨rfl, h1⟩
  replace b2 := b2.call h1
  replace b3 := b3.call h1
  replace b4 := b4.call h1
  replace hb := bthen hb h1
  clear h1
  go_wp2_with fail
  refine rg_start [w.heap.size + 1 + 1] (by kernel_rfl) (fun hS => ?_)
  replace hb := hb.drew
  replace b4 := b4.drew
  refine rg_take 0 rfl (by kernel_rfl) (by kernel_rfl) (by kernel_rfl) (by rfl) hS (v := ?_) ?_ ?_
  rotate_left
  · (intro w' hS'; go_simp <;> try with_reducible rfl)
  try simp only [Act.put, List.setIfInBounds_toArray, List.set_cons_zero, List.set_cons_succ]
  refine rg_ldP 1 rfl (by kernel_rfl) (by kernel_rfl) (by kernel_rfl) (by rfl) hS rfl rfl b2 (by simp <;> omega) (partF_n _ _) (wholeM _) ?_
  try simp only [Act.put, List.setIfInBounds_toArray, List.set_cons_zero, List.set_cons_succ]
  refine rg_take 3 rfl (by kernel_rfl) (by kernel_rfl) (by kernel_rfl) (by rfl) hS (v := ?_) ?_ ?_
  rotate_left
  · (intro w' hS'; go_simp <;> try with_reducible rfl)
  try simp only [Act.put, List.setIfInBounds_toArray, List.set_cons_zero, List.set_cons_succ]
  refine rg_ldP 4 rfl (by kernel_rfl) (by kernel_rfl) (by kernel_rfl) (by rfl) hS rfl rfl b3 (by simp <;> omega) (partF_n _ _) (wholeM _) ?_
  try simp only [Act.put, List.setIfInBounds_toArray, List.set_cons_zero, List.set_cons_succ]
  refine rg_take 7 rfl (by kernel_rfl) (by kernel_rfl) (by kernel_rfl) (by rfl) hS (v := ?_) ?_ ?_
  rotate_left
  · (intro w' hS'; go_simp <;> try with_reducible rfl)
  try simp only [Act.put, List.setIfInBounds_toArray, List.set_cons_zero, List.set_cons_succ]
  refine rg_ldP 8 rfl (by kernel_rfl) (by kernel_rfl) (by kernel_rfl) (by rfl) hS rfl rfl b2 (by simp <;> omega) (partF_n _ _) (wholeM _) ?_
  try simp only [Act.put, List.setIfInBounds_toArray, List.set_cons_zero, List.set_cons_succ]
  refine rg_take 10 rfl (by kernel_rfl) (by kernel_rfl) (by kernel_rfl) (by rfl) hS (v := ?_) ?_ ?_
  rotate_left
  · (intro w' hS'; go_simp <;> try with_reducible rfl)
  try simp only [Act.put, List.setIfInBounds_toArray, List.set_cons_zero, List.set_cons_succ]
  refine rg_ldP 11 rfl (by kernel_rfl) (by kernel_rfl) (by kernel_rfl) (by rfl) hS rfl rfl b3 (by simp <;> omega) (partF_n _ _) (wholeM _) ?_
  try simp only [Act.put, List.setIfInBounds_toArray, List.set_cons_zero, List.set_cons_succ]
  refine rg_take 14 rfl (by kernel_rfl) (by kernel_rfl) (by kernel_rfl) (by rfl) hS (v := ?_) ?_ ?_
  rotate_left
  · (intro w' hS'; go_simp <;> try with_reducible rfl)
  try simp only [Act.put, List.setIfInBounds_toArray, List.set_cons_zero, List.set_cons_succ]
  refine rg_ldP 15 rfl (by kernel_rfl) (by kernel_rfl) (by kernel_rfl) (by rfl) hS rfl rfl b2 (by simp <;> omega) (partF_d _ _) (wholeM _) ?_
  try simp only [Act.put, List.setIfInBounds_toArray, List.set_cons_zero, List.set_cons_succ]
  refine rg_take 17 rfl (by kernel_rfl) (by kernel_rfl) (by kernel_rfl) (by rfl) hS (v := ?_) ?_ ?_
  rotate_left
  · (intro w' hS'; go_simp <;> try with_reducible rfl)
  try simp only [Act.put, List.setIfInBounds_toArray, List.set_cons_zero, List.set_cons_succ]
  refine rg_ldP 18 rfl (by kernel_rfl) (by kernel_rfl) (by kernel_rfl) (by rfl) hS rfl rfl b3 (by simp <;> omega) (partF_d _ _) (wholeM _) ?_
  try simp only [Act.put, List.setIfInBounds_toArray, List.set_cons_zero, List.set_cons_succ]
  refine rg_eff 2 rfl (by kernel_rfl) (by rfl) (fun K hK => ?_)
  go_simp
  refine (N1.out _).mono ?_
  rintro e w1 ⟨rfl, h1⟩
  refine hK _ _ (hS.call h1) (fun hS => ?_)
  clear hK K
  replace b4 := b4.call h1
  replace hb := bthen hb h1
  clear h1
  try simp only [Act.put, List.setIfInBounds_toArray, List.set_cons_zero, List.set_cons_succ]
  refine rg_eff 5 rfl (by kernel_rfl) (by rfl) (fun K hK => ?_)
  go_simp
  refine (N2.out _).mono ?_
  rintro e w1 ⟨rfl, h1⟩
  refine hK _ _ (hS.call h1) (fun hS => ?_)
  clear hK K
  replace b4 := b4.call h1
  replace hb := bthen hb h1
  clear h1
  try simp only [Act.put, List.setIfInBounds_toArray, List.set_cons_zero, List.set_cons_succ]
  refine rg_take 6 rfl (by kernel_rfl) (by kernel_rfl) (by kernel_rfl) (by rfl) hS (v := .bool (sn != sm)) (fun w' _ => op_neb rfl rfl rfl w') ?_
  try simp only [Act.put, List.setIfInBounds_toArray, List.set_cons_zero, List.set_cons_succ]
  refine rg_eff 9 rfl (by kernel_rfl) (by rfl) (fun K hK => ?_)
  go_simp
  refine (O1.out _).mono ?_
  rintro e w1 ⟨va, rfl, ma, h1⟩
  refine hK _ _ (hS.call h1) (fun hS => ?_)
  clear hK K
  replace b4 := b4.call h1
  replace hb := bthen hb h1
  clear h1
  try simp only [Act.put, List.setIfInBounds_toArray, List.set_cons_zero, List.set_cons_succ]
  refine rg_eff 12 rfl (by kernel_rfl) (by rfl) (fun K hK => ?_)
  go_simp
  refine (O3.out _).mono ?_
  rintro e w1 ⟨vb, rfl, mb, h1⟩
  refine hK _ _ (hS.call h1) (fun hS => ?_)
  clear hK K
  replace b4 := b4.call h1
  replace ma := ma.call h1
  replace hb := bthen hb h1
  clear h1
  try simp only [Act.put, List.setIfInBounds_toArray, List.set_cons_zero, List.set_cons_succ]
  refine rg_eff 13 rfl (by kernel_rfl) (by rfl) (fun K hK => ?_)
  go_simp
  refine (mul_any ma mb HL.out.1 HL.out.2.2.1).mono ?_
  rintro e w1 ⟨vp, rfl, mp, h1⟩
  refine hK _ _ (hS.call h1) (fun hS => ?_)
  clear hK K
  replace b4 := b4.call h1
  replace hb := bthen hb h1
  clear h1
  clear ma mb
  try simp only [Act.put, List.setIfInBounds_toArray, List.set_cons_zero, List.set_cons_succ]
  refine rg_eff 16 rfl (by kernel_rfl) (by rfl) (fun K hK => ?_)
  go_simp
  refine (O2.out _).mono ?_
  rintro e w1 ⟨vc, rfl, mc, h1⟩
  refine hK _ _ (hS.call h1) (fun hS => ?_)
  clear hK K
  replace b4 := b4.call h1
  replace mp := mp.call h1
  replace hb := bthen hb h1
  clear h1
  try simp only [Act.put, List.setIfInBounds_toArray, List.set_cons_zero, List.set_cons_succ]
  refine rg_eff 19 rfl (by kernel_rfl) (by rfl) (fun K hK => ?_)
  go_simp
  refine (O4.out _).mono ?_
  rintro e w1 ⟨vd, rfl, md, h1⟩
  refine hK _ _ (hS.call h1) (fun hS => ?_)
  clear hK K
  replace b4 := b4.call h1
  replace mp := mp.call h1
  replace mc := mc.call h1
  replace hb := bthen hb h1
  clear h1
  try simp only [Act.put, List.setIfInBounds_toArray, List.set_cons_zero, List.set_cons_succ]
  refine rg_eff 20 rfl (by kernel_rfl) (by rfl) (fun K hK => ?_)
  go_simp
  refine (mul_any mc md HL.out.2.1 HL.out.2.2.2).mono ?_
  rintro e w1 ⟨vr, rfl, mr, h1⟩
  refine hK _ _ (hS.call h1) (fun hS => ?_)
  clear hK K
  replace b4 := b4.call h1
  replace mp := mp.call h1
  replace hb := bthen hb h1
  clear h1
  clear mc md
  try simp only [Act.put, List.setIfInBounds_toArray, List.set_cons_zero, List.set_cons_succ]
  refine rg_eff 21 rfl (by kernel_rfl) (by rfl) (fun K hK => ?_)
  go_simp
  refine (HR.out mp mr).mono ?_
  rintro e w1 ⟨rfl, h1⟩
  refine hK _ _ (hS.call h1) (fun hS => ?_)
  clear hK K
  replace b4 := b4.call h1
  replace hb := bthen hb h1
  clear h1
  try simp only [Act.put, List.setIfInBounds_toArray, List.set_cons_zero, List.set_cons_succ]
  refine rg_take 22 rfl (by kernel_rfl) (by kernel_rfl) (by kernel_rfl) (by rfl) hS (v := ?_) ?_ ?_
  rotate_left
  · (intro w' hS'; go_simp <;> try with_reducible rfl)
  try simp only [Act.put, List.setIfInBounds_toArray, List.set_cons_zero, List.set_cons_succ]
  refine rg_take 23 rfl (by kernel_rfl) (by kernel_rfl) (by kernel_rfl) (by rfl) hS (v := ?_) ?_ ?_
  rotate_left
  · (intro w' hS'; go_simp <;> try with_reducible rfl)
  try simp only [Act.put, List.setIfInBounds_toArray, List.set_cons_zero, List.set_cons_succ]
  refine rg_eff 24 rfl (by kernel_rfl) (by rfl) (fun K hK => ?_)
  refine wp_st (vs := fr N D) rfl rfl rfl b4 (by rw [rr_length, fr_length]) (wholeF _ _) (fr_one _ _) ?_
  refine hK _ _ (hS.row (.inl (by simp)) _) (fun hS => ?_)
  clear hK K
  try simp only [Act.put, List.setIfInBounds_toArray, List.set_cons_zero, List.set_cons_succ]
  refine rg_take 25 rfl (by kernel_rfl) (by kernel_rfl) (by kernel_rfl) (by rfl) hS (v := ?_) ?_ ?_
  rotate_left
  · (intro w' hS'; go_simp <;> try with_reducible rfl)
  try simp only [Act.put, List.setIfInBounds_toArray, List.set_cons_zero, List.set_cons_succ]
  refine rg_done (by kernel_rfl) ?_
  go_wp2
  exact ret_ct (cs := fr N D) (v := .bool true) rfl rfl rfl rfl (wholeF _ _) (b4.row _) ⟨rfl, below_row hb (by omega) _⟩
set_option maxHeartbeats 4000000 in
theorem MulRat_t {A B C : List Value} {p q r s m k : Int} (hA : Rc A) (hB : Rc B) (hC : Rc C) (T : Tl 19 #[vl A, vl B] (.tuple #[.int .i64 p, .int .i64 q, .int .i64 r, .int .i64 s, .bool true])) (hm : p * r = m) (hk : q * s = k) (rm : -9223372036854775808 ≤ m ∧ m ≤ 9223372036854775807) (rk : -9223372036854775808 ≤ k ∧ k ≤ 9223372036854775807)
    (Y : Tl 71 #[.int .i64 m, .int .i64 k] (vl C)) : Tl 50 #[vl A, vl B] (.tuple #[vl C, .bool true]) := by
  intro w
  unfold vl at *
  have HT := Lib.hid T
  have HY := Lib.hid Y
  have HA := Lib.hid hA
  have HB := Lib.hid hB
  have HC := Lib.hid hC
  have HM := Lib.hid hm
  have HK := Lib.hid hk
  unfold Tl at HT HY
  clear T Y hA hB hC hm hk
  have b2 := (((Blk.new w (A) 27 rfl).old (.cells (B).toArray 27)).old (.cells (rr false 0 false 0).toArray 27))
  have b3 := ((Blk.new (w.alloc (.cells (A).toArray 27)) (B) 27 (b := w.heap.size + 1) (by simp)).old (.cells (rr false 0 false 0).toArray 27))
  have b4 := (Blk.new ((w.alloc (.cells (A).toArray 27)).alloc (.cells (B).toArray 27)) (rr false 0 false 0) 27 (b := w.heap.size + 1 + 1) (by simp))
  have hb : Below w.heap.size w (((w.alloc (.cells (A).toArray 27)).alloc (.cells (B).toArray 27)).alloc (.cells (rr false 0 false 0).toArray 27)) := ((((Below.refl _ _).alloc (Nat.le_refl _) _).alloc (by simp <;> omega) _).alloc (by simp <;> omega) _)
  have hk : (((w.alloc (.cells (A).toArray 27)).alloc (.cells (B).toArray 27)).alloc (.cells (rr false 0 false 0).toArray 27)).heap.size = w.heap.size + 1 + 1 + 1 := by simp
  go_enter Tryz.func50, Tryz.ntmps50
  go_wp2_with (first | (with_reducible refine alR rfl rfl ?_) | (with_reducible refine ldA' rfl rfl rfl b2 HA.out ?_) | (with_reducible refine ldA' rfl rfl rfl b3 HB.out ?_))
  try rw [show ((w.alloc (.cells A.toArray 27)).alloc (.cells B.toArray 27)).heap.size = w.heap.size + 1 + 1 by simp]
  refine (HT.out _).mono ?_
  rintro e w1 ⟨rfl, h1⟩
  replace b4 := b4.call h1
  replace hb := bthen hb h1
  clear h1
  go_wp2_with (first | (with_reducible refine mulL HM.out rm rfl rfl rfl rfl ?_) | (with_reducible refine mulL HK.out rk rfl rfl rfl rfl ?_))
  refine (HY.out _).mono ?_
  rintro e w1 ⟨rfl, h1⟩
  replace b4 := b4.call h1
  replace hb := bthen hb h1
  clear h1
  go_wp2_with (first | (with_reducible refine stQ rfl rfl rfl rfl b4 (rr_length _ _ _ _) HC.out ?_))
  exact ret_ct (cs := C) (v := .bool true) rfl rfl rfl rfl HC.out.whole (b4.row _) ⟨rfl, below_row hb (by omega) _⟩
theorem den31 {x : Rat} (h : Bq 31 x) : (0 : Int) < x.den ∧ (x.den : Int) ≤ 2147483647 := by
  have := q_pos x
  have h2 : (x.den : Int).natAbs < 2 ^ 31 := h.2
  omega
theorem dd62 {x y : Rat} (h : Bq 31 x) (h' : Bq 31 y) : (0 : Int) < (x.den : Int) * y.den ∧ ((x.den : Int) * y.den).natAbs < 2 ^ 62 := ⟨Int.mul_pos (q_pos x) (q_pos y), lt62 h.2 h'.2⟩
theorem nat_den {x y : Rat} : (((x.den : Int).natAbs * (y.den : Int).natAbs : Nat) : Int) = (x.den : Int) * y.den := by
  rw [Int.natAbs_natCast, Int.natAbs_natCast]; omega
theorem sz_nw {k : Nat} {z : Int} (h : Sz k z) (hk : k ≤ 1024) : nw z.natAbs ≤ 32 := nw_le_of (sz_fits h hk)
theorem MulRatref_q {j k : Nat} {x y : Rat} (h : Bq j x) (hj : j ≤ 500) (h' : Bq k y) (hk : k ≤ 500) : Tl 50 #[vq x, vq y] (.tuple #[vq (x * y), .bool true]) := by
  rw [mul_q]
  by_cases ht : Bq 31 x ∧ Bq 31 y
  · have h1 := lt62 ht.1.1 ht.2.1
    obtain ⟨h2, h3⟩ := dd62 ht.1 ht.2
    exact MulRat_t (rc_q _) (rc_q _) (rc_q _) (tinies_yes ht.1 ht.2) rfl rfl (by omega) (by omega) (quick_any (by omega) h2 (by omega))
  · obtain ⟨p, q, r, s, T⟩ := tinies_no h (by omega) h' (by omega) ht
    have z1 := sz_mul h.1 h'.1
    have z2 := sz_mul h.2 h'.2
    refine MulRat_g (h.fn (by omega)) (h.fd (by omega)) (h'.fn (by omega)) (h'.fd (by omega)) T (bothref_q h hj h' hk) ?_
    apply Lib.hid
    intro u v w m1 m2
    have R := rat_z (s := decide (x.num < 0) != decide (y.num < 0)) (z := x.num * y.num) (by rw [← zn_mul, zn_self, zn_self]) m1 m2 (by rw [← Int.natAbs_mul]; exact sz_nw z1 (by omega)) (by rw [← Int.natAbs_mul]; exact sz_nw z2 (by omega)) (by have := dens (q := x) (r := y); rw [← Int.natAbs_mul]; omega)
    rw [nat_den] at R
    exact R
end Go.Proofs.YtckolhalggcenaaGreat

/- The reference: sums and differences of fractions. -/
namespace Go.Proofs.YtckolhalggcenaaGreat
set_option linter.unusedSimpArgs false
set_option linter.unusedVariables false
open Go.RowKit
set_option maxRecDepth 100000
theorem mv_keep {w0 w : World} {v : Value} {M : Nat} (h : Mv w0 v M) (hK : Keep [] w0 w) : Mv w v M := by
  rcases h with h | ⟨b, c, e, hc, hl, hx⟩
  · exact .inl h
  · exact .inr ⟨b, c, e, hc, Nat.lt_of_lt_of_le hl hK.1, fun i hi => by
      have := hx i hi
      unfold World.cell? at this ⊢
      rw [hK.2 b hl (by simp)]; exact this⟩
theorem op_negL {o : Oper} {a : Act} {x : Operand} {m k : Int} (h : -m = k) (hq : -9223372036854775808 ≤ k ∧ k ≤ 9223372036854775807) (ho : o.op = .unOp .neg 2 x) (hx : a.eval x = .int .i64 m) (w : World) :
    (execOp a.eval o).run Tryz.prog w = .ok (.value (.int .i64 k)) w := by
  subst h
  have hw : IntKind.i64.wrap (-m) = -m := IntWalk.i64_in _ hq
  unfold execOp
  simp only [ho, hx]
  go_simp <;> simp_all
theorem negL {ops : Array Oper} {rest : List Oper} {o : Oper} {a : Act} {w : World} {Q : Exit → Act → World → Prop} {x : Operand} {m k : Int} (h : -m = k) (hq : -9223372036854775808 ≤ k ∧ k ≤ 9223372036854775807) (hgd : o.guard = none) (ho : o.op = .unOp .neg 2 x) (hx : a.eval x = .int .i64 m)
    (hr : wpList Tryz.prog ops Q rest (a.put o.dst (.int .i64 k)) w) : wpList Tryz.prog ops Q (o :: rest) a w :=
  wpList_plain hgd fun K hK => by
    have := hK _ _ hr
    unfold Oper.wp
    rw [op_negL h hq ho hx w]
    exact this
set_option maxHeartbeats 4000000 in
theorem plus_s {A B C : List Value} {p q r r0 s m k t d : Int} (hA : Rc A) (hB : Rc B) (hC : Rc C) (T : Tl 19 #[vl A, vl B] (.tuple #[.int .i64 p, .int .i64 q, .int .i64 r0, .int .i64 s, .bool true])) (hn : -r0 = r) (rn : -9223372036854775808 ≤ r ∧ r ≤ 9223372036854775807) (hm : p * s = m) (hk : r * q = k) (ht : m + k = t) (hd : q * s = d)
    (rm : -9223372036854775808 ≤ m ∧ m ≤ 9223372036854775807) (rk : -9223372036854775808 ≤ k ∧ k ≤ 9223372036854775807) (rt : -9223372036854775808 ≤ t ∧ t ≤ 9223372036854775807) (rd : -9223372036854775808 ≤ d ∧ d ≤ 9223372036854775807)
    (X : Tl 71 #[.int .i64 t, .int .i64 d] (vl C)) :
    Tl 70 #[vl A, vl B, .bool true] (.tuple #[vl C, .bool true]) := by
  intro w
  unfold vl at *
  have HNG := Lib.hid hn
  have HT := Lib.hid T
  have HX := Lib.hid X
  have HA := Lib.hid hA
  have HB := Lib.hid hB
  have HC := Lib.hid hC
  have HM := Lib.hid hm
  have HK := Lib.hid hk
  have HD := Lib.hid hd
  unfold Tl at HT HX
  clear T X hA hB hC hm hk hd hn
  have b3 := (((Blk.new w (A) 27 rfl).old (.cells (B).toArray 27)).old (.cells (rr false 0 false 0).toArray 27))
  have b4 := ((Blk.new (w.alloc (.cells (A).toArray 27)) (B) 27 (b := w.heap.size + 1) (by simp)).old (.cells (rr false 0 false 0).toArray 27))
  have b6 := (Blk.new ((w.alloc (.cells (A).toArray 27)).alloc (.cells (B).toArray 27)) (rr false 0 false 0) 27 (b := w.heap.size + 1 + 1) (by simp))
  have hb : Below w.heap.size w (((w.alloc (.cells (A).toArray 27)).alloc (.cells (B).toArray 27)).alloc (.cells (rr false 0 false 0).toArray 27)) := ((((Below.refl _ _).alloc (Nat.le_refl _) _).alloc (by simp <;> omega) _).alloc (by simp <;> omega) _)
  have hk : (((w.alloc (.cells (A).toArray 27)).alloc (.cells (B).toArray 27)).alloc (.cells (rr false 0 false 0).toArray 27)).heap.size = w.heap.size + 1 + 1 + 1 := by simp
  go_enter Tryz.func70, Tryz.ntmps70
  go_wp2_with (first | (with_reducible refine ldA' rfl rfl rfl b3 HA.out ?_) | (with_reducible refine ldA' rfl rfl rfl b4 HB.out ?_) | (with_reducible refine alR rfl rfl ?_))
  try rw [show ((w.alloc (.cells (A).toArray 27)).alloc (.cells (B).toArray 27)).heap.size = w.heap.size + 1 + 1 by simp]
  clear hk
  refine (HT.out _).mono ?_
  rintro e w1 ⟨rfl, h1⟩
  replace b6 := b6.call h1
  replace hb := bthen hb h1
  clear h1
  go_wp2_with (first | (with_reducible refine negL HNG.out rn rfl rfl rfl ?_) | (with_reducible refine mulL HM.out rm rfl rfl rfl rfl ?_) | (with_reducible refine mulL HK.out rk rfl rfl rfl rfl ?_) | (with_reducible refine mulL HD.out rd rfl rfl rfl rfl ?_) | (with_reducible refine addL ht rt rfl rfl rfl rfl ?_))
  refine (HX.out _).mono ?_
  rintro e w1 ⟨rfl, h1⟩
  replace b6 := b6.call h1
  replace hb := bthen hb h1
  clear h1
  go_wp2_with (first | (with_reducible refine stQ rfl rfl rfl rfl b6 (rr_length _ _ _ _) HC.out ?_))
  exact ret_ct (cs := C) rfl rfl rfl rfl HC.out.whole (b6.row _) ⟨rfl, below_row hb (by omega) _⟩
set_option maxHeartbeats 8000000 in
theorem plus_g {n d m e N D K p q r s : Int} (ls : Bool) (hn : fits n) (hd : fits d) (hm : fits m) (he : fits e) (T : Tl 19 #[vf n d, vf m e] (.tuple #[.int .i64 p, .int .i64 q, .int .i64 r, .int .i64 s, .bool false])) (B : Tl 20 #[vf n d, vf m e] (.bool true))
    (HP : Hid (nw (n.natAbs * e.natAbs) ≤ 900 ∧ nw (m.natAbs * d.natAbs) ≤ 900)) (HE : Hid (zn (decide (n < 0)) (n.natAbs * e.natAbs) + zn (decide (m < 0) != ls) (m.natAbs * d.natAbs) = K))
    (HR : Hid (∀ {u v : Value} {w : World} {g : Bool} {M : Nat}, Mv w u M → zn g M = K → Mv w v (d.natAbs * e.natAbs) → Calls Tryz.prog 72 #[.bool g, u, v] w fun e w' => e = .returned (.tuple #[.agg (fr N D).toArray, .bool true]) ∧ Below w.heap.size w w')) :
    Tl 70 #[vf n d, vf m e, .bool ls] (.tuple #[vf N D, .bool true]) := by
  intro w
  unfold vf at *
  have HT := Lib.hid T
  have HB := Lib.hid B
  have N1 := Lib.hid (fun w => neg_mk hn w)
  have N2 := Lib.hid (fun w => neg_mk hm w)
  have O1 := Lib.hid (fun w => of_mk hn w)
  have O2 := Lib.hid (fun w => of_mk hd w)
  have O3 := Lib.hid (fun w => of_mk hm w)
  have O4 := Lib.hid (fun w => of_mk he w)
  have HL : Hid (nw n.natAbs ≤ 400 ∧ nw d.natAbs ≤ 400 ∧ nw m.natAbs ≤ 400 ∧ nw e.natAbs ≤ 400) := by
    have h1 := nw_le_of hn
    have h2 := nw_le_of hd
    have h3 := nw_le_of hm
    have h4 := nw_le_of he
    exact ⟨by omega, by omega, by omega, by omega⟩
  unfold Tl at HT HB
  try unfold vw at N1 N2
  obtain ⟨g1, hg1⟩ : ∃ s, decide (n < 0) = s := ⟨_, rfl⟩
  obtain ⟨g2, hg2⟩ : ∃ s, decide (m < 0) = s := ⟨_, rfl⟩
  rw [hg1] at N1 HE
  rw [hg2] at N2 HE
  clear T B hn hd hm he hg1 hg2
  have b3 := (((Blk.new w (fr n d) 27 rfl).old (.cells (fr m e).toArray 27)).old (.cells (rr false 0 false 0).toArray 27))
  have b4 := ((Blk.new (w.alloc (.cells (fr n d).toArray 27)) (fr m e) 27 (b := w.heap.size + 1) (by simp)).old (.cells (rr false 0 false 0).toArray 27))
  have b6 := (Blk.new ((w.alloc (.cells (fr n d).toArray 27)).alloc (.cells (fr m e).toArray 27)) (rr false 0 false 0) 27 (b := w.heap.size + 1 + 1) (by simp))
  have hb : Below w.heap.size w (((w.alloc (.cells (fr n d).toArray 27)).alloc (.cells (fr m e).toArray 27)).alloc (.cells (rr false 0 false 0).toArray 27)) := ((((Below.refl _ _).alloc (Nat.le_refl _) _).alloc (by simp <;> omega) _).alloc (by simp <;> omega) _)
  have hk : (((w.alloc (.cells (fr n d).toArray 27)).alloc (.cells (fr m e).toArray 27)).alloc (.cells (rr false 0 false 0).toArray 27)).heap.size = w.heap.size + 1 + 1 + 1 := by simp
  go_enter Tryz.func70, Tryz.ntmps70
  go_wp2_with (first | (with_reducible refine alR rfl rfl ?_) | (with_reducible refine ldFr rfl rfl rfl b3 ?_) | (with_reducible refine ldFr rfl rfl rfl b4 ?_))
  try rw [show ((w.alloc (.cells (fr n d).toArray 27)).alloc (.cells (fr m e).toArray 27)).heap.size = w.heap.size + 1 + 1 by simp]
  refine (HT.out _).mono ?_
  rintro e w1 ⟨rfl, h1⟩
  replace b3 := b3.call h1
  replace b4 := b4.call h1
  replace b6 := b6.call h1
  replace hb := bthen hb h1
  clear h1
  go_wp2_with (first | (with_reducible refine ldFr rfl rfl rfl b3 ?_) | (with_reducible refine ldFr rfl rfl rfl b4 ?_))
  refine (HB.out _).mono ?_
  rintro e w1 ⟨rfl, h1⟩
  replace b3 := b3.call h1
  replace b4 := b4.call h1
  replace b6 := b6.call h1
  replace hb := bthen hb h1
  clear h1
  go_wp2_with fail
  refine rg_start [] (by kernel_rfl) (fun hS => ?_)
  replace hb := hb.drew
  refine rg_take 0 rfl (by kernel_rfl) (by kernel_rfl) (by kernel_rfl) (by rfl) hS (v := ?_) ?_ ?_
  rotate_left
  · (intro w' hS'; go_simp <;> try with_reducible rfl)
  try simp only [Act.put, List.setIfInBounds_toArray, List.set_cons_zero, List.set_cons_succ]
  refine rg_ldP 1 rfl (by kernel_rfl) (by kernel_rfl) (by kernel_rfl) (by rfl) hS rfl rfl b3 (by simp <;> omega) (partF_n _ _) (wholeM _) ?_
  try simp only [Act.put, List.setIfInBounds_toArray, List.set_cons_zero, List.set_cons_succ]
  refine rg_take 3 rfl (by kernel_rfl) (by kernel_rfl) (by kernel_rfl) (by rfl) hS (v := ?_) ?_ ?_
  rotate_left
  · (intro w' hS'; go_simp <;> try with_reducible rfl)
  try simp only [Act.put, List.setIfInBounds_toArray, List.set_cons_zero, List.set_cons_succ]
  refine rg_ldP 4 rfl (by kernel_rfl) (by kernel_rfl) (by kernel_rfl) (by rfl) hS rfl rfl b3 (by simp <;> omega) (partF_n _ _) (wholeM _) ?_
  try simp only [Act.put, List.setIfInBounds_toArray, List.set_cons_zero, List.set_cons_succ]
  refine rg_take 6 rfl (by kernel_rfl) (by kernel_rfl) (by kernel_rfl) (by rfl) hS (v := ?_) ?_ ?_
  rotate_left
  · (intro w' hS'; go_simp <;> try with_reducible rfl)
  try simp only [Act.put, List.setIfInBounds_toArray, List.set_cons_zero, List.set_cons_succ]
  refine rg_ldP 7 rfl (by kernel_rfl) (by kernel_rfl) (by kernel_rfl) (by rfl) hS rfl rfl b4 (by simp <;> omega) (partF_d _ _) (wholeM _) ?_
  try simp only [Act.put, List.setIfInBounds_toArray, List.set_cons_zero, List.set_cons_succ]
  refine rg_take 10 rfl (by kernel_rfl) (by kernel_rfl) (by kernel_rfl) (by rfl) hS (v := ?_) ?_ ?_
  rotate_left
  · (intro w' hS'; go_simp <;> try with_reducible rfl)
  try simp only [Act.put, List.setIfInBounds_toArray, List.set_cons_zero, List.set_cons_succ]
  refine rg_ldP 11 rfl (by kernel_rfl) (by kernel_rfl) (by kernel_rfl) (by rfl) hS rfl rfl b4 (by simp <;> omega) (partF_n _ _) (wholeM _) ?_
  try simp only [Act.put, List.setIfInBounds_toArray, List.set_cons_zero, List.set_cons_succ]
  refine rg_take 13 rfl (by kernel_rfl) (by kernel_rfl) (by kernel_rfl) (by rfl) hS (v := ?_) ?_ ?_
  rotate_left
  · (intro w' hS'; go_simp <;> try with_reducible rfl)
  try simp only [Act.put, List.setIfInBounds_toArray, List.set_cons_zero, List.set_cons_succ]
  refine rg_take 15 rfl (by kernel_rfl) (by kernel_rfl) (by kernel_rfl) (by rfl) hS (v := ?_) ?_ ?_
  rotate_left
  · (intro w' hS'; go_simp <;> try with_reducible rfl)
  try simp only [Act.put, List.setIfInBounds_toArray, List.set_cons_zero, List.set_cons_succ]
  refine rg_ldP 16 rfl (by kernel_rfl) (by kernel_rfl) (by kernel_rfl) (by rfl) hS rfl rfl b4 (by simp <;> omega) (partF_n _ _) (wholeM _) ?_
  try simp only [Act.put, List.setIfInBounds_toArray, List.set_cons_zero, List.set_cons_succ]
  refine rg_take 18 rfl (by kernel_rfl) (by kernel_rfl) (by kernel_rfl) (by rfl) hS (v := ?_) ?_ ?_
  rotate_left
  · (intro w' hS'; go_simp <;> try with_reducible rfl)
  try simp only [Act.put, List.setIfInBounds_toArray, List.set_cons_zero, List.set_cons_succ]
  refine rg_ldP 19 rfl (by kernel_rfl) (by kernel_rfl) (by kernel_rfl) (by rfl) hS rfl rfl b3 (by simp <;> omega) (partF_d _ _) (wholeM _) ?_
  try simp only [Act.put, List.setIfInBounds_toArray, List.set_cons_zero, List.set_cons_succ]
  refine rg_eff 2 rfl (by kernel_rfl) (by rfl) (fun K hK => ?_)
  go_simp
  refine (N1.out _).mono ?_
  rintro e w1 ⟨rfl, h1⟩
  refine hK _ _ (hS.call h1) (fun hS => ?_)
  clear hK K
  replace hb := bthen hb h1
  clear h1
  try simp only [Act.put, List.setIfInBounds_toArray, List.set_cons_zero, List.set_cons_succ]
  refine rg_eff 5 rfl (by kernel_rfl) (by rfl) (fun K hK => ?_)
  go_simp
  refine (O1.out _).mono ?_
  rintro e w1 ⟨va, rfl, ma, h1⟩
  refine hK _ _ (hS.call h1) (fun hS => ?_)
  clear hK K
  replace hb := bthen hb h1
  clear h1
  try simp only [Act.put, List.setIfInBounds_toArray, List.set_cons_zero, List.set_cons_succ]
  refine rg_eff 8 rfl (by kernel_rfl) (by rfl) (fun K hK => ?_)
  go_simp
  refine (O4.out _).mono ?_
  rintro e w1 ⟨vb, rfl, mb, h1⟩
  refine hK _ _ (hS.call h1) (fun hS => ?_)
  clear hK K
  replace ma := ma.call h1
  replace hb := bthen hb h1
  clear h1
  try simp only [Act.put, List.setIfInBounds_toArray, List.set_cons_zero, List.set_cons_succ]
  refine rg_eff 9 rfl (by kernel_rfl) (by rfl) (fun K hK => ?_)
  go_simp
  refine (mul_any ma mb HL.out.1 HL.out.2.2.2).mono ?_
  rintro e w1 ⟨vp, rfl, mp, h1⟩
  refine hK _ _ (hS.call h1) (fun hS => ?_)
  clear hK K
  replace hb := bthen hb h1
  clear h1
  clear ma mb
  try simp only [Act.put, List.setIfInBounds_toArray, List.set_cons_zero, List.set_cons_succ]
  refine rg_eff 12 rfl (by kernel_rfl) (by rfl) (fun K hK => ?_)
  go_simp
  refine (N2.out _).mono ?_
  rintro e w1 ⟨rfl, h1⟩
  refine hK _ _ (hS.call h1) (fun hS => ?_)
  clear hK K
  replace hb := bthen hb h1
  replace mp := mp.call h1
  clear h1
  try simp only [Act.put, List.setIfInBounds_toArray, List.set_cons_zero, List.set_cons_succ]
  refine rg_take 14 rfl (by kernel_rfl) (by kernel_rfl) (by kernel_rfl) (by rfl) hS (v := .bool (g2 != ls)) (fun w' _ => op_neb rfl rfl rfl w') ?_
  try simp only [Act.put, List.setIfInBounds_toArray, List.set_cons_zero, List.set_cons_succ]
  refine rg_eff 17 rfl (by kernel_rfl) (by rfl) (fun K hK => ?_)
  go_simp
  refine (O3.out _).mono ?_
  rintro e w1 ⟨vc, rfl, mc, h1⟩
  refine hK _ _ (hS.call h1) (fun hS => ?_)
  clear hK K
  replace mp := mp.call h1
  replace hb := bthen hb h1
  clear h1
  try simp only [Act.put, List.setIfInBounds_toArray, List.set_cons_zero, List.set_cons_succ]
  refine rg_eff 20 rfl (by kernel_rfl) (by rfl) (fun K hK => ?_)
  go_simp
  refine (O2.out _).mono ?_
  rintro e w1 ⟨vd, rfl, md, h1⟩
  refine hK _ _ (hS.call h1) (fun hS => ?_)
  clear hK K
  replace mp := mp.call h1
  replace mc := mc.call h1
  replace hb := bthen hb h1
  clear h1
  try simp only [Act.put, List.setIfInBounds_toArray, List.set_cons_zero, List.set_cons_succ]
  refine rg_eff 21 rfl (by kernel_rfl) (by rfl) (fun K hK => ?_)
  go_simp
  refine (mul_any mc md HL.out.2.2.1 HL.out.2.1).mono ?_
  rintro e w1 ⟨vr, rfl, mr, h1⟩
  refine hK _ _ (hS.call h1) (fun hS => ?_)
  clear hK K
  replace mp := mp.call h1
  replace hb := bthen hb h1
  clear h1
  clear mc md
  try simp only [Act.put, List.setIfInBounds_toArray, List.set_cons_zero, List.set_cons_succ]
  refine rg_eff 22 rfl (by kernel_rfl) (by rfl) (fun K hK => ?_)
  go_simp
  refine (sum_any g1 (g2 != ls) mp mr HP.out.1 HP.out.2).mono ?_
  rintro e w1 ⟨n0, vs, M0, rfl, ms, es, h1⟩
  refine hK _ _ (hS.call h1) (fun hS => ?_)
  clear hK K
  replace hb := bthen hb h1
  clear h1 mp mr
  try simp only [Act.put, List.setIfInBounds_toArray, List.set_cons_zero, List.set_cons_succ]
  refine rg_take 23 rfl (by kernel_rfl) (by kernel_rfl) (by kernel_rfl) (by rfl) hS (v := ?_) ?_ ?_
  rotate_left
  · (intro w' hS'; go_simp <;> try with_reducible rfl)
  try simp only [Act.put, List.setIfInBounds_toArray, List.set_cons_zero, List.set_cons_succ]
  refine rg_take 24 rfl (by kernel_rfl) (by kernel_rfl) (by kernel_rfl) (by rfl) hS (v := ?_) ?_ ?_
  rotate_left
  · (intro w' hS'; go_simp <;> try with_reducible rfl)
  try simp only [Act.put, List.setIfInBounds_toArray, List.set_cons_zero, List.set_cons_succ]
  refine rg_take 25 rfl (by kernel_rfl) (by kernel_rfl) (by kernel_rfl) (by rfl) hS (v := ?_) ?_ ?_
  rotate_left
  · (intro w' hS'; go_simp <;> try with_reducible rfl)
  try simp only [Act.put, List.setIfInBounds_toArray, List.set_cons_zero, List.set_cons_succ]
  refine rg_take 26 rfl (by kernel_rfl) (by kernel_rfl) (by kernel_rfl) (by rfl) hS (v := ?_) ?_ ?_
  rotate_left
  · (intro w' hS'; go_simp <;> try with_reducible rfl)
  try simp only [Act.put, List.setIfInBounds_toArray, List.set_cons_zero, List.set_cons_succ]
  refine rg_take 27 rfl (by kernel_rfl) (by kernel_rfl) (by kernel_rfl) (by rfl) hS (v := ?_) ?_ ?_
  rotate_left
  · (intro w' hS'; go_simp <;> try with_reducible rfl)
  try simp only [Act.put, List.setIfInBounds_toArray, List.set_cons_zero, List.set_cons_succ]
  refine rg_done (by kernel_rfl) ?_
  replace b3 := b3.keep hS (by simp)
  replace b4 := b4.keep hS (by simp)
  replace b6 := b6.keep hS (by simp)
  have EE : Hid (zn n0 M0 = K) := Lib.hid (es.trans HE.out)
  clear hS es
  go_wp2_with fail
  refine rg_start [w.heap.size + 1 + 1] (by kernel_rfl) (fun hS => ?_)
  replace hb := hb.drew
  replace b6 := b6.drew
  replace ms := mv_keep ms (Keep.drew [] _)
  refine rg_take 0 rfl (by kernel_rfl) (by kernel_rfl) (by kernel_rfl) (by rfl) hS (v := ?_) ?_ ?_
  rotate_left
  · (intro w' hS'; go_simp <;> try with_reducible rfl)
  try simp only [Act.put, List.setIfInBounds_toArray, List.set_cons_zero, List.set_cons_succ]
  refine rg_take 1 rfl (by kernel_rfl) (by kernel_rfl) (by kernel_rfl) (by rfl) hS (v := ?_) ?_ ?_
  rotate_left
  · (intro w' hS'; go_simp <;> try with_reducible rfl)
  try simp only [Act.put, List.setIfInBounds_toArray, List.set_cons_zero, List.set_cons_succ]
  refine rg_take 2 rfl (by kernel_rfl) (by kernel_rfl) (by kernel_rfl) (by rfl) hS (v := ?_) ?_ ?_
  rotate_left
  · (intro w' hS'; go_simp <;> try with_reducible rfl)
  try simp only [Act.put, List.setIfInBounds_toArray, List.set_cons_zero, List.set_cons_succ]
  refine rg_ldP 3 rfl (by kernel_rfl) (by kernel_rfl) (by kernel_rfl) (by rfl) hS rfl rfl b3 (by simp <;> omega) (partF_d _ _) (wholeM _) ?_
  try simp only [Act.put, List.setIfInBounds_toArray, List.set_cons_zero, List.set_cons_succ]
  refine rg_take 5 rfl (by kernel_rfl) (by kernel_rfl) (by kernel_rfl) (by rfl) hS (v := ?_) ?_ ?_
  rotate_left
  · (intro w' hS'; go_simp <;> try with_reducible rfl)
  try simp only [Act.put, List.setIfInBounds_toArray, List.set_cons_zero, List.set_cons_succ]
  refine rg_ldP 6 rfl (by kernel_rfl) (by kernel_rfl) (by kernel_rfl) (by rfl) hS rfl rfl b4 (by simp <;> omega) (partF_d _ _) (wholeM _) ?_
  try simp only [Act.put, List.setIfInBounds_toArray, List.set_cons_zero, List.set_cons_succ]
  refine rg_eff 4 rfl (by kernel_rfl) (by rfl) (fun K hK => ?_)
  go_simp
  refine (O2.out _).mono ?_
  rintro e w1 ⟨va, rfl, ma, h1⟩
  refine hK _ _ (hS.call h1) (fun hS => ?_)
  clear hK K
  replace b6 := b6.call h1
  replace ms := ms.call h1
  replace hb := bthen hb h1
  clear h1
  try simp only [Act.put, List.setIfInBounds_toArray, List.set_cons_zero, List.set_cons_succ]
  refine rg_eff 7 rfl (by kernel_rfl) (by rfl) (fun K hK => ?_)
  go_simp
  refine (O4.out _).mono ?_
  rintro e w1 ⟨vb, rfl, mb, h1⟩
  refine hK _ _ (hS.call h1) (fun hS => ?_)
  clear hK K
  replace b6 := b6.call h1
  replace ms := ms.call h1
  replace ma := ma.call h1
  replace hb := bthen hb h1
  clear h1
  try simp only [Act.put, List.setIfInBounds_toArray, List.set_cons_zero, List.set_cons_succ]
  refine rg_eff 8 rfl (by kernel_rfl) (by rfl) (fun K hK => ?_)
  go_simp
  refine (mul_any ma mb HL.out.2.1 HL.out.2.2.2).mono ?_
  rintro e w1 ⟨vp, rfl, mp, h1⟩
  refine hK _ _ (hS.call h1) (fun hS => ?_)
  clear hK K
  replace b6 := b6.call h1
  replace ms := ms.call h1
  replace hb := bthen hb h1
  clear h1
  clear ma mb
  try simp only [Act.put, List.setIfInBounds_toArray, List.set_cons_zero, List.set_cons_succ]
  refine rg_eff 9 rfl (by kernel_rfl) (by rfl) (fun K hK => ?_)
  go_simp
  refine (HR.out ms EE.out mp).mono ?_
  rintro e w1 ⟨rfl, h1⟩
  refine hK _ _ (hS.call h1) (fun hS => ?_)
  clear hK K
  replace b6 := b6.call h1
  replace hb := bthen hb h1
  clear h1
  try simp only [Act.put, List.setIfInBounds_toArray, List.set_cons_zero, List.set_cons_succ]
  refine rg_take 10 rfl (by kernel_rfl) (by kernel_rfl) (by kernel_rfl) (by rfl) hS (v := ?_) ?_ ?_
  rotate_left
  · (intro w' hS'; go_simp <;> try with_reducible rfl)
  try simp only [Act.put, List.setIfInBounds_toArray, List.set_cons_zero, List.set_cons_succ]
  refine rg_take 11 rfl (by kernel_rfl) (by kernel_rfl) (by kernel_rfl) (by rfl) hS (v := ?_) ?_ ?_
  rotate_left
  · (intro w' hS'; go_simp <;> try with_reducible rfl)
  try simp only [Act.put, List.setIfInBounds_toArray, List.set_cons_zero, List.set_cons_succ]
  refine rg_eff 12 rfl (by kernel_rfl) (by rfl) (fun K hK => ?_)
  refine wp_st (vs := fr N D) rfl rfl rfl b6 (by rw [rr_length, fr_length]) (wholeF _ _) (fr_one _ _) ?_
  refine hK _ _ (hS.row (.inl (by simp)) _) (fun hS => ?_)
  clear hK K
  try simp only [Act.put, List.setIfInBounds_toArray, List.set_cons_zero, List.set_cons_succ]
  refine rg_take 13 rfl (by kernel_rfl) (by kernel_rfl) (by kernel_rfl) (by rfl) hS (v := ?_) ?_ ?_
  rotate_left
  · (intro w' hS'; go_simp <;> try with_reducible rfl)
  try simp only [Act.put, List.setIfInBounds_toArray, List.set_cons_zero, List.set_cons_succ]
  refine rg_done (by kernel_rfl) ?_
  go_wp2
  exact ret_ct (cs := fr N D) (v := .bool true) rfl rfl rfl rfl (wholeF _ _) (b6.row _) ⟨rfl, below_row hb (by omega) _⟩
theorem zn_mu (n e : Int) (he : 0 ≤ e) : zn (decide (n < 0)) (n.natAbs * e.natAbs) = n * e := by
  have h := zn_mul (decide (n < 0)) (decide (e < 0)) n.natAbs e.natAbs
  rw [zn_self, zn_self, decide_eq_false (show ¬ e < 0 by omega), Bool.bne_false] at h
  exact h.symm
theorem zn_mus (m d : Int) (hd : 0 ≤ d) (ls : Bool) : zn (decide (m < 0) != ls) (m.natAbs * d.natAbs) = if ls then -(m * d) else m * d := by
  cases ls with
  | false => rw [Bool.bne_false, zn_mu m d hd]; rfl
  | true =>
    rw [show (decide (m < 0) != true) = !decide (m < 0) by cases decide (m < 0) <;> rfl, zn_flip, zn_mu m d hd]; rfl
theorem plusref_q {j k : Nat} {x y z : Rat} (ls : Bool) (h : Bq j x) (hj : j ≤ 500) (h' : Bq k y) (hk : k ≤ 500) (hz : z = if ls then x - y else x + y) : Tl 70 #[vq x, vq y, .bool ls] (.tuple #[vq z, .bool true]) := by
  have e : z = Rat.divInt (x.num * y.den + if ls then -(y.num * x.den) else y.num * x.den) (x.den * y.den) := by
    rw [hz]
    cases ls with
    | false => exact add_q x y
    | true => rw [if_pos rfl, if_pos rfl, ← Int.sub_eq_add_neg]; exact sub_q x y
  rw [e]
  by_cases ht : Bq 31 x ∧ Bq 31 y
  · have h1 := lt62 ht.1.1 ht.2.2
    have h2 := lt62 ht.2.1 ht.1.2
    obtain ⟨h3, h4⟩ := dd62 ht.1 ht.2
    have h5 : y.num.natAbs < 2 ^ 31 := ht.2.1
    cases ls with
    | false =>
      rw [if_neg (by decide)]
      exact plus_t (rc_q _) (rc_q _) (rc_q _) (tinies_yes ht.1 ht.2) rfl rfl rfl rfl (by omega) (by omega) (by omega) (by omega) (quick_any (by omega) h3 (by omega))
    | true =>
      rw [if_pos rfl]
      have e1 : -y.num * x.den = -(y.num * x.den) := Int.neg_mul _ _
      exact plus_s (rc_q _) (rc_q _) (rc_q _) (tinies_yes ht.1 ht.2) rfl (by omega) rfl e1 rfl rfl (by omega) (by omega) (by omega) (by omega) (quick_any (by omega) h3 (by omega))
  · obtain ⟨p, q, r, s, T⟩ := tinies_no h (by omega) h' (by omega) ht
    have z1 := sz_mul h.1 h'.2
    have z2 := sz_mul h'.1 h.2
    have z3 := sz_mul h.2 h'.2
    rw [Nat.add_comm] at z2
    have z4 : Sz (j + k + 1) (x.num * y.den + if ls then -(y.num * x.den) else y.num * x.den) := by
      cases ls with
      | false => exact sz_add z1 z2
      | true => exact sz_add z1 (sz_neg z2)
    have w1 := sz_nw z1 (by omega)
    have w2 := sz_nw z2 (by omega)
    rw [Int.natAbs_mul] at w1 w2
    refine plus_g ls (h.fn (by omega)) (h.fd (by omega)) (h'.fn (by omega)) (h'.fd (by omega)) T (bothref_q h hj h' hk) (Lib.hid ⟨by omega, by omega⟩) (Lib.hid (by rw [zn_mu _ _ (by omega), zn_mus _ _ (by omega)])) ?_
    apply Lib.hid
    intro u v w g M m1 hg m2
    have eM : M = (x.num * y.den + if ls then -(y.num * x.den) else y.num * x.den).natAbs := by rw [← hg, zn_abs]
    have R := rat_z (s := g) (z := x.num * y.den + if ls then -(y.num * x.den) else y.num * x.den) hg m1 m2 (by rw [eM]; exact sz_nw z4 (by omega)) (by rw [← Int.natAbs_mul]; exact sz_nw z3 (by omega)) (by
      have := q_pos x
      have := q_pos y
      exact Nat.mul_ne_zero (by omega) (by omega))
    rw [nat_den] at R
    exact R
set_option maxHeartbeats 1000000 in
theorem SubRat_w {A B N : List Value} (hA : Rc A) (hB : Rc B) (hN : Rc N) (T : Tl 70 #[vl A, vl B, .bool true] (.tuple #[vl N, .bool true])) : Tl 49 #[vl A, vl B] (.tuple #[vl N, .bool true]) := by
  intro w
  unfold vl at *
  have HT := Lib.hid T
  have HA := Lib.hid hA
  have HB := Lib.hid hB
  have HN := Lib.hid hN
  unfold Tl at HT
  clear T hA hB hN
  have b2 := (((Blk.new w (A) 27 rfl).old (.cells (B).toArray 27)).old (.cells (rr false 0 false 0).toArray 27))
  have b3 := ((Blk.new (w.alloc (.cells (A).toArray 27)) (B) 27 (b := w.heap.size + 1) (by simp)).old (.cells (rr false 0 false 0).toArray 27))
  have b4 := (Blk.new ((w.alloc (.cells (A).toArray 27)).alloc (.cells (B).toArray 27)) (rr false 0 false 0) 27 (b := w.heap.size + 1 + 1) (by simp))
  have hb : Below w.heap.size w (((w.alloc (.cells (A).toArray 27)).alloc (.cells (B).toArray 27)).alloc (.cells (rr false 0 false 0).toArray 27)) := ((((Below.refl _ _).alloc (Nat.le_refl _) _).alloc (by simp <;> omega) _).alloc (by simp <;> omega) _)
  have hk : (((w.alloc (.cells (A).toArray 27)).alloc (.cells (B).toArray 27)).alloc (.cells (rr false 0 false 0).toArray 27)).heap.size = w.heap.size + 1 + 1 + 1 := by simp
  go_enter Tryz.func49, Tryz.ntmps49
  go_wp2_with (first | (with_reducible refine alR rfl rfl ?_) | (with_reducible refine ldA' rfl rfl rfl b2 HA.out ?_) | (with_reducible refine ldA' rfl rfl rfl b3 HB.out ?_))
  try rw [show ((w.alloc (.cells A.toArray 27)).alloc (.cells B.toArray 27)).heap.size = w.heap.size + 1 + 1 by simp]
  refine (HT.out _).mono ?_
  rintro e w1 ⟨rfl, h1⟩
  replace b4 := b4.call h1
  replace hb := bthen hb h1
  clear h1
  go_wp2_with (first | (with_reducible refine stQ rfl rfl rfl rfl b4 (rr_length _ _ _ _) HN.out ?_))
  exact ret_ct (cs := N) (v := .bool true) rfl rfl rfl rfl HN.out.whole (b4.row _) ⟨rfl, below_row hb (by omega) _⟩
theorem SubRat_q {j k : Nat} {x y : Rat} (h : Bq j x) (hj : j ≤ 500) (h' : Bq k y) (hk : k ≤ 500) : Tl 49 #[vq x, vq y] (.tuple #[vq (x - y), .bool true]) :=
  SubRat_w (rc_q _) (rc_q _) (rc_q _) (plusref_q true h hj h' hk rfl)
end Go.Proofs.YtckolhalggcenaaGreat

/- The reference's points: less, times, Cross, Turn. -/
namespace Go.Proofs.YtckolhalggcenaaGreat
set_option linter.unusedSimpArgs false
set_option linter.unusedVariables false
open Go.RowKit
set_option maxRecDepth 100000
set_option maxHeartbeats 1000000 in
theorem less3_walk {A B N : List Value} (hA : Rc A) (hB : Rc B) (hN : Rc N) (T : Tl 49 #[vl A, vl B] (.tuple #[vl N, .bool true])) : Tl 30 #[vl A, vl B] (vl N) := by
  intro w
  unfold vl at *
  have HT := Lib.hid T
  have HA := Lib.hid hA
  have HB := Lib.hid hB
  have HN := Lib.hid hN
  unfold Tl at HT
  clear T hA hB hN
  have b2 := ((Blk.new w A 27 rfl).old (.cells B.toArray 27)).old (.cells (rr false 0 false 0).toArray 27)
  have b3 := (Blk.new (w.alloc (.cells A.toArray 27)) B 27 (b := w.heap.size + 1) (by simp)).old (.cells (rr false 0 false 0).toArray 27)
  have b4 := Blk.new ((w.alloc (.cells A.toArray 27)).alloc (.cells B.toArray 27)) (rr false 0 false 0) 27 (b := w.heap.size + 1 + 1) (by simp)
  have hb : Below w.heap.size w (((w.alloc (.cells A.toArray 27)).alloc (.cells B.toArray 27)).alloc (.cells (rr false 0 false 0).toArray 27)) := (((Below.refl _ _).alloc (Nat.le_refl _) _).alloc (by simp) _).alloc (by simp; omega) _
  go_enter Tryz.func30, Tryz.ntmps30
  go_wp2_with (first | (with_reducible refine alR rfl rfl ?_) | (with_reducible refine ldA' rfl rfl rfl b2 HA.out ?_) | (with_reducible refine ldA' rfl rfl rfl b3 HB.out ?_))
  try rw [show ((w.alloc (.cells A.toArray 27)).alloc (.cells B.toArray 27)).heap.size = w.heap.size + 1 + 1 by simp]
  refine (HT.out _).mono ?_
  rintro e w1 ⟨rfl, h1⟩
  replace b4 := b4.call h1
  replace hb := bthen hb h1
  clear h1
  have l4 := b4.lt
  have f := Blk.new w1 (rr false 0 false 0) 27 rfl
  have b5 := laid_n w1 (rr false 0 false 0) (N) 27
  replace b4 := laid_o b4 (rr false 0 false 0) (N) 27
  replace hb := laid_b hb (rr false 0 false 0) (N) 27
  go_wp2_with (first | (with_reducible refine alR rfl rfl ?_) | (with_reducible refine stQ rfl rfl rfl rfl f (rr_length _ _ _ _) HN.out ?_) | (with_reducible refine ldA' rfl rfl rfl b5 HN.out ?_) | (with_reducible refine stQ rfl rfl rfl rfl b4 (rr_length _ _ _ _) HN.out ?_))
  clear f
  generalize (w1.alloc (.cells (rr false 0 false 0).toArray 27)).setRow w1.heap.size (N).toArray = W at *
  generalize w1.heap.size = pl_b5 at *
  exact ret_c (cs := N) rfl rfl rfl HN.out.whole (b4.row _) ⟨rfl, below_row hb (by omega) _⟩
set_option maxHeartbeats 1000000 in
theorem times3_walk {A B N : List Value} (hA : Rc A) (hB : Rc B) (hN : Rc N) (T : Tl 50 #[vl A, vl B] (.tuple #[vl N, .bool true])) : Tl 31 #[vl A, vl B] (vl N) := by
  intro w
  unfold vl at *
  have HT := Lib.hid T
  have HA := Lib.hid hA
  have HB := Lib.hid hB
  have HN := Lib.hid hN
  unfold Tl at HT
  clear T hA hB hN
  have b2 := ((Blk.new w A 27 rfl).old (.cells B.toArray 27)).old (.cells (rr false 0 false 0).toArray 27)
  have b3 := (Blk.new (w.alloc (.cells A.toArray 27)) B 27 (b := w.heap.size + 1) (by simp)).old (.cells (rr false 0 false 0).toArray 27)
  have b4 := Blk.new ((w.alloc (.cells A.toArray 27)).alloc (.cells B.toArray 27)) (rr false 0 false 0) 27 (b := w.heap.size + 1 + 1) (by simp)
  have hb : Below w.heap.size w (((w.alloc (.cells A.toArray 27)).alloc (.cells B.toArray 27)).alloc (.cells (rr false 0 false 0).toArray 27)) := (((Below.refl _ _).alloc (Nat.le_refl _) _).alloc (by simp) _).alloc (by simp; omega) _
  go_enter Tryz.func31, Tryz.ntmps31
  go_wp2_with (first | (with_reducible refine alR rfl rfl ?_) | (with_reducible refine ldA' rfl rfl rfl b2 HA.out ?_) | (with_reducible refine ldA' rfl rfl rfl b3 HB.out ?_))
  try rw [show ((w.alloc (.cells A.toArray 27)).alloc (.cells B.toArray 27)).heap.size = w.heap.size + 1 + 1 by simp]
  refine (HT.out _).mono ?_
  rintro e w1 ⟨rfl, h1⟩
  replace b4 := b4.call h1
  replace hb := bthen hb h1
  clear h1
  have l4 := b4.lt
  have f := Blk.new w1 (rr false 0 false 0) 27 rfl
  have b5 := laid_n w1 (rr false 0 false 0) (N) 27
  replace b4 := laid_o b4 (rr false 0 false 0) (N) 27
  replace hb := laid_b hb (rr false 0 false 0) (N) 27
  go_wp2_with (first | (with_reducible refine alR rfl rfl ?_) | (with_reducible refine stQ rfl rfl rfl rfl f (rr_length _ _ _ _) HN.out ?_) | (with_reducible refine ldA' rfl rfl rfl b5 HN.out ?_) | (with_reducible refine stQ rfl rfl rfl rfl b4 (rr_length _ _ _ _) HN.out ?_))
  clear f
  generalize (w1.alloc (.cells (rr false 0 false 0).toArray 27)).setRow w1.heap.size (N).toArray = W at *
  generalize w1.heap.size = pl_b5 at *
  exact ret_c (cs := N) rfl rfl rfl HN.out.whole (b4.row _) ⟨rfl, below_row hb (by omega) _⟩
theorem less3_q {j k : Nat} {x y : Rat} (h : Bq j x) (hj : j ≤ 500) (h' : Bq k y) (hk : k ≤ 500) : Tl 30 #[vl (fq x), vl (fq y)] (vl (fq (x - y))) := less3_walk (rc_q x) (rc_q y) (rc_q _) (SubRat_q h hj h' hk)
theorem times3_q {j k : Nat} {x y : Rat} (h : Bq j x) (hj : j ≤ 500) (h' : Bq k y) (hk : k ≤ 500) : Tl 31 #[vl (fq x), vl (fq y)] (vl (fq (x * y))) := times3_walk (rc_q x) (rc_q y) (rc_q _) (MulRatref_q h hj h' hk)
set_option maxHeartbeats 4000000 in
theorem Cross3_walk {A B C D E F U1 U2 U3 U4 P1 P2 N : List Value} (hA : Rc A) (hB : Rc B) (hC : Rc C) (hD : Rc D) (hE : Rc E) (hF : Rc F) (hN : Rc N)
    (T1 : Tl 29 #[vl (A ++ B)] (.bool true)) (T2 : Tl 29 #[vl (C ++ D)] (.bool true)) (T3 : Tl 29 #[vl (E ++ F)] (.bool true))
    (L1 : Tl 30 #[vl C, vl A] (vl U1)) (L2 : Tl 30 #[vl F, vl B] (vl U2)) (L3 : Tl 30 #[vl D, vl B] (vl U3)) (L4 : Tl 30 #[vl E, vl A] (vl U4))
    (M1 : Tl 31 #[vl U1, vl U2] (vl P1)) (M2 : Tl 31 #[vl U3, vl U4] (vl P2)) (S : Tl 30 #[vl P1, vl P2] (vl N)) :
    Tl 14 #[vl (A ++ B), vl (C ++ D), vl (E ++ F)] (.tuple #[vl N, .bool true]) := by
  intro w
  have HL1 := Lib.hid L1
  have HL2 := Lib.hid L2
  have HL3 := Lib.hid L3
  have HL4 := Lib.hid L4
  have HM1 := Lib.hid M1
  have HM2 := Lib.hid M2
  have HS := Lib.hid S
  have HN := Lib.hid hN
  unfold Tl at HL1 HL2 HL3 HL4 HM1 HM2 HS
  unfold vl at HL1 HL2 HL3 HL4 HM1 HM2 HS
  clear hN L1 L2 L3 L4 M1 M2 S
  unfold vl at *
  have HA := Lib.hid hA
  have HB := Lib.hid hB
  have HC := Lib.hid hC
  have HD := Lib.hid hD
  have HE := Lib.hid hE
  have HF := Lib.hid hF
  have HT1 := Lib.hid T1
  have HT2 := Lib.hid T2
  have HT3 := Lib.hid T3
  unfold Tl at HT1 HT2 HT3
  clear hA hB hC hD hE hF T1 T2 T3
  have b3 := ((((Blk.new w (A ++ B) 29 rfl).old (.cells (C ++ D).toArray 29)).old (.cells (E ++ F).toArray 29)).old (.cells (rr false 0 false 0).toArray 27))
  have b4 := (((Blk.new (w.alloc (.cells (A ++ B).toArray 29)) (C ++ D) 29 (b := w.heap.size + 1) (by simp)).old (.cells (E ++ F).toArray 29)).old (.cells (rr false 0 false 0).toArray 27))
  have b5 := ((Blk.new ((w.alloc (.cells (A ++ B).toArray 29)).alloc (.cells (C ++ D).toArray 29)) (E ++ F) 29 (b := w.heap.size + 1 + 1) (by simp)).old (.cells (rr false 0 false 0).toArray 27))
  have b6 := (Blk.new (((w.alloc (.cells (A ++ B).toArray 29)).alloc (.cells (C ++ D).toArray 29)).alloc (.cells (E ++ F).toArray 29)) (rr false 0 false 0) 27 (b := w.heap.size + 1 + 1 + 1) (by simp))
  have hb : Below w.heap.size w ((((w.alloc (.cells (A ++ B).toArray 29)).alloc (.cells (C ++ D).toArray 29)).alloc (.cells (E ++ F).toArray 29)).alloc (.cells (rr false 0 false 0).toArray 27)) := (((((Below.refl _ _).alloc (Nat.le_refl _) _).alloc (by simp <;> omega) _).alloc (by simp <;> omega) _).alloc (by simp <;> omega) _)
  have hk : ((((w.alloc (.cells (A ++ B).toArray 29)).alloc (.cells (C ++ D).toArray 29)).alloc (.cells (E ++ F).toArray 29)).alloc (.cells (rr false 0 false 0).toArray 27)).heap.size = w.heap.size + 1 + 1 + 1 + 1 := by simp
  go_enter Tryz.func14, Tryz.ntmps14
  go_wp2_with (first | (with_reducible refine alR rfl rfl ?_) | (with_reducible refine ldPt rfl rfl rfl b3 HA.out HB.out ?_))
  try rw [show (((w.alloc (.cells (A ++ B).toArray 29)).alloc (.cells (C ++ D).toArray 29)).alloc (.cells (E ++ F).toArray 29)).heap.size = w.heap.size + 1 + 1 + 1 by simp]
  refine (HT1.out _).mono ?_
  rintro e w1 ⟨rfl, h1⟩
  replace b3 := b3.call h1
  replace b4 := b4.call h1
  replace b5 := b5.call h1
  replace b6 := b6.call h1
  replace hb := bthen hb h1
  clear h1
  go_wp2_with (first | (refine ldPtg (by rfl) rfl rfl b4 HC.out HD.out ?_))
  refine (HT2.out _).mono ?_
  rintro e w1 ⟨rfl, h1⟩
  replace b3 := b3.call h1
  replace b4 := b4.call h1
  replace b5 := b5.call h1
  replace b6 := b6.call h1
  replace hb := bthen hb h1
  clear h1
  go_wp2_with (first | (refine ldPtg (by rfl) rfl rfl b5 HE.out HF.out ?_))
  refine (HT3.out _).mono ?_
  rintro e w1 ⟨rfl, h1⟩
  replace b3 := b3.call h1
  replace b4 := b4.call h1
  replace b5 := b5.call h1
  replace b6 := b6.call h1
  replace hb := bthen hb h1
  clear h1
  clear HT1 HT2 HT3 hk
  go_wp2_with fail
  refine rg_start [w.heap.size + 1 + 1 + 1] (by kernel_rfl) (fun hS => ?_)
  replace hb := hb.drew
  replace b6 := b6.drew
  refine rg_take 0 rfl (by kernel_rfl) (by kernel_rfl) (by kernel_rfl) (by rfl) hS (v := ?_) ?_ ?_
  rotate_left
  · (intro w' hS'; go_simp <;> try with_reducible rfl)
  try simp only [Act.put, List.setIfInBounds_toArray, List.set_cons_zero, List.set_cons_succ]
  refine rg_ldP 1 rfl (by kernel_rfl) (by kernel_rfl) (by kernel_rfl) (by rfl) hS rfl rfl b4 (by simp <;> omega) partX HC.out.whole ?_
  try simp only [Act.put, List.setIfInBounds_toArray, List.set_cons_zero, List.set_cons_succ]
  refine rg_take 2 rfl (by kernel_rfl) (by kernel_rfl) (by kernel_rfl) (by rfl) hS (v := ?_) ?_ ?_
  rotate_left
  · (intro w' hS'; go_simp <;> try with_reducible rfl)
  try simp only [Act.put, List.setIfInBounds_toArray, List.set_cons_zero, List.set_cons_succ]
  refine rg_ldP 3 rfl (by kernel_rfl) (by kernel_rfl) (by kernel_rfl) (by rfl) hS rfl rfl b3 (by simp <;> omega) partX HA.out.whole ?_
  try simp only [Act.put, List.setIfInBounds_toArray, List.set_cons_zero, List.set_cons_succ]
  refine rg_take 5 rfl (by kernel_rfl) (by kernel_rfl) (by kernel_rfl) (by rfl) hS (v := ?_) ?_ ?_
  rotate_left
  · (intro w' hS'; go_simp <;> try with_reducible rfl)
  try simp only [Act.put, List.setIfInBounds_toArray, List.set_cons_zero, List.set_cons_succ]
  refine rg_ldP 6 rfl (by kernel_rfl) (by kernel_rfl) (by kernel_rfl) (by rfl) hS rfl rfl b5 (by simp <;> omega) (partY HE.out) HF.out.whole ?_
  try simp only [Act.put, List.setIfInBounds_toArray, List.set_cons_zero, List.set_cons_succ]
  refine rg_take 7 rfl (by kernel_rfl) (by kernel_rfl) (by kernel_rfl) (by rfl) hS (v := ?_) ?_ ?_
  rotate_left
  · (intro w' hS'; go_simp <;> try with_reducible rfl)
  try simp only [Act.put, List.setIfInBounds_toArray, List.set_cons_zero, List.set_cons_succ]
  refine rg_ldP 8 rfl (by kernel_rfl) (by kernel_rfl) (by kernel_rfl) (by rfl) hS rfl rfl b3 (by simp <;> omega) (partY HA.out) HB.out.whole ?_
  try simp only [Act.put, List.setIfInBounds_toArray, List.set_cons_zero, List.set_cons_succ]
  refine rg_take 11 rfl (by kernel_rfl) (by kernel_rfl) (by kernel_rfl) (by rfl) hS (v := ?_) ?_ ?_
  rotate_left
  · (intro w' hS'; go_simp <;> try with_reducible rfl)
  try simp only [Act.put, List.setIfInBounds_toArray, List.set_cons_zero, List.set_cons_succ]
  refine rg_ldP 12 rfl (by kernel_rfl) (by kernel_rfl) (by kernel_rfl) (by rfl) hS rfl rfl b4 (by simp <;> omega) (partY HC.out) HD.out.whole ?_
  try simp only [Act.put, List.setIfInBounds_toArray, List.set_cons_zero, List.set_cons_succ]
  refine rg_take 13 rfl (by kernel_rfl) (by kernel_rfl) (by kernel_rfl) (by rfl) hS (v := ?_) ?_ ?_
  rotate_left
  · (intro w' hS'; go_simp <;> try with_reducible rfl)
  try simp only [Act.put, List.setIfInBounds_toArray, List.set_cons_zero, List.set_cons_succ]
  refine rg_ldP 14 rfl (by kernel_rfl) (by kernel_rfl) (by kernel_rfl) (by rfl) hS rfl rfl b3 (by simp <;> omega) (partY HA.out) HB.out.whole ?_
  try simp only [Act.put, List.setIfInBounds_toArray, List.set_cons_zero, List.set_cons_succ]
  refine rg_take 16 rfl (by kernel_rfl) (by kernel_rfl) (by kernel_rfl) (by rfl) hS (v := ?_) ?_ ?_
  rotate_left
  · (intro w' hS'; go_simp <;> try with_reducible rfl)
  try simp only [Act.put, List.setIfInBounds_toArray, List.set_cons_zero, List.set_cons_succ]
  refine rg_ldP 17 rfl (by kernel_rfl) (by kernel_rfl) (by kernel_rfl) (by rfl) hS rfl rfl b5 (by simp <;> omega) partX HE.out.whole ?_
  try simp only [Act.put, List.setIfInBounds_toArray, List.set_cons_zero, List.set_cons_succ]
  refine rg_take 18 rfl (by kernel_rfl) (by kernel_rfl) (by kernel_rfl) (by rfl) hS (v := ?_) ?_ ?_
  rotate_left
  · (intro w' hS'; go_simp <;> try with_reducible rfl)
  try simp only [Act.put, List.setIfInBounds_toArray, List.set_cons_zero, List.set_cons_succ]
  refine rg_ldP 19 rfl (by kernel_rfl) (by kernel_rfl) (by kernel_rfl) (by rfl) hS rfl rfl b3 (by simp <;> omega) partX HA.out.whole ?_
  try simp only [Act.put, List.setIfInBounds_toArray, List.set_cons_zero, List.set_cons_succ]
  refine rg_eff 4 rfl (by kernel_rfl) (by rfl) (fun K hK => ?_)
  go_simp
  refine (HL1.out _).mono ?_
  rintro e w1 ⟨rfl, h1⟩
  refine hK _ _ (hS.call h1) (fun hS => ?_)
  clear hK K
  replace b6 := b6.call h1
  replace hb := bthen hb h1
  clear h1
  try simp only [Act.put, List.setIfInBounds_toArray, List.set_cons_zero, List.set_cons_succ]
  refine rg_eff 9 rfl (by kernel_rfl) (by rfl) (fun K hK => ?_)
  go_simp
  refine (HL2.out _).mono ?_
  rintro e w1 ⟨rfl, h1⟩
  refine hK _ _ (hS.call h1) (fun hS => ?_)
  clear hK K
  replace b6 := b6.call h1
  replace hb := bthen hb h1
  clear h1
  try simp only [Act.put, List.setIfInBounds_toArray, List.set_cons_zero, List.set_cons_succ]
  refine rg_eff 10 rfl (by kernel_rfl) (by rfl) (fun K hK => ?_)
  go_simp
  refine (HM1.out _).mono ?_
  rintro e w1 ⟨rfl, h1⟩
  refine hK _ _ (hS.call h1) (fun hS => ?_)
  clear hK K
  replace b6 := b6.call h1
  replace hb := bthen hb h1
  clear h1
  try simp only [Act.put, List.setIfInBounds_toArray, List.set_cons_zero, List.set_cons_succ]
  refine rg_eff 15 rfl (by kernel_rfl) (by rfl) (fun K hK => ?_)
  go_simp
  refine (HL3.out _).mono ?_
  rintro e w1 ⟨rfl, h1⟩
  refine hK _ _ (hS.call h1) (fun hS => ?_)
  clear hK K
  replace b6 := b6.call h1
  replace hb := bthen hb h1
  clear h1
  try simp only [Act.put, List.setIfInBounds_toArray, List.set_cons_zero, List.set_cons_succ]
  refine rg_eff 20 rfl (by kernel_rfl) (by rfl) (fun K hK => ?_)
  go_simp
  refine (HL4.out _).mono ?_
  rintro e w1 ⟨rfl, h1⟩
  refine hK _ _ (hS.call h1) (fun hS => ?_)
  clear hK K
  replace b6 := b6.call h1
  replace hb := bthen hb h1
  clear h1
  try simp only [Act.put, List.setIfInBounds_toArray, List.set_cons_zero, List.set_cons_succ]
  refine rg_eff 21 rfl (by kernel_rfl) (by rfl) (fun K hK => ?_)
  go_simp
  refine (HM2.out _).mono ?_
  rintro e w1 ⟨rfl, h1⟩
  refine hK _ _ (hS.call h1) (fun hS => ?_)
  clear hK K
  replace b6 := b6.call h1
  replace hb := bthen hb h1
  clear h1
  try simp only [Act.put, List.setIfInBounds_toArray, List.set_cons_zero, List.set_cons_succ]
  refine rg_eff 22 rfl (by kernel_rfl) (by rfl) (fun K hK => ?_)
  go_simp
  refine (HS.out _).mono ?_
  rintro e w1 ⟨rfl, h1⟩
  refine hK _ _ (hS.call h1) (fun hS => ?_)
  clear hK K
  replace b6 := b6.call h1
  replace hb := bthen hb h1
  clear h1
  try simp only [Act.put, List.setIfInBounds_toArray, List.set_cons_zero, List.set_cons_succ]
  refine rg_eff 23 rfl (by kernel_rfl) (by rfl) (fun K hK => ?_)
  refine wp_st (vs := N) rfl rfl rfl b6 (by rw [rr_length, HN.out.len]) HN.out.whole HN.out.one ?_
  refine hK _ _ (hS.row (.inl (by simp)) _) (fun hS => ?_)
  clear hK K
  try simp only [Act.put, List.setIfInBounds_toArray, List.set_cons_zero, List.set_cons_succ]
  refine rg_take 24 rfl (by kernel_rfl) (by kernel_rfl) (by kernel_rfl) (by rfl) hS (v := ?_) ?_ ?_
  rotate_left
  · (intro w' hS'; go_simp <;> try with_reducible rfl)
  try simp only [Act.put, List.setIfInBounds_toArray, List.set_cons_zero, List.set_cons_succ]
  refine rg_done (by kernel_rfl) ?_
  go_wp2
  exact ret_ct (cs := N) (v := .bool true) rfl rfl rfl rfl HN.out.whole (b6.row _) ⟨rfl, below_row hb (by omega) _⟩
set_option maxHeartbeats 4000000 in
theorem Cross3_bad {A B C D E F : List Value} {s1 s2 s3 : Bool} (hs : (s1 && (s2 && s3)) = false) (hA : Rc A) (hB : Rc B) (hC : Rc C) (hD : Rc D) (hE : Rc E) (hF : Rc F)
    (T1 : Tl 29 #[vl (A ++ B)] (.bool s1)) (T2 : Tl 29 #[vl (C ++ D)] (.bool s2)) (T3 : Tl 29 #[vl (E ++ F)] (.bool s3)) :
    Tl 14 #[vl (A ++ B), vl (C ++ D), vl (E ++ F)] (.tuple #[vl (rr false 0 false 0), .bool false]) := by
  intro w
  unfold vl at *
  have HA := Lib.hid hA
  have HB := Lib.hid hB
  have HC := Lib.hid hC
  have HD := Lib.hid hD
  have HE := Lib.hid hE
  have HF := Lib.hid hF
  have HT1 := Lib.hid T1
  have HT2 := Lib.hid T2
  have HT3 := Lib.hid T3
  unfold Tl at HT1 HT2 HT3
  clear hA hB hC hD hE hF T1 T2 T3
  have b3 := ((((Blk.new w (A ++ B) 29 rfl).old (.cells (C ++ D).toArray 29)).old (.cells (E ++ F).toArray 29)).old (.cells (rr false 0 false 0).toArray 27))
  have b4 := (((Blk.new (w.alloc (.cells (A ++ B).toArray 29)) (C ++ D) 29 (b := w.heap.size + 1) (by simp)).old (.cells (E ++ F).toArray 29)).old (.cells (rr false 0 false 0).toArray 27))
  have b5 := ((Blk.new ((w.alloc (.cells (A ++ B).toArray 29)).alloc (.cells (C ++ D).toArray 29)) (E ++ F) 29 (b := w.heap.size + 1 + 1) (by simp)).old (.cells (rr false 0 false 0).toArray 27))
  have b6 := (Blk.new (((w.alloc (.cells (A ++ B).toArray 29)).alloc (.cells (C ++ D).toArray 29)).alloc (.cells (E ++ F).toArray 29)) (rr false 0 false 0) 27 (b := w.heap.size + 1 + 1 + 1) (by simp))
  have hb : Below w.heap.size w ((((w.alloc (.cells (A ++ B).toArray 29)).alloc (.cells (C ++ D).toArray 29)).alloc (.cells (E ++ F).toArray 29)).alloc (.cells (rr false 0 false 0).toArray 27)) := (((((Below.refl _ _).alloc (Nat.le_refl _) _).alloc (by simp <;> omega) _).alloc (by simp <;> omega) _).alloc (by simp <;> omega) _)
  have hk : ((((w.alloc (.cells (A ++ B).toArray 29)).alloc (.cells (C ++ D).toArray 29)).alloc (.cells (E ++ F).toArray 29)).alloc (.cells (rr false 0 false 0).toArray 27)).heap.size = w.heap.size + 1 + 1 + 1 + 1 := by simp
  cases s1 with
  | false =>
    clear hs
    go_enter Tryz.func14, Tryz.ntmps14
    go_wp2_with (first | (with_reducible refine alR rfl rfl ?_) | (with_reducible refine ldPt rfl rfl rfl b3 HA.out HB.out ?_))
    try rw [show (((w.alloc (.cells (A ++ B).toArray 29)).alloc (.cells (C ++ D).toArray 29)).alloc (.cells (E ++ F).toArray 29)).heap.size = w.heap.size + 1 + 1 + 1 by simp]
    refine (HT1.out _).mono ?_
    rintro e w1 ⟨rfl, h1⟩
    replace b3 := b3.call h1
    replace b4 := b4.call h1
    replace b5 := b5.call h1
    replace b6 := b6.call h1
    replace hb := bthen hb h1
    clear h1
    go_wp2_with (first | (with_reducible refine bdR0 rfl rfl ?_) | (with_reducible refine stRr rfl rfl rfl rfl b6 (rr_length _ _ _ _) ?_))
    exact ret_ct (cs := rr false 0 false 0) (v := .bool false) rfl rfl rfl rfl (wholeR _ _ _ _) (b6.row _) ⟨rfl, below_row hb (by omega) _⟩
  | true =>
    cases s2 with
    | false =>
      clear hs
      go_enter Tryz.func14, Tryz.ntmps14
      go_wp2_with (first | (with_reducible refine alR rfl rfl ?_) | (with_reducible refine ldPt rfl rfl rfl b3 HA.out HB.out ?_))
      try rw [show (((w.alloc (.cells (A ++ B).toArray 29)).alloc (.cells (C ++ D).toArray 29)).alloc (.cells (E ++ F).toArray 29)).heap.size = w.heap.size + 1 + 1 + 1 by simp]
      refine (HT1.out _).mono ?_
      rintro e w1 ⟨rfl, h1⟩
      replace b3 := b3.call h1
      replace b4 := b4.call h1
      replace b5 := b5.call h1
      replace b6 := b6.call h1
      replace hb := bthen hb h1
      clear h1
      go_wp2_with (first | (refine ldPtg (by rfl) rfl rfl b4 HC.out HD.out ?_))
      refine (HT2.out _).mono ?_
      rintro e w1 ⟨rfl, h1⟩
      replace b3 := b3.call h1
      replace b4 := b4.call h1
      replace b5 := b5.call h1
      replace b6 := b6.call h1
      replace hb := bthen hb h1
      clear h1
      go_wp2_with (first | (with_reducible refine bdR0 rfl rfl ?_) | (with_reducible refine stRr rfl rfl rfl rfl b6 (rr_length _ _ _ _) ?_))
      exact ret_ct (cs := rr false 0 false 0) (v := .bool false) rfl rfl rfl rfl (wholeR _ _ _ _) (b6.row _) ⟨rfl, below_row hb (by omega) _⟩
    | true =>
      cases s3 with
      | true => exact absurd hs (by decide)
      | false =>
        clear hs
        go_enter Tryz.func14, Tryz.ntmps14
        go_wp2_with (first | (with_reducible refine alR rfl rfl ?_) | (with_reducible refine ldPt rfl rfl rfl b3 HA.out HB.out ?_))
        try rw [show (((w.alloc (.cells (A ++ B).toArray 29)).alloc (.cells (C ++ D).toArray 29)).alloc (.cells (E ++ F).toArray 29)).heap.size = w.heap.size + 1 + 1 + 1 by simp]
        refine (HT1.out _).mono ?_
        rintro e w1 ⟨rfl, h1⟩
        replace b3 := b3.call h1
        replace b4 := b4.call h1
        replace b5 := b5.call h1
        replace b6 := b6.call h1
        replace hb := bthen hb h1
        clear h1
        go_wp2_with (first | (refine ldPtg (by rfl) rfl rfl b4 HC.out HD.out ?_))
        refine (HT2.out _).mono ?_
        rintro e w1 ⟨rfl, h1⟩
        replace b3 := b3.call h1
        replace b4 := b4.call h1
        replace b5 := b5.call h1
        replace b6 := b6.call h1
        replace hb := bthen hb h1
        clear h1
        go_wp2_with (first | (refine ldPtg (by rfl) rfl rfl b5 HE.out HF.out ?_))
        refine (HT3.out _).mono ?_
        rintro e w1 ⟨rfl, h1⟩
        replace b3 := b3.call h1
        replace b4 := b4.call h1
        replace b5 := b5.call h1
        replace b6 := b6.call h1
        replace hb := bthen hb h1
        clear h1
        go_wp2_with (first | (with_reducible refine bdR0 rfl rfl ?_) | (with_reducible refine stRr rfl rfl rfl rfl b6 (rr_length _ _ _ _) ?_))
        exact ret_ct (cs := rr false 0 false 0) (v := .bool false) rfl rfl rfl rfl (wholeR _ _ _ _) (b6.row _) ⟨rfl, below_row hb (by omega) _⟩
set_option maxHeartbeats 4000000 in
theorem Turn3_walk {A B C D E F N : List Value} {c : Int} {o : Bool} (hA : Rc A) (hB : Rc B) (hC : Rc C) (hD : Rc D) (hE : Rc E) (hF : Rc F) (hN : Rc N) (T : Tl 14 #[vl (A ++ B), vl (C ++ D), vl (E ++ F)] (.tuple #[vl N, .bool o])) (S : Tl 15 #[vl N] (.int .i64 c)) :
    Tl 5 #[vl (A ++ B), vl (C ++ D), vl (E ++ F)] (.tuple #[.int .i64 c, .bool o]) := by
  intro w
  unfold vl at *
  have HA := Lib.hid hA
  have HB := Lib.hid hB
  have HC := Lib.hid hC
  have HD := Lib.hid hD
  have HE := Lib.hid hE
  have HF := Lib.hid hF
  have HN := Lib.hid hN
  have HT := Lib.hid T
  have HS := Lib.hid S
  unfold Tl at HT HS
  clear hA hB hC hD hE hF hN T S
  have b3 := (((Blk.new w (A ++ B) 29 rfl).old (.cells (C ++ D).toArray 29)).old (.cells (E ++ F).toArray 29))
  have b4 := ((Blk.new (w.alloc (.cells (A ++ B).toArray 29)) (C ++ D) 29 (b := w.heap.size + 1) (by simp)).old (.cells (E ++ F).toArray 29))
  have b5 := (Blk.new ((w.alloc (.cells (A ++ B).toArray 29)).alloc (.cells (C ++ D).toArray 29)) (E ++ F) 29 (b := w.heap.size + 1 + 1) (by simp))
  have hb : Below w.heap.size w (((w.alloc (.cells (A ++ B).toArray 29)).alloc (.cells (C ++ D).toArray 29)).alloc (.cells (E ++ F).toArray 29)) := ((((Below.refl _ _).alloc (Nat.le_refl _) _).alloc (by simp <;> omega) _).alloc (by simp <;> omega) _)
  have hk : (((w.alloc (.cells (A ++ B).toArray 29)).alloc (.cells (C ++ D).toArray 29)).alloc (.cells (E ++ F).toArray 29)).heap.size = w.heap.size + 1 + 1 + 1 := by simp
  clear hk
  go_enter Tryz.func5, Tryz.ntmps5
  go_wp2_with (first | (with_reducible refine ldPt rfl rfl rfl b3 HA.out HB.out ?_) | (with_reducible refine ldPt rfl rfl rfl b4 HC.out HD.out ?_) | (with_reducible refine ldPt rfl rfl rfl b5 HE.out HF.out ?_))
  refine (HT.out _).mono ?_
  rintro e w1 ⟨rfl, h1⟩
  replace hb := bthen hb h1
  clear h1
  have f := Blk.new w1 (rr false 0 false 0) 27 rfl
  have b8 := laid_n w1 (rr false 0 false 0) (N) 27
  replace hb := laid_b hb (rr false 0 false 0) (N) 27
  go_wp2_with (first | (with_reducible refine alR rfl rfl ?_) | (with_reducible refine stQ rfl rfl rfl rfl f (rr_length _ _ _ _) HN.out ?_) | (with_reducible refine ldA' rfl rfl rfl b8 HN.out ?_))
  clear f
  generalize (w1.alloc (.cells (rr false 0 false 0).toArray 27)).setRow w1.heap.size (N).toArray = W at *
  generalize w1.heap.size = pl_b8 at *
  refine (HS.out _).mono ?_
  rintro e w1 ⟨rfl, h1⟩
  replace hb := bthen hb h1
  clear h1
  go_wp2
  go_ret2
  exact ⟨rfl, hb⟩
section
variable {ax ay bx by' cx cy : Rat} (ha : Gd ax ay) (hb : Gd bx by') (hc : Gd cx cy)
include ha hb hc
theorem Turn3_q (Ia : Tl 29 #[vp ax ay] (.bool true)) (Ib : Tl 29 #[vp bx by'] (.bool true)) (Ic : Tl 29 #[vp cx cy] (.bool true)) : Tl 5 #[vp ax ay, vp bx by', vp cx cy] (.tuple #[.int .i64 (cq (crs ax ay bx by' cx cy) 0), .bool true]) :=
  Turn3_walk (rc_q _) (rc_q _) (rc_q _) (rc_q _) (rc_q _) (rc_q _) (rc_q _) (Cross3_walk (rc_q _) (rc_q _) (rc_q _) (rc_q _) (rc_q _) (rc_q _) (rc_q _) Ia Ib Ic
    (less3_q hb.1 (by omega) ha.1 (by omega)) (less3_q hc.2 (by omega) ha.2 (by omega)) (less3_q hb.2 (by omega) ha.2 (by omega)) (less3_q hc.1 (by omega) ha.1 (by omega))
    (times3_q (bq_sub hb.1 ha.1) (by omega) (bq_sub hc.2 ha.2) (by omega)) (times3_q (bq_sub hb.2 ha.2) (by omega) (bq_sub hc.1 ha.1) (by omega))
    (less3_q (bq_mul (bq_sub hb.1 ha.1) (bq_sub hc.2 ha.2)) (by omega) (bq_mul (bq_sub hb.2 ha.2) (bq_sub hc.1 ha.1)) (by omega))) (Signref_q (bq_crs ha hb hc) (by omega))
end
theorem Turn3_bad {A B C D E F : List Value} {s1 s2 s3 : Bool} (hs : (s1 && (s2 && s3)) = false) (hA : Rc A) (hB : Rc B) (hC : Rc C) (hD : Rc D) (hE : Rc E) (hF : Rc F)
    (T1 : Tl 29 #[vl (A ++ B)] (.bool s1)) (T2 : Tl 29 #[vl (C ++ D)] (.bool s2)) (T3 : Tl 29 #[vl (E ++ F)] (.bool s3)) :
    Tl 5 #[vl (A ++ B), vl (C ++ D), vl (E ++ F)] (.tuple #[.int .i64 0, .bool false]) :=
  Turn3_walk hA hB hC hD hE hF (rc_rr _ _ _ _) (Cross3_bad hs hA hB hC hD hE hF T1 T2 T3) (Signref_rr false false (N := 0) (M := 0) (show 0 < bb ^ 32 from f0))
end Go.Proofs.YtckolhalggcenaaGreat
