/- The reference's numbers: DivMod, Int; what isn't an int. -/
import Derived.Test.YtiaikjeljhfadaaMgx
namespace Go.Proofs.Ytiaikjeljhfadaa
set_option linter.unusedSimpArgs false
set_option linter.unusedVariables false
open Go.RowKit
set_option maxRecDepth 100000
theorem Mv.keep {w0 w : World} {v : Value} {M : Nat} (h : Mv w0 v M) (hK : Keep [] w0 w) : Mv w v M := by
  rcases h with h | ⟨b, c, e, hc, hl, hx⟩
  · exact .inl h
  · exact .inr ⟨b, c, e, hc, Nat.lt_of_lt_of_le hl hK.1, fun i hi => by
      have := hx i hi
      unfold World.cell? at this ⊢
      rw [hK.2 b hl (by simp)]; exact this⟩
section
variable {ops : Array Oper} {rest : List Oper} {o : Oper} {a : Act} {w : World} {Q : Exit → Act → World → Prop}
theorem ldWp {t : TypeId} {x : Operand} {b : Nat} {s : Bool} {N : Nat} (hgd : o.guard = none) (ho : o.op = .load 25 x) (hx : a.eval x = .pointer (some ⟨b, 0, none⟩)) (h : Blk w b (wd s N) t)
    (hr : wpList Try.prog ops Q rest (a.put o.dst (.agg (wd s N).toArray)) w) : wpList Try.prog ops Q (o :: rest) a w := ldP hgd ho hx h (fun j v hv => by rw [Nat.zero_add]; exact hv) (whole25 _ _) hr
end
set_option maxHeartbeats 1000000 in
theorem DivModref_zero (s : Bool) {N : Nat} (t : Bool) (hN : N < bb ^ 32) : Tl 20 #[.agg (wd s N).toArray, .agg (wd t 0).toArray] (.tuple #[vw 0, vw 0, .bool false]) := fun w => by
  obtain ⟨M, hM⟩ : ∃ M : Nat, M = 0 := ⟨0, rfl⟩
  rw [← hM]
  have O2 := Lib.hid (fun w => of_any t (N := M) (by rw [hM]; exact bp_pos 32) w)
  have hnw : nw M = 0 := nw_zero.2 hM
  rw [show vw 0 = .agg (wd false 0).toArray from rfl]
  clear hN hM
  have b2 := (((Blk.new w (wd s N) 25 rfl).old (.cells (wd t M).toArray 25)).old (.cells (wd false 0).toArray 25)).old (.cells (wd false 0).toArray 25)
  have b3 := ((Blk.new (w.alloc (.cells (wd s N).toArray 25)) (wd t M) 25 (b := w.heap.size + 1) (by simp)).old (.cells (wd false 0).toArray 25)).old (.cells (wd false 0).toArray 25)
  have b4 := (Blk.new ((w.alloc (.cells (wd s N).toArray 25)).alloc (.cells (wd t M).toArray 25)) (wd false 0) 25 (b := w.heap.size + 1 + 1) (by simp)).old (.cells (wd false 0).toArray 25)
  have b5 := Blk.new (((w.alloc (.cells (wd s N).toArray 25)).alloc (.cells (wd t M).toArray 25)).alloc (.cells (wd false 0).toArray 25)) (wd false 0) 25 (b := w.heap.size + 1 + 1 + 1) (by simp)
  have hb : Below w.heap.size w ((((w.alloc (.cells (wd s N).toArray 25)).alloc (.cells (wd t M).toArray 25)).alloc (.cells (wd false 0).toArray 25)).alloc (.cells (wd false 0).toArray 25)) := ((((Below.refl _ _).alloc (Nat.le_refl _) _).alloc (by simp) _).alloc (by simp; omega) _).alloc (by simp; omega) _
  go_enter Try.func20, Try.ntmps20
  go_wp2_with (first | (with_reducible refine alW rfl rfl ?_) | (with_reducible refine ldWp rfl rfl rfl b3 ?_))
  try rw [show (((w.alloc (.cells (wd s N).toArray 25)).alloc (.cells (wd t M).toArray 25)).alloc (.cells (wd false 0).toArray 25)).heap.size = w.heap.size + 1 + 1 + 1 by simp]
  try rw [show ((w.alloc (.cells (wd s N).toArray 25)).alloc (.cells (wd t M).toArray 25)).heap.size = w.heap.size + 1 + 1 by simp]
  refine (O2.out _).mono ?_
  rintro e w1 ⟨v, rfl, hv, h1⟩
  obtain ⟨p, c, rfl, hc, _⟩ := hv.old
  replace b2 := b2.call h1
  replace b3 := b3.call h1
  replace b4 := b4.call h1
  replace b5 := b5.call h1
  replace hb := bthen hb h1
  clear h1 hv
  rw [hnw]
  have b5' := b5.rowOther (g := w.heap.size + 1 + 1) (wd false 0).toArray (by omega)
  go_wp2_with (first | (with_reducible refine bdW0 rfl rfl ?_) | (with_reducible refine stW rfl rfl rfl rfl b4 ?_) | (with_reducible refine stW rfl rfl rfl rfl b5' ?_))
  exact ret_cct (cs := wd false 0) (cs' := wd false 0) (v := .bool false) rfl rfl rfl rfl rfl (whole25 _ _) (whole25 _ _) ((b4.row _).rowOther _ (by omega)) (b5'.row _) ⟨rfl, below_row (below_row hb (g := w.heap.size + 1 + 1) (by omega) _) (by omega) _⟩
set_option maxHeartbeats 4000000 in
theorem DivModref_any (s : Bool) {N : Nat} (t : Bool) {M : Nat} (hN : N < bb ^ 32) (hM : M < bb ^ 32) (h0 : M ≠ 0) : Tl 20 #[.agg (wd s N).toArray, .agg (wd t M).toArray] (.tuple #[vw ((zn s N).tdiv (zn t M)), vw ((zn s N).tmod (zn t M)), .bool true]) := fun w => by
  have N1 := Lib.hid (fun w => negref_any s hN w)
  have N2 := Lib.hid (fun w => negref_any t hM w)
  have O1 := Lib.hid (fun w => of_any s hN w)
  have O2 := Lib.hid (fun w => of_any t hM w)
  obtain ⟨sn, hsn⟩ : ∃ sn : Bool, (s && decide (N ≠ 0)) = sn := ⟨_, rfl⟩
  obtain ⟨tn, htn⟩ : ∃ tn : Bool, (t && decide (M ≠ 0)) = tn := ⟨_, rfl⟩
  have hs1 := zn_neg s N
  have ht1 := zn_neg t M
  rw [hsn] at N1 hs1
  rw [htn] at N2 ht1
  rw [← hs1, ← ht1]
  have eq1 : (zn sn N).tdiv (zn tn M) = zn (sn != tn) (N / M) := by
    unfold zn; cases sn <;> cases tn <;> simp [Int.neg_tdiv, Int.tdiv_neg]
  have eq2 : (zn sn N).tmod (zn tn M) = zn sn (N % M) := by
    unfold zn; cases sn <;> cases tn <;> simp [Int.neg_tmod, Int.tmod_neg] <;> exact Int.tmod_eq_emod_of_nonneg (Int.natCast_nonneg _)
  rw [eq1, eq2]
  have HQ : Hid (fits (zn (sn != tn) (N / M)) ∧ zn (sn != tn) (zn (sn != tn) (N / M)).natAbs = zn (sn != tn) (N / M)) := ⟨by rw [fits, zn_abs]; exact Nat.lt_of_le_of_lt (Nat.div_le_self N M) hN, by rw [zn_abs]⟩
  have HR : Hid (fits (zn sn (N % M)) ∧ zn sn (zn sn (N % M)).natAbs = zn sn (N % M)) := ⟨by rw [fits, zn_abs]; exact Nat.lt_of_le_of_lt (Nat.mod_le N M) hN, by rw [zn_abs]⟩
  have HL : Hid (nw N ≤ 900 ∧ nw M ≤ 900) := ⟨Nat.le_trans (nw32.2 hN) (by omega), Nat.le_trans (nw32.2 hM) (by omega)⟩
  have DD : Hid (∀ {w u v}, Mv w u N → Mv w v M → Calls Try.prog 79 #[u, v] w fun e w' => ∃ v1 v2, e = .returned (.tuple #[v1, v2]) ∧ Mv w' v1 (zn (sn != tn) (N / M)).natAbs ∧ Mv w' v2 (zn sn (N % M)).natAbs ∧ Below w.heap.size w w') := fun {w u v} h h' => by
    rw [zn_abs, zn_abs]; exact divmod_any h h' HL.out.1 HL.out.2 h0
  have hnz : ¬ (nw M : Int) = 0 := by have := mt nw_zero.1 h0; omega
  generalize zn (sn != tn) (N / M) = qz at *
  generalize zn sn (N % M) = rz at *
  clear hsn htn hs1 ht1 hN hM eq1 eq2 h0
  unfold vw
  have b2 := (((Blk.new w (wd s N) 25 rfl).old (.cells (wd t M).toArray 25)).old (.cells (wd false 0).toArray 25)).old (.cells (wd false 0).toArray 25)
  have b3 := ((Blk.new (w.alloc (.cells (wd s N).toArray 25)) (wd t M) 25 (b := w.heap.size + 1) (by simp)).old (.cells (wd false 0).toArray 25)).old (.cells (wd false 0).toArray 25)
  have b4 := (Blk.new ((w.alloc (.cells (wd s N).toArray 25)).alloc (.cells (wd t M).toArray 25)) (wd false 0) 25 (b := w.heap.size + 1 + 1) (by simp)).old (.cells (wd false 0).toArray 25)
  have b5 := Blk.new (((w.alloc (.cells (wd s N).toArray 25)).alloc (.cells (wd t M).toArray 25)).alloc (.cells (wd false 0).toArray 25)) (wd false 0) 25 (b := w.heap.size + 1 + 1 + 1) (by simp)
  have hb : Below w.heap.size w ((((w.alloc (.cells (wd s N).toArray 25)).alloc (.cells (wd t M).toArray 25)).alloc (.cells (wd false 0).toArray 25)).alloc (.cells (wd false 0).toArray 25)) := ((((Below.refl _ _).alloc (Nat.le_refl _) _).alloc (by simp) _).alloc (by simp; omega) _).alloc (by simp; omega) _
  go_enter Try.func20, Try.ntmps20
  go_wp2_with (first | (with_reducible refine alW rfl rfl ?_) | (with_reducible refine ldWp rfl rfl rfl b3 ?_))
  try rw [show (((w.alloc (.cells (wd s N).toArray 25)).alloc (.cells (wd t M).toArray 25)).alloc (.cells (wd false 0).toArray 25)).heap.size = w.heap.size + 1 + 1 + 1 by simp]
  try rw [show ((w.alloc (.cells (wd s N).toArray 25)).alloc (.cells (wd t M).toArray 25)).heap.size = w.heap.size + 1 + 1 by simp]
  refine (O2.out _).mono ?_
  rintro e w1 ⟨v, rfl, hv, h1⟩
  obtain ⟨p, c, rfl, hc, _⟩ := hv.old
  replace b2 := b2.call h1
  replace b3 := b3.call h1
  replace b4 := b4.call h1
  replace b5 := b5.call h1
  replace hb := bthen hb h1
  clear h1 hv
  go_wp2_with fail
  refine rg_start [] (by kernel_rfl) (fun hS => ?_)
  replace hb := hb.drew
  refine rg_ld 0 rfl (by kernel_rfl) (by kernel_rfl) (by kernel_rfl) (by rfl) hS rfl rfl b2 (by simp <;> omega) (whole25 _ _) ?_
  try simp only [Act.put, List.setIfInBounds_toArray, List.set_cons_zero, List.set_cons_succ]
  refine rg_ld 2 rfl (by kernel_rfl) (by kernel_rfl) (by kernel_rfl) (by rfl) hS rfl rfl b3 (by simp <;> omega) (whole25 _ _) ?_
  try simp only [Act.put, List.setIfInBounds_toArray, List.set_cons_zero, List.set_cons_succ]
  refine rg_eff 1 rfl (by kernel_rfl) (by rfl) (fun K hK => ?_)
  go_simp
  refine (O1.out _).mono ?_
  rintro e w1 ⟨va, rfl, ma, h1⟩
  refine hK _ _ (hS.call h1) (fun hS => ?_)
  clear hK K
  replace hb := bthen hb h1
  clear h1
  try simp only [Act.put, List.setIfInBounds_toArray, List.set_cons_zero, List.set_cons_succ]
  refine rg_eff 3 rfl (by kernel_rfl) (by rfl) (fun K hK => ?_)
  go_simp
  refine (O2.out _).mono ?_
  rintro e w1 ⟨vb, rfl, mb, h1⟩
  refine hK _ _ (hS.call h1) (fun hS => ?_)
  clear hK K
  replace ma := ma.call h1
  replace hb := bthen hb h1
  clear h1
  try simp only [Act.put, List.setIfInBounds_toArray, List.set_cons_zero, List.set_cons_succ]
  refine rg_eff 4 rfl (by kernel_rfl) (by rfl) (fun K hK => ?_)
  go_simp
  refine (DD.out ma mb).mono ?_
  rintro e w1 ⟨vq, vr, rfl, mq, mr, h1⟩
  refine hK _ _ (hS.call h1) (fun hS => ?_)
  clear hK K
  replace hb := bthen hb h1
  clear h1 ma mb
  try simp only [Act.put, List.setIfInBounds_toArray, List.set_cons_zero, List.set_cons_succ]
  refine rg_take 5 rfl (by kernel_rfl) (by kernel_rfl) (by kernel_rfl) (by rfl) hS (v := ?_) ?_ ?_
  rotate_left
  · (intro w' hS'; go_simp <;> try with_reducible rfl)
  try simp only [Act.put, List.setIfInBounds_toArray, List.set_cons_zero, List.set_cons_succ]
  refine rg_take 6 rfl (by kernel_rfl) (by kernel_rfl) (by kernel_rfl) (by rfl) hS (v := ?_) ?_ ?_
  rotate_left
  · (intro w' hS'; go_simp <;> try with_reducible rfl)
  try simp only [Act.put, List.setIfInBounds_toArray, List.set_cons_zero, List.set_cons_succ]
  refine rg_take 7 rfl (by kernel_rfl) (by kernel_rfl) (by kernel_rfl) (by rfl) hS (v := ?_) ?_ ?_
  rotate_left
  · (intro w' hS'; go_simp <;> try with_reducible rfl)
  try simp only [Act.put, List.setIfInBounds_toArray, List.set_cons_zero, List.set_cons_succ]
  refine rg_take 8 rfl (by kernel_rfl) (by kernel_rfl) (by kernel_rfl) (by rfl) hS (v := ?_) ?_ ?_
  rotate_left
  · (intro w' hS'; go_simp <;> try with_reducible rfl)
  try simp only [Act.put, List.setIfInBounds_toArray, List.set_cons_zero, List.set_cons_succ]
  refine rg_take 9 rfl (by kernel_rfl) (by kernel_rfl) (by kernel_rfl) (by rfl) hS (v := ?_) ?_ ?_
  rotate_left
  · (intro w' hS'; go_simp <;> try with_reducible rfl)
  try simp only [Act.put, List.setIfInBounds_toArray, List.set_cons_zero, List.set_cons_succ]
  refine rg_done (by kernel_rfl) ?_
  replace b2 := b2.keep hS (by simp)
  replace b3 := b3.keep hS (by simp)
  replace b4 := b4.keep hS (by simp)
  replace b5 := b5.keep hS (by simp)
  have hsz := hb.size
  clear hS
  go_wp2_with fail
  try simp only [Act.put, List.setIfInBounds_toArray, List.set_cons_zero, List.set_cons_succ]
  go_cut [9] (fun p wx => ∃ q, p = .pointer (some ⟨q, 0, none⟩) ∧ Below w.heap.size w wx ∧ Blk wx q (mk qz) 25 ∧ Blk wx w.heap.size (wd s N) 25 ∧ Blk wx (w.heap.size + 1 + 1) (wd false 0) 25 ∧ Blk wx (w.heap.size + 1 + 1 + 1) (wd false 0) 25 ∧ Mv wx vr rz.natAbs ∧ w.heap.size + 1 + 1 + 1 < q)
  case first =>
    have l5 := b5.lt
    refine rg_start [] (by kernel_rfl) (fun hS => ?_)
    replace hb := hb.drew
    refine rg_ld 0 rfl (by kernel_rfl) (by kernel_rfl) (by kernel_rfl) (by rfl) hS rfl rfl b2 (by simp <;> omega) (whole25 _ _) ?_
    try simp only [Act.put, List.setIfInBounds_toArray, List.set_cons_zero, List.set_cons_succ]
    refine rg_ld 2 rfl (by kernel_rfl) (by kernel_rfl) (by kernel_rfl) (by rfl) hS rfl rfl b3 (by simp <;> omega) (whole25 _ _) ?_
    try simp only [Act.put, List.setIfInBounds_toArray, List.set_cons_zero, List.set_cons_succ]
    refine rg_take 5 rfl (by kernel_rfl) (by kernel_rfl) (by kernel_rfl) (by rfl) hS (v := ?_) ?_ ?_
    rotate_left
    · (intro w' hS'; go_simp <;> try with_reducible rfl)
    try simp only [Act.put, List.setIfInBounds_toArray, List.set_cons_zero, List.set_cons_succ]
    refine rg_two 1 10 rfl rfl (by kernel_rfl) (by rfl) (by rfl) (fun K hK => ?_) (fun K hK => ?_)
    · go_simp
      refine (N1.out _).mono ?_
      rintro e w1 ⟨rfl, h1⟩
      refine hK _ _ (hS.call h1) (fun hS => ?_)
      clear hK K
      try replace a9 := a9.call h1
      replace hb := bthen hb h1
      clear h1
      try simp only [Act.put, List.setIfInBounds_toArray, List.set_cons_zero, List.set_cons_succ]
      refine rg_two 3 10 rfl rfl (by kernel_rfl) (by rfl) (by rfl) (fun K hK => ?_) (fun K hK => ?_)
      · go_simp
        refine (N2.out _).mono ?_
        rintro e w1 ⟨rfl, h1⟩
        refine hK _ _ (hS.call h1) (fun hS => ?_)
        clear hK K
        try replace a9 := a9.call h1
        replace hb := bthen hb h1
        clear h1
        try simp only [Act.put, List.setIfInBounds_toArray, List.set_cons_zero, List.set_cons_succ]
        refine rg_take 4 rfl (by kernel_rfl) (by kernel_rfl) (by kernel_rfl) (by rfl) hS (v := .bool (sn != tn)) (fun w' _ => op_neb rfl rfl rfl w') ?_
        try simp only [Act.put, List.setIfInBounds_toArray, List.set_cons_zero, List.set_cons_succ]
        refine rg_two 6 10 rfl rfl (by kernel_rfl) (by rfl) (by rfl) (fun K hK => ?_) (fun K hK => ?_)
        · go_simp
          refine (wideK (fz_self HQ.out.1) (by have := nw32.2 HQ.out.1; omega) HQ.out.2 (mq.keep hS)).mono ?_
          rintro e w1 ⟨rfl, h1⟩
          refine hK _ _ (hS.call h1) (fun hS => ?_)
          clear hK K
          try replace a9 := a9.call h1
          replace hb := bthen hb h1
          clear h1
          try simp only [Act.put, List.setIfInBounds_toArray, List.set_cons_zero, List.set_cons_succ]
          refine rg_take 7 rfl (by kernel_rfl) (by kernel_rfl) (by kernel_rfl) (by rfl) hS (v := ?_) ?_ ?_
          rotate_left
          · (intro w' hS'; go_simp <;> try with_reducible rfl)
          try simp only [Act.put, List.setIfInBounds_toArray, List.set_cons_zero, List.set_cons_succ]
          refine rg_take 8 rfl (by kernel_rfl) (by kernel_rfl) (by kernel_rfl) (by rfl) hS (v := ?_) ?_ ?_
          rotate_left
          · (intro w' hS'; go_simp <;> try with_reducible rfl)
          try simp only [Act.put, List.setIfInBounds_toArray, List.set_cons_zero, List.set_cons_succ]
          refine rg_take 9 rfl (by kernel_rfl) (by kernel_rfl) (by kernel_rfl) (by rfl) hS (v := ?_) ?_ ?_
          rotate_left
          · (intro w' hS'; go_simp <;> try with_reducible rfl)
          try simp only [Act.put, List.setIfInBounds_toArray, List.set_cons_zero, List.set_cons_succ]
          refine rg_eff 10 rfl (by kernel_rfl) (by rfl) (fun K hK => ?_)
          refine wp_alB (zs := wd false 0) rfl (by kernel_rfl) (fun p9 q9 a9 => ?_)
          replace q9 := Nat.le_trans hS.1 q9
          refine hK _ _ (hS.alloc _) (fun hS => ?_)
          clear hK K
          replace hb := hb.alloc hb.size (.cells (wd false 0).toArray 25)
          try simp only [Act.put, List.setIfInBounds_toArray, List.set_cons_zero, List.set_cons_succ]
          refine rg_eff 11 rfl (by kernel_rfl) (by rfl) (fun K hK => ?_)
          refine wp_st (vs := mk qz) rfl rfl rfl a9 (by rw [wd_length, mk_length]) (wholeM _) (mk_one _) ?_
          refine hK _ _ (hS.row (.inr q9) _) (fun hS => ?_)
          clear hK K
          replace a9 := a9.row (mk qz)
          replace hb := below_row hb (g := p9) (by omega) (mk qz).toArray
          try simp only [Act.put, List.setIfInBounds_toArray, List.set_cons_zero, List.set_cons_succ]
          refine rg_take 12 rfl (by kernel_rfl) (by kernel_rfl) (by kernel_rfl) (by rfl) hS (v := ?_) ?_ ?_
          rotate_left
          · (intro w' hS'; go_simp <;> try with_reducible rfl)
          try simp only [Act.put, List.setIfInBounds_toArray, List.set_cons_zero, List.set_cons_succ]
          refine rg_done (by kernel_rfl) ?_
          go_wp2_with fail
          go_meet
          case rel => exact ⟨p9, rfl, hb, a9, b2.keep hS (by simp), b4.keep hS (by simp), b5.keep hS (by simp), mr.keep hS, by omega⟩
        · refine wp_alB (zs := wd false 0) rfl (by kernel_rfl) (fun p9 q9 a9 => ?_)
          replace q9 := Nat.le_trans hS.1 q9
          refine hK _ _ (hS.alloc _) (fun hS => ?_)
          clear hK K
          replace hb := hb.alloc hb.size (.cells (wd false 0).toArray 25)
          try simp only [Act.put, List.setIfInBounds_toArray, List.set_cons_zero, List.set_cons_succ]
          refine rg_eff 6 rfl (by kernel_rfl) (by rfl) (fun K hK => ?_)
          go_simp
          refine (wideK (fz_self HQ.out.1) (by have := nw32.2 HQ.out.1; omega) HQ.out.2 (mq.keep hS)).mono ?_
          rintro e w1 ⟨rfl, h1⟩
          refine hK _ _ (hS.call h1) (fun hS => ?_)
          clear hK K
          try replace a9 := a9.call h1
          replace hb := bthen hb h1
          clear h1
          try simp only [Act.put, List.setIfInBounds_toArray, List.set_cons_zero, List.set_cons_succ]
          refine rg_take 7 rfl (by kernel_rfl) (by kernel_rfl) (by kernel_rfl) (by rfl) hS (v := ?_) ?_ ?_
          rotate_left
          · (intro w' hS'; go_simp <;> try with_reducible rfl)
          try simp only [Act.put, List.setIfInBounds_toArray, List.set_cons_zero, List.set_cons_succ]
          refine rg_take 8 rfl (by kernel_rfl) (by kernel_rfl) (by kernel_rfl) (by rfl) hS (v := ?_) ?_ ?_
          rotate_left
          · (intro w' hS'; go_simp <;> try with_reducible rfl)
          try simp only [Act.put, List.setIfInBounds_toArray, List.set_cons_zero, List.set_cons_succ]
          refine rg_take 9 rfl (by kernel_rfl) (by kernel_rfl) (by kernel_rfl) (by rfl) hS (v := ?_) ?_ ?_
          rotate_left
          · (intro w' hS'; go_simp <;> try with_reducible rfl)
          try simp only [Act.put, List.setIfInBounds_toArray, List.set_cons_zero, List.set_cons_succ]
          refine rg_eff 11 rfl (by kernel_rfl) (by rfl) (fun K hK => ?_)
          refine wp_st (vs := mk qz) rfl rfl rfl a9 (by rw [wd_length, mk_length]) (wholeM _) (mk_one _) ?_
          refine hK _ _ (hS.row (.inr q9) _) (fun hS => ?_)
          clear hK K
          replace a9 := a9.row (mk qz)
          replace hb := below_row hb (g := p9) (by omega) (mk qz).toArray
          try simp only [Act.put, List.setIfInBounds_toArray, List.set_cons_zero, List.set_cons_succ]
          refine rg_take 12 rfl (by kernel_rfl) (by kernel_rfl) (by kernel_rfl) (by rfl) hS (v := ?_) ?_ ?_
          rotate_left
          · (intro w' hS'; go_simp <;> try with_reducible rfl)
          try simp only [Act.put, List.setIfInBounds_toArray, List.set_cons_zero, List.set_cons_succ]
          refine rg_done (by kernel_rfl) ?_
          go_wp2_with fail
          go_meet
          case rel => exact ⟨p9, rfl, hb, a9, b2.keep hS (by simp), b4.keep hS (by simp), b5.keep hS (by simp), mr.keep hS, by omega⟩
      · refine wp_alB (zs := wd false 0) rfl (by kernel_rfl) (fun p9 q9 a9 => ?_)
        replace q9 := Nat.le_trans hS.1 q9
        refine hK _ _ (hS.alloc _) (fun hS => ?_)
        clear hK K
        replace hb := hb.alloc hb.size (.cells (wd false 0).toArray 25)
        try simp only [Act.put, List.setIfInBounds_toArray, List.set_cons_zero, List.set_cons_succ]
        refine rg_eff 3 rfl (by kernel_rfl) (by rfl) (fun K hK => ?_)
        go_simp
        refine (N2.out _).mono ?_
        rintro e w1 ⟨rfl, h1⟩
        refine hK _ _ (hS.call h1) (fun hS => ?_)
        clear hK K
        try replace a9 := a9.call h1
        replace hb := bthen hb h1
        clear h1
        try simp only [Act.put, List.setIfInBounds_toArray, List.set_cons_zero, List.set_cons_succ]
        refine rg_take 4 rfl (by kernel_rfl) (by kernel_rfl) (by kernel_rfl) (by rfl) hS (v := .bool (sn != tn)) (fun w' _ => op_neb rfl rfl rfl w') ?_
        try simp only [Act.put, List.setIfInBounds_toArray, List.set_cons_zero, List.set_cons_succ]
        refine rg_eff 6 rfl (by kernel_rfl) (by rfl) (fun K hK => ?_)
        go_simp
        refine (wideK (fz_self HQ.out.1) (by have := nw32.2 HQ.out.1; omega) HQ.out.2 (mq.keep hS)).mono ?_
        rintro e w1 ⟨rfl, h1⟩
        refine hK _ _ (hS.call h1) (fun hS => ?_)
        clear hK K
        try replace a9 := a9.call h1
        replace hb := bthen hb h1
        clear h1
        try simp only [Act.put, List.setIfInBounds_toArray, List.set_cons_zero, List.set_cons_succ]
        refine rg_take 7 rfl (by kernel_rfl) (by kernel_rfl) (by kernel_rfl) (by rfl) hS (v := ?_) ?_ ?_
        rotate_left
        · (intro w' hS'; go_simp <;> try with_reducible rfl)
        try simp only [Act.put, List.setIfInBounds_toArray, List.set_cons_zero, List.set_cons_succ]
        refine rg_take 8 rfl (by kernel_rfl) (by kernel_rfl) (by kernel_rfl) (by rfl) hS (v := ?_) ?_ ?_
        rotate_left
        · (intro w' hS'; go_simp <;> try with_reducible rfl)
        try simp only [Act.put, List.setIfInBounds_toArray, List.set_cons_zero, List.set_cons_succ]
        refine rg_take 9 rfl (by kernel_rfl) (by kernel_rfl) (by kernel_rfl) (by rfl) hS (v := ?_) ?_ ?_
        rotate_left
        · (intro w' hS'; go_simp <;> try with_reducible rfl)
        try simp only [Act.put, List.setIfInBounds_toArray, List.set_cons_zero, List.set_cons_succ]
        refine rg_eff 11 rfl (by kernel_rfl) (by rfl) (fun K hK => ?_)
        refine wp_st (vs := mk qz) rfl rfl rfl a9 (by rw [wd_length, mk_length]) (wholeM _) (mk_one _) ?_
        refine hK _ _ (hS.row (.inr q9) _) (fun hS => ?_)
        clear hK K
        replace a9 := a9.row (mk qz)
        replace hb := below_row hb (g := p9) (by omega) (mk qz).toArray
        try simp only [Act.put, List.setIfInBounds_toArray, List.set_cons_zero, List.set_cons_succ]
        refine rg_take 12 rfl (by kernel_rfl) (by kernel_rfl) (by kernel_rfl) (by rfl) hS (v := ?_) ?_ ?_
        rotate_left
        · (intro w' hS'; go_simp <;> try with_reducible rfl)
        try simp only [Act.put, List.setIfInBounds_toArray, List.set_cons_zero, List.set_cons_succ]
        refine rg_done (by kernel_rfl) ?_
        go_wp2_with fail
        go_meet
        case rel => exact ⟨p9, rfl, hb, a9, b2.keep hS (by simp), b4.keep hS (by simp), b5.keep hS (by simp), mr.keep hS, by omega⟩
    · refine wp_alB (zs := wd false 0) rfl (by kernel_rfl) (fun p9 q9 a9 => ?_)
      replace q9 := Nat.le_trans hS.1 q9
      refine hK _ _ (hS.alloc _) (fun hS => ?_)
      clear hK K
      replace hb := hb.alloc hb.size (.cells (wd false 0).toArray 25)
      try simp only [Act.put, List.setIfInBounds_toArray, List.set_cons_zero, List.set_cons_succ]
      refine rg_eff 1 rfl (by kernel_rfl) (by rfl) (fun K hK => ?_)
      go_simp
      refine (N1.out _).mono ?_
      rintro e w1 ⟨rfl, h1⟩
      refine hK _ _ (hS.call h1) (fun hS => ?_)
      clear hK K
      try replace a9 := a9.call h1
      replace hb := bthen hb h1
      clear h1
      try simp only [Act.put, List.setIfInBounds_toArray, List.set_cons_zero, List.set_cons_succ]
      refine rg_eff 3 rfl (by kernel_rfl) (by rfl) (fun K hK => ?_)
      go_simp
      refine (N2.out _).mono ?_
      rintro e w1 ⟨rfl, h1⟩
      refine hK _ _ (hS.call h1) (fun hS => ?_)
      clear hK K
      try replace a9 := a9.call h1
      replace hb := bthen hb h1
      clear h1
      try simp only [Act.put, List.setIfInBounds_toArray, List.set_cons_zero, List.set_cons_succ]
      refine rg_take 4 rfl (by kernel_rfl) (by kernel_rfl) (by kernel_rfl) (by rfl) hS (v := .bool (sn != tn)) (fun w' _ => op_neb rfl rfl rfl w') ?_
      try simp only [Act.put, List.setIfInBounds_toArray, List.set_cons_zero, List.set_cons_succ]
      refine rg_eff 6 rfl (by kernel_rfl) (by rfl) (fun K hK => ?_)
      go_simp
      refine (wideK (fz_self HQ.out.1) (by have := nw32.2 HQ.out.1; omega) HQ.out.2 (mq.keep hS)).mono ?_
      rintro e w1 ⟨rfl, h1⟩
      refine hK _ _ (hS.call h1) (fun hS => ?_)
      clear hK K
      try replace a9 := a9.call h1
      replace hb := bthen hb h1
      clear h1
      try simp only [Act.put, List.setIfInBounds_toArray, List.set_cons_zero, List.set_cons_succ]
      refine rg_take 7 rfl (by kernel_rfl) (by kernel_rfl) (by kernel_rfl) (by rfl) hS (v := ?_) ?_ ?_
      rotate_left
      · (intro w' hS'; go_simp <;> try with_reducible rfl)
      try simp only [Act.put, List.setIfInBounds_toArray, List.set_cons_zero, List.set_cons_succ]
      refine rg_take 8 rfl (by kernel_rfl) (by kernel_rfl) (by kernel_rfl) (by rfl) hS (v := ?_) ?_ ?_
      rotate_left
      · (intro w' hS'; go_simp <;> try with_reducible rfl)
      try simp only [Act.put, List.setIfInBounds_toArray, List.set_cons_zero, List.set_cons_succ]
      refine rg_take 9 rfl (by kernel_rfl) (by kernel_rfl) (by kernel_rfl) (by rfl) hS (v := ?_) ?_ ?_
      rotate_left
      · (intro w' hS'; go_simp <;> try with_reducible rfl)
      try simp only [Act.put, List.setIfInBounds_toArray, List.set_cons_zero, List.set_cons_succ]
      refine rg_eff 11 rfl (by kernel_rfl) (by rfl) (fun K hK => ?_)
      refine wp_st (vs := mk qz) rfl rfl rfl a9 (by rw [wd_length, mk_length]) (wholeM _) (mk_one _) ?_
      refine hK _ _ (hS.row (.inr q9) _) (fun hS => ?_)
      clear hK K
      replace a9 := a9.row (mk qz)
      replace hb := below_row hb (g := p9) (by omega) (mk qz).toArray
      try simp only [Act.put, List.setIfInBounds_toArray, List.set_cons_zero, List.set_cons_succ]
      refine rg_take 12 rfl (by kernel_rfl) (by kernel_rfl) (by kernel_rfl) (by rfl) hS (v := ?_) ?_ ?_
      rotate_left
      · (intro w' hS'; go_simp <;> try with_reducible rfl)
      try simp only [Act.put, List.setIfInBounds_toArray, List.set_cons_zero, List.set_cons_succ]
      refine rg_done (by kernel_rfl) ?_
      go_wp2_with fail
      go_meet
      case rel => exact ⟨p9, rfl, hb, a9, b2.keep hS (by simp), b4.keep hS (by simp), b5.keep hS (by simp), mr.keep hS, by omega⟩
  case rest =>
    clear hb b2 b3 b4 b5 hsz mq mr
    obtain ⟨q, rfl, hb, b9, b2, b4, b5, mr, hq⟩ := hcut
    have MR := Lib.hid mr
    clear mr
    go_wp2_with (first | (with_reducible refine ldM rfl rfl rfl b9 ?_) | (with_reducible refine ldWp rfl rfl rfl b2 ?_))
    refine (N1.out _).mono ?_
    rintro e w1 ⟨rfl, h1⟩
    replace b9 := b9.call h1
    replace b4 := b4.call h1
    replace b5 := b5.call h1
    replace hb := bthen hb h1
    replace mr := MR.out.call h1
    clear h1
    go_wp2_with fail
    refine (wideK (fz_self HR.out.1) (by have := nw32.2 HR.out.1; omega) HR.out.2 mr).mono ?_
    rintro e w1 ⟨rfl, h1⟩
    replace b9 := b9.call h1
    replace b4 := b4.call h1
    replace b5 := b5.call h1
    replace hb := bthen hb h1
    clear h1
    have l9 := b9.lt
    have f11 := Blk.new w1 (wd false 0) 25 rfl
    have b11 := laid_new w1 rz
    replace b9 := laid_old b9 rz
    have l4 := b4.lt
    have l5 := b5.lt
    replace b4 := laid_old b4 rz
    replace b5 := laid_old b5 rz
    replace hb := laid_below hb rz
    go_wp2_with (first | (with_reducible refine alW rfl rfl ?_) | (with_reducible refine stM rfl rfl rfl rfl f11 (wd_length _ _) ?_))
    clear f11
    generalize (w1.alloc (.cells (wd false 0).toArray 25)).setRow w1.heap.size (mk rz).toArray = W at *
    have n11 : w.heap.size + 1 + 1 + 1 < w1.heap.size := l5
    generalize w1.heap.size = p11 at *
    refine rg_start [w.heap.size + 1 + 1, w.heap.size + 1 + 1 + 1] (by kernel_rfl) (fun hS => ?_)
    replace b4 := b4.drew
    replace b5 := b5.drew
    replace hb := hb.drew
    refine rg_ld 0 rfl (by kernel_rfl) (by kernel_rfl) (by kernel_rfl) (by rfl) hS rfl rfl b9 (by simp <;> omega) (wholeM _) ?_
    try simp only [Act.put, List.setIfInBounds_toArray, List.set_cons_zero, List.set_cons_succ]
    refine rg_ld 1 rfl (by kernel_rfl) (by kernel_rfl) (by kernel_rfl) (by rfl) hS rfl rfl b11 (by simp <;> omega) (wholeM _) ?_
    try simp only [Act.put, List.setIfInBounds_toArray, List.set_cons_zero, List.set_cons_succ]
    refine rg_eff 2 rfl (by kernel_rfl) (by rfl) (fun K hK => ?_)
    refine wp_st (vs := mk (qz)) rfl rfl rfl b4 (by rw [wd_length, mk_length]) (wholeM _) (mk_one _) ?_
    refine hK _ _ (hS.row (.inl (by simp)) _) (fun hS => ?_)
    clear hK K
    replace b5 := b5.rowOther (g := w.heap.size + 1 + 1) (mk qz).toArray (by omega)
    replace b4 := b4.row (mk qz)
    replace hb := below_row hb (g := w.heap.size + 1 + 1) (by omega) (mk qz).toArray
    try simp only [Act.put, List.setIfInBounds_toArray, List.set_cons_zero, List.set_cons_succ]
    refine rg_eff 3 rfl (by kernel_rfl) (by rfl) (fun K hK => ?_)
    refine wp_st (vs := mk (rz)) rfl rfl rfl b5 (by rw [wd_length, mk_length]) (wholeM _) (mk_one _) ?_
    refine hK _ _ (hS.row (.inl (by simp)) _) (fun hS => ?_)
    clear hK K
    try simp only [Act.put, List.setIfInBounds_toArray, List.set_cons_zero, List.set_cons_succ]
    refine rg_take 4 rfl (by kernel_rfl) (by kernel_rfl) (by kernel_rfl) (by rfl) hS (v := ?_) ?_ ?_
    rotate_left
    · (intro w' hS'; go_simp <;> try with_reducible rfl)
    try simp only [Act.put, List.setIfInBounds_toArray, List.set_cons_zero, List.set_cons_succ]
    refine rg_done (by kernel_rfl) ?_
    go_wp2
    exact ret_cct (cs := mk qz) (cs' := mk rz) (v := .bool true) rfl rfl rfl rfl rfl (wholeM _) (wholeM _) (b4.rowOther _ (by omega)) (b5.row _) ⟨rfl, below_row hb (by omega) _⟩
end Go.Proofs.Ytiaikjeljhfadaa
