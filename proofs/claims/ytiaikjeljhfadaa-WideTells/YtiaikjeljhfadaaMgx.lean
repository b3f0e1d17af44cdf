/- The reference's numbers: Neg, Gcd, Shl, DivMod, Cmp. -/
import Derived.Test.YtiaikjeljhfadaaMgu
import Derived.Deep.DeepCutAuto
namespace Go.Proofs.Ytiaikjeljhfadaa
set_option linter.unusedSimpArgs false
set_option linter.unusedVariables false
open Go.RowKit
set_option maxRecDepth 100000
theorem op_minc {o : Oper} {a : Act} {x : Operand} {n c m : Int} (hm : min n c = m) (ho : o.op = .call { callee := .builtin .min, args := #[x, .const (.int .i64 c)], argTypes := #[3, 3] }) (hx : a.eval x = .int .i64 n) (w : World) :
    (execOp a.eval o).run Try.prog w = .ok (.value (.int .i64 m)) w := by
  subst hm
  obtain ⟨dst, op, ty, pos, af, gd⟩ := o
  subst ho
  rw [BigFrame.execOp_builtin, BigFrame.builtin_min, show (#[x, Operand.const (.int .i64 c)] : Array Operand).map a.eval = #[.int .i64 n, .int .i64 c] by simp [hx, BigFrame.eval_const]]
  simp only [Sem.run_bind, run_min]
  rfl
theorem op_maxc {o : Oper} {a : Act} {x : Operand} {n c m : Int} (hm : max c n = m) (ho : o.op = .call { callee := .builtin .max, args := #[.const (.int .i64 c), x], argTypes := #[3, 3] }) (hx : a.eval x = .int .i64 n) (w : World) :
    (execOp a.eval o).run Try.prog w = .ok (.value (.int .i64 m)) w := by
  subst hm
  obtain ⟨dst, op, ty, pos, af, gd⟩ := o
  subst ho
  rw [BigFrame.execOp_builtin, BigFrame.builtin_max, show (#[Operand.const (.int .i64 c), x] : Array Operand).map a.eval = #[.int .i64 c, .int .i64 n] by simp [hx, BigFrame.eval_const]]
  simp only [Sem.run_bind, run_max]
  rfl
theorem two_le_bb {k e : Nat} (h : k ≤ e) (he : e = 32 * 32) : 2 ^ k ≤ bb ^ 32 := by rw [bb_pow e he]; exact two_le h
theorem fz_self {z : Int} (h : fits z) : Fz z z true := ⟨h, .inl ⟨h, rfl, rfl⟩⟩
set_option maxHeartbeats 2000000 in
theorem Negref_any (s : Bool) {N : Nat} (hN : N < bb ^ 32) : Tl 30 #[.agg (wd s N).toArray] (vw (-(zn s N))) := fun w => by
  have N1 := Lib.hid (fun w => negref_any s hN w)
  have O1 := Lib.hid (fun w => of_any s hN w)
  obtain ⟨sn, hsn⟩ : ∃ sn : Bool, (s && decide (N ≠ 0)) = sn := ⟨_, rfl⟩
  have ES : Hid (zn (!sn) (-(zn s N)).natAbs = -(zn s N) ∧ fits (-(zn s N)) ∧ (-(zn s N)).natAbs = N) := by
    have e1 : (-(zn s N)).natAbs = N := by rw [Int.natAbs_neg, zn_abs]
    refine ⟨?_, by rw [fits, e1]; exact hN, e1⟩
    rw [e1, zn_flip, ← hsn, zn_neg]
  rw [hsn] at N1
  generalize hz : -(zn s N) = z at *
  clear hsn hN hz
  unfold vw
  have b1 := (Blk.new w (wd s N) 25 rfl).old (.cells (wd false 0).toArray 25)
  have b2 := Blk.new (w.alloc (.cells (wd s N).toArray 25)) (wd false 0) 25 (b := w.heap.size + 1) (by simp)
  have hb : Below w.heap.size w ((w.alloc (.cells (wd s N).toArray 25)).alloc (.cells (wd false 0).toArray 25)) := ((Below.refl _ _).alloc (Nat.le_refl _) _).alloc (by simp) _
  have hsz := hb.size
  go_enter Try.func30, Try.ntmps30
  go_wp2_with (first | (with_reducible refine alW2 rfl rfl ?_) | (with_reducible refine alW rfl rfl ?_))
  try simp only [Act.put, List.setIfInBounds_toArray, List.set_cons_zero, List.set_cons_succ]
  go_cut [3] (fun p wx => ∃ q, p = .pointer (some ⟨q, 0, none⟩) ∧ Below w.heap.size w wx ∧ Blk wx q (mk z) 25 ∧ Blk wx (w.heap.size + 1) (wd false 0) 25)
  case first =>
    refine rg_start [] (by kernel_rfl) (fun hS => ?_)
    replace hb := hb.drew
    refine rg_ld 0 rfl (by kernel_rfl) (by kernel_rfl) (by kernel_rfl) (by rfl) hS rfl rfl b1 (by simp <;> omega) (whole25 _ _) ?_
    try simp only [Act.put, List.setIfInBounds_toArray, List.set_cons_zero, List.set_cons_succ]
    refine rg_ld 3 rfl (by kernel_rfl) (by kernel_rfl) (by kernel_rfl) (by rfl) hS rfl rfl b1 (by simp <;> omega) (whole25 _ _) ?_
    try simp only [Act.put, List.setIfInBounds_toArray, List.set_cons_zero, List.set_cons_succ]
    refine rg_two 1 9 rfl rfl (by kernel_rfl) (by rfl) (by rfl) (fun K hK => ?_) (fun K hK => ?_)
    · go_simp
      refine (N1.out _).mono ?_
      rintro e w1 ⟨rfl, h1⟩
      refine hK _ _ (hS.call h1) (fun hS => ?_)
      clear hK K
      try replace a3 := a3.call h1
      replace hb := bthen hb h1
      clear h1
      try simp only [Act.put, List.setIfInBounds_toArray, List.set_cons_zero, List.set_cons_succ]
      refine rg_take 2 rfl (by kernel_rfl) (by kernel_rfl) (by kernel_rfl) (by rfl) hS (v := ?_) ?_ ?_
      rotate_left
      · (intro w' hS'; go_simp <;> try with_reducible rfl)
      try simp only [Act.put, List.setIfInBounds_toArray, List.set_cons_zero, List.set_cons_succ]
      refine rg_two 4 9 rfl rfl (by kernel_rfl) (by rfl) (by rfl) (fun K hK => ?_) (fun K hK => ?_)
      · go_simp
        refine (O1.out _).mono ?_
        rintro e w1 ⟨va, rfl, ma, h1⟩
        refine hK _ _ (hS.call h1) (fun hS => ?_)
        clear hK K
        try replace a3 := a3.call h1
        replace hb := bthen hb h1
        clear h1
        rw [← ES.out.2.2] at ma
        try simp only [Act.put, List.setIfInBounds_toArray, List.set_cons_zero, List.set_cons_succ]
        refine rg_two 5 9 rfl rfl (by kernel_rfl) (by rfl) (by rfl) (fun K hK => ?_) (fun K hK => ?_)
        · go_simp
          refine (wideK (fz_self ES.out.2.1) (by have := nw32.2 ES.out.2.1; omega) ES.out.1 ma).mono ?_
          rintro e w1 ⟨rfl, h1⟩
          refine hK _ _ (hS.call h1) (fun hS => ?_)
          clear hK K
          try replace a3 := a3.call h1
          replace hb := bthen hb h1
          clear h1
          try simp only [Act.put, List.setIfInBounds_toArray, List.set_cons_zero, List.set_cons_succ]
          refine rg_take 6 rfl (by kernel_rfl) (by kernel_rfl) (by kernel_rfl) (by rfl) hS (v := ?_) ?_ ?_
          rotate_left
          · (intro w' hS'; go_simp <;> try with_reducible rfl)
          try simp only [Act.put, List.setIfInBounds_toArray, List.set_cons_zero, List.set_cons_succ]
          refine rg_take 7 rfl (by kernel_rfl) (by kernel_rfl) (by kernel_rfl) (by rfl) hS (v := ?_) ?_ ?_
          rotate_left
          · (intro w' hS'; go_simp <;> try with_reducible rfl)
          try simp only [Act.put, List.setIfInBounds_toArray, List.set_cons_zero, List.set_cons_succ]
          refine rg_take 8 rfl (by kernel_rfl) (by kernel_rfl) (by kernel_rfl) (by rfl) hS (v := ?_) ?_ ?_
          rotate_left
          · (intro w' hS'; go_simp <;> try with_reducible rfl)
          try simp only [Act.put, List.setIfInBounds_toArray, List.set_cons_zero, List.set_cons_succ]
          refine rg_eff 9 rfl (by kernel_rfl) (by rfl) (fun K hK => ?_)
          refine wp_alB (zs := wd false 0) rfl (by kernel_rfl) (fun p3 q3 a3 => ?_)
          replace q3 := Nat.le_trans hS.1 q3
          refine hK _ _ (hS.alloc _) (fun hS => ?_)
          clear hK K
          replace hb := hb.alloc hb.size (.cells (wd false 0).toArray 25)
          try replace ma := ma.call ((Below.refl _ _).alloc (Nat.le_refl _) (.cells (wd false 0).toArray 25))
          try simp only [Act.put, List.setIfInBounds_toArray, List.set_cons_zero, List.set_cons_succ]
          refine rg_eff 10 rfl (by kernel_rfl) (by rfl) (fun K hK => ?_)
          refine wp_st (vs := mk z) rfl rfl rfl a3 (by rw [wd_length, mk_length]) (wholeM _) (mk_one _) ?_
          refine hK _ _ (hS.row (.inr q3) _) (fun hS => ?_)
          clear hK K
          replace a3 := a3.row (mk z)
          replace hb := below_row hb (g := p3) (by omega) (mk z).toArray
          try simp only [Act.put, List.setIfInBounds_toArray, List.set_cons_zero, List.set_cons_succ]
          refine rg_take 11 rfl (by kernel_rfl) (by kernel_rfl) (by kernel_rfl) (by rfl) hS (v := ?_) ?_ ?_
          rotate_left
          · (intro w' hS'; go_simp <;> try with_reducible rfl)
          try simp only [Act.put, List.setIfInBounds_toArray, List.set_cons_zero, List.set_cons_succ]
          refine rg_done (by kernel_rfl) ?_
          go_wp2_with fail
          go_meet
          case rel => exact ⟨p3, rfl, hb, a3, b2.keep hS (by simp)⟩
        · refine wp_alB (zs := wd false 0) rfl (by kernel_rfl) (fun p3 q3 a3 => ?_)
          replace q3 := Nat.le_trans hS.1 q3
          refine hK _ _ (hS.alloc _) (fun hS => ?_)
          clear hK K
          replace hb := hb.alloc hb.size (.cells (wd false 0).toArray 25)
          try replace ma := ma.call ((Below.refl _ _).alloc (Nat.le_refl _) (.cells (wd false 0).toArray 25))
          try simp only [Act.put, List.setIfInBounds_toArray, List.set_cons_zero, List.set_cons_succ]
          refine rg_eff 5 rfl (by kernel_rfl) (by rfl) (fun K hK => ?_)
          go_simp
          refine (wideK (fz_self ES.out.2.1) (by have := nw32.2 ES.out.2.1; omega) ES.out.1 ma).mono ?_
          rintro e w1 ⟨rfl, h1⟩
          refine hK _ _ (hS.call h1) (fun hS => ?_)
          clear hK K
          try replace a3 := a3.call h1
          replace hb := bthen hb h1
          clear h1
          try simp only [Act.put, List.setIfInBounds_toArray, List.set_cons_zero, List.set_cons_succ]
          refine rg_take 6 rfl (by kernel_rfl) (by kernel_rfl) (by kernel_rfl) (by rfl) hS (v := ?_) ?_ ?_
          rotate_left
          · (intro w' hS'; go_simp <;> try with_reducible rfl)
          try simp only [Act.put, List.setIfInBounds_toArray, List.set_cons_zero, List.set_cons_succ]
          refine rg_take 7 rfl (by kernel_rfl) (by kernel_rfl) (by kernel_rfl) (by rfl) hS (v := ?_) ?_ ?_
          rotate_left
          · (intro w' hS'; go_simp <;> try with_reducible rfl)
          try simp only [Act.put, List.setIfInBounds_toArray, List.set_cons_zero, List.set_cons_succ]
          refine rg_take 8 rfl (by kernel_rfl) (by kernel_rfl) (by kernel_rfl) (by rfl) hS (v := ?_) ?_ ?_
          rotate_left
          · (intro w' hS'; go_simp <;> try with_reducible rfl)
          try simp only [Act.put, List.setIfInBounds_toArray, List.set_cons_zero, List.set_cons_succ]
          refine rg_eff 10 rfl (by kernel_rfl) (by rfl) (fun K hK => ?_)
          refine wp_st (vs := mk z) rfl rfl rfl a3 (by rw [wd_length, mk_length]) (wholeM _) (mk_one _) ?_
          refine hK _ _ (hS.row (.inr q3) _) (fun hS => ?_)
          clear hK K
          replace a3 := a3.row (mk z)
          replace hb := below_row hb (g := p3) (by omega) (mk z).toArray
          try simp only [Act.put, List.setIfInBounds_toArray, List.set_cons_zero, List.set_cons_succ]
          refine rg_take 11 rfl (by kernel_rfl) (by kernel_rfl) (by kernel_rfl) (by rfl) hS (v := ?_) ?_ ?_
          rotate_left
          · (intro w' hS'; go_simp <;> try with_reducible rfl)
          try simp only [Act.put, List.setIfInBounds_toArray, List.set_cons_zero, List.set_cons_succ]
          refine rg_done (by kernel_rfl) ?_
          go_wp2_with fail
          go_meet
          case rel => exact ⟨p3, rfl, hb, a3, b2.keep hS (by simp)⟩
      · refine wp_alB (zs := wd false 0) rfl (by kernel_rfl) (fun p3 q3 a3 => ?_)
        replace q3 := Nat.le_trans hS.1 q3
        refine hK _ _ (hS.alloc _) (fun hS => ?_)
        clear hK K
        replace hb := hb.alloc hb.size (.cells (wd false 0).toArray 25)
        try replace ma := ma.call ((Below.refl _ _).alloc (Nat.le_refl _) (.cells (wd false 0).toArray 25))
        try simp only [Act.put, List.setIfInBounds_toArray, List.set_cons_zero, List.set_cons_succ]
        refine rg_eff 4 rfl (by kernel_rfl) (by rfl) (fun K hK => ?_)
        go_simp
        refine (O1.out _).mono ?_
        rintro e w1 ⟨va, rfl, ma, h1⟩
        refine hK _ _ (hS.call h1) (fun hS => ?_)
        clear hK K
        try replace a3 := a3.call h1
        replace hb := bthen hb h1
        clear h1
        rw [← ES.out.2.2] at ma
        try simp only [Act.put, List.setIfInBounds_toArray, List.set_cons_zero, List.set_cons_succ]
        refine rg_eff 5 rfl (by kernel_rfl) (by rfl) (fun K hK => ?_)
        go_simp
        refine (wideK (fz_self ES.out.2.1) (by have := nw32.2 ES.out.2.1; omega) ES.out.1 ma).mono ?_
        rintro e w1 ⟨rfl, h1⟩
        refine hK _ _ (hS.call h1) (fun hS => ?_)
        clear hK K
        try replace a3 := a3.call h1
        replace hb := bthen hb h1
        clear h1
        try simp only [Act.put, List.setIfInBounds_toArray, List.set_cons_zero, List.set_cons_succ]
        refine rg_take 6 rfl (by kernel_rfl) (by kernel_rfl) (by kernel_rfl) (by rfl) hS (v := ?_) ?_ ?_
        rotate_left
        · (intro w' hS'; go_simp <;> try with_reducible rfl)
        try simp only [Act.put, List.setIfInBounds_toArray, List.set_cons_zero, List.set_cons_succ]
        refine rg_take 7 rfl (by kernel_rfl) (by kernel_rfl) (by kernel_rfl) (by rfl) hS (v := ?_) ?_ ?_
        rotate_left
        · (intro w' hS'; go_simp <;> try with_reducible rfl)
        try simp only [Act.put, List.setIfInBounds_toArray, List.set_cons_zero, List.set_cons_succ]
        refine rg_take 8 rfl (by kernel_rfl) (by kernel_rfl) (by kernel_rfl) (by rfl) hS (v := ?_) ?_ ?_
        rotate_left
        · (intro w' hS'; go_simp <;> try with_reducible rfl)
        try simp only [Act.put, List.setIfInBounds_toArray, List.set_cons_zero, List.set_cons_succ]
        refine rg_eff 10 rfl (by kernel_rfl) (by rfl) (fun K hK => ?_)
        refine wp_st (vs := mk z) rfl rfl rfl a3 (by rw [wd_length, mk_length]) (wholeM _) (mk_one _) ?_
        refine hK _ _ (hS.row (.inr q3) _) (fun hS => ?_)
        clear hK K
        replace a3 := a3.row (mk z)
        replace hb := below_row hb (g := p3) (by omega) (mk z).toArray
        try simp only [Act.put, List.setIfInBounds_toArray, List.set_cons_zero, List.set_cons_succ]
        refine rg_take 11 rfl (by kernel_rfl) (by kernel_rfl) (by kernel_rfl) (by rfl) hS (v := ?_) ?_ ?_
        rotate_left
        · (intro w' hS'; go_simp <;> try with_reducible rfl)
        try simp only [Act.put, List.setIfInBounds_toArray, List.set_cons_zero, List.set_cons_succ]
        refine rg_done (by kernel_rfl) ?_
        go_wp2_with fail
        go_meet
        case rel => exact ⟨p3, rfl, hb, a3, b2.keep hS (by simp)⟩
    · refine wp_alB (zs := wd false 0) rfl (by kernel_rfl) (fun p3 q3 a3 => ?_)
      replace q3 := Nat.le_trans hS.1 q3
      refine hK _ _ (hS.alloc _) (fun hS => ?_)
      clear hK K
      replace hb := hb.alloc hb.size (.cells (wd false 0).toArray 25)
      try replace ma := ma.call ((Below.refl _ _).alloc (Nat.le_refl _) (.cells (wd false 0).toArray 25))
      try simp only [Act.put, List.setIfInBounds_toArray, List.set_cons_zero, List.set_cons_succ]
      refine rg_eff 1 rfl (by kernel_rfl) (by rfl) (fun K hK => ?_)
      go_simp
      refine (N1.out _).mono ?_
      rintro e w1 ⟨rfl, h1⟩
      refine hK _ _ (hS.call h1) (fun hS => ?_)
      clear hK K
      try replace a3 := a3.call h1
      replace hb := bthen hb h1
      clear h1
      try simp only [Act.put, List.setIfInBounds_toArray, List.set_cons_zero, List.set_cons_succ]
      refine rg_take 2 rfl (by kernel_rfl) (by kernel_rfl) (by kernel_rfl) (by rfl) hS (v := ?_) ?_ ?_
      rotate_left
      · (intro w' hS'; go_simp <;> try with_reducible rfl)
      try simp only [Act.put, List.setIfInBounds_toArray, List.set_cons_zero, List.set_cons_succ]
      refine rg_eff 4 rfl (by kernel_rfl) (by rfl) (fun K hK => ?_)
      go_simp
      refine (O1.out _).mono ?_
      rintro e w1 ⟨va, rfl, ma, h1⟩
      refine hK _ _ (hS.call h1) (fun hS => ?_)
      clear hK K
      try replace a3 := a3.call h1
      replace hb := bthen hb h1
      clear h1
      rw [← ES.out.2.2] at ma
      try simp only [Act.put, List.setIfInBounds_toArray, List.set_cons_zero, List.set_cons_succ]
      refine rg_eff 5 rfl (by kernel_rfl) (by rfl) (fun K hK => ?_)
      go_simp
      refine (wideK (fz_self ES.out.2.1) (by have := nw32.2 ES.out.2.1; omega) ES.out.1 ma).mono ?_
      rintro e w1 ⟨rfl, h1⟩
      refine hK _ _ (hS.call h1) (fun hS => ?_)
      clear hK K
      try replace a3 := a3.call h1
      replace hb := bthen hb h1
      clear h1
      try simp only [Act.put, List.setIfInBounds_toArray, List.set_cons_zero, List.set_cons_succ]
      refine rg_take 6 rfl (by kernel_rfl) (by kernel_rfl) (by kernel_rfl) (by rfl) hS (v := ?_) ?_ ?_
      rotate_left
      · (intro w' hS'; go_simp <;> try with_reducible rfl)
      try simp only [Act.put, List.setIfInBounds_toArray, List.set_cons_zero, List.set_cons_succ]
      refine rg_take 7 rfl (by kernel_rfl) (by kernel_rfl) (by kernel_rfl) (by rfl) hS (v := ?_) ?_ ?_
      rotate_left
      · (intro w' hS'; go_simp <;> try with_reducible rfl)
      try simp only [Act.put, List.setIfInBounds_toArray, List.set_cons_zero, List.set_cons_succ]
      refine rg_take 8 rfl (by kernel_rfl) (by kernel_rfl) (by kernel_rfl) (by rfl) hS (v := ?_) ?_ ?_
      rotate_left
      · (intro w' hS'; go_simp <;> try with_reducible rfl)
      try simp only [Act.put, List.setIfInBounds_toArray, List.set_cons_zero, List.set_cons_succ]
      refine rg_eff 10 rfl (by kernel_rfl) (by rfl) (fun K hK => ?_)
      refine wp_st (vs := mk z) rfl rfl rfl a3 (by rw [wd_length, mk_length]) (wholeM _) (mk_one _) ?_
      refine hK _ _ (hS.row (.inr q3) _) (fun hS => ?_)
      clear hK K
      replace a3 := a3.row (mk z)
      replace hb := below_row hb (g := p3) (by omega) (mk z).toArray
      try simp only [Act.put, List.setIfInBounds_toArray, List.set_cons_zero, List.set_cons_succ]
      refine rg_take 11 rfl (by kernel_rfl) (by kernel_rfl) (by kernel_rfl) (by rfl) hS (v := ?_) ?_ ?_
      rotate_left
      · (intro w' hS'; go_simp <;> try with_reducible rfl)
      try simp only [Act.put, List.setIfInBounds_toArray, List.set_cons_zero, List.set_cons_succ]
      refine rg_done (by kernel_rfl) ?_
      go_wp2_with fail
      go_meet
      case rel => exact ⟨p3, rfl, hb, a3, b2.keep hS (by simp)⟩
  case rest =>
    clear hb b1 b2 hsz
    obtain ⟨q, rfl, hb, b3, b2⟩ := hcut
    go_wp2_with (first | (with_reducible refine ldM rfl rfl rfl b3 ?_) | (with_reducible refine stM rfl rfl rfl rfl b2 (wd_length _ _) ?_))
    exact ret_c (cs := mk z) rfl rfl rfl (wholeM _) (b2.row _) ⟨rfl, below_row hb (by omega) _⟩
set_option maxHeartbeats 2000000 in
theorem Gcdref_any (s : Bool) {N : Nat} (t : Bool) {M : Nat} (hN : N < bb ^ 32) (hM : M < bb ^ 32) : Tl 36 #[.agg (wd s N).toArray, .agg (wd t M).toArray] (vw (Int.gcd (zn s N) (zn t M) : Nat)) := fun w => by
  have O1 := Lib.hid (fun w => of_any s hN w)
  have O2 := Lib.hid (fun w => of_any t hM w)
  have eg : Int.gcd (zn s N) (zn t M) = Nat.gcd N M := by unfold Int.gcd; rw [zn_abs, zn_abs]
  rw [eg]
  have HG : Hid (fits ((Nat.gcd N M : Nat) : Int)) := by
    show ((Nat.gcd N M : Nat) : Int).natAbs < bb ^ 32
    rw [Int.natAbs_natCast]
    by_cases h : N = 0
    · subst h; rw [Nat.gcd_zero_left]; exact hM
    · exact Nat.lt_of_le_of_lt (Nat.gcd_le_left M (by omega)) hN
  have EZ : Hid (zn false ((Nat.gcd N M : Nat) : Int).natAbs = ((Nat.gcd N M : Nat) : Int)) := by
    show zn false ((Nat.gcd N M : Nat) : Int).natAbs = ((Nat.gcd N M : Nat) : Int)
    unfold zn; simp
  have HL : Hid (nw N ≤ 900 ∧ nw M ≤ 900) := ⟨Nat.le_trans (nw32.2 hN) (by omega), Nat.le_trans (nw32.2 hM) (by omega)⟩
  have EN : Hid (((Nat.gcd N M : Nat) : Int).natAbs = Nat.gcd N M) := Int.natAbs_natCast _
  have GG : Hid (∀ {w u v}, Mv w u N → Mv w v M → Calls Try.prog 89 #[u, v] w fun e w' => ∃ v', e = .returned v' ∧ Mv w' v' ((Nat.gcd N M : Nat) : Int).natAbs ∧ Below w.heap.size w w') := fun {w u v} h h' => by
    rw [EN.out]; exact gcdref_any h h' HL.out.1 HL.out.2
  generalize ((Nat.gcd N M : Nat) : Int) = z at *
  clear hN hM eg EN
  unfold vw
  have b2 := ((Blk.new w (wd s N) 25 rfl).old (.cells (wd t M).toArray 25)).old (.cells (wd false 0).toArray 25)
  have b3 := (Blk.new (w.alloc (.cells (wd s N).toArray 25)) (wd t M) 25 (b := w.heap.size + 1) (by simp)).old (.cells (wd false 0).toArray 25)
  have b4 := Blk.new ((w.alloc (.cells (wd s N).toArray 25)).alloc (.cells (wd t M).toArray 25)) (wd false 0) 25 (b := w.heap.size + 1 + 1) (by simp)
  have hb : Below w.heap.size w (((w.alloc (.cells (wd s N).toArray 25)).alloc (.cells (wd t M).toArray 25)).alloc (.cells (wd false 0).toArray 25)) := (((Below.refl _ _).alloc (Nat.le_refl _) _).alloc (by simp) _).alloc (by simp <;> omega) _
  have hsz := hb.size
  go_enter Try.func36, Try.ntmps36
  go_wp2_with (first | (with_reducible refine alW rfl rfl ?_))
  try rw [show ((w.alloc (.cells (wd s N).toArray 25)).alloc (.cells (wd t M).toArray 25)).heap.size = w.heap.size + 1 + 1 by simp]
  try simp only [Act.put, List.setIfInBounds_toArray, List.set_cons_zero, List.set_cons_succ]
  go_cut [5] (fun p wx => ∃ q, p = .pointer (some ⟨q, 0, none⟩) ∧ Below w.heap.size w wx ∧ Blk wx q (mk z) 25 ∧ Blk wx (w.heap.size + 1 + 1) (wd false 0) 25)
  case first =>
    refine rg_start [] (by kernel_rfl) (fun hS => ?_)
    replace hb := hb.drew
    refine rg_ld 0 rfl (by kernel_rfl) (by kernel_rfl) (by kernel_rfl) (by rfl) hS rfl rfl b2 (by simp <;> omega) (whole25 _ _) ?_
    try simp only [Act.put, List.setIfInBounds_toArray, List.set_cons_zero, List.set_cons_succ]
    refine rg_ld 2 rfl (by kernel_rfl) (by kernel_rfl) (by kernel_rfl) (by rfl) hS rfl rfl b3 (by simp <;> omega) (whole25 _ _) ?_
    try simp only [Act.put, List.setIfInBounds_toArray, List.set_cons_zero, List.set_cons_succ]
    refine rg_two 1 9 rfl rfl (by kernel_rfl) (by rfl) (by rfl) (fun K hK => ?_) (fun K hK => ?_)
    · go_simp
      refine (O1.out _).mono ?_
      rintro e w1 ⟨va, rfl, ma, h1⟩
      refine hK _ _ (hS.call h1) (fun hS => ?_)
      clear hK K
      try replace a5 := a5.call h1
      replace hb := bthen hb h1
      clear h1
      try simp only [Act.put, List.setIfInBounds_toArray, List.set_cons_zero, List.set_cons_succ]
      refine rg_two 3 9 rfl rfl (by kernel_rfl) (by rfl) (by rfl) (fun K hK => ?_) (fun K hK => ?_)
      · go_simp
        refine (O2.out _).mono ?_
        rintro e w1 ⟨vb, rfl, mb, h1⟩
        refine hK _ _ (hS.call h1) (fun hS => ?_)
        clear hK K
        replace ma := ma.call h1
        try replace a5 := a5.call h1
        replace hb := bthen hb h1
        clear h1
        try simp only [Act.put, List.setIfInBounds_toArray, List.set_cons_zero, List.set_cons_succ]
        refine rg_two 4 9 rfl rfl (by kernel_rfl) (by rfl) (by rfl) (fun K hK => ?_) (fun K hK => ?_)
        · go_simp
          refine (GG.out ma mb).mono ?_
          rintro e w1 ⟨vg, rfl, mg, h1⟩
          refine hK _ _ (hS.call h1) (fun hS => ?_)
          clear hK K
          try replace a5 := a5.call h1
          replace hb := bthen hb h1
          clear h1
          try simp only [Act.put, List.setIfInBounds_toArray, List.set_cons_zero, List.set_cons_succ]
          refine rg_two 5 9 rfl rfl (by kernel_rfl) (by rfl) (by rfl) (fun K hK => ?_) (fun K hK => ?_)
          · go_simp
            refine (wideK (fz_self HG.out) (by have := nw32.2 HG.out; omega) EZ.out mg).mono ?_
            rintro e w1 ⟨rfl, h1⟩
            refine hK _ _ (hS.call h1) (fun hS => ?_)
            clear hK K
            try replace a5 := a5.call h1
            replace hb := bthen hb h1
            clear h1
            try simp only [Act.put, List.setIfInBounds_toArray, List.set_cons_zero, List.set_cons_succ]
            refine rg_take 6 rfl (by kernel_rfl) (by kernel_rfl) (by kernel_rfl) (by rfl) hS (v := ?_) ?_ ?_
            rotate_left
            · (intro w' hS'; go_simp <;> try with_reducible rfl)
            try simp only [Act.put, List.setIfInBounds_toArray, List.set_cons_zero, List.set_cons_succ]
            refine rg_take 7 rfl (by kernel_rfl) (by kernel_rfl) (by kernel_rfl) (by rfl) hS (v := ?_) ?_ ?_
            rotate_left
            · (intro w' hS'; go_simp <;> try with_reducible rfl)
            try simp only [Act.put, List.setIfInBounds_toArray, List.set_cons_zero, List.set_cons_succ]
            refine rg_take 8 rfl (by kernel_rfl) (by kernel_rfl) (by kernel_rfl) (by rfl) hS (v := ?_) ?_ ?_
            rotate_left
            · (intro w' hS'; go_simp <;> try with_reducible rfl)
            try simp only [Act.put, List.setIfInBounds_toArray, List.set_cons_zero, List.set_cons_succ]
            refine rg_eff 9 rfl (by kernel_rfl) (by rfl) (fun K hK => ?_)
            refine wp_alB (zs := wd false 0) rfl (by kernel_rfl) (fun p5 q5 a5 => ?_)
            replace q5 := Nat.le_trans hS.1 q5
            refine hK _ _ (hS.alloc _) (fun hS => ?_)
            clear hK K
            replace hb := hb.alloc hb.size (.cells (wd false 0).toArray 25)
            try replace ma := ma.call ((Below.refl _ _).alloc (Nat.le_refl _) (.cells (wd false 0).toArray 25))
            try replace mb := mb.call ((Below.refl _ _).alloc (Nat.le_refl _) (.cells (wd false 0).toArray 25))
            try replace mg := mg.call ((Below.refl _ _).alloc (Nat.le_refl _) (.cells (wd false 0).toArray 25))
            try simp only [Act.put, List.setIfInBounds_toArray, List.set_cons_zero, List.set_cons_succ]
            refine rg_eff 10 rfl (by kernel_rfl) (by rfl) (fun K hK => ?_)
            refine wp_st (vs := mk z) rfl rfl rfl a5 (by rw [wd_length, mk_length]) (wholeM _) (mk_one _) ?_
            refine hK _ _ (hS.row (.inr q5) _) (fun hS => ?_)
            clear hK K
            replace a5 := a5.row (mk z)
            replace hb := below_row hb (g := p5) (by omega) (mk z).toArray
            try simp only [Act.put, List.setIfInBounds_toArray, List.set_cons_zero, List.set_cons_succ]
            refine rg_take 11 rfl (by kernel_rfl) (by kernel_rfl) (by kernel_rfl) (by rfl) hS (v := ?_) ?_ ?_
            rotate_left
            · (intro w' hS'; go_simp <;> try with_reducible rfl)
            try simp only [Act.put, List.setIfInBounds_toArray, List.set_cons_zero, List.set_cons_succ]
            refine rg_done (by kernel_rfl) ?_
            go_wp2_with fail
            go_meet
            case rel => exact ⟨p5, rfl, hb, a5, b4.keep hS (by simp)⟩
          · refine wp_alB (zs := wd false 0) rfl (by kernel_rfl) (fun p5 q5 a5 => ?_)
            replace q5 := Nat.le_trans hS.1 q5
            refine hK _ _ (hS.alloc _) (fun hS => ?_)
            clear hK K
            replace hb := hb.alloc hb.size (.cells (wd false 0).toArray 25)
            try replace ma := ma.call ((Below.refl _ _).alloc (Nat.le_refl _) (.cells (wd false 0).toArray 25))
            try replace mb := mb.call ((Below.refl _ _).alloc (Nat.le_refl _) (.cells (wd false 0).toArray 25))
            try replace mg := mg.call ((Below.refl _ _).alloc (Nat.le_refl _) (.cells (wd false 0).toArray 25))
            try simp only [Act.put, List.setIfInBounds_toArray, List.set_cons_zero, List.set_cons_succ]
            refine rg_eff 5 rfl (by kernel_rfl) (by rfl) (fun K hK => ?_)
            go_simp
            refine (wideK (fz_self HG.out) (by have := nw32.2 HG.out; omega) EZ.out mg).mono ?_
            rintro e w1 ⟨rfl, h1⟩
            refine hK _ _ (hS.call h1) (fun hS => ?_)
            clear hK K
            try replace a5 := a5.call h1
            replace hb := bthen hb h1
            clear h1
            try simp only [Act.put, List.setIfInBounds_toArray, List.set_cons_zero, List.set_cons_succ]
            refine rg_take 6 rfl (by kernel_rfl) (by kernel_rfl) (by kernel_rfl) (by rfl) hS (v := ?_) ?_ ?_
            rotate_left
            · (intro w' hS'; go_simp <;> try with_reducible rfl)
            try simp only [Act.put, List.setIfInBounds_toArray, List.set_cons_zero, List.set_cons_succ]
            refine rg_take 7 rfl (by kernel_rfl) (by kernel_rfl) (by kernel_rfl) (by rfl) hS (v := ?_) ?_ ?_
            rotate_left
            · (intro w' hS'; go_simp <;> try with_reducible rfl)
            try simp only [Act.put, List.setIfInBounds_toArray, List.set_cons_zero, List.set_cons_succ]
            refine rg_take 8 rfl (by kernel_rfl) (by kernel_rfl) (by kernel_rfl) (by rfl) hS (v := ?_) ?_ ?_
            rotate_left
            · (intro w' hS'; go_simp <;> try with_reducible rfl)
            try simp only [Act.put, List.setIfInBounds_toArray, List.set_cons_zero, List.set_cons_succ]
            refine rg_eff 10 rfl (by kernel_rfl) (by rfl) (fun K hK => ?_)
            refine wp_st (vs := mk z) rfl rfl rfl a5 (by rw [wd_length, mk_length]) (wholeM _) (mk_one _) ?_
            refine hK _ _ (hS.row (.inr q5) _) (fun hS => ?_)
            clear hK K
            replace a5 := a5.row (mk z)
            replace hb := below_row hb (g := p5) (by omega) (mk z).toArray
            try simp only [Act.put, List.setIfInBounds_toArray, List.set_cons_zero, List.set_cons_succ]
            refine rg_take 11 rfl (by kernel_rfl) (by kernel_rfl) (by kernel_rfl) (by rfl) hS (v := ?_) ?_ ?_
            rotate_left
            · (intro w' hS'; go_simp <;> try with_reducible rfl)
            try simp only [Act.put, List.setIfInBounds_toArray, List.set_cons_zero, List.set_cons_succ]
            refine rg_done (by kernel_rfl) ?_
            go_wp2_with fail
            go_meet
            case rel => exact ⟨p5, rfl, hb, a5, b4.keep hS (by simp)⟩
        · refine wp_alB (zs := wd false 0) rfl (by kernel_rfl) (fun p5 q5 a5 => ?_)
          replace q5 := Nat.le_trans hS.1 q5
          refine hK _ _ (hS.alloc _) (fun hS => ?_)
          clear hK K
          replace hb := hb.alloc hb.size (.cells (wd false 0).toArray 25)
          try replace ma := ma.call ((Below.refl _ _).alloc (Nat.le_refl _) (.cells (wd false 0).toArray 25))
          try replace mb := mb.call ((Below.refl _ _).alloc (Nat.le_refl _) (.cells (wd false 0).toArray 25))
          try replace mg := mg.call ((Below.refl _ _).alloc (Nat.le_refl _) (.cells (wd false 0).toArray 25))
          try simp only [Act.put, List.setIfInBounds_toArray, List.set_cons_zero, List.set_cons_succ]
          refine rg_eff 4 rfl (by kernel_rfl) (by rfl) (fun K hK => ?_)
          go_simp
          refine (GG.out ma mb).mono ?_
          rintro e w1 ⟨vg, rfl, mg, h1⟩
          refine hK _ _ (hS.call h1) (fun hS => ?_)
          clear hK K
          try replace a5 := a5.call h1
          replace hb := bthen hb h1
          clear h1
          try simp only [Act.put, List.setIfInBounds_toArray, List.set_cons_zero, List.set_cons_succ]
          refine rg_eff 5 rfl (by kernel_rfl) (by rfl) (fun K hK => ?_)
          go_simp
          refine (wideK (fz_self HG.out) (by have := nw32.2 HG.out; omega) EZ.out mg).mono ?_
          rintro e w1 ⟨rfl, h1⟩
          refine hK _ _ (hS.call h1) (fun hS => ?_)
          clear hK K
          try replace a5 := a5.call h1
          replace hb := bthen hb h1
          clear h1
          try simp only [Act.put, List.setIfInBounds_toArray, List.set_cons_zero, List.set_cons_succ]
          refine rg_take 6 rfl (by kernel_rfl) (by kernel_rfl) (by kernel_rfl) (by rfl) hS (v := ?_) ?_ ?_
          rotate_left
          · (intro w' hS'; go_simp <;> try with_reducible rfl)
          try simp only [Act.put, List.setIfInBounds_toArray, List.set_cons_zero, List.set_cons_succ]
          refine rg_take 7 rfl (by kernel_rfl) (by kernel_rfl) (by kernel_rfl) (by rfl) hS (v := ?_) ?_ ?_
          rotate_left
          · (intro w' hS'; go_simp <;> try with_reducible rfl)
          try simp only [Act.put, List.setIfInBounds_toArray, List.set_cons_zero, List.set_cons_succ]
          refine rg_take 8 rfl (by kernel_rfl) (by kernel_rfl) (by kernel_rfl) (by rfl) hS (v := ?_) ?_ ?_
          rotate_left
          · (intro w' hS'; go_simp <;> try with_reducible rfl)
          try simp only [Act.put, List.setIfInBounds_toArray, List.set_cons_zero, List.set_cons_succ]
          refine rg_eff 10 rfl (by kernel_rfl) (by rfl) (fun K hK => ?_)
          refine wp_st (vs := mk z) rfl rfl rfl a5 (by rw [wd_length, mk_length]) (wholeM _) (mk_one _) ?_
          refine hK _ _ (hS.row (.inr q5) _) (fun hS => ?_)
          clear hK K
          replace a5 := a5.row (mk z)
          replace hb := below_row hb (g := p5) (by omega) (mk z).toArray
          try simp only [Act.put, List.setIfInBounds_toArray, List.set_cons_zero, List.set_cons_succ]
          refine rg_take 11 rfl (by kernel_rfl) (by kernel_rfl) (by kernel_rfl) (by rfl) hS (v := ?_) ?_ ?_
          rotate_left
          · (intro w' hS'; go_simp <;> try with_reducible rfl)
          try simp only [Act.put, List.setIfInBounds_toArray, List.set_cons_zero, List.set_cons_succ]
          refine rg_done (by kernel_rfl) ?_
          go_wp2_with fail
          go_meet
          case rel => exact ⟨p5, rfl, hb, a5, b4.keep hS (by simp)⟩
      · refine wp_alB (zs := wd false 0) rfl (by kernel_rfl) (fun p5 q5 a5 => ?_)
        replace q5 := Nat.le_trans hS.1 q5
        refine hK _ _ (hS.alloc _) (fun hS => ?_)
        clear hK K
        replace hb := hb.alloc hb.size (.cells (wd false 0).toArray 25)
        try replace ma := ma.call ((Below.refl _ _).alloc (Nat.le_refl _) (.cells (wd false 0).toArray 25))
        try replace mb := mb.call ((Below.refl _ _).alloc (Nat.le_refl _) (.cells (wd false 0).toArray 25))
        try replace mg := mg.call ((Below.refl _ _).alloc (Nat.le_refl _) (.cells (wd false 0).toArray 25))
        try simp only [Act.put, List.setIfInBounds_toArray, List.set_cons_zero, List.set_cons_succ]
        refine rg_eff 3 rfl (by kernel_rfl) (by rfl) (fun K hK => ?_)
        go_simp
        refine (O2.out _).mono ?_
        rintro e w1 ⟨vb, rfl, mb, h1⟩
        refine hK _ _ (hS.call h1) (fun hS => ?_)
        clear hK K
        replace ma := ma.call h1
        try replace a5 := a5.call h1
        replace hb := bthen hb h1
        clear h1
        try simp only [Act.put, List.setIfInBounds_toArray, List.set_cons_zero, List.set_cons_succ]
        refine rg_eff 4 rfl (by kernel_rfl) (by rfl) (fun K hK => ?_)
        go_simp
        refine (GG.out ma mb).mono ?_
        rintro e w1 ⟨vg, rfl, mg, h1⟩
        refine hK _ _ (hS.call h1) (fun hS => ?_)
        clear hK K
        try replace a5 := a5.call h1
        replace hb := bthen hb h1
        clear h1
        try simp only [Act.put, List.setIfInBounds_toArray, List.set_cons_zero, List.set_cons_succ]
        refine rg_eff 5 rfl (by kernel_rfl) (by rfl) (fun K hK => ?_)
        go_simp
        refine (wideK (fz_self HG.out) (by have := nw32.2 HG.out; omega) EZ.out mg).mono ?_
        rintro e w1 ⟨rfl, h1⟩
        refine hK _ _ (hS.call h1) (fun hS => ?_)
        clear hK K
        try replace a5 := a5.call h1
        replace hb := bthen hb h1
        clear h1
        try simp only [Act.put, List.setIfInBounds_toArray, List.set_cons_zero, List.set_cons_succ]
        refine rg_take 6 rfl (by kernel_rfl) (by kernel_rfl) (by kernel_rfl) (by rfl) hS (v := ?_) ?_ ?_
        rotate_left
        · (intro w' hS'; go_simp <;> try with_reducible rfl)
        try simp only [Act.put, List.setIfInBounds_toArray, List.set_cons_zero, List.set_cons_succ]
        refine rg_take 7 rfl (by kernel_rfl) (by kernel_rfl) (by kernel_rfl) (by rfl) hS (v := ?_) ?_ ?_
        rotate_left
        · (intro w' hS'; go_simp <;> try with_reducible rfl)
        try simp only [Act.put, List.setIfInBounds_toArray, List.set_cons_zero, List.set_cons_succ]
        refine rg_take 8 rfl (by kernel_rfl) (by kernel_rfl) (by kernel_rfl) (by rfl) hS (v := ?_) ?_ ?_
        rotate_left
        · (intro w' hS'; go_simp <;> try with_reducible rfl)
        try simp only [Act.put, List.setIfInBounds_toArray, List.set_cons_zero, List.set_cons_succ]
        refine rg_eff 10 rfl (by kernel_rfl) (by rfl) (fun K hK => ?_)
        refine wp_st (vs := mk z) rfl rfl rfl a5 (by rw [wd_length, mk_length]) (wholeM _) (mk_one _) ?_
        refine hK _ _ (hS.row (.inr q5) _) (fun hS => ?_)
        clear hK K
        replace a5 := a5.row (mk z)
        replace hb := below_row hb (g := p5) (by omega) (mk z).toArray
        try simp only [Act.put, List.setIfInBounds_toArray, List.set_cons_zero, List.set_cons_succ]
        refine rg_take 11 rfl (by kernel_rfl) (by kernel_rfl) (by kernel_rfl) (by rfl) hS (v := ?_) ?_ ?_
        rotate_left
        · (intro w' hS'; go_simp <;> try with_reducible rfl)
        try simp only [Act.put, List.setIfInBounds_toArray, List.set_cons_zero, List.set_cons_succ]
        refine rg_done (by kernel_rfl) ?_
        go_wp2_with fail
        go_meet
        case rel => exact ⟨p5, rfl, hb, a5, b4.keep hS (by simp)⟩
    · refine wp_alB (zs := wd false 0) rfl (by kernel_rfl) (fun p5 q5 a5 => ?_)
      replace q5 := Nat.le_trans hS.1 q5
      refine hK _ _ (hS.alloc _) (fun hS => ?_)
      clear hK K
      replace hb := hb.alloc hb.size (.cells (wd false 0).toArray 25)
      try replace ma := ma.call ((Below.refl _ _).alloc (Nat.le_refl _) (.cells (wd false 0).toArray 25))
      try replace mb := mb.call ((Below.refl _ _).alloc (Nat.le_refl _) (.cells (wd false 0).toArray 25))
      try replace mg := mg.call ((Below.refl _ _).alloc (Nat.le_refl _) (.cells (wd false 0).toArray 25))
      try simp only [Act.put, List.setIfInBounds_toArray, List.set_cons_zero, List.set_cons_succ]
      refine rg_eff 1 rfl (by kernel_rfl) (by rfl) (fun K hK => ?_)
      go_simp
      refine (O1.out _).mono ?_
      rintro e w1 ⟨va, rfl, ma, h1⟩
      refine hK _ _ (hS.call h1) (fun hS => ?_)
      clear hK K
      try replace a5 := a5.call h1
      replace hb := bthen hb h1
      clear h1
      try simp only [Act.put, List.setIfInBounds_toArray, List.set_cons_zero, List.set_cons_succ]
      refine rg_eff 3 rfl (by kernel_rfl) (by rfl) (fun K hK => ?_)
      go_simp
      refine (O2.out _).mono ?_
      rintro e w1 ⟨vb, rfl, mb, h1⟩
      refine hK _ _ (hS.call h1) (fun hS => ?_)
      clear hK K
      replace ma := ma.call h1
      try replace a5 := a5.call h1
      replace hb := bthen hb h1
      clear h1
      try simp only [Act.put, List.setIfInBounds_toArray, List.set_cons_zero, List.set_cons_succ]
      refine rg_eff 4 rfl (by kernel_rfl) (by rfl) (fun K hK => ?_)
      go_simp
      refine (GG.out ma mb).mono ?_
      rintro e w1 ⟨vg, rfl, mg, h1⟩
      refine hK _ _ (hS.call h1) (fun hS => ?_)
      clear hK K
      try replace a5 := a5.call h1
      replace hb := bthen hb h1
      clear h1
      try simp only [Act.put, List.setIfInBounds_toArray, List.set_cons_zero, List.set_cons_succ]
      refine rg_eff 5 rfl (by kernel_rfl) (by rfl) (fun K hK => ?_)
      go_simp
      refine (wideK (fz_self HG.out) (by have := nw32.2 HG.out; omega) EZ.out mg).mono ?_
      rintro e w1 ⟨rfl, h1⟩
      refine hK _ _ (hS.call h1) (fun hS => ?_)
      clear hK K
      try replace a5 := a5.call h1
      replace hb := bthen hb h1
      clear h1
      try simp only [Act.put, List.setIfInBounds_toArray, List.set_cons_zero, List.set_cons_succ]
      refine rg_take 6 rfl (by kernel_rfl) (by kernel_rfl) (by kernel_rfl) (by rfl) hS (v := ?_) ?_ ?_
      rotate_left
      · (intro w' hS'; go_simp <;> try with_reducible rfl)
      try simp only [Act.put, List.setIfInBounds_toArray, List.set_cons_zero, List.set_cons_succ]
      refine rg_take 7 rfl (by kernel_rfl) (by kernel_rfl) (by kernel_rfl) (by rfl) hS (v := ?_) ?_ ?_
      rotate_left
      · (intro w' hS'; go_simp <;> try with_reducible rfl)
      try simp only [Act.put, List.setIfInBounds_toArray, List.set_cons_zero, List.set_cons_succ]
      refine rg_take 8 rfl (by kernel_rfl) (by kernel_rfl) (by kernel_rfl) (by rfl) hS (v := ?_) ?_ ?_
      rotate_left
      · (intro w' hS'; go_simp <;> try with_reducible rfl)
      try simp only [Act.put, List.setIfInBounds_toArray, List.set_cons_zero, List.set_cons_succ]
      refine rg_eff 10 rfl (by kernel_rfl) (by rfl) (fun K hK => ?_)
      refine wp_st (vs := mk z) rfl rfl rfl a5 (by rw [wd_length, mk_length]) (wholeM _) (mk_one _) ?_
      refine hK _ _ (hS.row (.inr q5) _) (fun hS => ?_)
      clear hK K
      replace a5 := a5.row (mk z)
      replace hb := below_row hb (g := p5) (by omega) (mk z).toArray
      try simp only [Act.put, List.setIfInBounds_toArray, List.set_cons_zero, List.set_cons_succ]
      refine rg_take 11 rfl (by kernel_rfl) (by kernel_rfl) (by kernel_rfl) (by rfl) hS (v := ?_) ?_ ?_
      rotate_left
      · (intro w' hS'; go_simp <;> try with_reducible rfl)
      try simp only [Act.put, List.setIfInBounds_toArray, List.set_cons_zero, List.set_cons_succ]
      refine rg_done (by kernel_rfl) ?_
      go_wp2_with fail
      go_meet
      case rel => exact ⟨p5, rfl, hb, a5, b4.keep hS (by simp)⟩
  case rest =>
    clear hb b2 b3 b4 hsz
    obtain ⟨q, rfl, hb, b3, b2⟩ := hcut
    go_wp2_with (first | (with_reducible refine ldM rfl rfl rfl b3 ?_) | (with_reducible refine stM rfl rfl rfl rfl b2 (wd_length _ _) ?_))
    exact ret_c (cs := mk z) rfl rfl rfl (wholeM _) (b2.row _) ⟨rfl, below_row hb (by omega) _⟩
set_option maxHeartbeats 2000000 in
theorem Shlref_any (s : Bool) {N : Nat} (n : Int) (hN : N < bb ^ 32) {z : Int} {o : Bool} (hz : Fz (zn s N * 2 ^ held n) z o) : Tl 22 #[.agg (wd s N).toArray, .int .i64 n] (.tuple #[vw z, .bool o]) := fun w => by
  have N1 := Lib.hid (fun w => negref_any s hN w)
  have O1 := Lib.hid (fun w => of_any s hN w)
  obtain ⟨sn, hsn⟩ : ∃ sn : Bool, (s && decide (N ≠ 0)) = sn := ⟨_, rfl⟩
  have hk := held_eq n
  have hk2 : held n ≤ 1024 := by omega
  generalize held n = k at *
  have e1 : (zn s N * 2 ^ k).natAbs = N * 2 ^ k := by rw [Int.natAbs_mul, zn_abs, Int.natAbs_pow]; rfl
  have HZ := Lib.hid hz
  have HK : Hid (nw (zn s N * 2 ^ k).natAbs ≤ 1000000) := by
    have h2 : N * 2 ^ k < bb ^ 64 := by
      have : 2 ^ k ≤ bb ^ 32 := two_le_bb hk2 rfl
      have := Nat.mul_lt_mul_of_lt_of_le hN this (bp_pos 32)
      rwa [← Nat.pow_add] at this
    have := nw_le_of h2
    show nw (zn s N * 2 ^ k).natAbs ≤ 1000000
    rw [e1]; omega
  have EZ : Hid (zn sn (zn s N * 2 ^ k).natAbs = zn s N * 2 ^ k) := by
    show zn sn (zn s N * 2 ^ k).natAbs = zn s N * 2 ^ k
    rw [e1, ← hsn]
    have h3 := zn_neg s N
    have h4 : ∀ b : Bool, zn b (N * 2 ^ k) = zn b N * 2 ^ k := fun b => by unfold zn; cases b <;> simp [Int.neg_mul]
    rw [h4, h3]
  have SH : Hid (∀ {w u}, Mv w u N → Calls Try.prog 82 #[u, .int .i64 (k : Nat)] w fun e w' => ∃ v', e = .returned v' ∧ Mv w' v' (zn s N * 2 ^ k).natAbs ∧ Below w.heap.size w w') := fun {w u} h => by
    rw [e1]; exact shl_any h (by have := nw32.2 hN; omega) (by omega)
  have hm1 : max 0 (min n 1024) = (k : Int) := by omega
  rw [hsn] at N1
  generalize zn s N * 2 ^ k = K0 at *
  clear hsn hN hz e1 hk
  unfold vw
  have b2 := (Blk.new w (wd s N) 25 rfl).old (.cells (wd false 0).toArray 25)
  have b4 := Blk.new (w.alloc (.cells (wd s N).toArray 25)) (wd false 0) 25 (b := w.heap.size + 1) (by simp)
  have hb : Below w.heap.size w ((w.alloc (.cells (wd s N).toArray 25)).alloc (.cells (wd false 0).toArray 25)) := ((Below.refl _ _).alloc (Nat.le_refl _) _).alloc (by simp) _
  go_enter Try.func22, Try.ntmps22
  go_wp2_with (first | (with_reducible refine alW2 rfl rfl ?_) | (with_reducible refine alW rfl rfl ?_))
  refine rg_start [w.heap.size + 1] (by kernel_rfl) (fun hS => ?_)
  replace hb := hb.drew
  replace b4 := b4.drew
  refine rg_ld 0 rfl (by kernel_rfl) (by kernel_rfl) (by kernel_rfl) (by rfl) hS rfl rfl b2 (by simp <;> omega) (whole25 _ _) ?_
  try simp only [Act.put, List.setIfInBounds_toArray, List.set_cons_zero, List.set_cons_succ]
  refine rg_ld 2 rfl (by kernel_rfl) (by kernel_rfl) (by kernel_rfl) (by rfl) hS rfl rfl b2 (by simp <;> omega) (whole25 _ _) ?_
  try simp only [Act.put, List.setIfInBounds_toArray, List.set_cons_zero, List.set_cons_succ]
  refine rg_take 4 rfl (by kernel_rfl) (by kernel_rfl) (by kernel_rfl) (by rfl) hS (v := ?_) ?_ ?_
  rotate_left
  · (intro w' hS'; go_simp <;> try with_reducible rfl)
  try simp only [Act.put, List.setIfInBounds_toArray, List.set_cons_zero, List.set_cons_succ]
  refine rg_take 5 rfl (by kernel_rfl) (by kernel_rfl) (by kernel_rfl) (by rfl) hS (v := .int .i64 (min n 1024)) (fun w' _ => op_minc rfl rfl rfl w') ?_
  try simp only [Act.put, List.setIfInBounds_toArray, List.set_cons_zero, List.set_cons_succ]
  refine rg_take 6 rfl (by kernel_rfl) (by kernel_rfl) (by kernel_rfl) (by rfl) hS (v := .int .i64 (k : Nat)) (fun w' _ => op_maxc hm1 rfl rfl w') ?_
  try simp only [Act.put, List.setIfInBounds_toArray, List.set_cons_zero, List.set_cons_succ]
  refine rg_eff 1 rfl (by kernel_rfl) (by rfl) (fun K hK => ?_)
  go_simp
  refine (N1.out _).mono ?_
  rintro e w1 ⟨rfl, h1⟩
  refine hK _ _ (hS.call h1) (fun hS => ?_)
  clear hK K
  replace b4 := b4.call h1
  replace hb := bthen hb h1
  clear h1
  try simp only [Act.put, List.setIfInBounds_toArray, List.set_cons_zero, List.set_cons_succ]
  refine rg_eff 3 rfl (by kernel_rfl) (by rfl) (fun K hK => ?_)
  go_simp
  refine (O1.out _).mono ?_
  rintro e w1 ⟨va, rfl, ma, h1⟩
  refine hK _ _ (hS.call h1) (fun hS => ?_)
  clear hK K
  replace b4 := b4.call h1
  replace hb := bthen hb h1
  clear h1
  try simp only [Act.put, List.setIfInBounds_toArray, List.set_cons_zero, List.set_cons_succ]
  refine rg_eff 7 rfl (by kernel_rfl) (by rfl) (fun K hK => ?_)
  go_simp
  refine (SH.out ma).mono ?_
  rintro e w1 ⟨vs, rfl, ms, h1⟩
  refine hK _ _ (hS.call h1) (fun hS => ?_)
  clear hK K
  replace b4 := b4.call h1
  replace hb := bthen hb h1
  clear h1
  try simp only [Act.put, List.setIfInBounds_toArray, List.set_cons_zero, List.set_cons_succ]
  refine rg_eff 8 rfl (by kernel_rfl) (by rfl) (fun K hK => ?_)
  go_simp
  refine (wideK HZ.out HK.out EZ.out ms).mono ?_
  rintro e w1 ⟨rfl, h1⟩
  refine hK _ _ (hS.call h1) (fun hS => ?_)
  clear hK K
  replace b4 := b4.call h1
  replace hb := bthen hb h1
  clear h1 ms
  try simp only [Act.put, List.setIfInBounds_toArray, List.set_cons_zero, List.set_cons_succ]
  refine rg_take 9 rfl (by kernel_rfl) (by kernel_rfl) (by kernel_rfl) (by rfl) hS (v := ?_) ?_ ?_
  rotate_left
  · (intro w' hS'; go_simp <;> try with_reducible rfl)
  try simp only [Act.put, List.setIfInBounds_toArray, List.set_cons_zero, List.set_cons_succ]
  refine rg_take 10 rfl (by kernel_rfl) (by kernel_rfl) (by kernel_rfl) (by rfl) hS (v := ?_) ?_ ?_
  rotate_left
  · (intro w' hS'; go_simp <;> try with_reducible rfl)
  try simp only [Act.put, List.setIfInBounds_toArray, List.set_cons_zero, List.set_cons_succ]
  refine rg_eff 11 rfl (by kernel_rfl) (by rfl) (fun K hK => ?_)
  refine wp_st (vs := mk z) rfl rfl rfl b4 (by rw [wd_length, mk_length]) (wholeM _) (mk_one _) ?_
  refine hK _ _ (hS.row (.inl (by simp)) _) (fun hS => ?_)
  clear hK K
  try simp only [Act.put, List.setIfInBounds_toArray, List.set_cons_zero, List.set_cons_succ]
  refine rg_take 12 rfl (by kernel_rfl) (by kernel_rfl) (by kernel_rfl) (by rfl) hS (v := ?_) ?_ ?_
  rotate_left
  · (intro w' hS'; go_simp <;> try with_reducible rfl)
  try simp only [Act.put, List.setIfInBounds_toArray, List.set_cons_zero, List.set_cons_succ]
  refine rg_done (by kernel_rfl) ?_
  go_wp2
  exact ret_ct (cs := mk z) (v := .bool o) rfl rfl rfl rfl (wholeM _) (b4.row _) ⟨rfl, below_row hb (by omega) _⟩
set_option maxHeartbeats 2000000 in
theorem Cmpref_any (s : Bool) {N : Nat} (t : Bool) {M : Nat} (hN : N < bb ^ 32) (hM : M < bb ^ 32) : Tl 28 #[.agg (wd s N).toArray, .agg (wd t M).toArray] (.int .i64 (if zn s N < zn t M then -1 else if zn t M < zn s N then 1 else 0)) := fun w => by
  have N1 := Lib.hid (fun w => negref_any s hN w)
  have N2 := Lib.hid (fun w => negref_any t hM w)
  have O1 := Lib.hid (fun w => of_any s hN w)
  have O2 := Lib.hid (fun w => of_any t hM w)
  have HL : Hid (nw N ≤ 1000 ∧ nw M ≤ 1000) := ⟨Nat.le_trans (nw32.2 hN) (by omega), Nat.le_trans (nw32.2 hM) (by omega)⟩
  obtain ⟨sn, hsn⟩ : ∃ sn : Bool, (s && decide (N ≠ 0)) = sn := ⟨_, rfl⟩
  obtain ⟨tn, htn⟩ : ∃ tn : Bool, (t && decide (M ≠ 0)) = tn := ⟨_, rfl⟩
  have hs1 := zn_neg s N
  have ht1 := zn_neg t M
  have hs2 : sn = true → N ≠ 0 := fun h => by rw [h] at hsn; simp at hsn; exact hsn.2
  have ht2 : tn = true → M ≠ 0 := fun h => by rw [h] at htn; simp at htn; exact htn.2
  rw [hsn] at N1 hs1
  rw [htn] at N2 ht1
  rw [← hs1, ← ht1]
  clear hsn htn hs1 ht1 hN hM
  have b2 := (Blk.new w (wd s N) 25 rfl).old (.cells (wd t M).toArray 25)
  have b3 := Blk.new (w.alloc (.cells (wd s N).toArray 25)) (wd t M) 25 (b := w.heap.size + 1) (by simp)
  have hb : Below w.heap.size w ((w.alloc (.cells (wd s N).toArray 25)).alloc (.cells (wd t M).toArray 25)) := ((Below.refl _ _).alloc (Nat.le_refl _) _).alloc (by simp) _
  obtain ⟨r, hr⟩ : ∃ r : Int, (if zn sn N < zn tn M then -1 else if zn tn M < zn sn N then 1 else 0) = r := ⟨_, rfl⟩
  have HR := Lib.hid hr
  have HS2 := Lib.hid hs2
  have HT2 := Lib.hid ht2
  rw [hr]
  clear hr hs2 ht2
  go_enter Try.func28, Try.ntmps28
  go_wp2_with fail
  refine rg_start [] (by kernel_rfl) (fun hS => ?_)
  replace hb := hb.drew
  refine rg_ld 0 rfl (by kernel_rfl) (by kernel_rfl) (by kernel_rfl) (by rfl) hS rfl rfl b2 (by simp <;> omega) (whole25 _ _) ?_
  try simp only [Act.put, List.setIfInBounds_toArray, List.set_cons_zero, List.set_cons_succ]
  refine rg_ld 2 rfl (by kernel_rfl) (by kernel_rfl) (by kernel_rfl) (by rfl) hS rfl rfl b3 (by simp <;> omega) (whole25 _ _) ?_
  try simp only [Act.put, List.setIfInBounds_toArray, List.set_cons_zero, List.set_cons_succ]
  refine rg_eff 1 rfl (by kernel_rfl) (by rfl) (fun K hK => ?_)
  go_simp
  refine (N1.out _).mono ?_
  rintro e w1 ⟨rfl, h1⟩
  refine hK _ _ (hS.call h1) (fun hS => ?_)
  clear hK K
  replace hb := bthen hb h1
  clear h1
  try simp only [Act.put, List.setIfInBounds_toArray, List.set_cons_zero, List.set_cons_succ]
  refine rg_eff 3 rfl (by kernel_rfl) (by rfl) (fun K hK => ?_)
  go_simp
  refine (N2.out _).mono ?_
  rintro e w1 ⟨rfl, h1⟩
  refine hK _ _ (hS.call h1) (fun hS => ?_)
  clear hK K
  replace hb := bthen hb h1
  clear h1
  try simp only [Act.put, List.setIfInBounds_toArray, List.set_cons_zero, List.set_cons_succ]
  refine rg_take 4 rfl (by kernel_rfl) (by kernel_rfl) (by kernel_rfl) (by rfl) hS (v := ?_) ?_ ?_
  rotate_left
  · (intro w' hS'; go_simp <;> try with_reducible rfl)
  try simp only [Act.put, List.setIfInBounds_toArray, List.set_cons_zero, List.set_cons_succ]
  refine rg_take 5 rfl (by kernel_rfl) (by kernel_rfl) (by kernel_rfl) (by rfl) hS (v := ?_) ?_ ?_
  rotate_left
  · (intro w' hS'; go_simp <;> try with_reducible rfl)
  try simp only [Act.put, List.setIfInBounds_toArray, List.set_cons_zero, List.set_cons_succ]
  refine rg_done (by kernel_rfl) ?_
  replace b2 := b2.keep hS (by simp)
  replace b3 := b3.keep hS (by simp)
  clear hS
  cases sn <;> cases tn
  · go_wp2_with fail
    refine rg_start [] (by kernel_rfl) (fun hS => ?_)
    replace hb := hb.drew
    refine rg_ld 0 rfl (by kernel_rfl) (by kernel_rfl) (by kernel_rfl) (by rfl) hS rfl rfl b2 (by simp <;> omega) (whole25 _ _) ?_
    try simp only [Act.put, List.setIfInBounds_toArray, List.set_cons_zero, List.set_cons_succ]
    refine rg_ld 2 rfl (by kernel_rfl) (by kernel_rfl) (by kernel_rfl) (by rfl) hS rfl rfl b3 (by simp <;> omega) (whole25 _ _) ?_
    try simp only [Act.put, List.setIfInBounds_toArray, List.set_cons_zero, List.set_cons_succ]
    refine rg_eff 1 rfl (by kernel_rfl) (by rfl) (fun K hK => ?_)
    go_simp
    refine (O1.out _).mono ?_
    rintro e w1 ⟨va, rfl, ma, h1⟩
    refine hK _ _ (hS.call h1) (fun hS => ?_)
    clear hK K
    replace hb := bthen hb h1
    clear h1
    try simp only [Act.put, List.setIfInBounds_toArray, List.set_cons_zero, List.set_cons_succ]
    refine rg_eff 3 rfl (by kernel_rfl) (by rfl) (fun K hK => ?_)
    go_simp
    refine (O2.out _).mono ?_
    rintro e w1 ⟨vb, rfl, mb, h1⟩
    refine hK _ _ (hS.call h1) (fun hS => ?_)
    clear hK K
    replace ma := ma.call h1
    replace hb := bthen hb h1
    clear h1
    try simp only [Act.put, List.setIfInBounds_toArray, List.set_cons_zero, List.set_cons_succ]
    refine rg_eff 4 rfl (by kernel_rfl) (by rfl) (fun K hK => ?_)
    go_simp
    refine (cmp_any ma mb HL.out.1 HL.out.2).mono ?_
    rintro e w1 ⟨rfl, h1⟩
    refine hK _ _ (hS.call h1) (fun hS => ?_)
    clear hK K
    replace hb := bthen hb h1
    clear h1
    try simp only [Act.put, List.setIfInBounds_toArray, List.set_cons_zero, List.set_cons_succ]
    refine rg_take 5 rfl (by kernel_rfl) (by kernel_rfl) (by kernel_rfl) (by rfl) hS (v := ?_) ?_ ?_
    rotate_left
    · (intro w' hS'; go_simp <;> try with_reducible rfl)
    try simp only [Act.put, List.setIfInBounds_toArray, List.set_cons_zero, List.set_cons_succ]
    refine rg_done (by kernel_rfl) ?_
    go_wp2
    go_ret
    refine ⟨?_, hb⟩
    rw [← HR.out]; unfold cmpv zn; simp
  · have h1 := HT2.out rfl
    obtain rfl : r = 1 := by rw [← HR.out]; unfold zn; rw [if_neg (by simp <;> omega), if_pos (by simp <;> omega)]
    go_wp2
    go_ret
    exact ⟨rfl, hb⟩
  · have h1 := HS2.out rfl
    obtain rfl : r = -1 := by rw [← HR.out]; unfold zn; rw [if_pos (by simp <;> omega)]
    go_wp2
    go_ret
    exact ⟨rfl, hb⟩
  · go_wp2_with fail
    refine rg_start [] (by kernel_rfl) (fun hS => ?_)
    replace hb := hb.drew
    refine rg_ld 0 rfl (by kernel_rfl) (by kernel_rfl) (by kernel_rfl) (by rfl) hS rfl rfl b3 (by simp <;> omega) (whole25 _ _) ?_
    try simp only [Act.put, List.setIfInBounds_toArray, List.set_cons_zero, List.set_cons_succ]
    refine rg_ld 2 rfl (by kernel_rfl) (by kernel_rfl) (by kernel_rfl) (by rfl) hS rfl rfl b2 (by simp <;> omega) (whole25 _ _) ?_
    try simp only [Act.put, List.setIfInBounds_toArray, List.set_cons_zero, List.set_cons_succ]
    refine rg_eff 1 rfl (by kernel_rfl) (by rfl) (fun K hK => ?_)
    go_simp
    refine (O2.out _).mono ?_
    rintro e w1 ⟨vb, rfl, mb, h1⟩
    refine hK _ _ (hS.call h1) (fun hS => ?_)
    clear hK K
    replace hb := bthen hb h1
    clear h1
    try simp only [Act.put, List.setIfInBounds_toArray, List.set_cons_zero, List.set_cons_succ]
    refine rg_eff 3 rfl (by kernel_rfl) (by rfl) (fun K hK => ?_)
    go_simp
    refine (O1.out _).mono ?_
    rintro e w1 ⟨va, rfl, ma, h1⟩
    refine hK _ _ (hS.call h1) (fun hS => ?_)
    clear hK K
    replace mb := mb.call h1
    replace hb := bthen hb h1
    clear h1
    try simp only [Act.put, List.setIfInBounds_toArray, List.set_cons_zero, List.set_cons_succ]
    refine rg_eff 4 rfl (by kernel_rfl) (by rfl) (fun K hK => ?_)
    go_simp
    refine (cmp_any mb ma HL.out.2 HL.out.1).mono ?_
    rintro e w1 ⟨rfl, h1⟩
    refine hK _ _ (hS.call h1) (fun hS => ?_)
    clear hK K
    replace hb := bthen hb h1
    clear h1
    try simp only [Act.put, List.setIfInBounds_toArray, List.set_cons_zero, List.set_cons_succ]
    refine rg_take 5 rfl (by kernel_rfl) (by kernel_rfl) (by kernel_rfl) (by rfl) hS (v := ?_) ?_ ?_
    rotate_left
    · (intro w' hS'; go_simp <;> try with_reducible rfl)
    try simp only [Act.put, List.setIfInBounds_toArray, List.set_cons_zero, List.set_cons_succ]
    refine rg_done (by kernel_rfl) ?_
    go_wp2
    go_ret
    refine ⟨?_, hb⟩
    rw [← HR.out]; unfold cmpv zn; simp
end Go.Proofs.Ytiaikjeljhfadaa
