/- Joined of: Mra Mrt Mrq. -/
import Derived.Test.YtckolhalggcenaaGreatMgx
import Derived.BigQuiet
import Derived.Deep.QuietTactic
import Derived.OwnWalk
/- The reference's fractions: common. -/
namespace Go.Proofs.YtckolhalggcenaaGreat
set_option linter.unusedSimpArgs false
set_option linter.unusedVariables false
open Go.RowKit
set_option maxRecDepth 100000
theorem bmaxv {ops : Array Oper} {rest : List Oper} {o : Oper} {a : Act} {w : World} {Q : Exit → Act → World → Prop} {x y : Operand} {n c m : Int} (hm : max n c = m) (hgd : o.guard = none) (ho : o.op = .call { callee := .builtin .max, args := #[x, y], argTypes := #[2, 2] }) (hx : a.eval x = .int .i64 n) (hy : a.eval y = .int .i64 c)
    (hr : wpList Tryz.prog ops Q rest (a.put o.dst (.int .i64 m)) w) : wpList Tryz.prog ops Q (o :: rest) a w :=
  wpList_plain hgd fun K hK => by
    have := hK _ _ hr
    subst hm
    obtain ⟨dst, op, ty, pos, af, gd⟩ := o
    subst ho
    unfold Oper.wp
    rw [BigFrame.execOp_builtin, BigFrame.builtin_max, show (#[x, y] : Array Operand).map a.eval = #[.int .i64 n, .int .i64 c] by simp [hx, hy]]
    simp only [Sem.run_bind, run_max]
    exact this
set_option maxHeartbeats 2000000 in
theorem commonref_any {n d : Int} (hn : n.natAbs ≤ 9223372036854775807) (hd : d.natAbs ≤ 9223372036854775807) : Tl 59 #[.int .i64 n, .int .i64 d] (.int .i64 (Nat.gcd n.natAbs d.natAbs : Nat)) := fun w => by
  have m1 : max n (-n) = (n.natAbs : Int) := by omega
  have m2 : max d (-d) = (d.natAbs : Int) := by omega
  have hn1 : -9223372036854775807 ≤ n ∧ n ≤ 9223372036854775807 := by omega
  have hd1 : -9223372036854775807 ≤ d ∧ d ≤ 9223372036854775807 := by omega
  obtain ⟨N, hN⟩ : ∃ N, n.natAbs = N := ⟨_, rfl⟩
  obtain ⟨D, hD⟩ : ∃ D, d.natAbs = D := ⟨_, rfl⟩
  rw [hN] at m1 hn ⊢
  rw [hD] at m2 hd ⊢
  clear hN hD
  go_enter Tryz.func59, Tryz.ntmps59
  go_wp2_with (first | (with_reducible refine bmaxv m1 rfl rfl rfl rfl ?_) | (with_reducible refine bmaxv m2 rfl rfl rfl rfl ?_))
  go_loopw [0, 1] (fun x y wr => ∃ X Y : Nat, x = .int .i64 X ∧ y = .int .i64 Y ∧ X ≤ 9223372036854775807 ∧ Y ≤ 9223372036854775807 ∧ Nat.gcd X Y = Nat.gcd N D ∧ Below w.heap.size w wr) (fun _ y _ => (intOf y).toNat)
  case atStart => exact ⟨N, D, rfl, rfl, hn, hd, rfl, Below.refl _ _⟩
  case round =>
    obtain ⟨X, Y, rfl, rfl, hX, hY, hg, hb⟩ := hrel
    have HG := Lib.hid hg
    clear hg
    by_cases h0 : Y = 0
    · subst h0
      go_wp2
      go_ret
      exact ⟨by rw [← HG.out, Nat.gcd_zero_right]; rfl, hb⟩
    · have hy : (0 : Int) < (Y : Int) := by omega
      have e1 : (X : Int).tmod Y = ((X % Y : Nat) : Int) := (Int.ofNat_tmod X Y).symm
      have hlt : X % Y < Y := Nat.mod_lt _ (by omega)
      obtain ⟨R, hR⟩ : ∃ R, X % Y = R := ⟨_, rfl⟩
      have ER : Hid (Nat.gcd Y R = Nat.gcd N D) := by
        show Nat.gcd Y R = Nat.gcd N D
        rw [← HG.out, ← hR, Nat.gcd_comm X Y, Nat.gcd_rec Y X, Nat.gcd_comm]
      rw [hR] at e1 hlt
      clear hR
      go_wp2_with fail
      go_quiet (fail)
      go_wp2
      go_roundw
      case rel => exact ⟨Y, R, rfl, rfl, hY, by omega, ER.out, below_drewN hb _⟩
      case measure => simp [intOf]; omega
end Go.Proofs.YtckolhalggcenaaGreat

/- The reference's fractions: tiny. -/
namespace Go.Proofs.YtckolhalggcenaaGreat
set_option linter.unusedSimpArgs false
set_option linter.unusedVariables false
open Go.RowKit
set_option maxRecDepth 100000
theorem rr_n {s : Bool} {N : Nat} {t : Bool} {M k : Nat} (h : k < 32) : (rr s N t M)[1 + k]? = some (.int .u32 (dig N k : Nat)) := by
  rw [rr, List.getElem?_append_left (by rw [wd_length]; omega), wd, Nat.add_comm 1 k, List.getElem?_cons_succ, wc_get N k h]
theorem rr_d {s : Bool} {N : Nat} {t : Bool} {M k : Nat} (h : k < 32) : (rr s N t M)[34 + k]? = some (.int .u32 (dig M k : Nat)) := by
  rw [rr, List.getElem?_append_right (by rw [wd_length]; omega), wd_length, show 34 + k - 33 = k + 1 by omega, wd, List.getElem?_cons_succ, wc_get M k h]
theorem rr_s {s : Bool} {N : Nat} {t : Bool} {M : Nat} : (rr s N t M)[0]? = some (.bool s) := rfl
theorem rr_t {s : Bool} {N : Nat} {t : Bool} {M : Nat} : (rr s N t M)[33]? = some (.bool t) := by
  rw [rr, List.getElem?_append_right (by rw [wd_length]; omega), wd_length]; rfl
theorem lt_words {N : Nat} : ∀ k, 1 ≤ k → N < bb ^ k → (∀ j, 1 ≤ j → j < k → dig N j = 0) → N < bb
  | 0, h, _, _ => absurd h (by omega)
  | 1, _, h, _ => by rwa [Nat.pow_one] at h
  | k + 2, _, h, hj => lt_words (k + 1) (by omega) (lt_of_dig h (hj (k + 1) (by omega) (by omega))) fun j h1 h2 => hj j h1 (by omega)
theorem dig_low0 {N : Nat} (h : N < bb) : dig N 0 = N := by rw [dig, Nat.pow_zero, Nat.div_one, Nat.mod_eq_of_lt h]
/-- What tiny answers. -/
def Ty (s : Bool) (N : Nat) (t : Bool) (M : Nat) : Prop := N < 2147483648 ∧ M < 2147483648 ∧ M ≠ 0 ∧ t = false ∧ (s = true → N ≠ 0) ∧ Nat.gcd N M = 1
set_option maxHeartbeats 4000000 in
theorem tiny_any (s : Bool) {N : Nat} (t : Bool) {M : Nat} (hN : N < bb ^ 32) (hM : M < bb ^ 32) {n d : Int} {o : Bool} (hy : Ty s N t M → n = zn s N ∧ d = M ∧ o = true) (hno : ¬ Ty s N t M → n = 0 ∧ d = 0 ∧ o = false) :
    Tl 38 #[.agg (rr s N t M).toArray] (.tuple #[.int .i64 n, .int .i64 d, .bool o]) := fun w => by
  have HY := Lib.hid hy
  have HNO : Hid (¬ Ty s N t M → Ending.returned (.tuple #[.int .i64 0, .int .i64 0, .bool false]) = Ending.returned (.tuple #[.int .i64 n, .int .i64 d, .bool o])) := fun h => by obtain ⟨rfl, rfl, rfl⟩ := hno h; rfl
  have HNN := Lib.hid hN
  have HMM := Lib.hid hM
  clear hy hno hN hM
  have b1 := Blk.new w (rr s N t M) 27 rfl
  have hb : Below w.heap.size w (w.alloc (.cells (rr s N t M).toArray 27)) := (Below.refl _ _).alloc (Nat.le_refl _) _
  go_enter Tryz.func38, Tryz.ntmps38
  go_wp2_with fail
  generalize w.alloc (.cells (rr s N t M).toArray 27) = W at *
  go_loopw [5] (fun i wr => ∃ k : Nat, 1 ≤ k ∧ k ≤ 32 ∧ i = .int .i64 k ∧ (∀ j, 1 ≤ j → j < k → dig N j = 0 ∧ dig M j = 0) ∧ wr = W) (fun i _ => 32 - (intOf i).toNat)
  case atStart => exact ⟨1, by omega, by omega, rfl, fun j h1 h2 => absurd h1 (by omega), rfl⟩
  case round =>
    obtain ⟨k, h1, h32, rfl, hz, rfl⟩ := hrel
    have HZ := Lib.hid hz
    clear hz
    by_cases hlt : k < 32
    · have hlt' : (k : Int) < 32 := by omega
      have c0 := b1.cell (rr_n (s := s) (N := N) (t := t) (M := M) hlt)
      have c1 := b1.cell (rr_d (s := s) (N := N) (t := t) (M := M) hlt)
      have d0 := dig_le N k
      have d1 := dig_le M k
      by_cases e0 : dig N k = 0
      · rw [e0] at c0
        by_cases e1 : dig M k = 0
        · rw [e1] at c1
          have EE : Hid (dig N k = 0 ∧ dig M k = 0) := ⟨e0, e1⟩
          clear e0 e1 d0 d1
          go_wp2
          go_roundw
          case rel => exact ⟨k + 1, by omega, by omega, by go_num, fun j a b => by
            rcases Nat.lt_or_ge j k with h | h
            · exact HZ.out j a h
            · obtain rfl : j = k := by omega
              exact EE.out, by trivial⟩
          case measure => simp [intOf]; omega
        · have HE : Hid (¬ Ty s N t M) := fun hty => e1 (dig_of_lt (Nat.lt_of_lt_of_le (show M < bb from Nat.lt_of_lt_of_le hty.2.1 (by decide)) (by have := bp_mono h1; rwa [Nat.pow_one] at this)))
          have h0 : ¬ ((dig M k : Nat) : Int) = 0 := by omega
          clear e0 e1
          generalize dig M k = X at *
          go_wp2
          go_ret3
          exact ⟨HNO.out HE.out, hb⟩
      · have HE : Hid (¬ Ty s N t M) := fun hty => e0 (dig_of_lt (Nat.lt_of_lt_of_le (show N < bb from Nat.lt_of_lt_of_le hty.1 (by decide)) (by have := bp_mono h1; rwa [Nat.pow_one] at this)))
        have h0 : ¬ ((dig N k : Nat) : Int) = 0 := by omega
        clear e0
        generalize dig N k = X at *
        go_wp2
        go_ret3
        exact ⟨HNO.out HE.out, hb⟩
    · obtain rfl : k = 32 := by omega
      have hN1 : N < bb := lt_words 32 (by omega) HNN.out fun j a b => (HZ.out j a b).1
      have hM1 : M < bb := lt_words 32 (by omega) HMM.out fun j a b => (HZ.out j a b).2
      have c0 := b1.cell (i := 1) (rr_n (s := s) (N := N) (t := t) (M := M) (k := 0) (by omega))
      have c1 := b1.cell (i := 34) (rr_d (s := s) (N := N) (t := t) (M := M) (k := 0) (by omega))
      have c2 := b1.cell (i := 0) (rr_s (s := s) (N := N) (t := t) (M := M))
      have c3 := b1.cell (i := 33) (rr_t (s := s) (N := N) (t := t) (M := M))
      rw [dig_low0 hN1] at c0
      rw [dig_low0 hM1] at c1
      have n4 : N ≤ 4294967295 := Nat.le_of_lt_succ (show N < 4294967295 + 1 from hN1)
      have m4 : M ≤ 4294967295 := Nat.le_of_lt_succ (show M < 4294967295 + 1 from hM1)
      clear hN1 hM1 HZ HNN HMM
      go_wp2_with fail
      go_quiet (fail)
      have hb' := below_drewN hb nq
      have nn : -9223372036854775808 ≤ (N : Int) ∧ (N : Int) ≤ 9223372036854775807 := by omega
      have CM := Lib.hid (commonref_any (n := (N : Int)) (d := (M : Int)) (by omega) (by omega))
      unfold Tl at CM
      rw [Int.natAbs_natCast, Int.natAbs_natCast] at CM
      by_cases a1 : 2147483648 ≤ N
      · have HE : Hid (¬ Ty s N t M) := fun h => absurd h.1 (by omega)
        have h1' : (2147483648 : Int) ≤ (N : Int) := by omega
        go_wp2
        go_ret3
        exact ⟨HNO.out HE.out, hb'⟩
      have a1' : ¬ (2147483648 : Int) ≤ (N : Int) := by omega
      have a1d : decide ((2147483648 : Int) ≤ (N : Int)) = false := decide_eq_false a1'
      by_cases a2 : 2147483648 ≤ M
      · have HE : Hid (¬ Ty s N t M) := fun h => absurd h.2.1 (by omega)
        have h2' : (2147483648 : Int) ≤ (M : Int) := by omega
        have h2d : decide ((2147483648 : Int) ≤ (M : Int)) = true := decide_eq_true h2'
        go_wp2
        go_ret3
        exact ⟨HNO.out HE.out, hb'⟩
      have a2' : ¬ (2147483648 : Int) ≤ (M : Int) := by omega
      have a2d : decide ((2147483648 : Int) ≤ (M : Int)) = false := decide_eq_false a2'
      by_cases a3 : M = 0
      · have HE : Hid (¬ Ty s N t M) := fun h => h.2.2.1 a3
        have h3' : ((M : Int) == 0) = true := by simp; exact a3
        have h3e : (M : Int) = 0 := by omega
        clear a3
        go_wp2
        go_ret3
        exact ⟨HNO.out HE.out, hb'⟩
      have a3' : ¬ (M : Int) = 0 := by omega
      have a3d : ((M : Int) == 0) = false := by simp; exact a3
      cases t with
      | true =>
        have HE : Hid (¬ Ty s N true M) := fun h => by cases h.2.2.2.1
        go_wp2
        go_ret3
        exact ⟨HNO.out HE.out, hb'⟩
      | false =>
        cases s with
        | true =>
          by_cases a4 : N = 0
          · have HE : Hid (¬ Ty true N false M) := fun h => h.2.2.2.2.1 rfl a4
            have h4' : ((N : Int) == 0) = true := by simp; exact a4
            have h4e : (N : Int) = 0 := by omega
            clear a4
            go_wp2
            go_ret3
            exact ⟨HNO.out HE.out, hb'⟩
          · have a4' : ¬ (N : Int) = 0 := by omega
            have a4d : ((N : Int) == 0) = false := by simp; exact a4
            go_wp2_with fail
            refine (CM.out _).mono ?_
            rintro e w1 ⟨rfl, h1⟩
            have c2' := (h1.cell (p := ⟨w.heap.size, 0, none⟩) (Nat.lt_of_lt_of_le b1.lt (Nat.le_refl _))).trans c2
            replace hb' := bthen hb' h1
            by_cases a5 : Nat.gcd N M = 1
            · have HE : Hid (Ty true N false M) := ⟨by omega, by omega, a3, rfl, fun _ => a4, a5⟩
              rw [a5]
              clear a5 c2
              go_wp2
              go_ret3
              refine ⟨?_, hb'⟩
              obtain ⟨e1, e2, e3⟩ := HY.out HE.out
              rw [e1, e2, e3]; rfl
            · have HE : Hid (¬ Ty true N false M) := fun h => a5 h.2.2.2.2.2
              have h5 : ¬ ((Nat.gcd N M : Nat) : Int) = 1 := by omega
              have h5b : ((Nat.gcd N M : Nat) : Int) ≤ 9223372036854775807 := by
                have := Nat.gcd_le_left M (show 0 < N by omega); omega
              have hG := HNO.out HE.out
              have HGG := Lib.hid hG
              clear a5 c2 c2' CM HY HNO HE hG c0 c1 c3 b1
              generalize ((Nat.gcd N M : Nat) : Int) = G at *
              have h5c : (G == 1) = false := by simp; exact h5
              clear a1 a2 n4 m4 nn a1' a2' a1d a2d
              go_wp2
              go_ret3
              exact ⟨HGG.out, hb'⟩
        | false =>
          go_wp2_with fail
          refine (CM.out _).mono ?_
          rintro e w1 ⟨rfl, h1⟩
          have c2' := (h1.cell (p := ⟨w.heap.size, 0, none⟩) (Nat.lt_of_lt_of_le b1.lt (Nat.le_refl _))).trans c2
          replace hb' := bthen hb' h1
          by_cases a5 : Nat.gcd N M = 1
          · have HE : Hid (Ty false N false M) := ⟨by omega, by omega, a3, rfl, (fun h => by cases h), a5⟩
            rw [a5]
            clear a5 c2
            go_wp2
            go_ret3
            refine ⟨?_, hb'⟩
            obtain ⟨e1, e2, e3⟩ := HY.out HE.out
            rw [e1, e2, e3]; rfl
          · have HE : Hid (¬ Ty false N false M) := fun h => a5 h.2.2.2.2.2
            have h5 : ¬ ((Nat.gcd N M : Nat) : Int) = 1 := by omega
            have hG := HNO.out HE.out
            have HGG := Lib.hid hG
            clear a5 c2 c2' CM HY HNO HE hG c0 c1 c3 b1
            generalize ((Nat.gcd N M : Nat) : Int) = G at *
            have h5c : (G == 1) = false := by simp; exact h5
            clear a1 a2 n4 m4 nn a1' a2' a1d a2d
            go_wp2
            go_ret3
            exact ⟨HGG.out, hb'⟩
end Go.Proofs.YtckolhalggcenaaGreat

/- The reference's fractions: quick, tinies. -/
namespace Go.Proofs.YtckolhalggcenaaGreat
set_option linter.unusedSimpArgs false
set_option linter.unusedVariables false
open Go.RowKit
set_option maxRecDepth 100000
theorem op_quo {o : Oper} {a : Act} {x y : Operand} {ty : TypeId} {m k q : Int} (hk : k ≠ 0) (h : m.tdiv k = q) (hq : -9223372036854775808 ≤ q ∧ q ≤ 9223372036854775807) (ho : o.op = .binOp .quo 2 x y ty) (hx : a.eval x = .int .i64 m) (hy : a.eval y = .int .i64 k) (w : World) :
    (execOp a.eval o).run Tryz.prog w = .ok (.value (.int .i64 q)) w := by
  subst h
  have hw : IntKind.i64.wrap (m.tdiv k) = m.tdiv k := IntWalk.i64_in _ hq
  unfold execOp
  simp only [ho, hx, hy]
  go_simp <;> simp_all
theorem quick_num {n d : Int} (hd : 0 < d) : n.tdiv (Nat.gcd n.natAbs d.natAbs : Nat) = (Rat.divInt n d).num ∧ d.tdiv (Nat.gcd n.natAbs d.natAbs : Nat) = (Rat.divInt n d).den := by
  obtain ⟨h1, h2⟩ := frac_q (n := n) (d := d) (by omega)
  have e : decide (d < 0) = false := decide_eq_false (by omega)
  rw [e] at h1
  rw [← h1, ← h2]
  have hdn : (d.natAbs : Int) = d := by omega
  clear h1 h2
  generalize Nat.gcd n.natAbs d.natAbs = g
  constructor
  · by_cases hn : n < 0
    · rw [decide_eq_true hn]
      show n.tdiv _ = zn true _
      have : n = -(n.natAbs : Int) := by omega
      conv => lhs; rw [this]
      rw [Int.neg_tdiv, ← Int.ofNat_tdiv]; rfl
    · rw [decide_eq_false hn]
      show n.tdiv _ = zn false _
      have : n = (n.natAbs : Int) := by omega
      conv => lhs; rw [this]
      rw [← Int.ofNat_tdiv]; rfl
  · show d.tdiv _ = zn false _
    conv => lhs; rw [← hdn]
    rw [← Int.ofNat_tdiv]; rfl
set_option maxHeartbeats 2000000 in
theorem quick_any {n d : Int} (hn : n.natAbs ≤ 9223372036854775807) (hd : 0 < d) (hd2 : d ≤ 9223372036854775807) : Tl 71 #[.int .i64 n, .int .i64 d] (vq (Rat.divInt n d)) := fun w => by
  obtain ⟨e1, e2⟩ := quick_num (n := n) hd
  have hg : (Nat.gcd n.natAbs d.natAbs : Nat) ≠ 0 := Nat.gcd_ne_zero_right (by omega)
  have b1 : (Rat.divInt n d).num.natAbs ≤ n.natAbs := by rw [← e1, Int.natAbs_tdiv]; exact Nat.div_le_self _ _
  have b2 : ((Rat.divInt n d).den : Int).natAbs ≤ d.natAbs := by rw [← e2, Int.natAbs_tdiv]; exact Nat.div_le_self _ _
  have C := Lib.hid (commonref_any (n := n) (d := d) hn (by omega))
  have HG : Hid (((Nat.gcd n.natAbs d.natAbs : Nat) : Int) ≠ 0) := by
    show ((Nat.gcd n.natAbs d.natAbs : Nat) : Int) ≠ 0
    omega
  have r1 : -9223372036854775808 ≤ (Rat.divInt n d).num ∧ (Rat.divInt n d).num ≤ 9223372036854775807 := by omega
  have r2 : -9223372036854775808 ≤ ((Rat.divInt n d).den : Int) ∧ ((Rat.divInt n d).den : Int) ≤ 9223372036854775807 := by omega
  have F1 := Lib.hid (From_ref r1)
  have F2 := Lib.hid (From_ref r2)
  have R1 := Lib.hid r1
  have R2 := Lib.hid r2
  have E1 := Lib.hid e1
  have E2 := Lib.hid e2
  unfold Tl at C F1 F2
  unfold vw at F1 F2
  show Calls Tryz.prog 71 #[.int .i64 n, .int .i64 d] w fun e w' => e = .returned (.agg (fr (Rat.divInt n d).num (Rat.divInt n d).den).toArray) ∧ Below w.heap.size w w'
  clear e1 e2 hg b1 b2 r1 r2 hn hd2
  generalize ((Nat.gcd n.natAbs d.natAbs : Nat) : Int) = g at *
  generalize (Rat.divInt n d).num = p at *
  generalize ((Rat.divInt n d).den : Int) = q at *
  clear hd
  have b4 := Blk.new w (rr false 0 false 0) 27 rfl
  have hb : Below w.heap.size w (w.alloc (.cells (rr false 0 false 0).toArray 27)) := (Below.refl _ _).alloc (Nat.le_refl _) _
  go_enter Tryz.func71, Tryz.ntmps71
  go_wp2_with (first | (with_reducible refine alR rfl rfl ?_))
  refine (C.out _).mono ?_
  rintro e w1 ⟨rfl, h1⟩
  replace b4 := b4.call h1
  replace hb := bthen hb h1
  clear h1
  go_wp2_with fail
  refine rg_start [w.heap.size] (by kernel_rfl) (fun hS => ?_)
  replace hb := hb.drew
  replace b4 := b4.drew
  refine rg_take 0 rfl (by kernel_rfl) (by kernel_rfl) (by kernel_rfl) (by rfl) hS (v := ?_) ?_ ?_
  rotate_left
  · (intro w' hS'; go_simp <;> try with_reducible rfl)
  try simp only [Act.put, List.setIfInBounds_toArray, List.set_cons_zero, List.set_cons_succ]
  refine rg_take 1 rfl (by kernel_rfl) (by kernel_rfl) (by kernel_rfl) (by rfl) hS (v := ?_) ?_ ?_
  rotate_left
  · (intro w' hS'; go_simp <;> try with_reducible rfl)
  try simp only [Act.put, List.setIfInBounds_toArray, List.set_cons_zero, List.set_cons_succ]
  refine rg_take 2 rfl (by kernel_rfl) (by kernel_rfl) (by kernel_rfl) (by rfl) hS (v := .int .i64 p) (fun w' _ => op_quo HG.out E1.out R1.out rfl rfl rfl w') ?_
  try simp only [Act.put, List.setIfInBounds_toArray, List.set_cons_zero, List.set_cons_succ]
  refine rg_take 4 rfl (by kernel_rfl) (by kernel_rfl) (by kernel_rfl) (by rfl) hS (v := ?_) ?_ ?_
  rotate_left
  · (intro w' hS'; go_simp <;> try with_reducible rfl)
  try simp only [Act.put, List.setIfInBounds_toArray, List.set_cons_zero, List.set_cons_succ]
  refine rg_take 5 rfl (by kernel_rfl) (by kernel_rfl) (by kernel_rfl) (by rfl) hS (v := ?_) ?_ ?_
  rotate_left
  · (intro w' hS'; go_simp <;> try with_reducible rfl)
  try simp only [Act.put, List.setIfInBounds_toArray, List.set_cons_zero, List.set_cons_succ]
  refine rg_take 6 rfl (by kernel_rfl) (by kernel_rfl) (by kernel_rfl) (by rfl) hS (v := .int .i64 q) (fun w' _ => op_quo HG.out E2.out R2.out rfl rfl rfl w') ?_
  try simp only [Act.put, List.setIfInBounds_toArray, List.set_cons_zero, List.set_cons_succ]
  refine rg_eff 3 rfl (by kernel_rfl) (by rfl) (fun K hK => ?_)
  go_simp
  refine (F1.out _).mono ?_
  rintro e w1 ⟨rfl, h1⟩
  refine hK _ _ (hS.call h1) (fun hS => ?_)
  clear hK K
  replace b4 := b4.call h1
  replace hb := bthen hb h1
  clear h1
  try simp only [Act.put, List.setIfInBounds_toArray, List.set_cons_zero, List.set_cons_succ]
  refine rg_eff 7 rfl (by kernel_rfl) (by rfl) (fun K hK => ?_)
  go_simp
  refine (F2.out _).mono ?_
  rintro e w1 ⟨rfl, h1⟩
  refine hK _ _ (hS.call h1) (fun hS => ?_)
  clear hK K
  replace b4 := b4.call h1
  replace hb := bthen hb h1
  clear h1
  try simp only [Act.put, List.setIfInBounds_toArray, List.set_cons_zero, List.set_cons_succ]
  refine rg_build 8 rfl (by kernel_rfl) (by kernel_rfl) (by kernel_rfl) (by rfl) hS rfl (pl := [(0, .agg (mk p).toArray), (1, .agg (mk q).toArray)]) (builtF _ _) (by simp [Act.eval]) ?_
  try simp only [Act.put, List.setIfInBounds_toArray, List.set_cons_zero, List.set_cons_succ]
  refine rg_eff 9 rfl (by kernel_rfl) (by rfl) (fun K hK => ?_)
  refine wp_st (vs := fr p q) rfl rfl rfl b4 (by rw [rr_length, fr_length]) (wholeF _ _) (fr_one _ _) ?_
  refine hK _ _ (hS.row (.inl (by simp)) _) (fun hS => ?_)
  clear hK K
  try simp only [Act.put, List.setIfInBounds_toArray, List.set_cons_zero, List.set_cons_succ]
  refine rg_done (by kernel_rfl) ?_
  go_wp2
  exact ret_c (cs := fr p q) rfl rfl rfl (wholeF _ _) (b4.row _) ⟨rfl, below_row hb (by omega) _⟩
/-- A fraction of numbers of 31 bits, or none. -/
theorem tiny_q {q : Rat} (h : Bq 31 q) : Tl 38 #[vq q] (.tuple #[.int .i64 q.num, .int .i64 q.den, .bool true]) := by
  have h1 := h.1
  have h2 := h.2
  unfold Sz at h1 h2
  have hd := q.den_nz
  have hr := q.reduced
  refine tiny_any (decide (q.num < 0)) (N := q.num.natAbs) (decide ((q.den : Int) < 0)) (M := (q.den : Int).natAbs) (h.fn (by omega)) (h.fd (by omega)) (fun _ => ⟨(zn_self _).symm, by omega, rfl⟩) (fun hn => absurd ⟨by omega, by omega, by omega, decide_eq_false (by omega), fun h => ?_, ?_⟩ hn)
  · have := of_decide_eq_true h
    omega
  · rw [Int.natAbs_natCast]; exact hr
theorem tiny_not (s : Bool) {N : Nat} (t : Bool) {M : Nat} (hN : N < bb ^ 32) (hM : M < bb ^ 32) (h : ¬ Ty s N t M) : Tl 38 #[.agg (rr s N t M).toArray] (.tuple #[.int .i64 0, .int .i64 0, .bool false]) :=
  tiny_any s t hN hM (fun h' => absurd h' h) (fun _ => ⟨rfl, rfl, rfl⟩)
/-- What is tiny is a fraction of 31 bits. -/
theorem ty_q {s : Bool} {N : Nat} {t : Bool} {M : Nat} (h : Ty s N t M) : ∃ q : Rat, rr s N t M = fr q.num q.den ∧ Bq 31 q := by
  obtain ⟨h1, h2, h3, rfl, h5, h6⟩ := h
  refine ⟨⟨zn s N, M, h3, by rw [zn_abs]; exact h6⟩, ?_, ⟨?_, ?_⟩⟩
  · show wd s N ++ wd false M = mk (zn s N) ++ mk (M : Int)
    have e1 : mk (M : Int) = wd false M := by unfold mk; rw [decide_eq_false (by omega), Int.natAbs_natCast]
    have e2 : mk (zn s N) = wd s N := by
      unfold mk; rw [zn_abs]
      cases s
      · rw [decide_eq_false (by unfold zn; simp)]
      · have := h5 rfl
        rw [decide_eq_true (by unfold zn; simp; omega)]
    rw [e1, e2]
  · show (zn s N).natAbs < 2 ^ 31
    rw [zn_abs]; exact h1
  · show (M : Int).natAbs < 2 ^ 31
    rw [Int.natAbs_natCast]; exact h2
end Go.Proofs.YtckolhalggcenaaGreat
