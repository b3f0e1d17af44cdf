/- What RatioRows answers. -/
import Derived.Test.YtiaikjeljhfadaaRkn
import Derived.Test.YtiaikjeljhfadaaRlg
import Derived.Test.YtiaikjeljhfadaaPka
import Derived.Deep.DeepCutAuto
namespace Go.Proofs.Ytiaikjeljhfadaa
set_option linter.unusedSimpArgs false
set_option linter.unusedVariables false
open Go.RowKit
set_option maxRecDepth 100000
theorem op_eqI {o : Oper} {a : Act} {x y : Operand} {ty : TypeId} {m n : Int} {b : Bool} (h : decide (m = n) = b) (ho : o.op = .binOp .eql 3 x y ty) (hx : a.eval x = .int .i64 m) (hy : a.eval y = .int .i64 n) (w : World) :
    (execOp a.eval o).run Try.prog w = .ok (.value (.bool b)) w := by
  subst h
  unfold execOp
  simp only [ho, hx, hy]
  go_simp <;> rfl
theorem rng_below {w w' : World} {b f : Nat} {cs : List Value} (hb : Below w.heap.size w w') (hbw : b < w.heap.size) (h : w.rangeAt b f cs) : w'.rangeAt b f cs := fun j v hv => by
  rw [hb.cell (p := ⟨b, f + j, none⟩) hbw]
  exact h j v hv
theorem op_rng {P : Program} {o : Oper} {a : Act} {w w0 : World} {G : List Nat} {ty : TypeId} {x : Operand} {b f : Nat} {cs : List Value} (ho : o.op = .load ty x) (hx : a.eval x = .pointer (some ⟨b, f, none⟩)) (h : w0.rangeAt b f cs) (hb : b < w0.heap.size) (hg : b ∉ G) (hS : Keep G w0 w) (W : Whole P ty cs.length) :
    (execOp a.eval o).run P w = .ok (.value (.agg cs.toArray)) w := by
  obtain ⟨d, hu, hd, hi⟩ := W
  have h' : w.rangeAt b f cs := fun j v hv => by
    have h1 := h j v hv
    unfold World.cell? at h1 ⊢
    rw [hS.2 b hb hg]; exact h1
  unfold execOp
  simp only [ho, hx, Instr.loadAt, Instr.sureAddr, Sem.run_bind, Sem.run_pure, Result.andThen_ok, run_loadVar_mid w b f ty cs d h' hu hd hi]
section
variable {ops : Array Oper} {rest : List Oper} {o : Oper} {a : Act} {w : World} {Q : Exit → Act → World → Prop}
theorem ldAr {x : Operand} {b f : Nat} {A : List Value} (hgd : o.guard = none) (ho : o.op = .load 45 x) (hx : a.eval x = .pointer (some ⟨b, f, none⟩)) (h : w.rangeAt b f A) (hA : Rc A)
    (hr : wpList Try.prog ops Q rest (a.put o.dst (.agg A.toArray)) w) : wpList Try.prog ops Q (o :: rest) a w := by
  obtain ⟨d, hu, hd⟩ := underR
  exact wpList_load_mid hgd 45 x ho b f hx _ d h hu hd (by rw [hA.len]; exact sizeR) hr
theorem ldAg' {t : TypeId} {x : Operand} {b : Nat} {A : List Value} (hw : Region.wanted o (yielded ops a.tmps) = true) (ho : o.op = .load 45 x) (hx : a.eval x = .pointer (some ⟨b, 0, none⟩)) (h : Blk w b A t) (hA : Rc A)
    (hr : wpList Try.prog ops Q rest (a.put o.dst (.agg A.toArray)) w) : wpList Try.prog ops Q (o :: rest) a w := ldPg hw ho hx h (part_all _) hA.whole hr
theorem eqqg' {p q : Operand} {x : Rat} {ty : TypeId} (hw : Region.wanted o (yielded ops a.tmps) = true) (ho : o.op = .binOp .eql 45 p q ty) (hp : a.eval p = .agg (fq x).toArray) (hq : a.eval q = .agg (fq x).toArray) (hx : Fq2 x)
    (hr : wpList Try.prog ops Q rest (a.put o.dst (.bool true)) w) : wpList Try.prog ops Q (o :: rest) a w :=
  BigFrame.wpList_want hw fun _ hK => by
    have := hK _ _ hr
    unfold Oper.wp
    rw [op_eqq hx hx (decide_eq_true rfl) ho hp hq w]
    exact this
end
/-- Whether m was met among the first k. -/
def fdq (m : Rat) (q : Nat → Rat) : Nat → Bool
  | 0 => false
  | k + 1 => fdq m q k || decide (cq m (q k) = 0)
set_option maxHeartbeats 1000000 in
theorem rrows_none (p : Option Addr) {n : Nat} (c : Nat) (hn : n = 0 ∨ 8 < n) (hm : n ≤ 9223372036854775807) (w : World) : Calls Try.prog 7 #[.slice p n c] w fun e w' => e = .returned (.bool true) ∧ Below w.heap.size w w' := by
  have hb := Below.refl w.heap.size w
  rcases hn with rfl | hn
  · go_enter Try.func7, Try.ntmps7
    go_wp2_with fail
    refine (known2_any _).mono ?_
    rintro e w1 ⟨rfl, h1⟩
    replace hb := bthen hb h1
    clear h1
    go_wp2
    go_ret
    exact ⟨rfl, hb⟩
  · have h1 : ¬ (n : Int) = 0 := by omega
    have h2 : (8 : Int) < (n : Int) := by omega
    have e2 : decide ((8 : Int) < (n : Int)) = true := decide_eq_true h2
    go_enter Try.func7, Try.ntmps7
    go_wp2_with fail
    refine (known2_any _).mono ?_
    rintro e w1 ⟨rfl, h1⟩
    replace hb := bthen hb h1
    clear h1
    go_wp2
    go_ret
    exact ⟨rfl, hb⟩
set_option maxHeartbeats 4000000 in
theorem rrows_walk (n b f c : Nat) (A : Nat → List Value) (s : Nat → Bool) (w : World) (h1 : 1 ≤ n) (h8 : n ≤ 8) (hA : ∀ k, k < n → Rc (A k)) (hS : ∀ k, k < n → Tl 43 #[vl (A k), .int .i64 40] (.bool (s k))) (hbw : b < w.heap.size) (hr : ∀ k, k < n → w.rangeAt b (f + k * 66) (A k))
    (hq : (∀ k, k < n → s k = true) → ∃ (q : Nat → Rat) (m : Rat), (∀ k, k < n → A k = fq (q k)) ∧ Fq2 (sumq q n) ∧ fdq m q n = true ∧ (∀ k, k < n → cq m (q k) ≤ 0) ∧ (∀ k, k < n → Tl 47 #[vq m, vq (q k)] (.tuple #[.int .i64 (cq m (q k)), .bool true])) ∧ (∀ k, k < n → Tl 44 #[vq (sumq q k), vq (q k)] (.tuple #[vq (sumq q (k + 1)), .bool true])) ∧
      (∀ w', Below w.heap.size w w' → Calls Try.prog 52 #[.slice (some ⟨b, f, none⟩) n c] w' fun e w2 => e = .returned (.tuple #[vq m, .bool true]) ∧ Below w'.heap.size w' w2) ∧
      (∀ w', Below w.heap.size w w' → Calls Try.prog 53 #[.slice (some ⟨b, f, none⟩) n c] w' fun e w2 => e = .returned (.tuple #[vq (sumq q n), .bool true]) ∧ Below w'.heap.size w' w2)) :
    Calls Try.prog 7 #[.slice (some ⟨b, f, none⟩) n c] w fun e w' => e = .returned (.bool true) ∧ Below w.heap.size w w' := by
  have HA := Lib.hid hA
  have HS := Lib.hid hS
  have Hr := Lib.hid hr
  have HQ := Lib.hid hq
  unfold Tl vl at HS
  clear hA hS hr hq
  have hb := Below.refl w.heap.size w
  have hn1 : ¬ (n : Int) = 0 := by omega
  have hn2 : ¬ (8 : Int) < (n : Int) := by omega
  have hn3 : decide ((8 : Int) < (n : Int)) = false := decide_eq_false hn2
  have hn4 : (n : Int) ≤ 8 := by omega
  have hn5 : ((n : Int) == 0) = false := by simp; omega
  go_enter Try.func7, Try.ntmps7
  go_wp2_with fail
  refine (known2_any _).mono ?_
  rintro e w1 ⟨rfl, h1⟩
  replace hb := bthen hb h1
  clear h1
  go_wp2
  try simp only [hn5]
  go_loopw [3] (fun i wr => ∃ k : Nat, k ≤ n ∧ i = .int .i64 k ∧ (∀ j, j < k → s j = true) ∧ Below w.heap.size w wr) (fun i _ => n - (intOf i).toNat)
  case atStart => exact ⟨0, Nat.zero_le _, rfl, fun j hj => absurd hj (by omega), hb⟩
  case round =>
    clear hb
    obtain ⟨k, hk, rfl, hall, hb⟩ := hrel
    have HL := Lib.hid hall
    clear hall
    by_cases hlt : k < n
    · have r0 : wr.rangeAt b (f + k * 66) (A k) := fun j v hv => by
        rw [hb.cell (p := ⟨b, f + k * 66 + j, none⟩) hbw]
        exact Hr.out k hlt j v hv
      have HF := Lib.hid (HS.out k hlt)
      have hlt' : (k : Int) < (n : Int) := by omega
      have HX := Lib.hid (HA.out k hlt)
      generalize A k = X at *
      go_wp2_with (first | (with_reducible refine ldAr rfl rfl rfl r0 HX.out ?_))
      refine (HF.out _).mono ?_
      rintro e w1 ⟨rfl, h1⟩
      replace hb := bthen hb h1
      obtain ⟨sk, hsk⟩ : ∃ sk, s k = sk := ⟨_, rfl⟩
      rw [hsk]
      cases sk with
      | true =>
        have EK := Lib.hid hsk
        clear hsk
        go_wp2
        go_roundw
        case rel =>
          exact ⟨k + 1, by omega, by go_num, fun j hj => by
            rcases Nat.lt_or_ge j k with h | h
            · exact HL.out j h
            · obtain rfl : j = k := by omega
              exact EK.out, hb⟩
        case measure => simp [intOf]; omega
      | false =>
        clear hsk
        go_wp2
        go_ret
        exact ⟨rfl, hb⟩
    · obtain rfl : k = n := by omega
      obtain ⟨q, m, q1, q2, q3, q4, q5, q6, q7, q8⟩ := HQ.out HL.out
      clear HQ HL HS HA
      have Q1 := Lib.hid q1
      have Q2 := Lib.hid q2
      have Q3 := Lib.hid q3
      have Q4 := Lib.hid q4
      have Q5 := Lib.hid q5
      have Q6 := Lib.hid q6
      have Q7 := Lib.hid q7
      have Q8 := Lib.hid q8
      have QW := Lib.hid (Whole_q (n := 0) (by decide))
      have eq1 : vq = fun q => .agg (fq q).toArray := rfl
      unfold Tl at Q5 Q6 QW
      rw [eq1] at Q5 Q6 Q7 Q8 QW
      clear q1 q2 q3 q4 q5 q6 q7 q8 eq1
      obtain ⟨S, hSS⟩ : ∃ S, sumq q k = S := ⟨_, rfl⟩
      rw [hSS] at Q2 Q8
      have ES := Lib.hid hSS
      clear hSS
      have E0 : Hid (((0 : Int) : Rat) = sumq q 0) := rfl
      generalize ((0 : Int) : Rat) = z at *
      go_wp2_with fail
      refine (Q7.out _ hb).mono ?_
      rintro e w1 ⟨rfl, h1⟩
      replace hb := bthen hb h1
      clear h1
      have f := Blk.new w1 (rr false 0 false 0) 45 rfl
      have b4 := laid_n w1 (rr false 0 false 0) (fq m) 45
      replace hb := laid_b hb (rr false 0 false 0) (fq m) 45
      go_wp2_with (first | (with_reducible refine alR rfl rfl ?_) | (with_reducible refine stQ rfl rfl rfl rfl f (rr_length _ _ _ _) (rc_q _) ?_) | (with_reducible refine ldA' rfl rfl rfl b4 (rc_q _) ?_))
      clear f
      generalize (w1.alloc (.cells (rr false 0 false 0).toArray 45)).setRow w1.heap.size (fq m).toArray = W at *
      generalize w1.heap.size = pl_b4 at *
      refine (Q8.out _ hb).mono ?_
      rintro e w1 ⟨rfl, h1⟩
      replace b4 := b4.call h1
      replace hb := bthen hb h1
      clear h1
      have f := Blk.new w1 (rr false 0 false 0) 45 rfl
      have b6 := laid_n w1 (rr false 0 false 0) (fq S) 45
      replace b4 := laid_o b4 (rr false 0 false 0) (fq S) 45
      replace hb := laid_b hb (rr false 0 false 0) (fq S) 45
      go_wp2_with (first | (with_reducible refine alR rfl rfl ?_) | (with_reducible refine stQ rfl rfl rfl rfl f (rr_length _ _ _ _) (rc_q _) ?_) | (with_reducible refine ldA' rfl rfl rfl b4 (rc_q _) ?_) | (with_reducible refine ldA' rfl rfl rfl b6 (rc_q _) ?_))
      clear f
      generalize (w1.alloc (.cells (rr false 0 false 0).toArray 45)).setRow w1.heap.size (fq S).toArray = W at *
      generalize w1.heap.size = pl_b6 at *
      refine (QW.out _).mono ?_
      rintro e w1 ⟨rfl, h1⟩
      replace b4 := b4.call h1
      replace b6 := b6.call h1
      replace hb := bthen hb h1
      clear h1
      have n49 : pl_b4 ≠ w1.heap.size := Nat.ne_of_lt b4.lt
      have n69 : pl_b6 ≠ w1.heap.size := Nat.ne_of_lt b6.lt
      have hs9 := hb.size
      have f := Blk.new w1 (rr false 0 false 0) 45 rfl
      have b9 := laid_n w1 (rr false 0 false 0) (fq z) 45
      replace b4 := laid_o b4 (rr false 0 false 0) (fq z) 45
      replace b6 := laid_o b6 (rr false 0 false 0) (fq z) 45
      replace hb := laid_b hb (rr false 0 false 0) (fq z) 45
      go_wp2_with (first | (with_reducible refine alR rfl rfl ?_) | (with_reducible refine stQ rfl rfl rfl rfl f (rr_length _ _ _ _) (rc_q _) ?_) | (with_reducible refine ldA' rfl rfl rfl b4 (rc_q _) ?_) | (with_reducible refine ldA' rfl rfl rfl b6 (rc_q _) ?_) | (with_reducible refine ldA' rfl rfl rfl b9 (rc_q _) ?_))
      clear f
      generalize (w1.alloc (.cells (rr false 0 false 0).toArray 45)).setRow w1.heap.size (fq z).toArray = W at *
      generalize w1.heap.size = pl_b9 at *
      have HB9 : Hid (w.heap.size ≤ pl_b9) := hs9
      clear hs9
      go_loopw [8, 10] (fun fo i wr => ∃ j : Nat, j ≤ k ∧ i = .int .i64 j ∧ fo = .bool (fdq m q j) ∧ Below w.heap.size w wr ∧ Blk wr pl_b4 (fq m) 45 ∧ Blk wr pl_b6 (fq S) 45 ∧ Blk wr pl_b9 (fq (sumq q j)) 45) (fun _ i _ => k - (intOf i).toNat)
      case atStart => exact ⟨0, Nat.zero_le _, rfl, rfl, hb, b4, b6, by rw [← E0.out]; exact b9⟩
      case round =>
        have n46 : True := trivial
        clear hb b4 b6 b9
        obtain ⟨j, hj, rfl, rfl, hb, b4, b6, b9⟩ := hrel
        by_cases hjk : j < k
        · have R0 : Hid (w.rangeAt b (f + j * 66) (fq (q j))) := by
            have := Hr.out j hjk
            rw [Q1.out j hjk] at this
            exact this
          have C := Lib.hid (Q5.out j hjk)
          have AD := Lib.hid (Q6.out j hjk)
          have hc0 := Q4.out j hjk
          have hjk' : (j : Int) < (k : Int) := by omega
          have EF : Hid (fdq m q (j + 1) = (fdq m q j || decide (cq m (q j) = 0))) := rfl
          obtain ⟨T', hT'⟩ : ∃ T', sumq q (j + 1) = T' := ⟨_, rfl⟩
          have ET := Lib.hid hT'
          rw [hT'] at AD
          clear hT' Q3 Q4 Q5 Q6 Q7 Q8
          generalize sumq q j = T at *
          generalize cq m (q j) = cc at *
          generalize hqj : q j = y at *
          clear hqj
          generalize fdq m q j = fj at *
          obtain ⟨cb, hcb⟩ : ∃ cb, decide (cc = 0) = cb := ⟨_, rfl⟩
          rw [hcb] at EF
          have HCB := Lib.hid hcb
          have hc1 : ¬ (0 : Int) < cc := by omega
          have hc2 : decide ((0 : Int) < cc) = false := decide_eq_false hc1
          clear hcb
          have r0 := rng_below hb hbw R0.out
          have hbw0 := Nat.lt_of_lt_of_le hbw hb.size
          go_wp2_with fail
          refine rg_start [] (by kernel_rfl) (fun hS => ?_)
          replace hb := hb.drew
          refine rg_ld 0 rfl (by kernel_rfl) (by kernel_rfl) (by kernel_rfl) (by rfl) hS rfl rfl b4 (by simp <;> omega) (rc_q _).whole ?_
          try simp only [Act.put, List.setIfInBounds_toArray, List.set_cons_zero, List.set_cons_succ]
          refine rg_take 1 rfl (by kernel_rfl) (by kernel_rfl) (by kernel_rfl) (by rfl) hS (v := ?_) ?_ ?_
          rotate_left
          · (intro w' hS'; go_simp <;> try with_reducible rfl)
          try simp only [Act.put, List.setIfInBounds_toArray, List.set_cons_zero, List.set_cons_succ]
          refine rg_take 2 rfl (by kernel_rfl) (by kernel_rfl) (by kernel_rfl) (by rfl) hS (v := ?_) ?_ ?_
          rotate_left
          · (intro w' hS'; go_simp <;> try with_reducible rfl)
          try simp only [Act.put, List.setIfInBounds_toArray, List.set_cons_zero, List.set_cons_succ]
          refine rg_take 3 rfl (by kernel_rfl) (by kernel_rfl) (by kernel_rfl) (by rfl) hS (v := ?_) ?_ ?_
          rotate_left
          · (intro w' hS'; go_simp <;> try with_reducible rfl)
          try simp only [Act.put, List.setIfInBounds_toArray, List.set_cons_zero, List.set_cons_succ]
          refine rg_take 4 rfl (by kernel_rfl) (by kernel_rfl) (by kernel_rfl) (by rfl) hS (v := .agg (fq y).toArray) (fun w' hS' => op_rng rfl rfl r0 hbw0 (by simp) hS' (rc_q _).whole) ?_
          try simp only [Act.put, List.setIfInBounds_toArray, List.set_cons_zero, List.set_cons_succ]
          refine rg_eff 5 rfl (by kernel_rfl) (by rfl) (fun K hK => ?_)
          go_simp
          refine (C.out _).mono ?_
          rintro e w1 ⟨rfl, h1⟩
          refine hK _ _ (hS.call h1) (fun hS => ?_)
          clear hK K
          replace hb := bthen hb h1
          clear h1
          try simp only [Act.put, List.setIfInBounds_toArray, List.set_cons_zero, List.set_cons_succ]
          refine rg_take 6 rfl (by kernel_rfl) (by kernel_rfl) (by kernel_rfl) (by rfl) hS (v := ?_) ?_ ?_
          rotate_left
          · (intro w' hS'; go_simp <;> try with_reducible rfl)
          try simp only [Act.put, List.setIfInBounds_toArray, List.set_cons_zero, List.set_cons_succ]
          refine rg_take 7 rfl (by kernel_rfl) (by kernel_rfl) (by kernel_rfl) (by rfl) hS (v := ?_) ?_ ?_
          rotate_left
          · (intro w' hS'; go_simp <;> try with_reducible rfl)
          try simp only [Act.put, List.setIfInBounds_toArray, List.set_cons_zero, List.set_cons_succ]
          refine rg_take 8 rfl (by kernel_rfl) (by kernel_rfl) (by kernel_rfl) (by rfl) hS (v := ?_) ?_ ?_
          rotate_left
          · (intro w' hS'; go_simp <;> try with_reducible rfl)
          try simp only [Act.put, List.setIfInBounds_toArray, List.set_cons_zero, List.set_cons_succ]
          refine rg_take 9 rfl (by kernel_rfl) (by kernel_rfl) (by kernel_rfl) (by rfl) hS (v := ?_) ?_ ?_
          rotate_left
          · (intro w' hS'; go_simp <;> try with_reducible rfl)
          try simp only [Act.put, List.setIfInBounds_toArray, List.set_cons_zero, List.set_cons_succ]
          refine rg_take 10 rfl (by kernel_rfl) (by kernel_rfl) (by kernel_rfl) (by rfl) hS (v := ?_) ?_ ?_
          rotate_left
          · (intro w' hS'; go_simp <;> try with_reducible rfl)
          try simp only [Act.put, List.setIfInBounds_toArray, List.set_cons_zero, List.set_cons_succ]
          refine rg_done (by kernel_rfl) ?_
          replace b4 := b4.keep hS (by simp)
          replace b6 := b6.keep hS (by simp)
          replace b9 := b9.keep hS (by simp)
          clear hS r0 hbw0
          have r0 := rng_below hb hbw R0.out
          have hbw0 := Nat.lt_of_lt_of_le hbw hb.size
          have l9 := b9.lt
          have hsz := hb.size
          go_wp2_with fail
          refine rg_start [] (by kernel_rfl) (fun hS => ?_)
          replace hb := hb.drew
          refine rg_ld 0 rfl (by kernel_rfl) (by kernel_rfl) (by kernel_rfl) (by rfl) hS rfl rfl b9 (by simp <;> omega) (rc_q _).whole ?_
          try simp only [Act.put, List.setIfInBounds_toArray, List.set_cons_zero, List.set_cons_succ]
          refine rg_take 1 rfl (by kernel_rfl) (by kernel_rfl) (by kernel_rfl) (by rfl) hS (v := ?_) ?_ ?_
          rotate_left
          · (intro w' hS'; go_simp <;> try with_reducible rfl)
          try simp only [Act.put, List.setIfInBounds_toArray, List.set_cons_zero, List.set_cons_succ]
          refine rg_take 2 rfl (by kernel_rfl) (by kernel_rfl) (by kernel_rfl) (by rfl) hS (v := ?_) ?_ ?_
          rotate_left
          · (intro w' hS'; go_simp <;> try with_reducible rfl)
          try simp only [Act.put, List.setIfInBounds_toArray, List.set_cons_zero, List.set_cons_succ]
          refine rg_take 3 rfl (by kernel_rfl) (by kernel_rfl) (by kernel_rfl) (by rfl) hS (v := ?_) ?_ ?_
          rotate_left
          · (intro w' hS'; go_simp <;> try with_reducible rfl)
          try simp only [Act.put, List.setIfInBounds_toArray, List.set_cons_zero, List.set_cons_succ]
          refine rg_take 4 rfl (by kernel_rfl) (by kernel_rfl) (by kernel_rfl) (by rfl) hS (v := .agg (fq y).toArray) (fun w' hS' => op_rng rfl rfl r0 hbw0 (by simp) hS' (rc_q _).whole) ?_
          try simp only [Act.put, List.setIfInBounds_toArray, List.set_cons_zero, List.set_cons_succ]
          refine rg_two 5 9 rfl rfl (by kernel_rfl) (by rfl) (by rfl) (fun K hK => ?_) (fun K hK => ?_)
          · go_simp
            refine (AD.out _).mono ?_
            rintro e w1 ⟨rfl, h1⟩
            refine hK _ _ (hS.call h1) (fun hS => ?_)
            clear hK K
            try replace a13 := a13.call h1
            replace hb := bthen hb h1
            clear h1
            try simp only [Act.put, List.setIfInBounds_toArray, List.set_cons_zero, List.set_cons_succ]
            refine rg_take 6 rfl (by kernel_rfl) (by kernel_rfl) (by kernel_rfl) (by rfl) hS (v := ?_) ?_ ?_
            rotate_left
            · (intro w' hS'; go_simp <;> try with_reducible rfl)
            try simp only [Act.put, List.setIfInBounds_toArray, List.set_cons_zero, List.set_cons_succ]
            refine rg_take 7 rfl (by kernel_rfl) (by kernel_rfl) (by kernel_rfl) (by rfl) hS (v := ?_) ?_ ?_
            rotate_left
            · (intro w' hS'; go_simp <;> try with_reducible rfl)
            try simp only [Act.put, List.setIfInBounds_toArray, List.set_cons_zero, List.set_cons_succ]
            refine rg_take 8 rfl (by kernel_rfl) (by kernel_rfl) (by kernel_rfl) (by rfl) hS (v := ?_) ?_ ?_
            rotate_left
            · (intro w' hS'; go_simp <;> try with_reducible rfl)
            try simp only [Act.put, List.setIfInBounds_toArray, List.set_cons_zero, List.set_cons_succ]
            refine rg_eff 9 rfl (by kernel_rfl) (by rfl) (fun K hK => ?_)
            refine wp_alB (zs := rr false 0 false 0) rfl (by kernel_rfl) (fun p13 q13 a13 => ?_)
            replace q13 := Nat.le_trans hS.1 q13
            refine hK _ _ (hS.alloc _) (fun hS => ?_)
            clear hK K
            replace hb := hb.alloc hb.size (.cells (rr false 0 false 0).toArray 45)
            try simp only [Act.put, List.setIfInBounds_toArray, List.set_cons_zero, List.set_cons_succ]
            refine rg_eff 10 rfl (by kernel_rfl) (by rfl) (fun K hK => ?_)
            refine wp_st (vs := fq T') rfl rfl rfl a13 (by rw [rr_length, (rc_q _).len]) (rc_q _).whole (rc_q _).one ?_
            refine hK _ _ (hS.row (.inr q13) _) (fun hS => ?_)
            clear hK K
            replace a13 := a13.row (fq T')
            replace hb := below_row hb (g := p13) (by omega) (fq T').toArray
            try simp only [Act.put, List.setIfInBounds_toArray, List.set_cons_zero, List.set_cons_succ]
            refine rg_take 11 rfl (by kernel_rfl) (by kernel_rfl) (by kernel_rfl) (by rfl) hS (v := ?_) ?_ ?_
            rotate_left
            · (intro w' hS'; go_simp <;> try with_reducible rfl)
            try simp only [Act.put, List.setIfInBounds_toArray, List.set_cons_zero, List.set_cons_succ]
            refine rg_done (by kernel_rfl) ?_
            replace b4 := b4.keep hS (by simp)
            replace b6 := b6.keep hS (by simp)
            replace b9 := b9.keep hS (by simp)
            have n13 : p13 ≠ pl_b9 := by omega
            clear hS r0 hbw0 q13 l9 hsz
            go_wp2_with fail
            cases fj with
            | true =>
              refine rg_start [pl_b9] (by kernel_rfl) (fun hS => ?_)
              replace hb := hb.drew
              replace b9 := b9.drew
              refine rg_take 0 rfl (by kernel_rfl) (by kernel_rfl) (by kernel_rfl) (by rfl) hS (v := ?_) ?_ ?_
              rotate_left
              · (intro w' hS'; go_simp <;> try with_reducible rfl)
              try simp only [Act.put, List.setIfInBounds_toArray, List.set_cons_zero, List.set_cons_succ]
              refine rg_take 1 rfl (by kernel_rfl) (by kernel_rfl) (by kernel_rfl) (by rfl) hS (v := ?_) ?_ ?_
              rotate_left
              · (intro w' hS'; go_simp <;> try with_reducible rfl)
              try simp only [Act.put, List.setIfInBounds_toArray, List.set_cons_zero, List.set_cons_succ]
              refine rg_skip 2 rfl (by kernel_rfl) (by kernel_rfl) (by kernel_rfl) (by rfl) hS ?_
              try simp only [Act.put, List.setIfInBounds_toArray, List.set_cons_zero, List.set_cons_succ]
              refine rg_skip 3 rfl (by kernel_rfl) (by kernel_rfl) (by kernel_rfl) (by rfl) hS ?_
              try simp only [Act.put, List.setIfInBounds_toArray, List.set_cons_zero, List.set_cons_succ]
              refine rg_take 4 rfl (by kernel_rfl) (by kernel_rfl) (by kernel_rfl) (by rfl) hS (v := ?_) ?_ ?_
              rotate_left
              · (intro w' hS'; go_simp <;> try with_reducible rfl)
              try simp only [Act.put, List.setIfInBounds_toArray, List.set_cons_zero, List.set_cons_succ]
              refine rg_ld 5 rfl (by kernel_rfl) (by kernel_rfl) (by kernel_rfl) (by rfl) hS rfl rfl a13 (by simp <;> omega) (rc_q _).whole ?_
              try simp only [Act.put, List.setIfInBounds_toArray, List.set_cons_zero, List.set_cons_succ]
              refine rg_take 6 rfl (by kernel_rfl) (by kernel_rfl) (by kernel_rfl) (by rfl) hS (v := ?_) ?_ ?_
              rotate_left
              · (intro w' hS'; go_simp <;> try with_reducible rfl)
              try simp only [Act.put, List.setIfInBounds_toArray, List.set_cons_zero, List.set_cons_succ]
              refine rg_eff 7 rfl (by kernel_rfl) (by rfl) (fun K hK => ?_)
              refine wp_st (vs := fq T') rfl rfl rfl b9 (by rw [(rc_q _).len, (rc_q _).len]) (rc_q _).whole (rc_q _).one ?_
              refine hK _ _ (hS.row (.inl (by simp)) _) (fun hS => ?_)
              clear hK K
              try simp only [Act.put, List.setIfInBounds_toArray, List.set_cons_zero, List.set_cons_succ]
              refine rg_done (by kernel_rfl) ?_
              have l9 := b9.lt
              replace b4 := b4.keep hS (by simp <;> omega)
              replace b6 := b6.keep hS (by simp <;> omega)
              replace hb := below_row hb (g := pl_b9) HB9.out (fq T').toArray
              replace b9 := b9.row (fq T')
              go_wp2
              go_roundw
              case rel =>
                exact ⟨j + 1, by omega, by go_num, by rw [EF.out]; first | rfl | simp, hb, b4, b6, by rw [ET.out]; exact b9⟩
              case measure => simp [intOf]; omega
            | false =>
              refine rg_start [pl_b9] (by kernel_rfl) (fun hS => ?_)
              replace hb := hb.drew
              replace b9 := b9.drew
              refine rg_take 0 rfl (by kernel_rfl) (by kernel_rfl) (by kernel_rfl) (by rfl) hS (v := ?_) ?_ ?_
              rotate_left
              · (intro w' hS'; go_simp <;> try with_reducible rfl)
              try simp only [Act.put, List.setIfInBounds_toArray, List.set_cons_zero, List.set_cons_succ]
              refine rg_take 1 rfl (by kernel_rfl) (by kernel_rfl) (by kernel_rfl) (by rfl) hS (v := ?_) ?_ ?_
              rotate_left
              · (intro w' hS'; go_simp <;> try with_reducible rfl)
              try simp only [Act.put, List.setIfInBounds_toArray, List.set_cons_zero, List.set_cons_succ]
              refine rg_take 2 rfl (by kernel_rfl) (by kernel_rfl) (by kernel_rfl) (by rfl) hS (v := ?_) ?_ ?_
              rotate_left
              · (intro w' hS'; go_simp <;> try with_reducible rfl)
              try simp only [Act.put, List.setIfInBounds_toArray, List.set_cons_zero, List.set_cons_succ]
              refine rg_take 3 rfl (by kernel_rfl) (by kernel_rfl) (by kernel_rfl) (by rfl) hS (v := .bool cb) (fun w' _ => op_eqI HCB.out rfl rfl rfl w') ?_
              try simp only [Act.put, List.setIfInBounds_toArray, List.set_cons_zero, List.set_cons_succ]
              refine rg_take 4 rfl (by kernel_rfl) (by kernel_rfl) (by kernel_rfl) (by rfl) hS (v := ?_) ?_ ?_
              rotate_left
              · (intro w' hS'; go_simp <;> try with_reducible rfl)
              try simp only [Act.put, List.setIfInBounds_toArray, List.set_cons_zero, List.set_cons_succ]
              refine rg_ld 5 rfl (by kernel_rfl) (by kernel_rfl) (by kernel_rfl) (by rfl) hS rfl rfl a13 (by simp <;> omega) (rc_q _).whole ?_
              try simp only [Act.put, List.setIfInBounds_toArray, List.set_cons_zero, List.set_cons_succ]
              refine rg_take 6 rfl (by kernel_rfl) (by kernel_rfl) (by kernel_rfl) (by rfl) hS (v := ?_) ?_ ?_
              rotate_left
              · (intro w' hS'; go_simp <;> try with_reducible rfl)
              try simp only [Act.put, List.setIfInBounds_toArray, List.set_cons_zero, List.set_cons_succ]
              refine rg_eff 7 rfl (by kernel_rfl) (by rfl) (fun K hK => ?_)
              refine wp_st (vs := fq T') rfl rfl rfl b9 (by rw [(rc_q _).len, (rc_q _).len]) (rc_q _).whole (rc_q _).one ?_
              refine hK _ _ (hS.row (.inl (by simp)) _) (fun hS => ?_)
              clear hK K
              try simp only [Act.put, List.setIfInBounds_toArray, List.set_cons_zero, List.set_cons_succ]
              refine rg_done (by kernel_rfl) ?_
              have l9 := b9.lt
              replace b4 := b4.keep hS (by simp <;> omega)
              replace b6 := b6.keep hS (by simp <;> omega)
              replace hb := below_row hb (g := pl_b9) HB9.out (fq T').toArray
              replace b9 := b9.row (fq T')
              go_wp2
              go_roundw
              case rel =>
                exact ⟨j + 1, by omega, by go_num, by rw [EF.out]; first | rfl | simp, hb, b4, b6, by rw [ET.out]; exact b9⟩
              case measure => simp [intOf]; omega
          · refine wp_alB (zs := rr false 0 false 0) rfl (by kernel_rfl) (fun p13 q13 a13 => ?_)
            replace q13 := Nat.le_trans hS.1 q13
            refine hK _ _ (hS.alloc _) (fun hS => ?_)
            clear hK K
            replace hb := hb.alloc hb.size (.cells (rr false 0 false 0).toArray 45)
            try simp only [Act.put, List.setIfInBounds_toArray, List.set_cons_zero, List.set_cons_succ]
            refine rg_eff 5 rfl (by kernel_rfl) (by rfl) (fun K hK => ?_)
            go_simp
            refine (AD.out _).mono ?_
            rintro e w1 ⟨rfl, h1⟩
            refine hK _ _ (hS.call h1) (fun hS => ?_)
            clear hK K
            try replace a13 := a13.call h1
            replace hb := bthen hb h1
            clear h1
            try simp only [Act.put, List.setIfInBounds_toArray, List.set_cons_zero, List.set_cons_succ]
            refine rg_take 6 rfl (by kernel_rfl) (by kernel_rfl) (by kernel_rfl) (by rfl) hS (v := ?_) ?_ ?_
            rotate_left
            · (intro w' hS'; go_simp <;> try with_reducible rfl)
            try simp only [Act.put, List.setIfInBounds_toArray, List.set_cons_zero, List.set_cons_succ]
            refine rg_take 7 rfl (by kernel_rfl) (by kernel_rfl) (by kernel_rfl) (by rfl) hS (v := ?_) ?_ ?_
            rotate_left
            · (intro w' hS'; go_simp <;> try with_reducible rfl)
            try simp only [Act.put, List.setIfInBounds_toArray, List.set_cons_zero, List.set_cons_succ]
            refine rg_take 8 rfl (by kernel_rfl) (by kernel_rfl) (by kernel_rfl) (by rfl) hS (v := ?_) ?_ ?_
            rotate_left
            · (intro w' hS'; go_simp <;> try with_reducible rfl)
            try simp only [Act.put, List.setIfInBounds_toArray, List.set_cons_zero, List.set_cons_succ]
            refine rg_eff 10 rfl (by kernel_rfl) (by rfl) (fun K hK => ?_)
            refine wp_st (vs := fq T') rfl rfl rfl a13 (by rw [rr_length, (rc_q _).len]) (rc_q _).whole (rc_q _).one ?_
            refine hK _ _ (hS.row (.inr q13) _) (fun hS => ?_)
            clear hK K
            replace a13 := a13.row (fq T')
            replace hb := below_row hb (g := p13) (by omega) (fq T').toArray
            try simp only [Act.put, List.setIfInBounds_toArray, List.set_cons_zero, List.set_cons_succ]
            refine rg_take 11 rfl (by kernel_rfl) (by kernel_rfl) (by kernel_rfl) (by rfl) hS (v := ?_) ?_ ?_
            rotate_left
            · (intro w' hS'; go_simp <;> try with_reducible rfl)
            try simp only [Act.put, List.setIfInBounds_toArray, List.set_cons_zero, List.set_cons_succ]
            refine rg_done (by kernel_rfl) ?_
            replace b4 := b4.keep hS (by simp)
            replace b6 := b6.keep hS (by simp)
            replace b9 := b9.keep hS (by simp)
            have n13 : p13 ≠ pl_b9 := by omega
            clear hS r0 hbw0 q13 l9 hsz
            go_wp2_with fail
            cases fj with
            | true =>
              refine rg_start [pl_b9] (by kernel_rfl) (fun hS => ?_)
              replace hb := hb.drew
              replace b9 := b9.drew
              refine rg_take 0 rfl (by kernel_rfl) (by kernel_rfl) (by kernel_rfl) (by rfl) hS (v := ?_) ?_ ?_
              rotate_left
              · (intro w' hS'; go_simp <;> try with_reducible rfl)
              try simp only [Act.put, List.setIfInBounds_toArray, List.set_cons_zero, List.set_cons_succ]
              refine rg_take 1 rfl (by kernel_rfl) (by kernel_rfl) (by kernel_rfl) (by rfl) hS (v := ?_) ?_ ?_
              rotate_left
              · (intro w' hS'; go_simp <;> try with_reducible rfl)
              try simp only [Act.put, List.setIfInBounds_toArray, List.set_cons_zero, List.set_cons_succ]
              refine rg_skip 2 rfl (by kernel_rfl) (by kernel_rfl) (by kernel_rfl) (by rfl) hS ?_
              try simp only [Act.put, List.setIfInBounds_toArray, List.set_cons_zero, List.set_cons_succ]
              refine rg_skip 3 rfl (by kernel_rfl) (by kernel_rfl) (by kernel_rfl) (by rfl) hS ?_
              try simp only [Act.put, List.setIfInBounds_toArray, List.set_cons_zero, List.set_cons_succ]
              refine rg_take 4 rfl (by kernel_rfl) (by kernel_rfl) (by kernel_rfl) (by rfl) hS (v := ?_) ?_ ?_
              rotate_left
              · (intro w' hS'; go_simp <;> try with_reducible rfl)
              try simp only [Act.put, List.setIfInBounds_toArray, List.set_cons_zero, List.set_cons_succ]
              refine rg_ld 5 rfl (by kernel_rfl) (by kernel_rfl) (by kernel_rfl) (by rfl) hS rfl rfl a13 (by simp <;> omega) (rc_q _).whole ?_
              try simp only [Act.put, List.setIfInBounds_toArray, List.set_cons_zero, List.set_cons_succ]
              refine rg_take 6 rfl (by kernel_rfl) (by kernel_rfl) (by kernel_rfl) (by rfl) hS (v := ?_) ?_ ?_
              rotate_left
              · (intro w' hS'; go_simp <;> try with_reducible rfl)
              try simp only [Act.put, List.setIfInBounds_toArray, List.set_cons_zero, List.set_cons_succ]
              refine rg_eff 7 rfl (by kernel_rfl) (by rfl) (fun K hK => ?_)
              refine wp_st (vs := fq T') rfl rfl rfl b9 (by rw [(rc_q _).len, (rc_q _).len]) (rc_q _).whole (rc_q _).one ?_
              refine hK _ _ (hS.row (.inl (by simp)) _) (fun hS => ?_)
              clear hK K
              try simp only [Act.put, List.setIfInBounds_toArray, List.set_cons_zero, List.set_cons_succ]
              refine rg_done (by kernel_rfl) ?_
              have l9 := b9.lt
              replace b4 := b4.keep hS (by simp <;> omega)
              replace b6 := b6.keep hS (by simp <;> omega)
              replace hb := below_row hb (g := pl_b9) HB9.out (fq T').toArray
              replace b9 := b9.row (fq T')
              go_wp2
              go_roundw
              case rel =>
                exact ⟨j + 1, by omega, by go_num, by rw [EF.out]; first | rfl | simp, hb, b4, b6, by rw [ET.out]; exact b9⟩
              case measure => simp [intOf]; omega
            | false =>
              refine rg_start [pl_b9] (by kernel_rfl) (fun hS => ?_)
              replace hb := hb.drew
              replace b9 := b9.drew
              refine rg_take 0 rfl (by kernel_rfl) (by kernel_rfl) (by kernel_rfl) (by rfl) hS (v := ?_) ?_ ?_
              rotate_left
              · (intro w' hS'; go_simp <;> try with_reducible rfl)
              try simp only [Act.put, List.setIfInBounds_toArray, List.set_cons_zero, List.set_cons_succ]
              refine rg_take 1 rfl (by kernel_rfl) (by kernel_rfl) (by kernel_rfl) (by rfl) hS (v := ?_) ?_ ?_
              rotate_left
              · (intro w' hS'; go_simp <;> try with_reducible rfl)
              try simp only [Act.put, List.setIfInBounds_toArray, List.set_cons_zero, List.set_cons_succ]
              refine rg_take 2 rfl (by kernel_rfl) (by kernel_rfl) (by kernel_rfl) (by rfl) hS (v := ?_) ?_ ?_
              rotate_left
              · (intro w' hS'; go_simp <;> try with_reducible rfl)
              try simp only [Act.put, List.setIfInBounds_toArray, List.set_cons_zero, List.set_cons_succ]
              refine rg_take 3 rfl (by kernel_rfl) (by kernel_rfl) (by kernel_rfl) (by rfl) hS (v := .bool cb) (fun w' _ => op_eqI HCB.out rfl rfl rfl w') ?_
              try simp only [Act.put, List.setIfInBounds_toArray, List.set_cons_zero, List.set_cons_succ]
              refine rg_take 4 rfl (by kernel_rfl) (by kernel_rfl) (by kernel_rfl) (by rfl) hS (v := ?_) ?_ ?_
              rotate_left
              · (intro w' hS'; go_simp <;> try with_reducible rfl)
              try simp only [Act.put, List.setIfInBounds_toArray, List.set_cons_zero, List.set_cons_succ]
              refine rg_ld 5 rfl (by kernel_rfl) (by kernel_rfl) (by kernel_rfl) (by rfl) hS rfl rfl a13 (by simp <;> omega) (rc_q _).whole ?_
              try simp only [Act.put, List.setIfInBounds_toArray, List.set_cons_zero, List.set_cons_succ]
              refine rg_take 6 rfl (by kernel_rfl) (by kernel_rfl) (by kernel_rfl) (by rfl) hS (v := ?_) ?_ ?_
              rotate_left
              · (intro w' hS'; go_simp <;> try with_reducible rfl)
              try simp only [Act.put, List.setIfInBounds_toArray, List.set_cons_zero, List.set_cons_succ]
              refine rg_eff 7 rfl (by kernel_rfl) (by rfl) (fun K hK => ?_)
              refine wp_st (vs := fq T') rfl rfl rfl b9 (by rw [(rc_q _).len, (rc_q _).len]) (rc_q _).whole (rc_q _).one ?_
              refine hK _ _ (hS.row (.inl (by simp)) _) (fun hS => ?_)
              clear hK K
              try simp only [Act.put, List.setIfInBounds_toArray, List.set_cons_zero, List.set_cons_succ]
              refine rg_done (by kernel_rfl) ?_
              have l9 := b9.lt
              replace b4 := b4.keep hS (by simp <;> omega)
              replace b6 := b6.keep hS (by simp <;> omega)
              replace hb := below_row hb (g := pl_b9) HB9.out (fq T').toArray
              replace b9 := b9.row (fq T')
              go_wp2
              go_roundw
              case rel =>
                exact ⟨j + 1, by omega, by go_num, by rw [EF.out]; first | rfl | simp, hb, b4, b6, by rw [ET.out]; exact b9⟩
              case measure => simp [intOf]; omega
        · obtain rfl : j = k := by omega
          rw [ES.out] at b9
          rw [Q3.out]
          go_wp2_with (first | (refine ldAg' (by rfl) rfl rfl b6 (rc_q _) ?_) | (refine ldAg' (by rfl) rfl rfl b9 (rc_q _) ?_) | (refine eqqg' (by rfl) rfl rfl rfl Q2.out ?_))
          go_ret
          exact ⟨rfl, hb⟩
end Go.Proofs.Ytiaikjeljhfadaa
