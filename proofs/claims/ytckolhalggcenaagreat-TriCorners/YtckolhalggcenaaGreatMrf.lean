/- The reference's fractions: tinies, both, Sign, CmpRat. -/
import Derived.Test.YtckolhalggcenaaGreatMrs
import Derived.Test.YtckolhalggcenaaGreatPnq
import Derived.Test.YtckolhalggcenaaGreatMgx
namespace Go.Proofs.YtckolhalggcenaaGreat
set_option linter.unusedSimpArgs false
set_option linter.unusedVariables false
open Go.RowKit
set_option maxRecDepth 100000
theorem op_mulL {o : Oper} {a : Act} {x y : Operand} {ty : TypeId} {m k q : Int} (h : m * k = q) (hq : -9223372036854775808 ≤ q ∧ q ≤ 9223372036854775807) (ho : o.op = .binOp .mul 2 x y ty) (hx : a.eval x = .int .i64 m) (hy : a.eval y = .int .i64 k) (w : World) :
    (execOp a.eval o).run Tryz.prog w = .ok (.value (.int .i64 q)) w := by
  subst h
  have hw : IntKind.i64.wrap (m * k) = m * k := IntWalk.i64_in _ hq
  unfold execOp
  simp only [ho, hx, hy]
  go_simp <;> simp_all
theorem mulL {ops : Array Oper} {rest : List Oper} {o : Oper} {a : Act} {w : World} {Q : Exit → Act → World → Prop} {x y : Operand} {ty : TypeId} {m k q : Int} (h : m * k = q) (hq : -9223372036854775808 ≤ q ∧ q ≤ 9223372036854775807) (hgd : o.guard = none) (ho : o.op = .binOp .mul 2 x y ty) (hx : a.eval x = .int .i64 m) (hy : a.eval y = .int .i64 k)
    (hr : wpList Tryz.prog ops Q rest (a.put o.dst (.int .i64 q)) w) : wpList Tryz.prog ops Q (o :: rest) a w :=
  wpList_plain hgd fun K hK => by
    have := hK _ _ hr
    unfold Oper.wp
    rw [op_mulL h hq ho hx hy w]
    exact this
section
variable {P : Program} {fn : Func} {R : Ending → World → Prop} {a : Act} {w : World}
theorem ret_t5 {p q r s t : Tmp} {v1 v2 v3 v4 v5 : Value} (hres : fn.results = #[.tmp p, .tmp q, .tmp r, .tmp s, .tmp t]) (hd : a.defers = []) (h1 : a.tmps.getD p undef = v1) (h2 : a.tmps.getD q undef = v2) (h3 : a.tmps.getD r undef = v3) (h4 : a.tmps.getD s undef = v4) (h5 : a.tmps.getD t undef = v5)
    (hR : R (.returned (.tuple #[v1, v2, v3, v4, v5])) w) : bodyPost P fn R .ret a w := by
  have h1' : a.tmps[p]?.getD undef = v1 := by simpa using h1
  have h2' : a.tmps[q]?.getD undef = v2 := by simpa using h2
  have h3' : a.tmps[r]?.getD undef = v3 := by simpa using h3
  have h4' : a.tmps[s]?.getD undef = v4 := by simpa using h4
  have h5' : a.tmps[t]?.getD undef = v5 := by simpa using h5
  exact bodyPost_ret (by simp [results, hres, h1', h2', h3', h4', h5']) hd hR
end
set_option maxHeartbeats 2000000 in
theorem tinies_walk {A B : List Value} {p q r s : Int} {o i : Bool} (hA : Rc A) (hB : Rc B) (T1 : Tl 38 #[vl A] (.tuple #[.int .i64 p, .int .i64 q, .bool o])) (T2 : Tl 38 #[vl B] (.tuple #[.int .i64 r, .int .i64 s, .bool i])) :
    Tl 19 #[vl A, vl B] (.tuple #[.int .i64 p, .int .i64 q, .int .i64 r, .int .i64 s, .bool (o && i)]) := by
  intro w
  unfold vl at *
  have HT1 := Lib.hid T1
  have HT2 := Lib.hid T2
  have HA := Lib.hid hA
  have HB := Lib.hid hB
  unfold Tl at HT1 HT2
  clear T1 T2 hA hB
  have b2 := ((Blk.new w (A) 27 rfl).old (.cells (B).toArray 27))
  have b3 := (Blk.new (w.alloc (.cells (A).toArray 27)) (B) 27 (b := w.heap.size + 1) (by simp))
  have hb : Below w.heap.size w ((w.alloc (.cells (A).toArray 27)).alloc (.cells (B).toArray 27)) := (((Below.refl _ _).alloc (Nat.le_refl _) _).alloc (by simp <;> omega) _)
  have hk : ((w.alloc (.cells (A).toArray 27)).alloc (.cells (B).toArray 27)).heap.size = w.heap.size + 1 + 1 := by simp
  cases o with
  | false =>
    go_enter Tryz.func19, Tryz.ntmps19
    go_wp2_with (first | (with_reducible refine ldA' rfl rfl rfl b2 HA.out ?_) | (with_reducible refine ldA' rfl rfl rfl b3 HB.out ?_))
    refine (HT1.out _).mono ?_
    rintro e w1 ⟨rfl, h1⟩
    replace b3 := b3.call h1
    replace hb := bthen hb h1
    clear h1
    go_wp2_with (first | (with_reducible refine ldA' rfl rfl rfl b3 HB.out ?_))
    refine (HT2.out _).mono ?_
    rintro e w1 ⟨rfl, h1⟩
    replace hb := bthen hb h1
    clear h1
    go_wp2
    exact ret_t5 rfl rfl rfl rfl rfl rfl rfl ⟨rfl, hb⟩
  | true =>
    go_enter Tryz.func19, Tryz.ntmps19
    go_wp2_with (first | (with_reducible refine ldA' rfl rfl rfl b2 HA.out ?_) | (with_reducible refine ldA' rfl rfl rfl b3 HB.out ?_))
    refine (HT1.out _).mono ?_
    rintro e w1 ⟨rfl, h1⟩
    replace b3 := b3.call h1
    replace hb := bthen hb h1
    clear h1
    go_wp2_with (first | (with_reducible refine ldA' rfl rfl rfl b3 HB.out ?_))
    refine (HT2.out _).mono ?_
    rintro e w1 ⟨rfl, h1⟩
    replace hb := bthen hb h1
    clear h1
    go_wp2
    exact ret_t5 rfl rfl rfl rfl rfl rfl rfl ⟨rfl, hb⟩
theorem tiny_qno {k : Nat} {x : Rat} (h : Bq k x) (hk : k ≤ 1024) (hn : ¬ Bq 31 x) : Tl 38 #[vq x] (.tuple #[.int .i64 0, .int .i64 0, .bool false]) := by
  refine tiny_not (decide (x.num < 0)) (N := x.num.natAbs) (decide ((x.den : Int) < 0)) (M := (x.den : Int).natAbs) (h.fn hk) (h.fd hk) fun h' => hn ⟨?_, ?_⟩
  · show x.num.natAbs < 2 ^ 31
    have := h'.1
    omega
  · show (x.den : Int).natAbs < 2 ^ 31
    have := h'.2.1
    omega
theorem tinies_yes {x y : Rat} (h : Bq 31 x) (h' : Bq 31 y) : Tl 19 #[vq x, vq y] (.tuple #[.int .i64 x.num, .int .i64 x.den, .int .i64 y.num, .int .i64 y.den, .bool true]) :=
  tinies_walk (o := true) (i := true) (rc_q _) (rc_q _) (tiny_q h) (tiny_q h')
theorem tinies_no {j k : Nat} {x y : Rat} (h : Bq j x) (hj : j ≤ 1024) (h' : Bq k y) (hk : k ≤ 1024) (hn : ¬ (Bq 31 x ∧ Bq 31 y)) : ∃ p q r s, Tl 19 #[vq x, vq y] (.tuple #[.int .i64 p, .int .i64 q, .int .i64 r, .int .i64 s, .bool false]) := by
  by_cases h1 : Bq 31 x
  · have h2 : ¬ Bq 31 y := fun h2 => hn ⟨h1, h2⟩
    exact ⟨_, _, _, _, tinies_walk (o := true) (i := false) (rc_q _) (rc_q _) (tiny_q h1) (tiny_qno h' hk h2)⟩
  · by_cases h2 : Bq 31 y
    · exact ⟨_, _, _, _, tinies_walk (o := false) (i := true) (rc_q _) (rc_q _) (tiny_qno h hj h1) (tiny_q h2)⟩
    · exact ⟨_, _, _, _, tinies_walk (o := false) (i := false) (rc_q _) (rc_q _) (tiny_qno h hj h1) (tiny_qno h' hk h2)⟩
theorem IsRat_q {k : Nat} {x : Rat} (h : Bq k x) (hk : k ≤ 1024) : Tl 61 #[vq x] (.bool true) := by
  rcases israt_cases (decide (x.num < 0)) (N := x.num.natAbs) (decide ((x.den : Int) < 0)) (M := (x.den : Int).natAbs) (h.fn hk) (h.fd hk) with ⟨_, hn⟩ | ⟨q, e, _, _, T⟩
  · exact absurd ⟨x, rfl, h.fn hk, h.fd hk⟩ hn
  · have e' : vq x = vq q := congrArg (fun l => Value.agg (List.toArray l)) e
    rw [e']; exact T
theorem Saferef_q {k : Nat} {x : Rat} (h : Bq k x) (hk : k ≤ 500) : Tl 39 #[vq x, .int .i64 500] (.bool true) := by
  have W := Saferef_walk (decide (x.num < 0)) (N := x.num.natAbs) (decide ((x.den : Int) < 0)) (M := (x.den : Int).natAbs) 500 (h.fn (by omega)) (h.fd (by omega)) (IsRat_q h (by omega))
  have h1 : bitLen x.num.natAbs ≤ 500 := Nat.le_trans (sz_bits.2 h.1) hk
  have h2 : bitLen (x.den : Int).natAbs ≤ 500 := Nat.le_trans (sz_bits.2 h.2) hk
  rw [decide_eq_true (show ((bitLen x.num.natAbs : Nat) : Int) ≤ 500 by omega), decide_eq_true (show ((bitLen (x.den : Int).natAbs : Nat) : Int) ≤ 500 by omega)] at W
  exact W
set_option maxHeartbeats 1000000 in
theorem bothref_walk {A B : List Value} (hA : Rc A) (hB : Rc B) (T1 : Tl 39 #[vl A, .int .i64 500] (.bool true)) (T2 : Tl 39 #[vl B, .int .i64 500] (.bool true)) : Tl 20 #[vl A, vl B] (.bool true) := by
  intro w
  unfold vl at *
  have HT1 := Lib.hid T1
  have HT2 := Lib.hid T2
  have HA := Lib.hid hA
  have HB := Lib.hid hB
  unfold Tl at HT1 HT2
  clear T1 T2 hA hB
  have b2 := ((Blk.new w (A) 27 rfl).old (.cells (B).toArray 27))
  have b3 := (Blk.new (w.alloc (.cells (A).toArray 27)) (B) 27 (b := w.heap.size + 1) (by simp))
  have hb : Below w.heap.size w ((w.alloc (.cells (A).toArray 27)).alloc (.cells (B).toArray 27)) := (((Below.refl _ _).alloc (Nat.le_refl _) _).alloc (by simp <;> omega) _)
  have hk : ((w.alloc (.cells (A).toArray 27)).alloc (.cells (B).toArray 27)).heap.size = w.heap.size + 1 + 1 := by simp
  go_enter Tryz.func20, Tryz.ntmps20
  go_wp2_with (first | (with_reducible refine ldA' rfl rfl rfl b2 HA.out ?_))
  refine (HT1.out _).mono ?_
  rintro e w1 ⟨rfl, h1⟩
  replace b3 := b3.call h1
  replace hb := bthen hb h1
  clear h1
  go_wp2_with (first | (refine ldPg (by rfl) rfl rfl b3 (part_all _) HB.out.whole ?_))
  refine (HT2.out _).mono ?_
  rintro e w1 ⟨rfl, h1⟩
  replace hb := bthen hb h1
  clear h1
  go_wp2
  go_ret
  exact ⟨rfl, hb⟩
theorem bothref_q {j k : Nat} {x y : Rat} (h : Bq j x) (hj : j ≤ 500) (h' : Bq k y) (hk : k ≤ 500) : Tl 20 #[vq x, vq y] (.bool true) := bothref_walk (rc_q _) (rc_q _) (Saferef_q h hj) (Saferef_q h' hk)
set_option maxHeartbeats 1000000 in
theorem Signref_rr (s : Bool) {N : Nat} (t : Bool) {M : Nat} (hN : N < bb ^ 32) : Tl 15 #[.agg (rr s N t M).toArray] (.int .i64 (if N = 0 then 0 else if s then -1 else 1)) := fun w => by
  have O1 := Lib.hid (fun w => of_any s hN w)
  clear hN
  by_cases h0 : N = 0
  · rw [if_pos h0]
    have e0 : nw N = 0 := nw_zero.2 h0
    clear h0
    have b1 := Blk.new w (rr s N t M) 27 rfl
    have hb : Below w.heap.size w (w.alloc (.cells (rr s N t M).toArray 27)) := (Below.refl _ _).alloc (Nat.le_refl _) _
    go_enter Tryz.func15, Tryz.ntmps15
    go_wp2_with (first | (with_reducible refine ldP rfl rfl rfl b1 (part_n _ _ _ _) (whole25 _ _) ?_))
    refine (O1.out _).mono ?_
    rintro e w1 ⟨v, rfl, hv, h1⟩
    obtain ⟨p, c, rfl, hc, _⟩ := hv.old
    replace b1 := b1.call h1
    replace hb := bthen hb h1
    have c0 := b1.cell (i := 0) (v := .bool s) rfl
    clear hv h1
    generalize nw N = n at *
    subst e0
    go_wp2
    go_ret
    exact ⟨rfl, hb⟩
  · rw [if_neg h0]
    have h2 : ¬ (nw N : Int) = 0 := by have := mt nw_zero.1 h0; omega
    clear h0
    by_cases hs : s = true
    · rw [if_pos hs]
      have HS := Lib.hid hs
      clear hs
      have b1 := Blk.new w (rr s N t M) 27 rfl
      have hb : Below w.heap.size w (w.alloc (.cells (rr s N t M).toArray 27)) := (Below.refl _ _).alloc (Nat.le_refl _) _
      go_enter Tryz.func15, Tryz.ntmps15
      go_wp2_with (first | (with_reducible refine ldP rfl rfl rfl b1 (part_n _ _ _ _) (whole25 _ _) ?_))
      refine (O1.out _).mono ?_
      rintro e w1 ⟨v, rfl, hv, h1⟩
      obtain ⟨p, c, rfl, hc, _⟩ := hv.old
      replace b1 := b1.call h1
      replace hb := bthen hb h1
      have c0 := b1.cell (i := 0) (v := .bool s) rfl
      clear hv h1
      have hs := HS.out
      clear HS
      subst hs
      go_wp2
      go_ret
      exact ⟨rfl, hb⟩
    · rw [if_neg hs]
      have HS := Lib.hid hs
      clear hs
      have b1 := Blk.new w (rr s N t M) 27 rfl
      have hb : Below w.heap.size w (w.alloc (.cells (rr s N t M).toArray 27)) := (Below.refl _ _).alloc (Nat.le_refl _) _
      go_enter Tryz.func15, Tryz.ntmps15
      go_wp2_with (first | (with_reducible refine ldP rfl rfl rfl b1 (part_n _ _ _ _) (whole25 _ _) ?_))
      refine (O1.out _).mono ?_
      rintro e w1 ⟨v, rfl, hv, h1⟩
      obtain ⟨p, c, rfl, hc, _⟩ := hv.old
      replace b1 := b1.call h1
      replace hb := bthen hb h1
      have c0 := b1.cell (i := 0) (v := .bool s) rfl
      clear hv h1
      have hs : s = false := by simpa using HS.out
      clear HS
      subst hs
      go_wp2
      go_ret
      exact ⟨rfl, hb⟩
theorem Signref_q {k : Nat} {x : Rat} (h : Bq k x) (hk : k ≤ 1024) : Tl 15 #[vq x] (.int .i64 (cq x 0)) := by
  have W := Signref_rr (decide (x.num < 0)) (N := x.num.natAbs) (decide ((x.den : Int) < 0)) (M := (x.den : Int).natAbs) (h.fn hk)
  rw [← sn_q]
  have e : (if x.num.natAbs = 0 then (0 : Int) else if decide (x.num < 0) = true then -1 else 1) = sn x.num := by
    unfold sn
    by_cases h1 : x.num < 0
    · rw [if_neg (by omega), if_pos (decide_eq_true h1), if_pos h1]
    · by_cases h2 : 0 < x.num
      · rw [if_neg (by omega), if_neg (by rw [decide_eq_true_eq]; exact h1), if_neg h1, if_pos h2]
      · rw [if_pos (by omega), if_neg h1, if_neg h2]
  rw [e] at W
  exact W
theorem Mulref_z {a b : Int} (ha : fits a) (hb : fits b) (h : fits (a * b)) : Tl 21 #[vw a, vw b] (.tuple #[vw (a * b), .bool true]) :=
  Mulref_any (decide (a < 0)) (N := a.natAbs) (decide (b < 0)) (M := b.natAbs) ha hb (z := a * b) (o := true) (by rw [zn_self, zn_self]; exact fz_self h)
theorem Cmpref_z {a b : Int} (ha : fits a) (hb : fits b) : Tl 22 #[vw a, vw b] (.int .i64 (cm a b)) := by
  have := Cmpref_any (decide (a < 0)) (N := a.natAbs) (decide (b < 0)) (M := b.natAbs) ha hb
  rw [zn_self, zn_self] at this
  exact this
set_option maxHeartbeats 4000000 in
theorem CmpRat_t {A B : List Value} {p q r s m k : Int} (hA : Rc A) (hB : Rc B) (T : Tl 19 #[vl A, vl B] (.tuple #[.int .i64 p, .int .i64 q, .int .i64 r, .int .i64 s, .bool true])) (hm : p * s = m) (hk : r * q = k) (rm : -9223372036854775808 ≤ m ∧ m ≤ 9223372036854775807) (rk : -9223372036854775808 ≤ k ∧ k ≤ 9223372036854775807) :
    Tl 7 #[vl A, vl B] (.tuple #[.int .i64 (cm m k), .bool true]) := by
  intro w
  unfold vl at *
  have HT := Lib.hid T
  have HA := Lib.hid hA
  have HB := Lib.hid hB
  have HM := Lib.hid hm
  have HK := Lib.hid hk
  unfold Tl at HT
  clear T hA hB hm hk
  have b2 := ((Blk.new w (A) 27 rfl).old (.cells (B).toArray 27))
  have b3 := (Blk.new (w.alloc (.cells (A).toArray 27)) (B) 27 (b := w.heap.size + 1) (by simp))
  have hb : Below w.heap.size w ((w.alloc (.cells (A).toArray 27)).alloc (.cells (B).toArray 27)) := (((Below.refl _ _).alloc (Nat.le_refl _) _).alloc (by simp <;> omega) _)
  have hk : ((w.alloc (.cells (A).toArray 27)).alloc (.cells (B).toArray 27)).heap.size = w.heap.size + 1 + 1 := by simp
  rcases Int.lt_trichotomy m k with h | h | h
  · rw [show cm m k = -1 by unfold cm; rw [if_pos h]]
    go_enter Tryz.func7, Tryz.ntmps7
    go_wp2_with (first | (with_reducible refine ldA' rfl rfl rfl b2 HA.out ?_) | (with_reducible refine ldA' rfl rfl rfl b3 HB.out ?_))
    refine (HT.out _).mono ?_
    rintro e w1 ⟨rfl, h1⟩
    replace hb := bthen hb h1
    clear h1
    go_wp2_with (first | (with_reducible refine mulL HM.out rm rfl rfl rfl rfl ?_) | (with_reducible refine mulL HK.out rk rfl rfl rfl rfl ?_))
    go_ret2
    exact ⟨rfl, hb⟩
  · rw [show cm m k = 0 by unfold cm; rw [if_neg (by omega), if_neg (by omega)]]
    have h1 : ¬ m < k := by omega
    have h2 : ¬ k < m := by omega
    clear h
    go_enter Tryz.func7, Tryz.ntmps7
    go_wp2_with (first | (with_reducible refine ldA' rfl rfl rfl b2 HA.out ?_) | (with_reducible refine ldA' rfl rfl rfl b3 HB.out ?_))
    refine (HT.out _).mono ?_
    rintro e w1 ⟨rfl, h1⟩
    replace hb := bthen hb h1
    clear h1
    go_wp2_with (first | (with_reducible refine mulL HM.out rm rfl rfl rfl rfl ?_) | (with_reducible refine mulL HK.out rk rfl rfl rfl rfl ?_))
    go_ret2
    exact ⟨rfl, hb⟩
  · rw [show cm m k = 1 by unfold cm; rw [if_neg (by omega), if_pos h]]
    have h1 : ¬ m < k := by omega
    go_enter Tryz.func7, Tryz.ntmps7
    go_wp2_with (first | (with_reducible refine ldA' rfl rfl rfl b2 HA.out ?_) | (with_reducible refine ldA' rfl rfl rfl b3 HB.out ?_))
    refine (HT.out _).mono ?_
    rintro e w1 ⟨rfl, h1⟩
    replace hb := bthen hb h1
    clear h1
    go_wp2_with (first | (with_reducible refine mulL HM.out rm rfl rfl rfl rfl ?_) | (with_reducible refine mulL HK.out rk rfl rfl rfl rfl ?_))
    go_ret2
    exact ⟨rfl, hb⟩
set_option maxHeartbeats 4000000 in
theorem CmpRat_g {n d m e x y c p q r s : Int} (T : Tl 19 #[vf n d, vf m e] (.tuple #[.int .i64 p, .int .i64 q, .int .i64 r, .int .i64 s, .bool false])) (B : Tl 20 #[vf n d, vf m e] (.bool true))
    (M1 : Tl 21 #[vw n, vw e] (.tuple #[vw x, .bool true])) (M2 : Tl 21 #[vw m, vw d] (.tuple #[vw y, .bool true])) (C : Tl 22 #[vw x, vw y] (.int .i64 c)) : Tl 7 #[vf n d, vf m e] (.tuple #[.int .i64 c, .bool true]) := by
  intro w
  unfold vf at *
  unfold vw at *
  have HT := Lib.hid T
  have HB := Lib.hid B
  have HM1 := Lib.hid M1
  have HM2 := Lib.hid M2
  have HC := Lib.hid C
  unfold Tl at HT HB HM1 HM2 HC
  clear T B M1 M2 C
  have b2 := ((Blk.new w (fr n d) 27 rfl).old (.cells (fr m e).toArray 27))
  have b3 := (Blk.new (w.alloc (.cells (fr n d).toArray 27)) (fr m e) 27 (b := w.heap.size + 1) (by simp))
  have hb : Below w.heap.size w ((w.alloc (.cells (fr n d).toArray 27)).alloc (.cells (fr m e).toArray 27)) := (((Below.refl _ _).alloc (Nat.le_refl _) _).alloc (by simp <;> omega) _)
  have hk : ((w.alloc (.cells (fr n d).toArray 27)).alloc (.cells (fr m e).toArray 27)).heap.size = w.heap.size + 1 + 1 := by simp
  go_enter Tryz.func7, Tryz.ntmps7
  go_wp2_with (first | (with_reducible refine ldFr rfl rfl rfl b2 ?_) | (with_reducible refine ldFr rfl rfl rfl b3 ?_))
  refine (HT.out _).mono ?_
  rintro e w1 ⟨rfl, h1⟩
  replace b2 := b2.call h1
  replace b3 := b3.call h1
  replace hb := bthen hb h1
  clear h1
  go_wp2_with (first | (with_reducible refine ldFr rfl rfl rfl b2 ?_) | (with_reducible refine ldFr rfl rfl rfl b3 ?_))
  refine (HB.out _).mono ?_
  rintro e w1 ⟨rfl, h1⟩
  replace b2 := b2.call h1
  replace b3 := b3.call h1
  replace hb := bthen hb h1
  clear h1
  go_wp2_with (first | (with_reducible refine ldP rfl rfl rfl b2 (partF_n _ _) (wholeM _) ?_) | (with_reducible refine ldP rfl rfl rfl b3 (partF_d _ _) (wholeM _) ?_))
  refine (HM1.out _).mono ?_
  rintro e w1 ⟨rfl, h1⟩
  replace b2 := b2.call h1
  replace b3 := b3.call h1
  replace hb := bthen hb h1
  clear h1
  have f := Blk.new w1 (wd false 0) 25 rfl
  have b11 := laid_new w1 (x)
  replace b2 := laid_old b2 (x)
  replace b3 := laid_old b3 (x)
  replace hb := laid_below hb (x)
  go_wp2_with (first | (with_reducible refine alW rfl rfl ?_) | (with_reducible refine stM rfl rfl rfl rfl f (wd_length _ _) ?_) | (with_reducible refine ldP rfl rfl rfl b3 (partF_n _ _) (wholeM _) ?_) | (with_reducible refine ldP rfl rfl rfl b2 (partF_d _ _) (wholeM _) ?_))
  clear f
  generalize (w1.alloc (.cells (wd false 0).toArray 25)).setRow w1.heap.size (mk (x)).toArray = W at *
  generalize w1.heap.size = pl_b11 at *
  refine (HM2.out _).mono ?_
  rintro e w1 ⟨rfl, h1⟩
  replace b11 := b11.call h1
  replace hb := bthen hb h1
  clear h1
  have f := Blk.new w1 (wd false 0) 25 rfl
  have b13 := laid_new w1 (y)
  replace b11 := laid_old b11 (y)
  replace hb := laid_below hb (y)
  go_wp2_with (first | (with_reducible refine alW rfl rfl ?_) | (with_reducible refine stM rfl rfl rfl rfl f (wd_length _ _) ?_) | (with_reducible refine ldM rfl rfl rfl b11 ?_) | (with_reducible refine ldM rfl rfl rfl b13 ?_))
  clear f
  generalize (w1.alloc (.cells (wd false 0).toArray 25)).setRow w1.heap.size (mk (y)).toArray = W at *
  generalize w1.heap.size = pl_b13 at *
  refine (HC.out _).mono ?_
  rintro e w1 ⟨rfl, h1⟩
  replace hb := bthen hb h1
  clear h1
  go_wp2
  go_ret2
  exact ⟨rfl, hb⟩
theorem lt62 {a b : Int} (ha : a.natAbs < 2 ^ 31) (hb : b.natAbs < 2 ^ 31) : (a * b).natAbs < 2 ^ 62 := by
  rw [Int.natAbs_mul]
  have h1 : a.natAbs ≤ 2 ^ 31 - 1 := by omega
  have h2 : b.natAbs ≤ 2 ^ 31 - 1 := by omega
  have := Nat.mul_le_mul h1 h2
  omega
/-- The order of two fractions, as the document tells it. -/
theorem CmpRatref_q {j k : Nat} {x y : Rat} (h : Bq j x) (hj : j ≤ 500) (h' : Bq k y) (hk : k ≤ 500) : Tl 7 #[vq x, vq y] (.tuple #[.int .i64 (cq x y), .bool true]) := by
  rw [← cm_q]
  by_cases ht : Bq 31 x ∧ Bq 31 y
  · have h1 := lt62 ht.1.1 ht.2.2
    have h2 := lt62 ht.2.1 ht.1.2
    exact CmpRat_t (rc_q _) (rc_q _) (tinies_yes ht.1 ht.2) rfl rfl (by omega) (by omega)
  · obtain ⟨p, q, r, s, T⟩ := tinies_no h (by omega) h' (by omega) ht
    have f1 : fits (x.num * y.den) := sz_fits (sz_mul h.1 h'.2) (by omega)
    have f2 : fits (y.num * x.den) := sz_fits (sz_mul h'.1 h.2) (by omega)
    exact CmpRat_g T (bothref_q h hj h' hk) (Mulref_z (h.fn (by omega)) (h'.fd (by omega)) f1) (Mulref_z (h'.fn (by omega)) (h.fd (by omega)) f2) (Cmpref_z f1 f2)
end Go.Proofs.YtckolhalggcenaaGreat
