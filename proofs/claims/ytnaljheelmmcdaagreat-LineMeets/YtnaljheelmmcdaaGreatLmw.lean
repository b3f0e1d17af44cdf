/- What LineMeets answers. -/
import Derived.Test.YtnaljheelmmcdaaGreatLgq
import Derived.Test.YtnaljheelmmcdaaGreatLni
import Derived.Test.YtnaljheelmmcdaaGreatMrs
namespace Go.Proofs.YtnaljheelmmcdaaGreat
set_option linter.unusedSimpArgs false
set_option linter.unusedVariables false
open Go.RowKit
set_option maxRecDepth 100000
set_option maxHeartbeats 1000000 in
theorem Isr3_walk {A B : List Value} {s t : Bool} (hA : Rc A) (hB : Rc B) (T : Tl 21 #[vl A, .int .i64 60] (.bool s)) (T' : Tl 21 #[vl B, .int .i64 60] (.bool t)) : Tl 11 #[vl (A ++ B)] (.bool (s && t)) := fun w => by
  unfold vl at *
  have HT := Lib.hid T
  have HT' := Lib.hid T'
  have HA := Lib.hid hA
  have HB := Lib.hid hB
  unfold Tl at HT HT'
  clear T T' hA hB
  have b1 := Blk.new w (A ++ B) 31 rfl
  have hb : Below w.heap.size w (w.alloc (.cells (A ++ B).toArray 31)) := (Below.refl _ _).alloc (Nat.le_refl _) _
  cases s with
  | false =>
    go_enter Tryz.func11, Tryz.ntmps11
    go_wp2_with (first | (with_reducible refine ldX rfl rfl rfl b1 HA.out HB.out ?_) | (with_reducible refine ldY rfl rfl rfl b1 HA.out HB.out ?_))
    refine (HT.out _).mono ?_
    rintro e w1 ⟨rfl, h1⟩
    replace b1 := b1.call h1
    replace hb := bthen hb h1
    clear h1
    go_wp2
    go_ret
    exact ⟨rfl, hb⟩
  | true =>
    go_enter Tryz.func11, Tryz.ntmps11
    go_wp2_with (first | (with_reducible refine ldX rfl rfl rfl b1 HA.out HB.out ?_) | (with_reducible refine ldY rfl rfl rfl b1 HA.out HB.out ?_))
    refine (HT.out _).mono ?_
    rintro e w1 ⟨rfl, h1⟩
    replace b1 := b1.call h1
    replace hb := bthen hb h1
    clear h1
    go_wp2_with (first | (refine ldYg (by rfl) rfl rfl b1 HA.out HB.out ?_))
    refine (HT'.out _).mono ?_
    rintro e w1 ⟨rfl, h1⟩
    replace b1 := b1.call h1
    replace hb := bthen hb h1
    clear h1
    go_wp2
    go_ret
    exact ⟨rfl, hb⟩
theorem safer_cases (s : Bool) {N : Nat} (t : Bool) {M : Nat} (hN : N < bb ^ 32) (hM : M < bb ^ 32) :
    Tl 21 #[vl (rr s N t M), .int .i64 60] (.bool false) ∨ ∃ q : Rat, rr s N t M = fq q ∧ Bq 60 q ∧ Tl 21 #[vl (fq q), .int .i64 60] (.bool true) := by
  rcases israt_cases s t hN hM with ⟨h, _⟩ | ⟨q, e, f1, f2, h⟩
  · have W := Saferef_walk s t 60 hN hM h
    rw [Bool.and_false, Bool.and_false] at W
    exact .inl W
  · have h' : Tl 36 #[.agg (rr s N t M).toArray] (.bool true) := by rw [e]; exact h
    have W := Saferef_walk s t 60 hN hM h'
    obtain ⟨a1, a2⟩ : wd s N = mk q.num ∧ wd t M = mk q.den := List.append_inj e (by rw [wd_length, mk_length])
    obtain ⟨_, c2⟩ := wd_inj hN f1 a1
    obtain ⟨_, c4⟩ := wd_inj hM f2 a2
    by_cases h1 : ((bitLen N : Nat) : Int) ≤ 60
    · by_cases h2 : ((bitLen M : Nat) : Int) ≤ 60
      · rw [decide_eq_true h1, decide_eq_true h2] at W
        refine .inr ⟨q, e, ⟨sz_bits.1 (by rw [← c2]; omega), sz_bits.1 (by rw [← c4]; omega)⟩, ?_⟩
        rw [e] at W
        exact W
      · rw [decide_eq_false h2, Bool.false_and, Bool.and_false] at W
        exact .inl W
    · rw [decide_eq_false h1, Bool.false_and] at W
      exact .inl W
theorem isr3_cases (s : Bool) {N : Nat} (t : Bool) {M : Nat} (hN : N < bb ^ 32) (hM : M < bb ^ 32) (s' : Bool) {N' : Nat} (t' : Bool) {M' : Nat} (hN' : N' < bb ^ 32) (hM' : M' < bb ^ 32) :
    Tl 11 #[vl (rr s N t M ++ rr s' N' t' M')] (.bool false) ∨ ∃ x y : Rat, rr s N t M ++ rr s' N' t' M' = fq x ++ fq y ∧ Gd x y ∧ Tl 11 #[vp x y] (.bool true) := by
  have ra := rc_rr s N t M
  have rb := rc_rr s' N' t' M'
  rcases safer_cases s t hN hM with h | ⟨x, e, hx, h⟩
  · rcases safer_cases s' t' hN' hM' with h' | ⟨y, e', hy, h'⟩
    · exact .inl (Isr3_walk (s := false) (t := false) ra rb h h')
    · rw [e']; exact .inl (Isr3_walk (s := false) (t := true) ra (rc_q _) h h')
  · rcases safer_cases s' t' hN' hM' with h' | ⟨y, e', hy, h'⟩
    · rw [e]; exact .inl (Isr3_walk (s := true) (t := false) (rc_q _) rb h h')
    · exact .inr ⟨x, y, by rw [e, e'], ⟨hx, hy⟩, Isr3_walk (s := true) (t := true) (rc_q _) (rc_q _) h h'⟩
theorem eqPn {ops : Array Oper} {rest : List Oper} {o : Oper} {a : Act} {w : World} {Q : Exit → Act → World → Prop} {p q : Operand} {x y u v : Rat} {ty : TypeId} {b : Bool} (hx : Fq2 x) (hy : Fq2 y) (hu : Fq2 u) (hv : Fq2 v) (hb : decide (x = u ∧ y = v) = b) (hgd : o.guard = none) (ho : o.op = .binOp .eql 31 p q ty) (hp : a.eval p = .agg (fq x ++ fq y).toArray) (hq : a.eval q = .agg (fq u ++ fq v).toArray)
    (hr : wpList Tryz.prog ops Q rest (a.put o.dst (.bool b)) w) : wpList Tryz.prog ops Q (o :: rest) a w :=
  wpList_plain hgd fun K hK => by
    have := hK _ _ hr
    unfold Oper.wp
    rw [op_eqP hx hy hu hv hb ho hp hq w]
    exact this
set_option maxHeartbeats 2000000 in
theorem lmeet_a {A B C D X Y U V : List Value} (hA : Rc A) (hB : Rc B) (hC : Rc C) (hD : Rc D) (hX : Rc X) (hY : Rc Y) (hU : Rc U) (hV : Rc V) (I1 : Tl 11 #[vl (A ++ B)] (.bool false)) (w : World) :
    Calls Tryz.prog 4 #[vl (A ++ B), vl (C ++ D), vl (X ++ Y), vl (U ++ V)] w fun e w' => e = .returned (.bool true) ∧ Below w.heap.size w w' := by
  have HI1 := Lib.hid I1
  unfold Tl vl at HI1
  clear I1
  unfold vl at *
  have HA := Lib.hid hA
  have HB := Lib.hid hB
  have HC := Lib.hid hC
  have HD := Lib.hid hD
  have HX := Lib.hid hX
  have HY := Lib.hid hY
  have HU := Lib.hid hU
  have HV := Lib.hid hV
  clear hA hB hC hD hX hY hU hV
  have b4 := ((((Blk.new w (A ++ B) 31 rfl).old (.cells (C ++ D).toArray 31)).old (.cells (X ++ Y).toArray 31)).old (.cells (U ++ V).toArray 31))
  have b5 := (((Blk.new (w.alloc (.cells (A ++ B).toArray 31)) (C ++ D) 31 (b := w.heap.size + 1) (by simp)).old (.cells (X ++ Y).toArray 31)).old (.cells (U ++ V).toArray 31))
  have b6 := ((Blk.new ((w.alloc (.cells (A ++ B).toArray 31)).alloc (.cells (C ++ D).toArray 31)) (X ++ Y) 31 (b := w.heap.size + 1 + 1) (by simp)).old (.cells (U ++ V).toArray 31))
  have b7 := (Blk.new (((w.alloc (.cells (A ++ B).toArray 31)).alloc (.cells (C ++ D).toArray 31)).alloc (.cells (X ++ Y).toArray 31)) (U ++ V) 31 (b := w.heap.size + 1 + 1 + 1) (by simp))
  have hb : Below w.heap.size w ((((w.alloc (.cells (A ++ B).toArray 31)).alloc (.cells (C ++ D).toArray 31)).alloc (.cells (X ++ Y).toArray 31)).alloc (.cells (U ++ V).toArray 31)) := (((((Below.refl _ _).alloc (Nat.le_refl _) _).alloc (by simp <;> omega) _).alloc (by simp <;> omega) _).alloc (by simp <;> omega) _)
  have hk : ((((w.alloc (.cells (A ++ B).toArray 31)).alloc (.cells (C ++ D).toArray 31)).alloc (.cells (X ++ Y).toArray 31)).alloc (.cells (U ++ V).toArray 31)).heap.size = w.heap.size + 1 + 1 + 1 + 1 := by simp
  go_enter Tryz.func4, Tryz.ntmps4
  go_wp2_with fail
  refine (known4_any _).mono ?_
  rintro e w1 ⟨rfl, h1⟩
  replace b4 := b4.call h1
  replace b5 := b5.call h1
  replace b6 := b6.call h1
  replace b7 := b7.call h1
  replace hb := bthen hb h1
  clear h1
  go_wp2_with (first | (with_reducible refine ldPt rfl rfl rfl b4 HA.out HB.out ?_))
  refine (HI1.out _).mono ?_
  rintro e w1 ⟨rfl, h1⟩
  replace b4 := b4.call h1
  replace b5 := b5.call h1
  replace b6 := b6.call h1
  replace b7 := b7.call h1
  replace hb := bthen hb h1
  clear h1
  go_wp2
  go_ret
  exact ⟨rfl, hb⟩
set_option maxHeartbeats 2000000 in
theorem lmeet_b {A B C D X Y U V : List Value} (hA : Rc A) (hB : Rc B) (hC : Rc C) (hD : Rc D) (hX : Rc X) (hY : Rc Y) (hU : Rc U) (hV : Rc V) (I1 : Tl 11 #[vl (A ++ B)] (.bool true)) (I2 : Tl 11 #[vl (C ++ D)] (.bool false)) (w : World) :
    Calls Tryz.prog 4 #[vl (A ++ B), vl (C ++ D), vl (X ++ Y), vl (U ++ V)] w fun e w' => e = .returned (.bool true) ∧ Below w.heap.size w w' := by
  have HI1 := Lib.hid I1
  have HI2 := Lib.hid I2
  unfold Tl vl at HI1 HI2
  clear I1 I2
  unfold vl at *
  have HA := Lib.hid hA
  have HB := Lib.hid hB
  have HC := Lib.hid hC
  have HD := Lib.hid hD
  have HX := Lib.hid hX
  have HY := Lib.hid hY
  have HU := Lib.hid hU
  have HV := Lib.hid hV
  clear hA hB hC hD hX hY hU hV
  have b4 := ((((Blk.new w (A ++ B) 31 rfl).old (.cells (C ++ D).toArray 31)).old (.cells (X ++ Y).toArray 31)).old (.cells (U ++ V).toArray 31))
  have b5 := (((Blk.new (w.alloc (.cells (A ++ B).toArray 31)) (C ++ D) 31 (b := w.heap.size + 1) (by simp)).old (.cells (X ++ Y).toArray 31)).old (.cells (U ++ V).toArray 31))
  have b6 := ((Blk.new ((w.alloc (.cells (A ++ B).toArray 31)).alloc (.cells (C ++ D).toArray 31)) (X ++ Y) 31 (b := w.heap.size + 1 + 1) (by simp)).old (.cells (U ++ V).toArray 31))
  have b7 := (Blk.new (((w.alloc (.cells (A ++ B).toArray 31)).alloc (.cells (C ++ D).toArray 31)).alloc (.cells (X ++ Y).toArray 31)) (U ++ V) 31 (b := w.heap.size + 1 + 1 + 1) (by simp))
  have hb : Below w.heap.size w ((((w.alloc (.cells (A ++ B).toArray 31)).alloc (.cells (C ++ D).toArray 31)).alloc (.cells (X ++ Y).toArray 31)).alloc (.cells (U ++ V).toArray 31)) := (((((Below.refl _ _).alloc (Nat.le_refl _) _).alloc (by simp <;> omega) _).alloc (by simp <;> omega) _).alloc (by simp <;> omega) _)
  have hk : ((((w.alloc (.cells (A ++ B).toArray 31)).alloc (.cells (C ++ D).toArray 31)).alloc (.cells (X ++ Y).toArray 31)).alloc (.cells (U ++ V).toArray 31)).heap.size = w.heap.size + 1 + 1 + 1 + 1 := by simp
  go_enter Tryz.func4, Tryz.ntmps4
  go_wp2_with fail
  refine (known4_any _).mono ?_
  rintro e w1 ⟨rfl, h1⟩
  replace b4 := b4.call h1
  replace b5 := b5.call h1
  replace b6 := b6.call h1
  replace b7 := b7.call h1
  replace hb := bthen hb h1
  clear h1
  go_wp2_with (first | (with_reducible refine ldPt rfl rfl rfl b4 HA.out HB.out ?_))
  refine (HI1.out _).mono ?_
  rintro e w1 ⟨rfl, h1⟩
  replace b4 := b4.call h1
  replace b5 := b5.call h1
  replace b6 := b6.call h1
  replace b7 := b7.call h1
  replace hb := bthen hb h1
  clear h1
  go_wp2_with (first | (refine ldPg (by rfl) rfl rfl b5 (part_all _) (wholeP HC.out HD.out) ?_))
  refine (HI2.out _).mono ?_
  rintro e w1 ⟨rfl, h1⟩
  replace hb := bthen hb h1
  clear h1
  go_wp2
  go_ret
  exact ⟨rfl, hb⟩
set_option maxHeartbeats 2000000 in
theorem lmeet_c {A B C D X Y U V : List Value} (hA : Rc A) (hB : Rc B) (hC : Rc C) (hD : Rc D) (hX : Rc X) (hY : Rc Y) (hU : Rc U) (hV : Rc V) (I1 : Tl 11 #[vl (A ++ B)] (.bool true)) (I2 : Tl 11 #[vl (C ++ D)] (.bool true)) (I3 : Tl 11 #[vl (X ++ Y)] (.bool false)) (w : World) :
    Calls Tryz.prog 4 #[vl (A ++ B), vl (C ++ D), vl (X ++ Y), vl (U ++ V)] w fun e w' => e = .returned (.bool true) ∧ Below w.heap.size w w' := by
  have HI1 := Lib.hid I1
  have HI2 := Lib.hid I2
  have HI3 := Lib.hid I3
  unfold Tl vl at HI1 HI2 HI3
  clear I1 I2 I3
  unfold vl at *
  have HA := Lib.hid hA
  have HB := Lib.hid hB
  have HC := Lib.hid hC
  have HD := Lib.hid hD
  have HX := Lib.hid hX
  have HY := Lib.hid hY
  have HU := Lib.hid hU
  have HV := Lib.hid hV
  clear hA hB hC hD hX hY hU hV
  have b4 := ((((Blk.new w (A ++ B) 31 rfl).old (.cells (C ++ D).toArray 31)).old (.cells (X ++ Y).toArray 31)).old (.cells (U ++ V).toArray 31))
  have b5 := (((Blk.new (w.alloc (.cells (A ++ B).toArray 31)) (C ++ D) 31 (b := w.heap.size + 1) (by simp)).old (.cells (X ++ Y).toArray 31)).old (.cells (U ++ V).toArray 31))
  have b6 := ((Blk.new ((w.alloc (.cells (A ++ B).toArray 31)).alloc (.cells (C ++ D).toArray 31)) (X ++ Y) 31 (b := w.heap.size + 1 + 1) (by simp)).old (.cells (U ++ V).toArray 31))
  have b7 := (Blk.new (((w.alloc (.cells (A ++ B).toArray 31)).alloc (.cells (C ++ D).toArray 31)).alloc (.cells (X ++ Y).toArray 31)) (U ++ V) 31 (b := w.heap.size + 1 + 1 + 1) (by simp))
  have hb : Below w.heap.size w ((((w.alloc (.cells (A ++ B).toArray 31)).alloc (.cells (C ++ D).toArray 31)).alloc (.cells (X ++ Y).toArray 31)).alloc (.cells (U ++ V).toArray 31)) := (((((Below.refl _ _).alloc (Nat.le_refl _) _).alloc (by simp <;> omega) _).alloc (by simp <;> omega) _).alloc (by simp <;> omega) _)
  have hk : ((((w.alloc (.cells (A ++ B).toArray 31)).alloc (.cells (C ++ D).toArray 31)).alloc (.cells (X ++ Y).toArray 31)).alloc (.cells (U ++ V).toArray 31)).heap.size = w.heap.size + 1 + 1 + 1 + 1 := by simp
  go_enter Tryz.func4, Tryz.ntmps4
  go_wp2_with fail
  refine (known4_any _).mono ?_
  rintro e w1 ⟨rfl, h1⟩
  replace b4 := b4.call h1
  replace b5 := b5.call h1
  replace b6 := b6.call h1
  replace b7 := b7.call h1
  replace hb := bthen hb h1
  clear h1
  go_wp2_with (first | (with_reducible refine ldPt rfl rfl rfl b4 HA.out HB.out ?_))
  refine (HI1.out _).mono ?_
  rintro e w1 ⟨rfl, h1⟩
  replace b4 := b4.call h1
  replace b5 := b5.call h1
  replace b6 := b6.call h1
  replace b7 := b7.call h1
  replace hb := bthen hb h1
  clear h1
  go_wp2_with (first | (refine ldPg (by rfl) rfl rfl b5 (part_all _) (wholeP HC.out HD.out) ?_))
  refine (HI2.out _).mono ?_
  rintro e w1 ⟨rfl, h1⟩
  replace b6 := b6.call h1
  replace hb := bthen hb h1
  clear h1
  go_wp2_with (first | (refine ldPg (by rfl) rfl rfl b6 (part_all _) (wholeP HX.out HY.out) ?_))
  refine (HI3.out _).mono ?_
  rintro e w1 ⟨rfl, h1⟩
  replace hb := bthen hb h1
  clear h1
  go_wp2
  go_ret
  exact ⟨rfl, hb⟩
set_option maxHeartbeats 2000000 in
theorem lmeet_d {A B C D X Y U V : List Value} (hA : Rc A) (hB : Rc B) (hC : Rc C) (hD : Rc D) (hX : Rc X) (hY : Rc Y) (hU : Rc U) (hV : Rc V) (I1 : Tl 11 #[vl (A ++ B)] (.bool true)) (I2 : Tl 11 #[vl (C ++ D)] (.bool true)) (I3 : Tl 11 #[vl (X ++ Y)] (.bool true)) (I4 : Tl 11 #[vl (U ++ V)] (.bool false)) (w : World) :
    Calls Tryz.prog 4 #[vl (A ++ B), vl (C ++ D), vl (X ++ Y), vl (U ++ V)] w fun e w' => e = .returned (.bool true) ∧ Below w.heap.size w w' := by
  have HI1 := Lib.hid I1
  have HI2 := Lib.hid I2
  have HI3 := Lib.hid I3
  have HI4 := Lib.hid I4
  unfold Tl vl at HI1 HI2 HI3 HI4
  clear I1 I2 I3 I4
  unfold vl at *
  have HA := Lib.hid hA
  have HB := Lib.hid hB
  have HC := Lib.hid hC
  have HD := Lib.hid hD
  have HX := Lib.hid hX
  have HY := Lib.hid hY
  have HU := Lib.hid hU
  have HV := Lib.hid hV
  clear hA hB hC hD hX hY hU hV
  have b4 := ((((Blk.new w (A ++ B) 31 rfl).old (.cells (C ++ D).toArray 31)).old (.cells (X ++ Y).toArray 31)).old (.cells (U ++ V).toArray 31))
  have b5 := (((Blk.new (w.alloc (.cells (A ++ B).toArray 31)) (C ++ D) 31 (b := w.heap.size + 1) (by simp)).old (.cells (X ++ Y).toArray 31)).old (.cells (U ++ V).toArray 31))
  have b6 := ((Blk.new ((w.alloc (.cells (A ++ B).toArray 31)).alloc (.cells (C ++ D).toArray 31)) (X ++ Y) 31 (b := w.heap.size + 1 + 1) (by simp)).old (.cells (U ++ V).toArray 31))
  have b7 := (Blk.new (((w.alloc (.cells (A ++ B).toArray 31)).alloc (.cells (C ++ D).toArray 31)).alloc (.cells (X ++ Y).toArray 31)) (U ++ V) 31 (b := w.heap.size + 1 + 1 + 1) (by simp))
  have hb : Below w.heap.size w ((((w.alloc (.cells (A ++ B).toArray 31)).alloc (.cells (C ++ D).toArray 31)).alloc (.cells (X ++ Y).toArray 31)).alloc (.cells (U ++ V).toArray 31)) := (((((Below.refl _ _).alloc (Nat.le_refl _) _).alloc (by simp <;> omega) _).alloc (by simp <;> omega) _).alloc (by simp <;> omega) _)
  have hk : ((((w.alloc (.cells (A ++ B).toArray 31)).alloc (.cells (C ++ D).toArray 31)).alloc (.cells (X ++ Y).toArray 31)).alloc (.cells (U ++ V).toArray 31)).heap.size = w.heap.size + 1 + 1 + 1 + 1 := by simp
  go_enter Tryz.func4, Tryz.ntmps4
  go_wp2_with fail
  refine (known4_any _).mono ?_
  rintro e w1 ⟨rfl, h1⟩
  replace b4 := b4.call h1
  replace b5 := b5.call h1
  replace b6 := b6.call h1
  replace b7 := b7.call h1
  replace hb := bthen hb h1
  clear h1
  go_wp2_with (first | (with_reducible refine ldPt rfl rfl rfl b4 HA.out HB.out ?_))
  refine (HI1.out _).mono ?_
  rintro e w1 ⟨rfl, h1⟩
  replace b4 := b4.call h1
  replace b5 := b5.call h1
  replace b6 := b6.call h1
  replace b7 := b7.call h1
  replace hb := bthen hb h1
  clear h1
  go_wp2_with (first | (refine ldPg (by rfl) rfl rfl b5 (part_all _) (wholeP HC.out HD.out) ?_))
  refine (HI2.out _).mono ?_
  rintro e w1 ⟨rfl, h1⟩
  replace b6 := b6.call h1
  replace b7 := b7.call h1
  replace hb := bthen hb h1
  clear h1
  go_wp2_with (first | (refine ldPg (by rfl) rfl rfl b6 (part_all _) (wholeP HX.out HY.out) ?_))
  refine (HI3.out _).mono ?_
  rintro e w1 ⟨rfl, h1⟩
  replace b7 := b7.call h1
  replace hb := bthen hb h1
  clear h1
  go_wp2_with (first | (refine ldPg (by rfl) rfl rfl b7 (part_all _) (wholeP HU.out HV.out) ?_))
  refine (HI4.out _).mono ?_
  rintro e w1 ⟨rfl, h1⟩
  replace hb := bthen hb h1
  clear h1
  go_wp2
  go_ret
  exact ⟨rfl, hb⟩
set_option maxHeartbeats 16000000 in
theorem lmeet_e {ax ay ex ey cx cy dx dy : Rat} {m k l : Int} {p q b : Bool} (hq : Fq2 ax ∧ Fq2 ay ∧ Fq2 ex ∧ Fq2 ey)
    (I1 : Tl 11 #[vp ax ay] (.bool true)) (I2 : Tl 11 #[vp ex ey] (.bool true)) (I3 : Tl 11 #[vp cx cy] (.bool true)) (I4 : Tl 11 #[vp dx dy] (.bool true))
    (M1 : Tl 9 #[vp ax ay, vp ex ey, vp cx cy, vp dx dy] (.tuple #[.int .i64 m, .bool true])) (M2 : Tl 9 #[vp dx dy, vp cx cy, vp ax ay, vp ex ey] (.tuple #[.int .i64 m, .bool true])) (M3 : Tl 9 #[vp ax ay, vp ex ey, vp ax ay, vp ex ey] (.tuple #[.int .i64 k, .bool true])) (M4 : Tl 9 #[vp ax ay, vp ex ey, vp ex ey, vp cx cy] (.tuple #[.int .i64 l, .bool true]))
    (O1 : Tl 12 #[vp ax ay, vp ex ey, vp ax ay] (.tuple #[.bool true, .bool true])) (O2 : Tl 12 #[vp ax ay, vp ex ey, vp cx cy] (.tuple #[.bool p, .bool true])) (O3 : Tl 12 #[vp ax ay, vp ex ey, vp dx dy] (.tuple #[.bool q, .bool true]))
    (hb0 : decide (ax = ex ∧ ay = ey) = b) (hk : k = if b then 1 else 2) (hl : 0 < l) (hm : (p || q) = true → 0 < m) (w : World) :
    Calls Tryz.prog 4 #[vp ax ay, vp ex ey, vp cx cy, vp dx dy] w fun e w' => e = .returned (.bool true) ∧ Below w.heap.size w w' := by
  have HI1 := Lib.hid I1
  have HI2 := Lib.hid I2
  have HI3 := Lib.hid I3
  have HI4 := Lib.hid I4
  have HM1 := Lib.hid M1
  have HM2 := Lib.hid M2
  have HM3 := Lib.hid M3
  have HM4 := Lib.hid M4
  have HO1 := Lib.hid O1
  have HO2 := Lib.hid O2
  have HO3 := Lib.hid O3
  have HQ := Lib.hid hq
  have HB0 := Lib.hid hb0
  have HKk := Lib.hid hk
  have HMm := Lib.hid hm
  clear I1 I2 I3 I4 M1 M2 M3 M4 O1 O2 O3 hq hb0 hk hm
  unfold Tl vp vl at HI1 HI2 HI3 HI4 HM1 HM2 HM3 HM4 HO1 HO2 HO3
  unfold vp vl
  have b4 := ((((Blk.new w (fq ax ++ fq ay) 31 rfl).old (.cells (fq ex ++ fq ey).toArray 31)).old (.cells (fq cx ++ fq cy).toArray 31)).old (.cells (fq dx ++ fq dy).toArray 31))
  have b5 := (((Blk.new (w.alloc (.cells (fq ax ++ fq ay).toArray 31)) (fq ex ++ fq ey) 31 (b := w.heap.size + 1) (by simp)).old (.cells (fq cx ++ fq cy).toArray 31)).old (.cells (fq dx ++ fq dy).toArray 31))
  have b6 := ((Blk.new ((w.alloc (.cells (fq ax ++ fq ay).toArray 31)).alloc (.cells (fq ex ++ fq ey).toArray 31)) (fq cx ++ fq cy) 31 (b := w.heap.size + 1 + 1) (by simp)).old (.cells (fq dx ++ fq dy).toArray 31))
  have b7 := (Blk.new (((w.alloc (.cells (fq ax ++ fq ay).toArray 31)).alloc (.cells (fq ex ++ fq ey).toArray 31)).alloc (.cells (fq cx ++ fq cy).toArray 31)) (fq dx ++ fq dy) 31 (b := w.heap.size + 1 + 1 + 1) (by simp))
  have hb : Below w.heap.size w ((((w.alloc (.cells (fq ax ++ fq ay).toArray 31)).alloc (.cells (fq ex ++ fq ey).toArray 31)).alloc (.cells (fq cx ++ fq cy).toArray 31)).alloc (.cells (fq dx ++ fq dy).toArray 31)) := (((((Below.refl _ _).alloc (Nat.le_refl _) _).alloc (by simp <;> omega) _).alloc (by simp <;> omega) _).alloc (by simp <;> omega) _)
  have hk : ((((w.alloc (.cells (fq ax ++ fq ay).toArray 31)).alloc (.cells (fq ex ++ fq ey).toArray 31)).alloc (.cells (fq cx ++ fq cy).toArray 31)).alloc (.cells (fq dx ++ fq dy).toArray 31)).heap.size = w.heap.size + 1 + 1 + 1 + 1 := by simp
  go_enter Tryz.func4, Tryz.ntmps4
  go_wp2_with fail
  refine (known4_any _).mono ?_
  rintro e w1 ⟨rfl, h1⟩
  replace b4 := b4.call h1
  replace b5 := b5.call h1
  replace b6 := b6.call h1
  replace b7 := b7.call h1
  replace hb := bthen hb h1
  clear h1
  clear hk
  go_wp2_with (first | (with_reducible refine ldPt rfl rfl rfl b4 (rc_q _) (rc_q _) ?_))
  refine (HI1.out _).mono ?_
  rintro e w1 ⟨rfl, h1⟩
  replace b4 := b4.call h1
  replace b5 := b5.call h1
  replace b6 := b6.call h1
  replace b7 := b7.call h1
  replace hb := bthen hb h1
  clear h1
  go_wp2_with (first | (refine ldPg (by rfl) rfl rfl b5 (part_all _) (wholeP (rc_q _) (rc_q _)) ?_))
  refine (HI2.out _).mono ?_
  rintro e w1 ⟨rfl, h1⟩
  replace b4 := b4.call h1
  replace b5 := b5.call h1
  replace b6 := b6.call h1
  replace b7 := b7.call h1
  replace hb := bthen hb h1
  clear h1
  go_wp2_with (first | (refine ldPg (by rfl) rfl rfl b6 (part_all _) (wholeP (rc_q _) (rc_q _)) ?_))
  refine (HI3.out _).mono ?_
  rintro e w1 ⟨rfl, h1⟩
  replace b4 := b4.call h1
  replace b5 := b5.call h1
  replace b6 := b6.call h1
  replace b7 := b7.call h1
  replace hb := bthen hb h1
  clear h1
  go_wp2_with (first | (refine ldPg (by rfl) rfl rfl b7 (part_all _) (wholeP (rc_q _) (rc_q _)) ?_))
  refine (HI4.out _).mono ?_
  rintro e w1 ⟨rfl, h1⟩
  replace b4 := b4.call h1
  replace b5 := b5.call h1
  replace b6 := b6.call h1
  replace b7 := b7.call h1
  replace hb := bthen hb h1
  clear h1
  go_wp2_with (first | (with_reducible refine ldPt rfl rfl rfl b4 (rc_q _) (rc_q _) ?_) | (with_reducible refine ldPt rfl rfl rfl b5 (rc_q _) (rc_q _) ?_) | (with_reducible refine ldPt rfl rfl rfl b6 (rc_q _) (rc_q _) ?_) | (with_reducible refine ldPt rfl rfl rfl b7 (rc_q _) (rc_q _) ?_))
  refine (HM1.out _).mono ?_
  rintro e w1 ⟨rfl, h1⟩
  replace b4 := b4.call h1
  replace b5 := b5.call h1
  replace b6 := b6.call h1
  replace b7 := b7.call h1
  replace hb := bthen hb h1
  clear h1
  go_wp2_with (first | (with_reducible refine ldPt rfl rfl rfl b4 (rc_q _) (rc_q _) ?_) | (with_reducible refine ldPt rfl rfl rfl b5 (rc_q _) (rc_q _) ?_) | (with_reducible refine ldPt rfl rfl rfl b6 (rc_q _) (rc_q _) ?_) | (with_reducible refine ldPt rfl rfl rfl b7 (rc_q _) (rc_q _) ?_))
  refine (HM2.out _).mono ?_
  rintro e w1 ⟨rfl, h1⟩
  replace b4 := b4.call h1
  replace b5 := b5.call h1
  replace b6 := b6.call h1
  replace b7 := b7.call h1
  replace hb := bthen hb h1
  clear h1
  go_wp2_with (first | (with_reducible refine ldPt rfl rfl rfl b4 (rc_q _) (rc_q _) ?_) | (with_reducible refine ldPt rfl rfl rfl b5 (rc_q _) (rc_q _) ?_) | (with_reducible refine ldPt rfl rfl rfl b6 (rc_q _) (rc_q _) ?_) | (with_reducible refine ldPt rfl rfl rfl b7 (rc_q _) (rc_q _) ?_))
  refine (HM3.out _).mono ?_
  rintro e w1 ⟨rfl, h1⟩
  replace b4 := b4.call h1
  replace b5 := b5.call h1
  replace b6 := b6.call h1
  replace b7 := b7.call h1
  replace hb := bthen hb h1
  clear h1
  go_wp2_with (first | (with_reducible refine ldPt rfl rfl rfl b4 (rc_q _) (rc_q _) ?_) | (with_reducible refine ldPt rfl rfl rfl b5 (rc_q _) (rc_q _) ?_) | (with_reducible refine ldPt rfl rfl rfl b6 (rc_q _) (rc_q _) ?_) | (with_reducible refine ldPt rfl rfl rfl b7 (rc_q _) (rc_q _) ?_))
  refine (HM4.out _).mono ?_
  rintro e w1 ⟨rfl, h1⟩
  replace b4 := b4.call h1
  replace b5 := b5.call h1
  replace b6 := b6.call h1
  replace b7 := b7.call h1
  replace hb := bthen hb h1
  clear h1
  go_wp2_with (first | (with_reducible refine ldPt rfl rfl rfl b4 (rc_q _) (rc_q _) ?_) | (with_reducible refine ldPt rfl rfl rfl b5 (rc_q _) (rc_q _) ?_) | (with_reducible refine ldPt rfl rfl rfl b6 (rc_q _) (rc_q _) ?_) | (with_reducible refine ldPt rfl rfl rfl b7 (rc_q _) (rc_q _) ?_))
  refine (HO1.out _).mono ?_
  rintro e w1 ⟨rfl, h1⟩
  replace b4 := b4.call h1
  replace b5 := b5.call h1
  replace b6 := b6.call h1
  replace b7 := b7.call h1
  replace hb := bthen hb h1
  clear h1
  go_wp2_with (first | (with_reducible refine ldPt rfl rfl rfl b4 (rc_q _) (rc_q _) ?_) | (with_reducible refine ldPt rfl rfl rfl b5 (rc_q _) (rc_q _) ?_) | (with_reducible refine ldPt rfl rfl rfl b6 (rc_q _) (rc_q _) ?_) | (with_reducible refine ldPt rfl rfl rfl b7 (rc_q _) (rc_q _) ?_))
  refine (HO2.out _).mono ?_
  rintro e w1 ⟨rfl, h1⟩
  replace b4 := b4.call h1
  replace b5 := b5.call h1
  replace b6 := b6.call h1
  replace b7 := b7.call h1
  replace hb := bthen hb h1
  clear h1
  go_wp2_with (first | (with_reducible refine ldPt rfl rfl rfl b4 (rc_q _) (rc_q _) ?_) | (with_reducible refine ldPt rfl rfl rfl b5 (rc_q _) (rc_q _) ?_) | (with_reducible refine ldPt rfl rfl rfl b6 (rc_q _) (rc_q _) ?_) | (with_reducible refine ldPt rfl rfl rfl b7 (rc_q _) (rc_q _) ?_))
  refine (HO3.out _).mono ?_
  rintro e w1 ⟨rfl, h1⟩
  replace b4 := b4.call h1
  replace b5 := b5.call h1
  replace b6 := b6.call h1
  replace b7 := b7.call h1
  replace hb := bthen hb h1
  clear h1
  clear HI1 HI2 HI3 HI4 HM1 HM2 HM3 HM4 HO1 HO2 HO3 b6 b7
  cases b with
  | true =>
    obtain rfl : k = 1 := HKk.out
    cases p with
    | true =>
      have hm := HMm.out rfl
      go_wp2_with (first | (with_reducible refine ldPt rfl rfl rfl b4 (rc_q _) (rc_q _) ?_) | (with_reducible refine ldPt rfl rfl rfl b5 (rc_q _) (rc_q _) ?_) | (with_reducible refine eqPn HQ.out.1 HQ.out.2.1 HQ.out.2.2.1 HQ.out.2.2.2 HB0.out rfl rfl rfl rfl ?_))
      go_ret
      exact ⟨rfl, hb⟩
    | false =>
      cases q with
      | true =>
        have hm := HMm.out rfl
        go_wp2_with (first | (with_reducible refine ldPt rfl rfl rfl b4 (rc_q _) (rc_q _) ?_) | (with_reducible refine ldPt rfl rfl rfl b5 (rc_q _) (rc_q _) ?_) | (with_reducible refine eqPn HQ.out.1 HQ.out.2.1 HQ.out.2.2.1 HQ.out.2.2.2 HB0.out rfl rfl rfl rfl ?_))
        go_ret
        exact ⟨rfl, hb⟩
      | false =>
        go_wp2_with (first | (with_reducible refine ldPt rfl rfl rfl b4 (rc_q _) (rc_q _) ?_) | (with_reducible refine ldPt rfl rfl rfl b5 (rc_q _) (rc_q _) ?_) | (with_reducible refine eqPn HQ.out.1 HQ.out.2.1 HQ.out.2.2.1 HQ.out.2.2.2 HB0.out rfl rfl rfl rfl ?_))
        go_ret
        exact ⟨rfl, hb⟩
  | false =>
    obtain rfl : k = 2 := HKk.out
    cases p with
    | true =>
      have hm := HMm.out rfl
      go_wp2_with (first | (with_reducible refine ldPt rfl rfl rfl b4 (rc_q _) (rc_q _) ?_) | (with_reducible refine ldPt rfl rfl rfl b5 (rc_q _) (rc_q _) ?_) | (with_reducible refine eqPn HQ.out.1 HQ.out.2.1 HQ.out.2.2.1 HQ.out.2.2.2 HB0.out rfl rfl rfl rfl ?_))
      go_ret
      exact ⟨rfl, hb⟩
    | false =>
      cases q with
      | true =>
        have hm := HMm.out rfl
        go_wp2_with (first | (with_reducible refine ldPt rfl rfl rfl b4 (rc_q _) (rc_q _) ?_) | (with_reducible refine ldPt rfl rfl rfl b5 (rc_q _) (rc_q _) ?_) | (with_reducible refine eqPn HQ.out.1 HQ.out.2.1 HQ.out.2.2.1 HQ.out.2.2.2 HB0.out rfl rfl rfl rfl ?_))
        go_ret
        exact ⟨rfl, hb⟩
      | false =>
        go_wp2_with (first | (with_reducible refine ldPt rfl rfl rfl b4 (rc_q _) (rc_q _) ?_) | (with_reducible refine ldPt rfl rfl rfl b5 (rc_q _) (rc_q _) ?_) | (with_reducible refine eqPn HQ.out.1 HQ.out.2.1 HQ.out.2.2.1 HQ.out.2.2.2 HB0.out rfl rfl rfl rfl ?_))
        go_ret
        exact ⟨rfl, hb⟩
end Go.Proofs.YtnaljheelmmcdaaGreat
