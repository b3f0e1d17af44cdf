/- What WideTells answers (f). -/
import Derived.Test.YtiaikjeljhfadaaWtw
namespace Go.Proofs.Ytiaikjeljhfadaa
set_option linter.unusedSimpArgs false
set_option linter.unusedVariables false
open Go.RowKit
set_option maxRecDepth 100000
set_option maxHeartbeats 16000000 in
theorem wtells_f (s : Bool) (N : Nat) (t : Bool) (M : Nat) {n k z1 z2 z3 zq zr z5 i j c z6 k8 z9 : Int} {o1 o2 o3 od o5 b7 : Bool} {S : ByteArray} (hf : fits z1 ∧ fits z2 ∧ fits z3 ∧ fits zq ∧ fits zr ∧ fits z5 ∧ fits n ∧ fits z6 ∧ fits z9)
    (A1 : Tl 13 #[.agg (wd s N).toArray, .agg (wd t M).toArray] (.tuple #[vw z1, .bool o1])) (A2 : Tl 14 #[.agg (wd s N).toArray, .agg (wd t M).toArray] (.tuple #[vw z1, .bool o1]))
    (B1 : Tl 15 #[.agg (wd s N).toArray, .agg (wd t M).toArray] (.tuple #[vw z2, .bool o2])) (B2 : Tl 16 #[.agg (wd s N).toArray, .agg (wd t M).toArray] (.tuple #[vw z2, .bool o2]))
    (C1 : Tl 17 #[.agg (wd s N).toArray, .agg (wd t M).toArray] (.tuple #[vw z3, .bool o3])) (C2 : Tl 18 #[.agg (wd s N).toArray, .agg (wd t M).toArray] (.tuple #[vw z3, .bool o3]))
    (D1 : Tl 19 #[.agg (wd s N).toArray, .agg (wd t M).toArray] (.tuple #[vw zq, vw zr, .bool od])) (D2 : Tl 20 #[.agg (wd s N).toArray, .agg (wd t M).toArray] (.tuple #[vw zq, vw zr, .bool od]))
    (E1 : Tl 21 #[.agg (wd s N).toArray, .int .i64 k] (.tuple #[vw z5, .bool o5])) (E2 : Tl 22 #[.agg (wd s N).toArray, .int .i64 k] (.tuple #[vw z5, .bool o5]))
    (F1 : Tl 23 #[.agg (wd s N).toArray] (.tuple #[.int .i64 i, .bool false])) (F2 : Tl 24 #[.agg (wd s N).toArray] (.tuple #[.int .i64 j, .bool false]))
    (G1 : Tl 25 #[.int .i64 n] (vw n)) (G2 : Tl 26 #[.int .i64 n] (vw n))
    (H1 : Tl 27 #[.agg (wd s N).toArray, .agg (wd t M).toArray] (.int .i64 c)) (H2 : Tl 28 #[.agg (wd s N).toArray, .agg (wd t M).toArray] (.int .i64 c))
    (I1 : Tl 29 #[.agg (wd s N).toArray] (vw z6)) (I2 : Tl 30 #[.agg (wd s N).toArray] (vw z6))
    (J1 : Tl 31 #[.agg (wd s N).toArray] (.bool b7)) (J2 : Tl 32 #[.agg (wd s N).toArray] (.bool b7))
    (K1 : Tl 33 #[.agg (wd s N).toArray] (.int .i64 k8)) (K2 : Tl 34 #[.agg (wd s N).toArray] (.int .i64 k8))
    (L1 : Tl 35 #[.agg (wd s N).toArray, .agg (wd t M).toArray] (vw z9)) (L2 : Tl 36 #[.agg (wd s N).toArray, .agg (wd t M).toArray] (vw z9))
    (M1 : Tl 37 #[.agg (wd s N).toArray] (.string S)) (M2 : Tl 38 #[.agg (wd s N).toArray] (.string S)) (w : World) :
    Calls Try.prog 3 #[.agg (wd s N).toArray, .agg (wd t M).toArray, .int .i64 n, .int .i64 k] w fun e w' => e = .returned (.bool true) ∧ Below w.heap.size w w' := by
  have HF := Lib.hid hf
  have HA1 := Lib.hid A1
  have HA2 := Lib.hid A2
  have HB1 := Lib.hid B1
  have HB2 := Lib.hid B2
  have HC1 := Lib.hid C1
  have HC2 := Lib.hid C2
  have HD1 := Lib.hid D1
  have HD2 := Lib.hid D2
  have HE1 := Lib.hid E1
  have HE2 := Lib.hid E2
  have HF1 := Lib.hid F1
  have HF2 := Lib.hid F2
  have HG1 := Lib.hid G1
  have HG2 := Lib.hid G2
  have HH1 := Lib.hid H1
  have HH2 := Lib.hid H2
  have HI1 := Lib.hid I1
  have HI2 := Lib.hid I2
  have HJ1 := Lib.hid J1
  have HJ2 := Lib.hid J2
  have HK1 := Lib.hid K1
  have HK2 := Lib.hid K2
  have HL1 := Lib.hid L1
  have HL2 := Lib.hid L2
  have HM1 := Lib.hid M1
  have HM2 := Lib.hid M2
  clear A1 A2 B1 B2 C1 C2 D1 D2 E1 E2 F1 F2 G1 G2 H1 H2 I1 I2 J1 J2 K1 K2 L1 L2 M1 M2 hf
  unfold Tl at HA1 HA2 HB1 HB2 HC1 HC2 HD1 HD2 HE1 HE2 HF1 HF2 HG1 HG2 HH1 HH2 HI1 HI2 HJ1 HJ2 HK1 HK2 HL1 HL2 HM1 HM2
  unfold vw at HA1 HA2 HB1 HB2 HC1 HC2 HD1 HD2 HE1 HE2 HG1 HG2 HI1 HI2 HL1 HL2
  have b4 := (Blk.new w (wd s N) 25 rfl).old (.cells (wd t M).toArray 25)
  have b5 := Blk.new (w.alloc (.cells (wd s N).toArray 25)) (wd t M) 25 (b := w.heap.size + 1) (by simp)
  have hb : Below w.heap.size w ((w.alloc (.cells (wd s N).toArray 25)).alloc (.cells (wd t M).toArray 25)) := ((Below.refl _ _).alloc (Nat.le_refl _) _).alloc (by simp) _
  go_enter Try.func3, Try.ntmps3
  go_wp2_with fail
  refine (known_any _).mono ?_
  rintro e w1 ⟨rfl, h1⟩
  replace b4 := b4.call h1
  replace b5 := b5.call h1
  replace hb := bthen hb h1
  clear h1
  go_wp2_with (first | (with_reducible refine ldWp rfl rfl rfl b4 ?_) | (with_reducible refine ldWp rfl rfl rfl b5 ?_))
  refine (HA1.out _).mono ?_
  rintro e w1 ⟨rfl, h1⟩
  replace b4 := b4.call h1
  replace b5 := b5.call h1
  replace hb := bthen hb h1
  clear h1
  have f := Blk.new w1 (wd false 0) 25 rfl
  have b9 := laid_new w1 (z1)
  replace b4 := laid_old b4 (z1)
  replace b5 := laid_old b5 (z1)
  replace hb := laid_below hb (z1)
  go_wp2_with (first | (with_reducible refine alW rfl rfl ?_) | (with_reducible refine stM rfl rfl rfl rfl f (wd_length _ _) ?_) | (with_reducible refine ldWp rfl rfl rfl b4 ?_) | (with_reducible refine ldWp rfl rfl rfl b5 ?_) | (with_reducible refine ldM rfl rfl rfl b9 ?_))
  clear f
  generalize (w1.alloc (.cells (wd false 0).toArray 25)).setRow w1.heap.size (mk (z1)).toArray = W at *
  generalize w1.heap.size = pl_b9 at *
  refine (HA2.out _).mono ?_
  rintro e w1 ⟨rfl, h1⟩
  replace b4 := b4.call h1
  replace b5 := b5.call h1
  replace b9 := b9.call h1
  replace hb := bthen hb h1
  clear h1
  have f := Blk.new w1 (wd false 0) 25 rfl
  have b11 := laid_new w1 (z1)
  replace b4 := laid_old b4 (z1)
  replace b5 := laid_old b5 (z1)
  replace b9 := laid_old b9 (z1)
  replace hb := laid_below hb (z1)
  go_wp2_with (first | (with_reducible refine alW rfl rfl ?_) | (with_reducible refine stM rfl rfl rfl rfl f (wd_length _ _) ?_) | (with_reducible refine ldWp rfl rfl rfl b4 ?_) | (with_reducible refine ldWp rfl rfl rfl b5 ?_) | (with_reducible refine ldM rfl rfl rfl b9 ?_) | (with_reducible refine ldM rfl rfl rfl b11 ?_))
  clear f
  generalize (w1.alloc (.cells (wd false 0).toArray 25)).setRow w1.heap.size (mk (z1)).toArray = W at *
  generalize w1.heap.size = pl_b11 at *
  refine (HB1.out _).mono ?_
  rintro e w1 ⟨rfl, h1⟩
  replace b4 := b4.call h1
  replace b5 := b5.call h1
  replace b9 := b9.call h1
  replace b11 := b11.call h1
  replace hb := bthen hb h1
  clear h1
  have f := Blk.new w1 (wd false 0) 25 rfl
  have b13 := laid_new w1 (z2)
  replace b4 := laid_old b4 (z2)
  replace b5 := laid_old b5 (z2)
  replace b9 := laid_old b9 (z2)
  replace b11 := laid_old b11 (z2)
  replace hb := laid_below hb (z2)
  go_wp2_with (first | (with_reducible refine alW rfl rfl ?_) | (with_reducible refine stM rfl rfl rfl rfl f (wd_length _ _) ?_) | (with_reducible refine ldWp rfl rfl rfl b4 ?_) | (with_reducible refine ldWp rfl rfl rfl b5 ?_) | (with_reducible refine ldM rfl rfl rfl b9 ?_) | (with_reducible refine ldM rfl rfl rfl b11 ?_) | (with_reducible refine ldM rfl rfl rfl b13 ?_))
  clear f
  generalize (w1.alloc (.cells (wd false 0).toArray 25)).setRow w1.heap.size (mk (z2)).toArray = W at *
  generalize w1.heap.size = pl_b13 at *
  refine (HB2.out _).mono ?_
  rintro e w1 ⟨rfl, h1⟩
  replace b4 := b4.call h1
  replace b5 := b5.call h1
  replace b9 := b9.call h1
  replace b11 := b11.call h1
  replace b13 := b13.call h1
  replace hb := bthen hb h1
  clear h1
  have f := Blk.new w1 (wd false 0) 25 rfl
  have b15 := laid_new w1 (z2)
  replace b4 := laid_old b4 (z2)
  replace b5 := laid_old b5 (z2)
  replace b9 := laid_old b9 (z2)
  replace b11 := laid_old b11 (z2)
  replace b13 := laid_old b13 (z2)
  replace hb := laid_below hb (z2)
  go_wp2_with (first | (with_reducible refine alW rfl rfl ?_) | (with_reducible refine stM rfl rfl rfl rfl f (wd_length _ _) ?_) | (with_reducible refine ldWp rfl rfl rfl b4 ?_) | (with_reducible refine ldWp rfl rfl rfl b5 ?_) | (with_reducible refine ldM rfl rfl rfl b9 ?_) | (with_reducible refine ldM rfl rfl rfl b11 ?_) | (with_reducible refine ldM rfl rfl rfl b13 ?_) | (with_reducible refine ldM rfl rfl rfl b15 ?_))
  clear f
  generalize (w1.alloc (.cells (wd false 0).toArray 25)).setRow w1.heap.size (mk (z2)).toArray = W at *
  generalize w1.heap.size = pl_b15 at *
  refine (HC1.out _).mono ?_
  rintro e w1 ⟨rfl, h1⟩
  replace b4 := b4.call h1
  replace b5 := b5.call h1
  replace b9 := b9.call h1
  replace b11 := b11.call h1
  replace b13 := b13.call h1
  replace b15 := b15.call h1
  replace hb := bthen hb h1
  clear h1
  have f := Blk.new w1 (wd false 0) 25 rfl
  have b17 := laid_new w1 (z3)
  replace b4 := laid_old b4 (z3)
  replace b5 := laid_old b5 (z3)
  replace b9 := laid_old b9 (z3)
  replace b11 := laid_old b11 (z3)
  replace b13 := laid_old b13 (z3)
  replace b15 := laid_old b15 (z3)
  replace hb := laid_below hb (z3)
  go_wp2_with (first | (with_reducible refine alW rfl rfl ?_) | (with_reducible refine stM rfl rfl rfl rfl f (wd_length _ _) ?_) | (with_reducible refine ldWp rfl rfl rfl b4 ?_) | (with_reducible refine ldWp rfl rfl rfl b5 ?_) | (with_reducible refine ldM rfl rfl rfl b9 ?_) | (with_reducible refine ldM rfl rfl rfl b11 ?_) | (with_reducible refine ldM rfl rfl rfl b13 ?_) | (with_reducible refine ldM rfl rfl rfl b15 ?_) | (with_reducible refine ldM rfl rfl rfl b17 ?_))
  clear f
  generalize (w1.alloc (.cells (wd false 0).toArray 25)).setRow w1.heap.size (mk (z3)).toArray = W at *
  generalize w1.heap.size = pl_b17 at *
  refine (HC2.out _).mono ?_
  rintro e w1 ⟨rfl, h1⟩
  replace b4 := b4.call h1
  replace b5 := b5.call h1
  replace b9 := b9.call h1
  replace b11 := b11.call h1
  replace b13 := b13.call h1
  replace b15 := b15.call h1
  replace b17 := b17.call h1
  replace hb := bthen hb h1
  clear h1
  have f := Blk.new w1 (wd false 0) 25 rfl
  have b19 := laid_new w1 (z3)
  replace b4 := laid_old b4 (z3)
  replace b5 := laid_old b5 (z3)
  replace b9 := laid_old b9 (z3)
  replace b11 := laid_old b11 (z3)
  replace b13 := laid_old b13 (z3)
  replace b15 := laid_old b15 (z3)
  replace b17 := laid_old b17 (z3)
  replace hb := laid_below hb (z3)
  go_wp2_with (first | (with_reducible refine alW rfl rfl ?_) | (with_reducible refine stM rfl rfl rfl rfl f (wd_length _ _) ?_) | (with_reducible refine ldWp rfl rfl rfl b4 ?_) | (with_reducible refine ldWp rfl rfl rfl b5 ?_) | (with_reducible refine ldM rfl rfl rfl b9 ?_) | (with_reducible refine ldM rfl rfl rfl b11 ?_) | (with_reducible refine ldM rfl rfl rfl b13 ?_) | (with_reducible refine ldM rfl rfl rfl b15 ?_) | (with_reducible refine ldM rfl rfl rfl b17 ?_) | (with_reducible refine ldM rfl rfl rfl b19 ?_) | (refine ldMg (by rfl) rfl rfl b13 ?_) | (refine ldMg (by rfl) rfl rfl b15 ?_) | (refine ldMg (by rfl) rfl rfl b17 ?_) | (refine ldMg (by rfl) rfl rfl b19 ?_) | (with_reducible refine neMs rfl rfl rfl rfl HF.out.1 ?_) | (refine neMg (by rfl) rfl rfl rfl HF.out.2.1 ?_) | (refine neMg (by rfl) rfl rfl rfl HF.out.2.2.1 ?_) | (refine nebg (by rfl) rfl rfl rfl ?_))
  clear f
  generalize (w1.alloc (.cells (wd false 0).toArray 25)).setRow w1.heap.size (mk (z3)).toArray = W at *
  generalize w1.heap.size = pl_b19 at *
  refine (HD1.out _).mono ?_
  rintro e w1 ⟨rfl, h1⟩
  replace b4 := b4.call h1
  replace b5 := b5.call h1
  replace b9 := b9.call h1
  replace b11 := b11.call h1
  replace b13 := b13.call h1
  replace b15 := b15.call h1
  replace b17 := b17.call h1
  replace b19 := b19.call h1
  replace hb := bthen hb h1
  clear h1
  clear b9
  clear b11
  clear b13
  clear b15
  clear b17
  clear b19
  have f5 := (Blk.new w1 (wd false 0) 25 rfl).old (.cells (wd false 0).toArray 25)
  have f6 := (Blk.new (w1.alloc (.cells (wd false 0).toArray 25)) (wd false 0) 25 (b := w1.heap.size + 1) (by simp)).rowOther (g := w1.heap.size) (mk (zq)).toArray (by omega)
  have b21 := (f5.row (mk (zq))).rowOther (g := w1.heap.size + 1) (mk (zr)).toArray (by omega)
  have b22 := f6.row (mk (zr))
  replace b4 := laid_two b4 (zq) (zr)
  replace b5 := laid_two b5 (zq) (zr)
  replace hb := laid_below2 hb (zq) (zr)
  go_wp2_with (first | (with_reducible refine alW2 rfl rfl ?_) | (with_reducible refine alW rfl rfl ?_) | (with_reducible refine stM rfl rfl rfl rfl f5 (wd_length _ _) ?_) | (with_reducible refine stM rfl rfl rfl rfl f6 (wd_length _ _) ?_) | (with_reducible refine ldWp rfl rfl rfl b4 ?_) | (with_reducible refine ldWp rfl rfl rfl b5 ?_) | (with_reducible refine ldM rfl rfl rfl b21 ?_) | (with_reducible refine ldM rfl rfl rfl b22 ?_))
  clear f5 f6
  generalize (((w1.alloc (.cells (wd false 0).toArray 25)).alloc (.cells (wd false 0).toArray 25)).setRow w1.heap.size (mk (zq)).toArray).setRow (w1.heap.size + 1) (mk (zr)).toArray = W at *
  generalize w1.heap.size + 1 = pl_b22 at *
  generalize w1.heap.size = pl_b21 at *
  refine (HD2.out _).mono ?_
  rintro e w1 ⟨rfl, h1⟩
  replace b4 := b4.call h1
  replace b5 := b5.call h1
  replace b21 := b21.call h1
  replace b22 := b22.call h1
  replace hb := bthen hb h1
  clear h1
  have f5 := (Blk.new w1 (wd false 0) 25 rfl).old (.cells (wd false 0).toArray 25)
  have f6 := (Blk.new (w1.alloc (.cells (wd false 0).toArray 25)) (wd false 0) 25 (b := w1.heap.size + 1) (by simp)).rowOther (g := w1.heap.size) (mk (zq)).toArray (by omega)
  have b24 := (f5.row (mk (zq))).rowOther (g := w1.heap.size + 1) (mk (zr)).toArray (by omega)
  have b25 := f6.row (mk (zr))
  replace b4 := laid_two b4 (zq) (zr)
  replace b5 := laid_two b5 (zq) (zr)
  replace b21 := laid_two b21 (zq) (zr)
  replace b22 := laid_two b22 (zq) (zr)
  replace hb := laid_below2 hb (zq) (zr)
  go_wp2_with (first | (with_reducible refine alW2 rfl rfl ?_) | (with_reducible refine alW rfl rfl ?_) | (with_reducible refine stM rfl rfl rfl rfl f5 (wd_length _ _) ?_) | (with_reducible refine stM rfl rfl rfl rfl f6 (wd_length _ _) ?_) | (with_reducible refine ldWp rfl rfl rfl b4 ?_) | (with_reducible refine ldWp rfl rfl rfl b5 ?_) | (with_reducible refine ldM rfl rfl rfl b21 ?_) | (with_reducible refine ldM rfl rfl rfl b22 ?_) | (with_reducible refine ldM rfl rfl rfl b24 ?_) | (with_reducible refine ldM rfl rfl rfl b25 ?_))
  clear f5 f6
  generalize (((w1.alloc (.cells (wd false 0).toArray 25)).alloc (.cells (wd false 0).toArray 25)).setRow w1.heap.size (mk (zq)).toArray).setRow (w1.heap.size + 1) (mk (zr)).toArray = W at *
  generalize w1.heap.size + 1 = pl_b25 at *
  generalize w1.heap.size = pl_b24 at *
  refine (HE1.out _).mono ?_
  rintro e w1 ⟨rfl, h1⟩
  replace b4 := b4.call h1
  replace b5 := b5.call h1
  replace b21 := b21.call h1
  replace b22 := b22.call h1
  replace b24 := b24.call h1
  replace b25 := b25.call h1
  replace hb := bthen hb h1
  clear h1
  have f := Blk.new w1 (wd false 0) 25 rfl
  have b27 := laid_new w1 (z5)
  replace b4 := laid_old b4 (z5)
  replace b5 := laid_old b5 (z5)
  replace b21 := laid_old b21 (z5)
  replace b22 := laid_old b22 (z5)
  replace b24 := laid_old b24 (z5)
  replace b25 := laid_old b25 (z5)
  replace hb := laid_below hb (z5)
  go_wp2_with (first | (with_reducible refine alW rfl rfl ?_) | (with_reducible refine stM rfl rfl rfl rfl f (wd_length _ _) ?_) | (with_reducible refine ldWp rfl rfl rfl b4 ?_) | (with_reducible refine ldWp rfl rfl rfl b5 ?_) | (with_reducible refine ldM rfl rfl rfl b21 ?_) | (with_reducible refine ldM rfl rfl rfl b22 ?_) | (with_reducible refine ldM rfl rfl rfl b24 ?_) | (with_reducible refine ldM rfl rfl rfl b25 ?_) | (with_reducible refine ldM rfl rfl rfl b27 ?_))
  clear f
  generalize (w1.alloc (.cells (wd false 0).toArray 25)).setRow w1.heap.size (mk (z5)).toArray = W at *
  generalize w1.heap.size = pl_b27 at *
  refine (HE2.out _).mono ?_
  rintro e w1 ⟨rfl, h1⟩
  replace b4 := b4.call h1
  replace b5 := b5.call h1
  replace b21 := b21.call h1
  replace b22 := b22.call h1
  replace b24 := b24.call h1
  replace b25 := b25.call h1
  replace b27 := b27.call h1
  replace hb := bthen hb h1
  clear h1
  have f := Blk.new w1 (wd false 0) 25 rfl
  have b29 := laid_new w1 (z5)
  replace b4 := laid_old b4 (z5)
  replace b5 := laid_old b5 (z5)
  replace b21 := laid_old b21 (z5)
  replace b22 := laid_old b22 (z5)
  replace b24 := laid_old b24 (z5)
  replace b25 := laid_old b25 (z5)
  replace b27 := laid_old b27 (z5)
  replace hb := laid_below hb (z5)
  go_wp2_with (first | (with_reducible refine alW rfl rfl ?_) | (with_reducible refine stM rfl rfl rfl rfl f (wd_length _ _) ?_) | (with_reducible refine ldWp rfl rfl rfl b4 ?_) | (with_reducible refine ldWp rfl rfl rfl b5 ?_) | (with_reducible refine ldM rfl rfl rfl b21 ?_) | (with_reducible refine ldM rfl rfl rfl b22 ?_) | (with_reducible refine ldM rfl rfl rfl b24 ?_) | (with_reducible refine ldM rfl rfl rfl b25 ?_) | (with_reducible refine ldM rfl rfl rfl b27 ?_) | (with_reducible refine ldM rfl rfl rfl b29 ?_))
  clear f
  generalize (w1.alloc (.cells (wd false 0).toArray 25)).setRow w1.heap.size (mk (z5)).toArray = W at *
  generalize w1.heap.size = pl_b29 at *
  refine (HF1.out _).mono ?_
  rintro e w1 ⟨rfl, h1⟩
  replace b4 := b4.call h1
  replace b5 := b5.call h1
  replace b21 := b21.call h1
  replace b22 := b22.call h1
  replace b24 := b24.call h1
  replace b25 := b25.call h1
  replace b27 := b27.call h1
  replace b29 := b29.call h1
  replace hb := bthen hb h1
  clear h1
  go_wp2_with (first | (with_reducible refine ldWp rfl rfl rfl b4 ?_) | (with_reducible refine ldWp rfl rfl rfl b5 ?_) | (with_reducible refine ldM rfl rfl rfl b21 ?_) | (with_reducible refine ldM rfl rfl rfl b22 ?_) | (with_reducible refine ldM rfl rfl rfl b24 ?_) | (with_reducible refine ldM rfl rfl rfl b25 ?_) | (with_reducible refine ldM rfl rfl rfl b27 ?_) | (with_reducible refine ldM rfl rfl rfl b29 ?_))
  refine (HF2.out _).mono ?_
  rintro e w1 ⟨rfl, h1⟩
  replace b4 := b4.call h1
  replace b5 := b5.call h1
  replace b21 := b21.call h1
  replace b22 := b22.call h1
  replace b24 := b24.call h1
  replace b25 := b25.call h1
  replace b27 := b27.call h1
  replace b29 := b29.call h1
  replace hb := bthen hb h1
  clear h1
  go_wp2_with (first | (with_reducible refine ldWp rfl rfl rfl b4 ?_) | (with_reducible refine ldWp rfl rfl rfl b5 ?_) | (with_reducible refine ldM rfl rfl rfl b21 ?_) | (with_reducible refine ldM rfl rfl rfl b22 ?_) | (with_reducible refine ldM rfl rfl rfl b24 ?_) | (with_reducible refine ldM rfl rfl rfl b25 ?_) | (with_reducible refine ldM rfl rfl rfl b27 ?_) | (with_reducible refine ldM rfl rfl rfl b29 ?_))
  refine rg_start [] (by kernel_rfl) (fun hS => ?_)
  replace hb := hb.drew
  refine rg_ld 0 rfl (by as_aux_lemma => kernel_rfl) (by as_aux_lemma => kernel_rfl) (by as_aux_lemma => kernel_rfl) (by as_aux_lemma => rfl) hS rfl rfl b21 (by simp <;> omega) (wholeM _) ?_
  try simp only [Act.put, List.setIfInBounds_toArray, List.set_cons_zero, List.set_cons_succ]
  refine rg_ld 1 rfl (by as_aux_lemma => kernel_rfl) (by as_aux_lemma => kernel_rfl) (by as_aux_lemma => kernel_rfl) (by as_aux_lemma => rfl) hS rfl rfl b24 (by simp <;> omega) (wholeM _) ?_
  try simp only [Act.put, List.setIfInBounds_toArray, List.set_cons_zero, List.set_cons_succ]
  refine rg_take 2 rfl (by as_aux_lemma => kernel_rfl) (by as_aux_lemma => kernel_rfl) (by as_aux_lemma => kernel_rfl) (by as_aux_lemma => rfl) hS (v := .bool true) (fun w' _ => op_eqM HF.out.2.2.2.1 rfl rfl rfl w') ?_
  try simp only [Act.put, List.setIfInBounds_toArray, List.set_cons_zero, List.set_cons_succ]
  refine rg_take 3 rfl (by as_aux_lemma => kernel_rfl) (by as_aux_lemma => kernel_rfl) (by as_aux_lemma => kernel_rfl) (by as_aux_lemma => rfl) hS (v := ?_) ?_ ?_
  rotate_left
  · (intro w' hS'; go_simp <;> try with_reducible rfl)
  try simp only [Act.put, List.setIfInBounds_toArray, List.set_cons_zero, List.set_cons_succ]
  refine rg_ld 4 rfl (by as_aux_lemma => kernel_rfl) (by as_aux_lemma => kernel_rfl) (by as_aux_lemma => kernel_rfl) (by as_aux_lemma => rfl) hS rfl rfl b22 (by simp <;> omega) (wholeM _) ?_
  try simp only [Act.put, List.setIfInBounds_toArray, List.set_cons_zero, List.set_cons_succ]
  refine rg_ld 5 rfl (by as_aux_lemma => kernel_rfl) (by as_aux_lemma => kernel_rfl) (by as_aux_lemma => kernel_rfl) (by as_aux_lemma => rfl) hS rfl rfl b25 (by simp <;> omega) (wholeM _) ?_
  try simp only [Act.put, List.setIfInBounds_toArray, List.set_cons_zero, List.set_cons_succ]
  refine rg_take 6 rfl (by as_aux_lemma => kernel_rfl) (by as_aux_lemma => kernel_rfl) (by as_aux_lemma => kernel_rfl) (by as_aux_lemma => rfl) hS (v := .bool true) (fun w' _ => op_eqM HF.out.2.2.2.2.1 rfl rfl rfl w') ?_
  try simp only [Act.put, List.setIfInBounds_toArray, List.set_cons_zero, List.set_cons_succ]
  refine rg_take 7 rfl (by as_aux_lemma => kernel_rfl) (by as_aux_lemma => kernel_rfl) (by as_aux_lemma => kernel_rfl) (by as_aux_lemma => rfl) hS (v := ?_) ?_ ?_
  rotate_left
  · (intro w' hS'; go_simp <;> try with_reducible rfl)
  try simp only [Act.put, List.setIfInBounds_toArray, List.set_cons_zero, List.set_cons_succ]
  refine rg_take 8 rfl (by as_aux_lemma => kernel_rfl) (by as_aux_lemma => kernel_rfl) (by as_aux_lemma => kernel_rfl) (by as_aux_lemma => rfl) hS (v := ?_) ?_ ?_
  rotate_left
  · (intro w' hS'; go_simp <;> try with_reducible rfl)
  try simp only [Act.put, List.setIfInBounds_toArray, List.set_cons_zero, List.set_cons_succ]
  refine rg_take 9 rfl (by as_aux_lemma => kernel_rfl) (by as_aux_lemma => kernel_rfl) (by as_aux_lemma => kernel_rfl) (by as_aux_lemma => rfl) hS (v := ?_) ?_ ?_
  rotate_left
  · (intro w' hS'; go_simp <;> try with_reducible rfl)
  try simp only [Act.put, List.setIfInBounds_toArray, List.set_cons_zero, List.set_cons_succ]
  refine rg_take 10 rfl (by as_aux_lemma => kernel_rfl) (by as_aux_lemma => kernel_rfl) (by as_aux_lemma => kernel_rfl) (by as_aux_lemma => rfl) hS (v := ?_) ?_ ?_
  rotate_left
  · (intro w' hS'; go_simp <;> try with_reducible rfl)
  try simp only [Act.put, List.setIfInBounds_toArray, List.set_cons_zero, List.set_cons_succ]
  refine rg_take 11 rfl (by as_aux_lemma => kernel_rfl) (by as_aux_lemma => kernel_rfl) (by as_aux_lemma => kernel_rfl) (by as_aux_lemma => rfl) hS (v := .bool true) (fun w' _ => op_ebs rfl rfl rfl w') ?_
  try simp only [Act.put, List.setIfInBounds_toArray, List.set_cons_zero, List.set_cons_succ]
  refine rg_take 12 rfl (by as_aux_lemma => kernel_rfl) (by as_aux_lemma => kernel_rfl) (by as_aux_lemma => kernel_rfl) (by as_aux_lemma => rfl) hS (v := ?_) ?_ ?_
  rotate_left
  · (intro w' hS'; go_simp <;> try with_reducible rfl)
  try simp only [Act.put, List.setIfInBounds_toArray, List.set_cons_zero, List.set_cons_succ]
  refine rg_take 13 rfl (by as_aux_lemma => kernel_rfl) (by as_aux_lemma => kernel_rfl) (by as_aux_lemma => kernel_rfl) (by as_aux_lemma => rfl) hS (v := ?_) ?_ ?_
  rotate_left
  · (intro w' hS'; go_simp <;> try with_reducible rfl)
  try simp only [Act.put, List.setIfInBounds_toArray, List.set_cons_zero, List.set_cons_succ]
  refine rg_ld 14 rfl (by as_aux_lemma => kernel_rfl) (by as_aux_lemma => kernel_rfl) (by as_aux_lemma => kernel_rfl) (by as_aux_lemma => rfl) hS rfl rfl b27 (by simp <;> omega) (wholeM _) ?_
  try simp only [Act.put, List.setIfInBounds_toArray, List.set_cons_zero, List.set_cons_succ]
  refine rg_ld 15 rfl (by as_aux_lemma => kernel_rfl) (by as_aux_lemma => kernel_rfl) (by as_aux_lemma => kernel_rfl) (by as_aux_lemma => rfl) hS rfl rfl b29 (by simp <;> omega) (wholeM _) ?_
  try simp only [Act.put, List.setIfInBounds_toArray, List.set_cons_zero, List.set_cons_succ]
  refine rg_take 16 rfl (by as_aux_lemma => kernel_rfl) (by as_aux_lemma => kernel_rfl) (by as_aux_lemma => kernel_rfl) (by as_aux_lemma => rfl) hS (v := .bool true) (fun w' _ => op_eqM HF.out.2.2.2.2.2.1 rfl rfl rfl w') ?_
  try simp only [Act.put, List.setIfInBounds_toArray, List.set_cons_zero, List.set_cons_succ]
  refine rg_take 17 rfl (by as_aux_lemma => kernel_rfl) (by as_aux_lemma => kernel_rfl) (by as_aux_lemma => kernel_rfl) (by as_aux_lemma => rfl) hS (v := ?_) ?_ ?_
  rotate_left
  · (intro w' hS'; go_simp <;> try with_reducible rfl)
  try simp only [Act.put, List.setIfInBounds_toArray, List.set_cons_zero, List.set_cons_succ]
  refine rg_take 18 rfl (by as_aux_lemma => kernel_rfl) (by as_aux_lemma => kernel_rfl) (by as_aux_lemma => kernel_rfl) (by as_aux_lemma => rfl) hS (v := ?_) ?_ ?_
  rotate_left
  · (intro w' hS'; go_simp <;> try with_reducible rfl)
  try simp only [Act.put, List.setIfInBounds_toArray, List.set_cons_zero, List.set_cons_succ]
  refine rg_take 19 rfl (by as_aux_lemma => kernel_rfl) (by as_aux_lemma => kernel_rfl) (by as_aux_lemma => kernel_rfl) (by as_aux_lemma => rfl) hS (v := ?_) ?_ ?_
  rotate_left
  · (intro w' hS'; go_simp <;> try with_reducible rfl)
  try simp only [Act.put, List.setIfInBounds_toArray, List.set_cons_zero, List.set_cons_succ]
  refine rg_take 20 rfl (by as_aux_lemma => kernel_rfl) (by as_aux_lemma => kernel_rfl) (by as_aux_lemma => kernel_rfl) (by as_aux_lemma => rfl) hS (v := ?_) ?_ ?_
  rotate_left
  · (intro w' hS'; go_simp <;> try with_reducible rfl)
  try simp only [Act.put, List.setIfInBounds_toArray, List.set_cons_zero, List.set_cons_succ]
  refine rg_take 21 rfl (by as_aux_lemma => kernel_rfl) (by as_aux_lemma => kernel_rfl) (by as_aux_lemma => kernel_rfl) (by as_aux_lemma => rfl) hS (v := .bool true) (fun w' _ => op_ebs rfl rfl rfl w') ?_
  try simp only [Act.put, List.setIfInBounds_toArray, List.set_cons_zero, List.set_cons_succ]
  refine rg_take 22 rfl (by as_aux_lemma => kernel_rfl) (by as_aux_lemma => kernel_rfl) (by as_aux_lemma => kernel_rfl) (by as_aux_lemma => rfl) hS (v := ?_) ?_ ?_
  rotate_left
  · (intro w' hS'; go_simp <;> try with_reducible rfl)
  try simp only [Act.put, List.setIfInBounds_toArray, List.set_cons_zero, List.set_cons_succ]
  refine rg_take 23 rfl (by as_aux_lemma => kernel_rfl) (by as_aux_lemma => kernel_rfl) (by as_aux_lemma => kernel_rfl) (by as_aux_lemma => rfl) hS (v := ?_) ?_ ?_
  rotate_left
  · (intro w' hS'; go_simp <;> try with_reducible rfl)
  try simp only [Act.put, List.setIfInBounds_toArray, List.set_cons_zero, List.set_cons_succ]
  refine rg_take 24 rfl (by as_aux_lemma => kernel_rfl) (by as_aux_lemma => kernel_rfl) (by as_aux_lemma => kernel_rfl) (by as_aux_lemma => rfl) hS (v := ?_) ?_ ?_
  rotate_left
  · (intro w' hS'; go_simp <;> try with_reducible rfl)
  try simp only [Act.put, List.setIfInBounds_toArray, List.set_cons_zero, List.set_cons_succ]
  refine rg_take 25 rfl (by as_aux_lemma => kernel_rfl) (by as_aux_lemma => kernel_rfl) (by as_aux_lemma => kernel_rfl) (by as_aux_lemma => rfl) hS (v := ?_) ?_ ?_
  rotate_left
  · (intro w' hS'; go_simp <;> try with_reducible rfl)
  try simp only [Act.put, List.setIfInBounds_toArray, List.set_cons_zero, List.set_cons_succ]
  refine rg_take 26 rfl (by as_aux_lemma => kernel_rfl) (by as_aux_lemma => kernel_rfl) (by as_aux_lemma => kernel_rfl) (by as_aux_lemma => rfl) hS (v := .bool true) (fun w' _ => op_ebs rfl rfl rfl w') ?_
  try simp only [Act.put, List.setIfInBounds_toArray, List.set_cons_zero, List.set_cons_succ]
  refine rg_take 27 rfl (by as_aux_lemma => kernel_rfl) (by as_aux_lemma => kernel_rfl) (by as_aux_lemma => kernel_rfl) (by as_aux_lemma => rfl) hS (v := ?_) ?_ ?_
  rotate_left
  · (intro w' hS'; go_simp <;> try with_reducible rfl)
  try simp only [Act.put, List.setIfInBounds_toArray, List.set_cons_zero, List.set_cons_succ]
  refine rg_take 28 rfl (by as_aux_lemma => kernel_rfl) (by as_aux_lemma => kernel_rfl) (by as_aux_lemma => kernel_rfl) (by as_aux_lemma => rfl) hS (v := ?_) ?_ ?_
  rotate_left
  · (intro w' hS'; go_simp <;> try with_reducible rfl)
  try simp only [Act.put, List.setIfInBounds_toArray, List.set_cons_zero, List.set_cons_succ]
  refine rg_take 29 rfl (by as_aux_lemma => kernel_rfl) (by as_aux_lemma => kernel_rfl) (by as_aux_lemma => kernel_rfl) (by as_aux_lemma => rfl) hS (v := ?_) ?_ ?_
  rotate_left
  · (intro w' hS'; go_simp <;> try with_reducible rfl)
  try simp only [Act.put, List.setIfInBounds_toArray, List.set_cons_zero, List.set_cons_succ]
  refine rg_take 30 rfl (by as_aux_lemma => kernel_rfl) (by as_aux_lemma => kernel_rfl) (by as_aux_lemma => kernel_rfl) (by as_aux_lemma => rfl) hS (v := ?_) ?_ ?_
  rotate_left
  · (intro w' hS'; go_simp <;> try with_reducible rfl)
  try simp only [Act.put, List.setIfInBounds_toArray, List.set_cons_zero, List.set_cons_succ]
  refine rg_take 31 rfl (by as_aux_lemma => kernel_rfl) (by as_aux_lemma => kernel_rfl) (by as_aux_lemma => kernel_rfl) (by as_aux_lemma => rfl) hS (v := ?_) ?_ ?_
  rotate_left
  · (intro w' hS'; go_simp <;> try with_reducible rfl)
  try simp only [Act.put, List.setIfInBounds_toArray, List.set_cons_zero, List.set_cons_succ]
  refine rg_skip 32 rfl (by as_aux_lemma => kernel_rfl) (by as_aux_lemma => kernel_rfl) (by as_aux_lemma => kernel_rfl) (by as_aux_lemma => rfl) hS ?_
  try simp only [Act.put, List.setIfInBounds_toArray, List.set_cons_zero, List.set_cons_succ]
  refine rg_skip 33 rfl (by as_aux_lemma => kernel_rfl) (by as_aux_lemma => kernel_rfl) (by as_aux_lemma => kernel_rfl) (by as_aux_lemma => rfl) hS ?_
  try simp only [Act.put, List.setIfInBounds_toArray, List.set_cons_zero, List.set_cons_succ]
  refine rg_skip 34 rfl (by as_aux_lemma => kernel_rfl) (by as_aux_lemma => kernel_rfl) (by as_aux_lemma => kernel_rfl) (by as_aux_lemma => rfl) hS ?_
  try simp only [Act.put, List.setIfInBounds_toArray, List.set_cons_zero, List.set_cons_succ]
  refine rg_take 35 rfl (by as_aux_lemma => kernel_rfl) (by as_aux_lemma => kernel_rfl) (by as_aux_lemma => kernel_rfl) (by as_aux_lemma => rfl) hS (v := ?_) ?_ ?_
  rotate_left
  · (intro w' hS'; go_simp <;> try with_reducible rfl)
  try simp only [Act.put, List.setIfInBounds_toArray, List.set_cons_zero, List.set_cons_succ]
  refine rg_take 36 rfl (by as_aux_lemma => kernel_rfl) (by as_aux_lemma => kernel_rfl) (by as_aux_lemma => kernel_rfl) (by as_aux_lemma => rfl) hS (v := ?_) ?_ ?_
  rotate_left
  · (intro w' hS'; go_simp <;> try with_reducible rfl)
  try simp only [Act.put, List.setIfInBounds_toArray, List.set_cons_zero, List.set_cons_succ]
  refine rg_take 37 rfl (by as_aux_lemma => kernel_rfl) (by as_aux_lemma => kernel_rfl) (by as_aux_lemma => kernel_rfl) (by as_aux_lemma => rfl) hS (v := ?_) ?_ ?_
  rotate_left
  · (intro w' hS'; go_simp <;> try with_reducible rfl)
  try simp only [Act.put, List.setIfInBounds_toArray, List.set_cons_zero, List.set_cons_succ]
  refine rg_take 38 rfl (by as_aux_lemma => kernel_rfl) (by as_aux_lemma => kernel_rfl) (by as_aux_lemma => kernel_rfl) (by as_aux_lemma => rfl) hS (v := ?_) ?_ ?_
  rotate_left
  · (intro w' hS'; go_simp <;> try with_reducible rfl)
  try simp only [Act.put, List.setIfInBounds_toArray, List.set_cons_zero, List.set_cons_succ]
  refine rg_take 40 rfl (by as_aux_lemma => kernel_rfl) (by as_aux_lemma => kernel_rfl) (by as_aux_lemma => kernel_rfl) (by as_aux_lemma => rfl) hS (v := ?_) ?_ ?_
  rotate_left
  · (intro w' hS'; go_simp <;> try with_reducible rfl)
  try simp only [Act.put, List.setIfInBounds_toArray, List.set_cons_zero, List.set_cons_succ]
  refine rg_eff 39 rfl (by as_aux_lemma => kernel_rfl) (by as_aux_lemma => rfl) (fun K hK => ?_)
  go_simp
  refine (HG1.out _).mono ?_
  rintro e w1 ⟨rfl, h1⟩
  refine hK _ _ (hS.call h1) (fun hS => ?_)
  clear hK K
  replace hb := bthen hb h1
  clear h1
  try simp only [Act.put, List.setIfInBounds_toArray, List.set_cons_zero, List.set_cons_succ]
  refine rg_eff 41 rfl (by as_aux_lemma => kernel_rfl) (by as_aux_lemma => rfl) (fun K hK => ?_)
  go_simp
  refine (HG2.out _).mono ?_
  rintro e w1 ⟨rfl, h1⟩
  refine hK _ _ (hS.call h1) (fun hS => ?_)
  clear hK K
  replace hb := bthen hb h1
  clear h1
  try simp only [Act.put, List.setIfInBounds_toArray, List.set_cons_zero, List.set_cons_succ]
  refine rg_take 42 rfl (by as_aux_lemma => kernel_rfl) (by as_aux_lemma => kernel_rfl) (by as_aux_lemma => kernel_rfl) (by as_aux_lemma => rfl) hS (v := .bool true) (fun w' _ => op_eqM HF.out.2.2.2.2.2.2.1 rfl rfl rfl w') ?_
  try simp only [Act.put, List.setIfInBounds_toArray, List.set_cons_zero, List.set_cons_succ]
  refine rg_take 43 rfl (by as_aux_lemma => kernel_rfl) (by as_aux_lemma => kernel_rfl) (by as_aux_lemma => kernel_rfl) (by as_aux_lemma => rfl) hS (v := ?_) ?_ ?_
  rotate_left
  · (intro w' hS'; go_simp <;> try with_reducible rfl)
  try simp only [Act.put, List.setIfInBounds_toArray, List.set_cons_zero, List.set_cons_succ]
  refine rg_take 44 rfl (by as_aux_lemma => kernel_rfl) (by as_aux_lemma => kernel_rfl) (by as_aux_lemma => kernel_rfl) (by as_aux_lemma => rfl) hS (v := ?_) ?_ ?_
  rotate_left
  · (intro w' hS'; go_simp <;> try with_reducible rfl)
  try simp only [Act.put, List.setIfInBounds_toArray, List.set_cons_zero, List.set_cons_succ]
  refine rg_ld 45 rfl (by as_aux_lemma => kernel_rfl) (by as_aux_lemma => kernel_rfl) (by as_aux_lemma => kernel_rfl) (by as_aux_lemma => rfl) hS rfl rfl b4 (by simp <;> omega) (whole25 _ _) ?_
  try simp only [Act.put, List.setIfInBounds_toArray, List.set_cons_zero, List.set_cons_succ]
  refine rg_ld 46 rfl (by as_aux_lemma => kernel_rfl) (by as_aux_lemma => kernel_rfl) (by as_aux_lemma => kernel_rfl) (by as_aux_lemma => rfl) hS rfl rfl b5 (by simp <;> omega) (whole25 _ _) ?_
  try simp only [Act.put, List.setIfInBounds_toArray, List.set_cons_zero, List.set_cons_succ]
  refine rg_ld 48 rfl (by as_aux_lemma => kernel_rfl) (by as_aux_lemma => kernel_rfl) (by as_aux_lemma => kernel_rfl) (by as_aux_lemma => rfl) hS rfl rfl b4 (by simp <;> omega) (whole25 _ _) ?_
  try simp only [Act.put, List.setIfInBounds_toArray, List.set_cons_zero, List.set_cons_succ]
  refine rg_ld 49 rfl (by as_aux_lemma => kernel_rfl) (by as_aux_lemma => kernel_rfl) (by as_aux_lemma => kernel_rfl) (by as_aux_lemma => rfl) hS rfl rfl b5 (by simp <;> omega) (whole25 _ _) ?_
  try simp only [Act.put, List.setIfInBounds_toArray, List.set_cons_zero, List.set_cons_succ]
  refine rg_eff 47 rfl (by as_aux_lemma => kernel_rfl) (by as_aux_lemma => rfl) (fun K hK => ?_)
  go_simp
  refine (HH1.out _).mono ?_
  rintro e w1 ⟨rfl, h1⟩
  refine hK _ _ (hS.call h1) (fun hS => ?_)
  clear hK K
  replace hb := bthen hb h1
  clear h1
  try simp only [Act.put, List.setIfInBounds_toArray, List.set_cons_zero, List.set_cons_succ]
  refine rg_eff 50 rfl (by as_aux_lemma => kernel_rfl) (by as_aux_lemma => rfl) (fun K hK => ?_)
  go_simp
  refine (HH2.out _).mono ?_
  rintro e w1 ⟨rfl, h1⟩
  refine hK _ _ (hS.call h1) (fun hS => ?_)
  clear hK K
  replace hb := bthen hb h1
  clear h1
  try simp only [Act.put, List.setIfInBounds_toArray, List.set_cons_zero, List.set_cons_succ]
  refine rg_take 51 rfl (by as_aux_lemma => kernel_rfl) (by as_aux_lemma => kernel_rfl) (by as_aux_lemma => kernel_rfl) (by as_aux_lemma => rfl) hS (v := .bool true) (fun w' _ => op_eii rfl rfl rfl w') ?_
  try simp only [Act.put, List.setIfInBounds_toArray, List.set_cons_zero, List.set_cons_succ]
  refine rg_take 52 rfl (by as_aux_lemma => kernel_rfl) (by as_aux_lemma => kernel_rfl) (by as_aux_lemma => kernel_rfl) (by as_aux_lemma => rfl) hS (v := ?_) ?_ ?_
  rotate_left
  · (intro w' hS'; go_simp <;> try with_reducible rfl)
  try simp only [Act.put, List.setIfInBounds_toArray, List.set_cons_zero, List.set_cons_succ]
  refine rg_take 53 rfl (by as_aux_lemma => kernel_rfl) (by as_aux_lemma => kernel_rfl) (by as_aux_lemma => kernel_rfl) (by as_aux_lemma => rfl) hS (v := ?_) ?_ ?_
  rotate_left
  · (intro w' hS'; go_simp <;> try with_reducible rfl)
  try simp only [Act.put, List.setIfInBounds_toArray, List.set_cons_zero, List.set_cons_succ]
  refine rg_ld 54 rfl (by as_aux_lemma => kernel_rfl) (by as_aux_lemma => kernel_rfl) (by as_aux_lemma => kernel_rfl) (by as_aux_lemma => rfl) hS rfl rfl b4 (by simp <;> omega) (whole25 _ _) ?_
  try simp only [Act.put, List.setIfInBounds_toArray, List.set_cons_zero, List.set_cons_succ]
  refine rg_ld 56 rfl (by as_aux_lemma => kernel_rfl) (by as_aux_lemma => kernel_rfl) (by as_aux_lemma => kernel_rfl) (by as_aux_lemma => rfl) hS rfl rfl b4 (by simp <;> omega) (whole25 _ _) ?_
  try simp only [Act.put, List.setIfInBounds_toArray, List.set_cons_zero, List.set_cons_succ]
  refine rg_eff 55 rfl (by as_aux_lemma => kernel_rfl) (by as_aux_lemma => rfl) (fun K hK => ?_)
  go_simp
  refine (HI1.out _).mono ?_
  rintro e w1 ⟨rfl, h1⟩
  refine hK _ _ (hS.call h1) (fun hS => ?_)
  clear hK K
  replace hb := bthen hb h1
  clear h1
  try simp only [Act.put, List.setIfInBounds_toArray, List.set_cons_zero, List.set_cons_succ]
  refine rg_eff 57 rfl (by as_aux_lemma => kernel_rfl) (by as_aux_lemma => rfl) (fun K hK => ?_)
  go_simp
  refine (HI2.out _).mono ?_
  rintro e w1 ⟨rfl, h1⟩
  refine hK _ _ (hS.call h1) (fun hS => ?_)
  clear hK K
  replace hb := bthen hb h1
  clear h1
  try simp only [Act.put, List.setIfInBounds_toArray, List.set_cons_zero, List.set_cons_succ]
  refine rg_take 58 rfl (by as_aux_lemma => kernel_rfl) (by as_aux_lemma => kernel_rfl) (by as_aux_lemma => kernel_rfl) (by as_aux_lemma => rfl) hS (v := .bool true) (fun w' _ => op_eqM HF.out.2.2.2.2.2.2.2.1 rfl rfl rfl w') ?_
  try simp only [Act.put, List.setIfInBounds_toArray, List.set_cons_zero, List.set_cons_succ]
  refine rg_take 59 rfl (by as_aux_lemma => kernel_rfl) (by as_aux_lemma => kernel_rfl) (by as_aux_lemma => kernel_rfl) (by as_aux_lemma => rfl) hS (v := ?_) ?_ ?_
  rotate_left
  · (intro w' hS'; go_simp <;> try with_reducible rfl)
  try simp only [Act.put, List.setIfInBounds_toArray, List.set_cons_zero, List.set_cons_succ]
  refine rg_take 60 rfl (by as_aux_lemma => kernel_rfl) (by as_aux_lemma => kernel_rfl) (by as_aux_lemma => kernel_rfl) (by as_aux_lemma => rfl) hS (v := ?_) ?_ ?_
  rotate_left
  · (intro w' hS'; go_simp <;> try with_reducible rfl)
  try simp only [Act.put, List.setIfInBounds_toArray, List.set_cons_zero, List.set_cons_succ]
  refine rg_ld 61 rfl (by as_aux_lemma => kernel_rfl) (by as_aux_lemma => kernel_rfl) (by as_aux_lemma => kernel_rfl) (by as_aux_lemma => rfl) hS rfl rfl b4 (by simp <;> omega) (whole25 _ _) ?_
  try simp only [Act.put, List.setIfInBounds_toArray, List.set_cons_zero, List.set_cons_succ]
  refine rg_ld 63 rfl (by as_aux_lemma => kernel_rfl) (by as_aux_lemma => kernel_rfl) (by as_aux_lemma => kernel_rfl) (by as_aux_lemma => rfl) hS rfl rfl b4 (by simp <;> omega) (whole25 _ _) ?_
  try simp only [Act.put, List.setIfInBounds_toArray, List.set_cons_zero, List.set_cons_succ]
  refine rg_eff 62 rfl (by as_aux_lemma => kernel_rfl) (by as_aux_lemma => rfl) (fun K hK => ?_)
  go_simp
  refine (HJ1.out _).mono ?_
  rintro e w1 ⟨rfl, h1⟩
  refine hK _ _ (hS.call h1) (fun hS => ?_)
  clear hK K
  replace hb := bthen hb h1
  clear h1
  try simp only [Act.put, List.setIfInBounds_toArray, List.set_cons_zero, List.set_cons_succ]
  refine rg_eff 64 rfl (by as_aux_lemma => kernel_rfl) (by as_aux_lemma => rfl) (fun K hK => ?_)
  go_simp
  refine (HJ2.out _).mono ?_
  rintro e w1 ⟨rfl, h1⟩
  refine hK _ _ (hS.call h1) (fun hS => ?_)
  clear hK K
  replace hb := bthen hb h1
  clear h1
  try simp only [Act.put, List.setIfInBounds_toArray, List.set_cons_zero, List.set_cons_succ]
  refine rg_take 65 rfl (by as_aux_lemma => kernel_rfl) (by as_aux_lemma => kernel_rfl) (by as_aux_lemma => kernel_rfl) (by as_aux_lemma => rfl) hS (v := .bool true) (fun w' _ => op_ebs rfl rfl rfl w') ?_
  try simp only [Act.put, List.setIfInBounds_toArray, List.set_cons_zero, List.set_cons_succ]
  refine rg_take 66 rfl (by as_aux_lemma => kernel_rfl) (by as_aux_lemma => kernel_rfl) (by as_aux_lemma => kernel_rfl) (by as_aux_lemma => rfl) hS (v := ?_) ?_ ?_
  rotate_left
  · (intro w' hS'; go_simp <;> try with_reducible rfl)
  try simp only [Act.put, List.setIfInBounds_toArray, List.set_cons_zero, List.set_cons_succ]
  refine rg_take 67 rfl (by as_aux_lemma => kernel_rfl) (by as_aux_lemma => kernel_rfl) (by as_aux_lemma => kernel_rfl) (by as_aux_lemma => rfl) hS (v := ?_) ?_ ?_
  rotate_left
  · (intro w' hS'; go_simp <;> try with_reducible rfl)
  try simp only [Act.put, List.setIfInBounds_toArray, List.set_cons_zero, List.set_cons_succ]
  refine rg_ld 68 rfl (by as_aux_lemma => kernel_rfl) (by as_aux_lemma => kernel_rfl) (by as_aux_lemma => kernel_rfl) (by as_aux_lemma => rfl) hS rfl rfl b4 (by simp <;> omega) (whole25 _ _) ?_
  try simp only [Act.put, List.setIfInBounds_toArray, List.set_cons_zero, List.set_cons_succ]
  refine rg_ld 70 rfl (by as_aux_lemma => kernel_rfl) (by as_aux_lemma => kernel_rfl) (by as_aux_lemma => kernel_rfl) (by as_aux_lemma => rfl) hS rfl rfl b4 (by simp <;> omega) (whole25 _ _) ?_
  try simp only [Act.put, List.setIfInBounds_toArray, List.set_cons_zero, List.set_cons_succ]
  refine rg_eff 69 rfl (by as_aux_lemma => kernel_rfl) (by as_aux_lemma => rfl) (fun K hK => ?_)
  go_simp
  refine (HK1.out _).mono ?_
  rintro e w1 ⟨rfl, h1⟩
  refine hK _ _ (hS.call h1) (fun hS => ?_)
  clear hK K
  replace hb := bthen hb h1
  clear h1
  try simp only [Act.put, List.setIfInBounds_toArray, List.set_cons_zero, List.set_cons_succ]
  refine rg_eff 71 rfl (by as_aux_lemma => kernel_rfl) (by as_aux_lemma => rfl) (fun K hK => ?_)
  go_simp
  refine (HK2.out _).mono ?_
  rintro e w1 ⟨rfl, h1⟩
  refine hK _ _ (hS.call h1) (fun hS => ?_)
  clear hK K
  replace hb := bthen hb h1
  clear h1
  try simp only [Act.put, List.setIfInBounds_toArray, List.set_cons_zero, List.set_cons_succ]
  refine rg_take 72 rfl (by as_aux_lemma => kernel_rfl) (by as_aux_lemma => kernel_rfl) (by as_aux_lemma => kernel_rfl) (by as_aux_lemma => rfl) hS (v := .bool true) (fun w' _ => op_eii rfl rfl rfl w') ?_
  try simp only [Act.put, List.setIfInBounds_toArray, List.set_cons_zero, List.set_cons_succ]
  refine rg_take 73 rfl (by as_aux_lemma => kernel_rfl) (by as_aux_lemma => kernel_rfl) (by as_aux_lemma => kernel_rfl) (by as_aux_lemma => rfl) hS (v := ?_) ?_ ?_
  rotate_left
  · (intro w' hS'; go_simp <;> try with_reducible rfl)
  try simp only [Act.put, List.setIfInBounds_toArray, List.set_cons_zero, List.set_cons_succ]
  refine rg_take 74 rfl (by as_aux_lemma => kernel_rfl) (by as_aux_lemma => kernel_rfl) (by as_aux_lemma => kernel_rfl) (by as_aux_lemma => rfl) hS (v := ?_) ?_ ?_
  rotate_left
  · (intro w' hS'; go_simp <;> try with_reducible rfl)
  try simp only [Act.put, List.setIfInBounds_toArray, List.set_cons_zero, List.set_cons_succ]
  refine rg_ld 75 rfl (by as_aux_lemma => kernel_rfl) (by as_aux_lemma => kernel_rfl) (by as_aux_lemma => kernel_rfl) (by as_aux_lemma => rfl) hS rfl rfl b4 (by simp <;> omega) (whole25 _ _) ?_
  try simp only [Act.put, List.setIfInBounds_toArray, List.set_cons_zero, List.set_cons_succ]
  refine rg_ld 76 rfl (by as_aux_lemma => kernel_rfl) (by as_aux_lemma => kernel_rfl) (by as_aux_lemma => kernel_rfl) (by as_aux_lemma => rfl) hS rfl rfl b5 (by simp <;> omega) (whole25 _ _) ?_
  try simp only [Act.put, List.setIfInBounds_toArray, List.set_cons_zero, List.set_cons_succ]
  refine rg_ld 78 rfl (by as_aux_lemma => kernel_rfl) (by as_aux_lemma => kernel_rfl) (by as_aux_lemma => kernel_rfl) (by as_aux_lemma => rfl) hS rfl rfl b4 (by simp <;> omega) (whole25 _ _) ?_
  try simp only [Act.put, List.setIfInBounds_toArray, List.set_cons_zero, List.set_cons_succ]
  refine rg_ld 79 rfl (by as_aux_lemma => kernel_rfl) (by as_aux_lemma => kernel_rfl) (by as_aux_lemma => kernel_rfl) (by as_aux_lemma => rfl) hS rfl rfl b5 (by simp <;> omega) (whole25 _ _) ?_
  try simp only [Act.put, List.setIfInBounds_toArray, List.set_cons_zero, List.set_cons_succ]
  refine rg_eff 77 rfl (by as_aux_lemma => kernel_rfl) (by as_aux_lemma => rfl) (fun K hK => ?_)
  go_simp
  refine (HL1.out _).mono ?_
  rintro e w1 ⟨rfl, h1⟩
  refine hK _ _ (hS.call h1) (fun hS => ?_)
  clear hK K
  replace hb := bthen hb h1
  clear h1
  try simp only [Act.put, List.setIfInBounds_toArray, List.set_cons_zero, List.set_cons_succ]
  refine rg_eff 80 rfl (by as_aux_lemma => kernel_rfl) (by as_aux_lemma => rfl) (fun K hK => ?_)
  go_simp
  refine (HL2.out _).mono ?_
  rintro e w1 ⟨rfl, h1⟩
  refine hK _ _ (hS.call h1) (fun hS => ?_)
  clear hK K
  replace hb := bthen hb h1
  clear h1
  try simp only [Act.put, List.setIfInBounds_toArray, List.set_cons_zero, List.set_cons_succ]
  refine rg_take 81 rfl (by as_aux_lemma => kernel_rfl) (by as_aux_lemma => kernel_rfl) (by as_aux_lemma => kernel_rfl) (by as_aux_lemma => rfl) hS (v := .bool true) (fun w' _ => op_eqM HF.out.2.2.2.2.2.2.2.2 rfl rfl rfl w') ?_
  try simp only [Act.put, List.setIfInBounds_toArray, List.set_cons_zero, List.set_cons_succ]
  refine rg_take 82 rfl (by as_aux_lemma => kernel_rfl) (by as_aux_lemma => kernel_rfl) (by as_aux_lemma => kernel_rfl) (by as_aux_lemma => rfl) hS (v := ?_) ?_ ?_
  rotate_left
  · (intro w' hS'; go_simp <;> try with_reducible rfl)
  try simp only [Act.put, List.setIfInBounds_toArray, List.set_cons_zero, List.set_cons_succ]
  refine rg_take 83 rfl (by as_aux_lemma => kernel_rfl) (by as_aux_lemma => kernel_rfl) (by as_aux_lemma => kernel_rfl) (by as_aux_lemma => rfl) hS (v := ?_) ?_ ?_
  rotate_left
  · (intro w' hS'; go_simp <;> try with_reducible rfl)
  try simp only [Act.put, List.setIfInBounds_toArray, List.set_cons_zero, List.set_cons_succ]
  refine rg_ld 84 rfl (by as_aux_lemma => kernel_rfl) (by as_aux_lemma => kernel_rfl) (by as_aux_lemma => kernel_rfl) (by as_aux_lemma => rfl) hS rfl rfl b4 (by simp <;> omega) (whole25 _ _) ?_
  try simp only [Act.put, List.setIfInBounds_toArray, List.set_cons_zero, List.set_cons_succ]
  refine rg_ld 86 rfl (by as_aux_lemma => kernel_rfl) (by as_aux_lemma => kernel_rfl) (by as_aux_lemma => kernel_rfl) (by as_aux_lemma => rfl) hS rfl rfl b4 (by simp <;> omega) (whole25 _ _) ?_
  try simp only [Act.put, List.setIfInBounds_toArray, List.set_cons_zero, List.set_cons_succ]
  refine rg_eff 85 rfl (by as_aux_lemma => kernel_rfl) (by as_aux_lemma => rfl) (fun K hK => ?_)
  go_simp
  refine (HM1.out _).mono ?_
  rintro e w1 ⟨rfl, h1⟩
  refine hK _ _ (hS.call h1) (fun hS => ?_)
  clear hK K
  replace hb := bthen hb h1
  clear h1
  try simp only [Act.put, List.setIfInBounds_toArray, List.set_cons_zero, List.set_cons_succ]
  refine rg_eff 87 rfl (by as_aux_lemma => kernel_rfl) (by as_aux_lemma => rfl) (fun K hK => ?_)
  go_simp
  refine (HM2.out _).mono ?_
  rintro e w1 ⟨rfl, h1⟩
  refine hK _ _ (hS.call h1) (fun hS => ?_)
  clear hK K
  replace hb := bthen hb h1
  clear h1
  try simp only [Act.put, List.setIfInBounds_toArray, List.set_cons_zero, List.set_cons_succ]
  refine rg_take 88 rfl (by as_aux_lemma => kernel_rfl) (by as_aux_lemma => kernel_rfl) (by as_aux_lemma => kernel_rfl) (by as_aux_lemma => rfl) hS (v := .bool true) (fun w' _ => op_ess rfl rfl rfl w') ?_
  try simp only [Act.put, List.setIfInBounds_toArray, List.set_cons_zero, List.set_cons_succ]
  refine rg_take 89 rfl (by as_aux_lemma => kernel_rfl) (by as_aux_lemma => kernel_rfl) (by as_aux_lemma => kernel_rfl) (by as_aux_lemma => rfl) hS (v := ?_) ?_ ?_
  rotate_left
  · (intro w' hS'; go_simp <;> try with_reducible rfl)
  try simp only [Act.put, List.setIfInBounds_toArray, List.set_cons_zero, List.set_cons_succ]
  refine rg_take 90 rfl (by as_aux_lemma => kernel_rfl) (by as_aux_lemma => kernel_rfl) (by as_aux_lemma => kernel_rfl) (by as_aux_lemma => rfl) hS (v := ?_) ?_ ?_
  rotate_left
  · (intro w' hS'; go_simp <;> try with_reducible rfl)
  try simp only [Act.put, List.setIfInBounds_toArray, List.set_cons_zero, List.set_cons_succ]
  refine rg_done (by kernel_rfl) ?_
  go_wp2
  go_ret
  exact ⟨rfl, hb⟩
end Go.Proofs.Ytiaikjeljhfadaa
