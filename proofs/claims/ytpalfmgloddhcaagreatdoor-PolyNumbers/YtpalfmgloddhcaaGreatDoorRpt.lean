/- Package ratio: Parse of a whole number's text, and of texts that no fraction has. -/
import Derived.Test.YtpalfmgloddhcaaGreatDoorRps
import Derived.Test.YtpalfmgloddhcaaGreatDoorRle
import Derived.Test.YtpalfmgloddhcaaGreatDoorRof
namespace Go.Proofs.YtpalfmgloddhcaaGreatDoor
set_option linter.unusedSimpArgs false
set_option linter.unusedVariables false
open Go.RowKit
set_option maxRecDepth 100000
set_option maxHeartbeats 2000000 in
/-- What is below is 1: no text has it. -/
theorem Parse_one {n : Int} {x y s : ByteArray} (C : Tl 132 #[.string s, .string ⟨#[47]⟩] (.tuple #[.string x, .string y, .bool true])) (P1 : Tl 133 #[.string x] (.tuple #[vw n, .bool true])) (P2 : Tl 133 #[.string y] (.tuple #[vw 1, .bool true])) :
    Tl 109 #[.string s] (.tuple #[.agg (rr false 0 false 0).toArray, .bool false]) := fun w => by
  unfold Tl at C P1 P2
  unfold vw at P1 P2
  have HC := Lib.hid C
  have HP1 := Lib.hid P1
  have HP2 := Lib.hid P2
  have HO := Lib.hid (fun w => isOne_yes w)
  clear C P1 P2
  obtain ⟨d, hd⟩ : ∃ d : Int, d = 1 := ⟨_, rfl⟩
  rw [← hd] at HP2 HO
  clear hd
  have b2 := Blk.new w (rr false 0 false 0) 49 rfl
  have hb : Below w.heap.size w (w.alloc (.cells (rr false 0 false 0).toArray 49)) := (Below.refl _ _).alloc (Nat.le_refl _) _
  go_enter Tryz.func109, Tryz.ntmps109
  go_wp2_with (first | (with_reducible refine alR rfl rfl ?_))
  refine (HC.out _).mono ?_
  rintro e w1 ⟨rfl, h1⟩
  replace b2 := b2.call h1
  replace hb := bthen hb h1
  clear h1
  go_wp2_with fail
  refine (HP1.out _).mono ?_
  rintro e w1 ⟨rfl, h1⟩
  replace b2 := b2.call h1
  replace hb := bthen hb h1
  clear h1
  have f := Blk.new w1 (wd false 0) 47 rfl
  have b7 := laid_new w1 (n)
  replace b2 := laid_old b2 (n)
  replace hb := laid_below hb (n)
  go_wp2_with (first | (with_reducible refine alW rfl rfl ?_) | (with_reducible refine stM rfl rfl rfl rfl f (wd_length _ _) ?_))
  clear f
  generalize (w1.alloc (.cells (wd false 0).toArray 47)).setRow w1.heap.size (mk (n)).toArray = W at *
  generalize w1.heap.size = pl_b7 at *
  refine (HP2.out _).mono ?_
  rintro e w1 ⟨rfl, h1⟩
  replace b2 := b2.call h1
  replace b7 := b7.call h1
  replace hb := bthen hb h1
  clear h1
  have f := Blk.new w1 (wd false 0) 47 rfl
  have l2 := b2.lt
  have l7 := b7.lt
  have b9 := laid_new w1 d
  replace b7 := laid_old b7 d
  replace b2 := laid_old b2 d
  replace hb := laid_below hb d
  have f10 := Blk.new ((w1.alloc (.cells (wd false 0).toArray 47)).setRow w1.heap.size (mk d).toArray) (rr false 0 false 0) 49 (b := w1.heap.size + 1) (by simp)
  have f10' := Blk.new ((w1.alloc (.cells (wd false 0).toArray 47)).setRow w1.heap.size (mk d).toArray) (rr false 0 false 0) 49 rfl
  have b10 := f10.row (fr n d)
  have c9 := (b9.old (.cells (rr false 0 false 0).toArray 49)).rowOther (g := w1.heap.size + 1) (fr n d).toArray (by omega)
  have c2 := (b2.old (.cells (rr false 0 false 0).toArray 49)).rowOther (g := w1.heap.size + 1) (fr n d).toArray (by omega)
  have hs := hb.size
  have hc := below_row (hb.alloc hs (.cells (rr false 0 false 0).toArray 49)) (g := w1.heap.size + 1) (by omega) (fr n d).toArray
  go_wp2_with (first | (with_reducible refine alW rfl rfl ?_) | (with_reducible refine alR rfl rfl ?_) | (with_reducible refine stM rfl rfl rfl rfl f (wd_length _ _) ?_) | (with_reducible refine ldM rfl rfl rfl b7 ?_) | (with_reducible refine ldM rfl rfl rfl b9 ?_) | (with_reducible refine bdF rfl rfl rfl rfl ?_) | (with_reducible refine stR rfl rfl rfl rfl f10 (rr_length _ _ _ _) ?_) | (with_reducible refine stR rfl rfl rfl rfl f10' (rr_length _ _ _ _) ?_) | (refine ldMg (by rfl) rfl rfl c9 ?_))
  clear f f10 f10' b7 b9 b2 hb hs
  try rw [show ((w1.alloc (.cells (wd false 0).toArray 47)).setRow w1.heap.size (mk d).toArray).heap.size = w1.heap.size + 1 by simp]
  generalize (((w1.alloc (.cells (wd false 0).toArray 47)).setRow w1.heap.size (mk d).toArray).alloc (.cells (rr false 0 false 0).toArray 49)).setRow (w1.heap.size + 1) (fr n d).toArray = W at *
  generalize w1.heap.size + 1 = p10 at *
  refine (HO.out _).mono ?_
  rintro e w2 ⟨rfl, h1⟩
  replace c2 := c2.call h1
  replace hc := bthen hc h1
  clear h1
  go_wp2_with (first | (with_reducible refine bdR0 rfl rfl ?_) | (with_reducible refine stRr rfl rfl rfl rfl c2 (rr_length _ _ _ _) ?_))
  exact ret_ct (cs := rr false 0 false 0) (v := .bool false) rfl rfl rfl rfl (wholeR _ _ _ _) (c2.row _) ⟨rfl, below_row hc (Nat.le_refl _) _⟩
set_option maxHeartbeats 2000000 in
/-- Both numbers have a common divisor: no text has them. -/
theorem Parse_low {n d : Int} {x y s : ByteArray} (hn : fits n) (hd : fits d) (h0 : 0 < d) (hg : ¬ Int.gcd n d = 1) (h1 : ¬ d = 1) (C : Tl 132 #[.string s, .string ⟨#[47]⟩] (.tuple #[.string x, .string y, .bool true])) (P1 : Tl 133 #[.string x] (.tuple #[vw n, .bool true])) (P2 : Tl 133 #[.string y] (.tuple #[vw d, .bool true])) :
    Tl 109 #[.string s] (.tuple #[.agg (rr false 0 false 0).toArray, .bool false]) := fun w => by
  unfold Tl at C P1 P2
  unfold vw at P1 P2
  have HC := Lib.hid C
  have HP1 := Lib.hid P1
  have HP2 := Lib.hid P2
  have hi := fun w => isr_4 hn hd h0 w
  rw [show decide (((Int.gcd n d : Nat) : Int) = 1) = false from decide_eq_false (by omega)] at hi
  have HI := Lib.hid hi
  have HO := Lib.hid (fun w => isOne_no hd h1 w)
  clear C P1 P2 hn hd h0 hg h1 hi
  have b2 := Blk.new w (rr false 0 false 0) 49 rfl
  have hb : Below w.heap.size w (w.alloc (.cells (rr false 0 false 0).toArray 49)) := (Below.refl _ _).alloc (Nat.le_refl _) _
  go_enter Tryz.func109, Tryz.ntmps109
  go_wp2_with (first | (with_reducible refine alR rfl rfl ?_))
  refine (HC.out _).mono ?_
  rintro e w1 ⟨rfl, h1⟩
  replace b2 := b2.call h1
  replace hb := bthen hb h1
  clear h1
  go_wp2_with fail
  refine (HP1.out _).mono ?_
  rintro e w1 ⟨rfl, h1⟩
  replace b2 := b2.call h1
  replace hb := bthen hb h1
  clear h1
  have f := Blk.new w1 (wd false 0) 47 rfl
  have b7 := laid_new w1 (n)
  replace b2 := laid_old b2 (n)
  replace hb := laid_below hb (n)
  go_wp2_with (first | (with_reducible refine alW rfl rfl ?_) | (with_reducible refine stM rfl rfl rfl rfl f (wd_length _ _) ?_))
  clear f
  generalize (w1.alloc (.cells (wd false 0).toArray 47)).setRow w1.heap.size (mk (n)).toArray = W at *
  generalize w1.heap.size = pl_b7 at *
  refine (HP2.out _).mono ?_
  rintro e w1 ⟨rfl, h1⟩
  replace b2 := b2.call h1
  replace b7 := b7.call h1
  replace hb := bthen hb h1
  clear h1
  have f := Blk.new w1 (wd false 0) 47 rfl
  have l2 := b2.lt
  have l7 := b7.lt
  have b9 := laid_new w1 d
  replace b7 := laid_old b7 d
  replace b2 := laid_old b2 d
  replace hb := laid_below hb d
  have f10 := Blk.new ((w1.alloc (.cells (wd false 0).toArray 47)).setRow w1.heap.size (mk d).toArray) (rr false 0 false 0) 49 (b := w1.heap.size + 1) (by simp)
  have f10' := Blk.new ((w1.alloc (.cells (wd false 0).toArray 47)).setRow w1.heap.size (mk d).toArray) (rr false 0 false 0) 49 rfl
  have b10 := f10.row (fr n d)
  have c9 := (b9.old (.cells (rr false 0 false 0).toArray 49)).rowOther (g := w1.heap.size + 1) (fr n d).toArray (by omega)
  have c2 := (b2.old (.cells (rr false 0 false 0).toArray 49)).rowOther (g := w1.heap.size + 1) (fr n d).toArray (by omega)
  have hs := hb.size
  have hc := below_row (hb.alloc hs (.cells (rr false 0 false 0).toArray 49)) (g := w1.heap.size + 1) (by omega) (fr n d).toArray
  go_wp2_with (first | (with_reducible refine alW rfl rfl ?_) | (with_reducible refine alR rfl rfl ?_) | (with_reducible refine stM rfl rfl rfl rfl f (wd_length _ _) ?_) | (with_reducible refine ldM rfl rfl rfl b7 ?_) | (with_reducible refine ldM rfl rfl rfl b9 ?_) | (with_reducible refine bdF rfl rfl rfl rfl ?_) | (with_reducible refine stR rfl rfl rfl rfl f10 (rr_length _ _ _ _) ?_) | (with_reducible refine stR rfl rfl rfl rfl f10' (rr_length _ _ _ _) ?_) | (refine ldMg (by rfl) rfl rfl c9 ?_))
  clear f f10 f10' b7 b9 b2 hb hs
  try rw [show ((w1.alloc (.cells (wd false 0).toArray 47)).setRow w1.heap.size (mk d).toArray).heap.size = w1.heap.size + 1 by simp]
  generalize (((w1.alloc (.cells (wd false 0).toArray 47)).setRow w1.heap.size (mk d).toArray).alloc (.cells (rr false 0 false 0).toArray 49)).setRow (w1.heap.size + 1) (fr n d).toArray = W at *
  generalize w1.heap.size + 1 = p10 at *
  refine (HO.out _).mono ?_
  rintro e w2 ⟨rfl, h1⟩
  replace c2 := c2.call h1
  replace b10 := b10.call h1
  replace hc := bthen hc h1
  clear h1
  go_wp2_with (first | (refine ldPg (by rfl) rfl rfl b10 (part_all _) (wholeF _ _) ?_))
  refine (HI.out _).mono ?_
  rintro e w3 ⟨rfl, h1⟩
  replace c2 := c2.call h1
  replace hc := bthen hc h1
  clear h1
  go_wp2_with (first | (with_reducible refine bdR0 rfl rfl ?_) | (with_reducible refine stRr rfl rfl rfl rfl c2 (rr_length _ _ _ _) ?_))
  exact ret_ct (cs := rr false 0 false 0) (v := .bool false) rfl rfl rfl rfl (wholeR _ _ _ _) (c2.row _) ⟨rfl, below_row hc (Nat.le_refl _) _⟩
set_option maxHeartbeats 2000000 in
/-- What is below is no number. -/
theorem Parse_below {n d : Int} {x y s : ByteArray} (C : Tl 132 #[.string s, .string ⟨#[47]⟩] (.tuple #[.string x, .string y, .bool true])) (P1 : Tl 133 #[.string x] (.tuple #[vw n, .bool true])) (P2 : Tl 133 #[.string y] (.tuple #[vw d, .bool false])) :
    Tl 109 #[.string s] (.tuple #[.agg (rr false 0 false 0).toArray, .bool false]) := fun w => by
  unfold Tl at C P1 P2
  unfold vw at P1 P2
  have HC := Lib.hid C
  have HP1 := Lib.hid P1
  have HP2 := Lib.hid P2
  clear C P1 P2
  have b2 := Blk.new w (rr false 0 false 0) 49 rfl
  have hb : Below w.heap.size w (w.alloc (.cells (rr false 0 false 0).toArray 49)) := (Below.refl _ _).alloc (Nat.le_refl _) _
  go_enter Tryz.func109, Tryz.ntmps109
  go_wp2_with (first | (with_reducible refine alR rfl rfl ?_))
  refine (HC.out _).mono ?_
  rintro e w1 ⟨rfl, h1⟩
  replace b2 := b2.call h1
  replace hb := bthen hb h1
  clear h1
  go_wp2_with fail
  refine (HP1.out _).mono ?_
  rintro e w1 ⟨rfl, h1⟩
  replace b2 := b2.call h1
  replace hb := bthen hb h1
  clear h1
  have f := Blk.new w1 (wd false 0) 47 rfl
  have b7 := laid_new w1 (n)
  replace b2 := laid_old b2 (n)
  replace hb := laid_below hb (n)
  go_wp2_with (first | (with_reducible refine alW rfl rfl ?_) | (with_reducible refine stM rfl rfl rfl rfl f (wd_length _ _) ?_))
  clear f
  generalize (w1.alloc (.cells (wd false 0).toArray 47)).setRow w1.heap.size (mk (n)).toArray = W at *
  generalize w1.heap.size = pl_b7 at *
  refine (HP2.out _).mono ?_
  rintro e w1 ⟨rfl, h1⟩
  replace b2 := b2.call h1
  replace b7 := b7.call h1
  replace hb := bthen hb h1
  clear h1
  have f := Blk.new w1 (wd false 0) 47 rfl
  have l2 := b2.lt
  have l7 := b7.lt
  have b9 := laid_new w1 d
  replace b7 := laid_old b7 d
  replace b2 := laid_old b2 d
  replace hb := laid_below hb d
  have f10 := Blk.new ((w1.alloc (.cells (wd false 0).toArray 47)).setRow w1.heap.size (mk d).toArray) (rr false 0 false 0) 49 (b := w1.heap.size + 1) (by simp)
  have f10' := Blk.new ((w1.alloc (.cells (wd false 0).toArray 47)).setRow w1.heap.size (mk d).toArray) (rr false 0 false 0) 49 rfl
  have b10 := f10.row (fr n d)
  have c9 := (b9.old (.cells (rr false 0 false 0).toArray 49)).rowOther (g := w1.heap.size + 1) (fr n d).toArray (by omega)
  have c2 := (b2.old (.cells (rr false 0 false 0).toArray 49)).rowOther (g := w1.heap.size + 1) (fr n d).toArray (by omega)
  have hs := hb.size
  have hc := below_row (hb.alloc hs (.cells (rr false 0 false 0).toArray 49)) (g := w1.heap.size + 1) (by omega) (fr n d).toArray
  go_wp2_with (first | (with_reducible refine alW rfl rfl ?_) | (with_reducible refine alR rfl rfl ?_) | (with_reducible refine stM rfl rfl rfl rfl f (wd_length _ _) ?_) | (with_reducible refine ldM rfl rfl rfl b7 ?_) | (with_reducible refine ldM rfl rfl rfl b9 ?_) | (with_reducible refine bdF rfl rfl rfl rfl ?_) | (with_reducible refine stR rfl rfl rfl rfl f10 (rr_length _ _ _ _) ?_) | (with_reducible refine stR rfl rfl rfl rfl f10' (rr_length _ _ _ _) ?_) | (refine ldMg (by rfl) rfl rfl c9 ?_) | (with_reducible refine bdR0 rfl rfl ?_) | (with_reducible refine stRr rfl rfl rfl rfl c2 (rr_length _ _ _ _) ?_))
  exact ret_ct (cs := rr false 0 false 0) (v := .bool false) rfl rfl rfl rfl (wholeR _ _ _ _) (c2.row _) ⟨rfl, below_row hc (Nat.le_refl _) _⟩
set_option maxHeartbeats 2000000 in
/-- No mark: a whole number. -/
theorem Parse_plain {n : Int} {x y s : ByteArray} (C : Tl 132 #[.string s, .string ⟨#[47]⟩] (.tuple #[.string x, .string y, .bool false])) (P1 : Tl 133 #[.string x] (.tuple #[vw n, .bool true])) :
    Tl 109 #[.string s] (.tuple #[vf n 1, .bool true]) := fun w => by
  have W := whole_any n
  unfold Tl at C P1 W
  unfold vw at P1 W
  unfold vf at *
  have HC := Lib.hid C
  have HP1 := Lib.hid P1
  have HW := Lib.hid W
  clear C P1 W
  have b2 := Blk.new w (rr false 0 false 0) 49 rfl
  have hb : Below w.heap.size w (w.alloc (.cells (rr false 0 false 0).toArray 49)) := (Below.refl _ _).alloc (Nat.le_refl _) _
  go_enter Tryz.func109, Tryz.ntmps109
  go_wp2_with (first | (with_reducible refine alR rfl rfl ?_))
  refine (HC.out _).mono ?_
  rintro e w1 ⟨rfl, h1⟩
  replace b2 := b2.call h1
  replace hb := bthen hb h1
  clear h1
  go_wp2_with fail
  refine (HP1.out _).mono ?_
  rintro e w1 ⟨rfl, h1⟩
  replace b2 := b2.call h1
  replace hb := bthen hb h1
  clear h1
  have f := Blk.new w1 (wd false 0) 47 rfl
  have b7 := laid_new w1 (n)
  replace b2 := laid_old b2 (n)
  replace hb := laid_below hb (n)
  go_wp2_with (first | (with_reducible refine alW rfl rfl ?_) | (with_reducible refine stM rfl rfl rfl rfl f (wd_length _ _) ?_) | (with_reducible refine ldM rfl rfl rfl b7 ?_))
  clear f
  generalize (w1.alloc (.cells (wd false 0).toArray 47)).setRow w1.heap.size (mk (n)).toArray = W at *
  generalize w1.heap.size = pl_b7 at *
  refine (HW.out _).mono ?_
  rintro e w1 ⟨rfl, h1⟩
  replace b2 := b2.call h1
  replace hb := bthen hb h1
  clear h1
  go_wp2_with (first | (with_reducible refine stR rfl rfl rfl rfl b2 (rr_length _ _ _ _) ?_))
  exact ret_ct (cs := fr n 1) (v := .bool true) rfl rfl rfl rfl (wholeF _ _) (b2.row _) ⟨rfl, below_row hb (Nat.le_refl _) _⟩
theorem scut_no {l : List UInt8} (h : (47 : UInt8) ∉ l) (w : World) : Calls Tryz.prog 132 #[.string (bs l), .string ⟨#[47]⟩] w fun e w' => e = .returned (.tuple #[.string (bs l), .string ⟨#[]⟩, .bool false]) ∧ Below w.heap.size w w' :=
  Cut_of (fun w => sl_Cut_no (bs l) 47 w (ix_none h)) w
theorem scut_at {l : List UInt8} (m : List UInt8) (h : (47 : UInt8) ∉ l) (hl : l.length + m.length ≤ 100000) (w : World) : Calls Tryz.prog 132 #[.string (bs (l ++ 47 :: m)), .string ⟨#[47]⟩] w fun e w' => e = .returned (.tuple #[.string (bs l), .string (bs m), .bool true]) ∧ Below w.heap.size w w' := by
  have C := Cut_of (fun w => sl_Cut_yes (bs (l ++ 47 :: m)) 47 l.length w (by rw [bs_size]; simp; omega) (ix_at _ h) (by rw [bs_size]; simp)) w
  rw [bs_left, bs_right] at C
  exact C
theorem Parse_whole {n : Int} (hn : fits n) : Tl 109 #[.string (tz n)] (.tuple #[vf n 1, .bool true]) :=
  Parse_plain (x := tz n) (y := ⟨#[]⟩) (fun w => scut_no (no47 _ _) w) (fun w => parse_mk hn w)
theorem Parse_multiple {n d : Int} (hn : fits n) (hd : fits d) (h0 : 0 < d) (hg : ¬ Int.gcd n d = 1) : Tl 109 #[.string (tz n ++ ⟨#[47]⟩ ++ tz d)] (.tuple #[.agg (rr false 0 false 0).toArray, .bool false]) := by
  rw [tz_slash]
  have l1 := txt_len (decide (n < 0)) hn
  have l2 := txt_len (decide (d < 0)) hd
  have h1 : ¬ d = 1 := by
    intro e; subst e
    exact hg (Int.gcd_one_right n)
  exact Parse_low hn hd h0 hg h1 (fun w => scut_at _ (no47 _ _) (by omega) w) (fun w => parse_mk hn w) (fun w => parse_mk hd w)
theorem Parse_by_one {n : Int} (hn : fits n) : Tl 109 #[.string (tz n ++ ⟨#[47, 49]⟩)] (.tuple #[.agg (rr false 0 false 0).toArray, .bool false]) := by
  have l1 := txt_len (decide (n < 0)) hn
  have e : tz n ++ (⟨#[47, 49]⟩ : ByteArray) = bs (txt (decide (n < 0)) n.natAbs ++ 47 :: [49]) := by
    unfold tz
    rw [show (⟨#[47, 49]⟩ : ByteArray) = bs [47, 49] from rfl, bs_append]
  rw [e]
  have P2 : Tl 133 #[.string (bs [49])] (.tuple #[vw 1, .bool true]) := fun w => parse_mk (z := 1) f1 w
  exact Parse_one (fun w => scut_at _ (no47 _ _) (by simp; omega) w) (fun w => parse_mk hn w) P2
theorem Parse_two {n d : Int} (hn : fits n) (hd : fits d) (h0 : 0 < d) : Tl 109 #[.string (tz n ++ ⟨#[47]⟩ ++ tz d ++ ⟨#[47, 49]⟩)] (.tuple #[.agg (rr false 0 false 0).toArray, .bool false]) := by
  have l1 := txt_len (decide (n < 0)) hn
  have l2 := txt_len (decide (d < 0)) hd
  rw [tz_slash]
  have e : bs (txt (decide (n < 0)) n.natAbs ++ 47 :: txt (decide (d < 0)) d.natAbs) ++ (⟨#[47, 49]⟩ : ByteArray) = bs (txt (decide (n < 0)) n.natAbs ++ 47 :: (txt (decide (d < 0)) d.natAbs ++ [47, 49])) := by
    rw [show (⟨#[47, 49]⟩ : ByteArray) = bs [47, 49] from rfl, bs_append]
    simp
  rw [e]
  have hdf : decide (d < 0) = false := decide_eq_false (by omega)
  rw [hdf]
  rw [hdf] at l2
  have hP : Tl 133 #[.string (bs (txt false d.natAbs ++ [47, 49]))] (.tuple #[vw 0, .bool false]) := fun w => by
    obtain ⟨c, r, hcr, h48, h45⟩ := dd_cons (N := d.natAbs) hd (by omega)
    have et : txt false d.natAbs = c :: r := by
      rw [txt_of, if_neg (by omega)]
      simpa using hcr
    exact parse_bad (txt false d.natAbs ++ [47, 49]) w (by simp; omega) (by
      intro h
      have := congrArg List.length h
      simp at this) (by
      intro c' r' h
      rw [et] at h
      simp only [List.cons_append, List.cons.injEq] at h
      rw [← h.1]; exact h45) (.inr (.inr ⟨47, by simp, by decide⟩))
  exact Parse_below (fun w => scut_at _ (no47 _ _) (by simp; omega) w) (fun w => parse_mk hn w) hP
end Go.Proofs.YtpalfmgloddhcaaGreatDoor
