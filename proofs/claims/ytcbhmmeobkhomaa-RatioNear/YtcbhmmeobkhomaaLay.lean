/- Joined of: Prs Eql Kex Lay. -/
import Derived.Test.YtcbhmmeobkhomaaTxt
/- wide.plainDigits, wide.fromDigits, wide.Parse. -/
namespace Go.Proofs.Ytcbhmmeobkhomaa
open Go.RowKit
set_option maxRecDepth 100000
set_option maxHeartbeats 400000 in
set_option maxRecDepth 100000 in
theorem plainDigits_yes (s : ByteArray) (w : World) (hs : s.size ≤ 400) (h0 : 0 < s.size) (hd : ∀ i (h : i < s.size), 48 ≤ s[i].toNat ∧ s[i].toNat ≤ 57) (h1 : s[0].toNat ≠ 48) :
    Calls Try.prog 57 #[.string s] w fun e w' => e = .returned (.bool true) ∧ w' = w := by
  have HD := Lib.hid hd
  have hz : ((s.size : Int) == 0) = false := by rw [beq_eq_false_iff_ne]; omega
  have hb : ((s[0].toNat : Int) == 48) = false := by rw [beq_eq_false_iff_ne]; omega
  clear hd h1
  go_enter Try.func57, Try.ntmps57
  go_wp2
  go_loop [14] (fun i => ∃ k : Nat, k ≤ s.size ∧ i = .int .i64 k) (fun i => s.size - (intOf i).toNat)
  case atStart => exact ⟨0, Nat.zero_le _, rfl⟩
  case round =>
    obtain ⟨k, hk, rfl⟩ := hrel
    by_cases hlt : k < s.size
    · have h2 := (HD.out k hlt).1
      have h3 := (HD.out k hlt).2
      have g2 : ¬ (s[k].toNat : Int) < 48 := by omega
      have g3 : ¬ (57 : Int) < (s[k].toNat : Int) := by omega
      go_wp2
      go_round
      case rel => exact ⟨k + 1, by omega, by go_num⟩
      case measure => simp [intOf]; omega
    · go_wp2
      go_ret
      exact ⟨rfl, rfl⟩
theorem plainDigits_no (s : ByteArray) (w : World) (hs : s.size ≤ 500) (h : s.size = 0 ∨ (∃ h : 0 < s.size, s[0].toNat = 48) ∨ ∃ i, ∃ h : i < s.size, s[i].toNat < 48 ∨ 57 < s[i].toNat) :
    Calls Try.prog 57 #[.string s] w fun e w' => e = .returned (.bool false) ∧ w' = w := by
  by_cases h0 : s.size = 0
  · have hz : ((s.size : Int) == 0) = true := by rw [beq_iff_eq]; omega
    clear h
    go_enter Try.func57, Try.ntmps57
    go_wp2
    go_ret
    exact ⟨rfl, rfl⟩
  · have h0' : 0 < s.size := by omega
    have hz : ((s.size : Int) == 0) = false := by rw [beq_eq_false_iff_ne]; omega
    by_cases h1 : s[0].toNat = 48
    · have hb : ((s[0].toNat : Int) == 48) = true := by rw [beq_iff_eq]; omega
      clear h h0
      go_enter Try.func57, Try.ntmps57
      go_wp2
      go_ret
      exact ⟨rfl, rfl⟩
    · have hb : ((s[0].toNat : Int) == 48) = false := by rw [beq_eq_false_iff_ne]; omega
      have hbad : ∃ i, ∃ h : i < s.size, s[i].toNat < 48 ∨ 57 < s[i].toNat := by
        rcases h with h | ⟨_, h⟩ | h
        · exact absurd h h0
        · exact absurd h h1
        · exact h
      obtain ⟨j, hj, hjb⟩ := hbad
      have HJ := Lib.hid hjb
      clear h h0 h1 hjb
      go_enter Try.func57, Try.ntmps57
      go_wp2
      go_loop [14] (fun i => ∃ k : Nat, k ≤ j ∧ i = .int .i64 k) (fun i => s.size - (intOf i).toNat)
      case atStart => exact ⟨0, Nat.zero_le _, rfl⟩
      case round =>
        obtain ⟨k, hk, rfl⟩ := hrel
        have hlt : k < s.size := by omega
        by_cases h2 : s[k].toNat < 48
        · have g2 : (s[k].toNat : Int) < 48 := by omega
          go_wp2
          go_ret
          exact ⟨rfl, rfl⟩
        · by_cases h3 : 57 < s[k].toNat
          · have g2 : ¬ (s[k].toNat : Int) < 48 := by omega
            have g3 : (57 : Int) < (s[k].toNat : Int) := by omega
            go_wp2
            go_ret
            exact ⟨rfl, rfl⟩
          · have g2 : ¬ (s[k].toNat : Int) < 48 := by omega
            have g3 : ¬ (57 : Int) < (s[k].toNat : Int) := by omega
            have hkj : k < j := by
              rcases Nat.lt_or_ge k j with h | h
              · exact h
              · obtain rfl : k = j := by omega
                rcases HJ.out with h | h
                · exact absurd h h2
                · exact absurd h h3
            go_wp2
            go_round
            case rel => exact ⟨k + 1, by omega, by go_num⟩
            case measure => simp [intOf]; omega
/-- The digits of a text. -/
def dg (s : ByteArray) : List Nat := s.data.toList.map fun c => c.toNat - 48
def Digits (s : ByteArray) : Prop := ∀ i (h : i < s.size), 48 ≤ s[i].toNat ∧ s[i].toNat ≤ 57
theorem dg_length (s : ByteArray) : (dg s).length = s.size := by simp [dg]
theorem dg_get (s : ByteArray) (i : Nat) (h : i < s.size) : (dg s)[i]? = some (s[i].toNat - 48) := by
  simp [dg, h]
  rfl
theorem dg_take_succ (s : ByteArray) (i : Nat) (h : i < s.size) : (dg s).take (i + 1) = (dg s).take i ++ [s[i].toNat - 48] := by
  rw [List.take_add_one, dg_get s i h]; rfl
theorem dg_le (s : ByteArray) (h : Digits s) : ∀ d ∈ dg s, d ≤ 9 := by
  intro d hd
  obtain ⟨i, hi⟩ := List.mem_iff_getElem?.1 hd
  have hlt : i < s.size := by
    have := (List.getElem?_eq_some_iff.1 hi).1
    rwa [dg_length] at this
  rw [dg_get s i hlt] at hi
  have := h i hlt
  simp at hi
  omega
set_option maxHeartbeats 1000000 in
set_option maxRecDepth 100000 in
theorem fromDigits_yes (s : ByteArray) (w : World) (hs : s.size ≤ 400) (hd : Digits s) (hv : val (dg s) < bb ^ 32) :
    Calls Try.prog 58 #[.string s] w fun e w' => e = .returned (.tuple #[.agg (wc (val (dg s))).toArray, .bool true]) ∧ Below w.heap.size w w' := by
  have HD := Lib.hid hd
  have HV := Lib.hid hv
  clear hd hv
  have b1 := (Blk.new w (wc 0) 25 rfl).old (.cells (wc 0).toArray 25)
  have b2 := Blk.new (w.alloc (.cells (wc 0).toArray 25)) (wc 0) 25 (b := w.heap.size + 1) (by simp)
  have hb : Below w.heap.size w ((w.alloc (.cells (wc 0).toArray 25)).alloc (.cells (wc 0).toArray 25)) := ((Below.refl _ _).alloc (Nat.le_refl _) _).alloc (by simp) _
  go_enter Try.func58, Try.ntmps58
  go_wp2_with (first | (with_reducible refine alA2 rfl rfl ?_) | (with_reducible refine alA rfl rfl ?_) | (with_reducible refine bdA0 rfl rfl ?_) | (with_reducible refine stA rfl rfl rfl rfl b2 ?_))
  go_loopg [0, 5] s.size (fun g a0 a5 wr => ∃ (r : ByteArray) (X : Nat), r.size = g ∧ r.size ≤ 400 ∧ a0 = .string r ∧ a5 = .bool true ∧ Digits r ∧ X * 10 ^ r.size + val (dg r) = val (dg s) ∧ Below w.heap.size w wr ∧ Blk wr w.heap.size (wc 0) 25 ∧ Blk wr (w.heap.size + 1) (wc X) 25)
  case atStart => exact ⟨s, 0, rfl, hs, rfl, rfl, HD.out, by omega, below_row hb (by omega) _, b1.rowOther _ (by omega), b2.row _⟩
  case round =>
    clear hb b1 b2
    obtain ⟨r, X, hg, hr, rfl, rfl, hdr, hval, hb, b1, b2⟩ := hrel
    subst hg
    have HDr := Lib.hid hdr
    have HVal := Lib.hid hval
    clear hdr hval
    have hXv : X * 10 ^ r.size ≤ val (dg s) := by have := HVal.out; omega
    have HX : Hid (X < bb ^ 32) := by
      show X < bb ^ 32
      have h1 : X ≤ X * 10 ^ r.size := Nat.le_mul_of_pos_right X (Nat.pow_pos (by decide))
      have := HV.out
      omega
    clear hXv
    by_cases h0 : 0 < r.size
    · have h0' : (0 : Int) < (r.size : Int) := by omega
      obtain ⟨t, ht⟩ : ∃ t : Nat, min (r.size : Int) 9 = (t : Int) := ⟨min r.size 9, by omega⟩
      have ht9 : t ≤ 9 := by omega
      have htr : t ≤ r.size := by omega
      have ht1 : 0 < t := by omega
      have HT := Lib.hid ht
      clear ht
      go_wp2_with (first | (with_reducible refine bmin rfl rfl rfl ?_))
      rw [HT.out]
      go_loopw [7, 8, 18] (fun a7 a8 a18 wx => wx = wr ∧ ∃ i : Nat, i ≤ t ∧ a18 = .int .i64 i ∧ a7 = .int .u32 (val ((dg r).take i) : Nat) ∧ a8 = .int .u32 ((10 ^ i : Nat) : Int)) (fun _ _ a18 _ => t - (intOf a18).toNat)
      case atStart => exact ⟨rfl, 0, Nat.zero_le _, rfl, rfl, rfl⟩
      case round =>
        obtain ⟨rfl, i, hi, rfl, rfl, rfl⟩ := hrel
        have hyl : val ((dg r).take i) < 10 ^ i := by
          have h1 := val_lt ((dg r).take i) (fun d hd => dg_le r HDr.out d (List.mem_of_mem_take hd))
          rwa [List.length_take, dg_length, Nat.min_eq_left (by omega)] at h1
        by_cases hlt : i < t
        · have hir : i < r.size := by omega
          have hz8 : 10 ^ i ≤ 100000000 := Nat.pow_le_pow_right (n := 10) (by decide) (show i ≤ 8 by omega)
          have hdi := HDr.out i hir
          have hsn := val_snoc ((dg r).take i) (r[i].toNat - 48)
          rw [← dg_take_succ r i hir] at hsn
          have HSN := Lib.hid hsn
          have HPW : Hid (10 ^ (i + 1) = 10 ^ i * 10) := Nat.pow_succ ..
          clear hsn
          obtain ⟨c, hc⟩ : ∃ c : Nat, r[i].toNat = c := ⟨_, rfl⟩
          have HC := Lib.hid hc
          rw [hc] at hdi HSN
          have hcl := hdi.1
          have hcu := hdi.2
          clear hdi hc
          have hci : (r[i].toNat : Int) = (c : Int) := by rw [HC.out]
          generalize val ((dg r).take i) = y at *
          generalize hzz : 10 ^ i = z at *
          clear hzz
          have hy8 : y ≤ 99999999 := by omega
          clear hyl
          go_wp2
          go_roundw
          case rel => exact ⟨trivial, i + 1, by omega, by go_num, int_eq (by rw [HSN.out]; omega), int_eq (by rw [HPW.out]; omega)⟩
          case measure => simp [intOf]; omega
        · obtain rfl : i = t := by omega
          have hz9 : 10 ^ i ≤ 1000000000 := Nat.pow_le_pow_right (n := 10) (by decide) ht9
          have hap : val (dg r) = val ((dg r).take i) * 10 ^ (r.size - i) + val ((dg r).drop i) := by
            conv => lhs; rw [← List.take_append_drop i (dg r), val_append, List.length_drop, dg_length]
          have htot : (X * 10 ^ i + val ((dg r).take i)) * 10 ^ (r.size - i) + val ((dg r).drop i) = val (dg s) := by
            have := HVal.out
            have hp : 10 ^ r.size = 10 ^ i * 10 ^ (r.size - i) := by rw [← Nat.pow_add]; congr 1; omega
            rw [hap, hp, ← Nat.mul_assoc] at this
            rw [Nat.add_mul]
            omega
          have HTot := Lib.hid htot
          have HXn : Hid (X * 10 ^ i + val ((dg r).take i) < bb ^ 32) := by
            show X * 10 ^ i + val ((dg r).take i) < bb ^ 32
            have h1 := Nat.le_mul_of_pos_right (X * 10 ^ i + val ((dg r).take i)) (show 0 < 10 ^ (r.size - i) from Nat.pow_pos (by decide))
            have := HV.out
            omega
          clear hap htot
          obtain ⟨y, hy⟩ : ∃ y, val ((dg r).take i) = y := ⟨_, rfl⟩
          obtain ⟨z, hz⟩ : ∃ z, 10 ^ i = z := ⟨_, rfl⟩
          rw [hy, hz] at hyl HTot HXn
          rw [hy, hz]
          rw [hz] at hz9
          clear hy hz
          go_wp2_with (first | (with_reducible refine ldA rfl rfl rfl b2 ?_))
          refine (timesPlus_yes X z y _ HX.out (by omega) (by omega) HXn.out).mono ?_
          rintro e w1 ⟨rfl, hb1⟩
          replace b1 := b1.call hb1
          replace b2 := b2.call hb1
          replace hb := bthen hb hb1
          clear hb1
          have htr' : (i : Int) ≤ (r.size : Int) := by omega
          generalize hXX : X * z + y = X1 at *
          clear hXX
          go_wp2_with (first | (with_reducible refine stA rfl rfl rfl rfl b2 ?_))
          go_roundg (r.size - i)
          case measure => omega
          case rel =>
            refine ⟨r.extract i r.size, X1, ?_, ?_, rfl, rfl, ?_, ?_, below_row hb (by omega) _, b1.rowOther _ (by omega), b2.row _⟩
            · simp
            · simp; omega
            · intro j hj
              have hj' : i + j < r.size := by simp at hj; omega
              have := HDr.out (i + j) hj'
              rw [ByteArray.getElem_extract]
              exact this
            · rw [show (r.extract i r.size).size = r.size - i by simp, show dg (r.extract i r.size) = (dg r).drop i by simp [dg, ByteArray.data_extract]; rw [List.take_of_length_le (by simp)]]
              exact HTot.out
    · have hr0 : r.size = 0 := by omega
      have hz : ¬ (0 : Int) < (r.size : Int) := by omega
      have HE : Hid (X = val (dg s)) := by
        show X = val (dg s)
        have h1 : dg r = [] := List.eq_nil_of_length_eq_zero (by rw [dg_length]; exact hr0)
        have := HVal.out
        rw [hr0, h1, val_nil] at this
        omega
      clear hr0
      go_wp2_with (first | (with_reducible refine ldA rfl rfl rfl b2 ?_) | (with_reducible refine stA rfl rfl rfl rfl b1 ?_))
      refine ret_ct (v := .bool true) (cs := wc X) rfl rfl rfl rfl (whole23 _) (b1.row _) ⟨?_, below_row hb (Nat.le_refl _) _⟩
      rw [HE.out]
theorem ne_zero_text {s : ByteArray} (h0 : 0 < s.size) (h : s[0].toNat ≠ 48 ∨ s.size ≠ 1) : (s.toList == [48]) = false := by
  rw [beq_eq_false_iff_ne, ByteArray.toList_eq]
  intro e
  have h1 : s.size = 1 := by have := congrArg List.length e; simpa using this
  rcases h with h | h
  · apply h
    have h2 : s.data.toList[0]? = some 48 := by rw [e]; rfl
    have h3 : s.data.toList[0]? = some s[0] := by simp [h0]; rfl
    rw [h3] at h2
    rw [Option.some.inj h2]; rfl
  · exact h h1
set_option maxHeartbeats 1000000 in
set_option maxRecDepth 100000 in
theorem Parse_pos (s : ByteArray) (w : World) (hs : s.size ≤ 400) (h0 : 0 < s.size) (hd : Digits s) (h1 : s[0].toNat ≠ 48) (hv : val (dg s) < bb ^ 32) :
    Calls Try.prog 33 #[.string s] w fun e w' => e = .returned (.tuple #[.agg (mk (val (dg s) : Nat)).toArray, .bool true]) ∧ Below w.heap.size w w' := by
  have HD := Lib.hid hd
  have HV := Lib.hid hv
  have H1 := Lib.hid h1
  have HR0 := Lib.hid h0
  have HRs := Lib.hid hs
  have hd0 := hd 0 h0
  have h45 : ((s[0].toNat : Int) == 45) = false := by rw [beq_eq_false_iff_ne]; omega
  have h400 : ¬ (400 : Int) < (s.size : Int) := by omega
  have h0' : (0 : Int) < (s.size : Int) := by omega
  have hne := ne_zero_text h0 (.inl h1)
  clear hd hv h1 hd0
  have b1 := Blk.new w (wd false 0) 27 rfl
  have hb : Below w.heap.size w (w.alloc (.cells (wd false 0).toArray 27)) := (Below.refl _ _).alloc (Nat.le_refl _) _
  go_enter Try.func33, Try.ntmps33
  go_wp2_with (first | (with_reducible refine alW rfl rfl ?_))
  refine (plainDigits_yes s _ HRs.out HR0.out HD.out H1.out).mono ?_
  rintro e w1 ⟨rfl, rfl⟩
  go_wp2_with fail
  refine (fromDigits_yes s _ HRs.out HD.out HV.out).mono ?_
  rintro e w1 ⟨rfl, hb1⟩
  have a3 := Blk.new w1 (wc 0) 25 rfl
  have hsz : w.heap.size < w1.heap.size := (b1.call hb1).lt
  have d1 := ((b1.call hb1).old (.cells (wc 0).toArray 25)).rowOther (g := w1.heap.size) (wc (val (dg s))).toArray (by omega)
  have d3 := a3.row (wc (val (dg s)))
  have hb' := below_row ((bthen hb hb1).alloc (Nat.le_of_lt hsz) (.cells (wc 0).toArray 25)) (g := w1.heap.size) (by omega) (wc (val (dg s))).toArray
  go_wp2_with (first | (with_reducible refine alA rfl rfl ?_) | (with_reducible refine stA rfl rfl rfl rfl a3 ?_) | (with_reducible refine ldA rfl rfl rfl d3 ?_))
  refine (fitting_yes false (val (dg s)) _ HV.out).mono ?_
  rintro e w2 ⟨rfl, hb2⟩
  have f1 := d1.call hb2
  go_wp2_with (first | (with_reducible refine stM rfl rfl rfl rfl f1 (wd_length _ _) ?_))
  exact ret_ct (v := .bool true) rfl rfl rfl rfl (wholeM _) (f1.row _) ⟨rfl, below_row (bthen hb' hb2) (Nat.le_refl _) _⟩
set_option maxHeartbeats 1000000 in
set_option maxRecDepth 100000 in
theorem Parse_neg (s r : ByteArray) (w : World) (hs : s.size ≤ 400) (h0 : 0 < s.size) (h45 : s[0].toNat = 45) (hr : s.extract 1 s.size = r) (hr0 : 0 < r.size) (hd : Digits r) (h1 : r[0].toNat ≠ 48) (hv : val (dg r) < bb ^ 32) :
    Calls Try.prog 33 #[.string s] w fun e w' => e = .returned (.tuple #[.agg (mk (-(val (dg r) : Nat))).toArray, .bool true]) ∧ Below w.heap.size w w' := by
  have hrs : r.size = s.size - 1 := by rw [← hr]; simp
  have HD := Lib.hid hd
  have HV := Lib.hid hv
  have H1 := Lib.hid h1
  have HR0 := Lib.hid hr0
  have HRs : Hid (r.size ≤ 400) := by
    show r.size ≤ 400
    omega
  have HR := Lib.hid hr
  have h45' : ((s[0].toNat : Int) == 45) = true := by rw [beq_iff_eq]; omega
  have h400 : ¬ (400 : Int) < (s.size : Int) := by omega
  have h0' : (0 : Int) < (s.size : Int) := by omega
  have hne := ne_zero_text h0 (.inl (by omega))
  clear hd hv h1 hr h45 hrs
  have b1 := Blk.new w (wd false 0) 27 rfl
  have hb : Below w.heap.size w (w.alloc (.cells (wd false 0).toArray 27)) := (Below.refl _ _).alloc (Nat.le_refl _) _
  go_enter Try.func33, Try.ntmps33
  go_wp2_with (first | (with_reducible refine alW rfl rfl ?_))
  rw [HR.out]
  refine (plainDigits_yes r _ HRs.out HR0.out HD.out H1.out).mono ?_
  rintro e w1 ⟨rfl, rfl⟩
  go_wp2_with fail
  refine (fromDigits_yes r _ HRs.out HD.out HV.out).mono ?_
  rintro e w1 ⟨rfl, hb1⟩
  have a3 := Blk.new w1 (wc 0) 25 rfl
  have hsz : w.heap.size < w1.heap.size := (b1.call hb1).lt
  have d1 := ((b1.call hb1).old (.cells (wc 0).toArray 25)).rowOther (g := w1.heap.size) (wc (val (dg r))).toArray (by omega)
  have d3 := a3.row (wc (val (dg r)))
  have hb' := below_row ((bthen hb hb1).alloc (Nat.le_of_lt hsz) (.cells (wc 0).toArray 25)) (g := w1.heap.size) (by omega) (wc (val (dg r))).toArray
  go_wp2_with (first | (with_reducible refine alA rfl rfl ?_) | (with_reducible refine stA rfl rfl rfl rfl a3 ?_) | (with_reducible refine ldA rfl rfl rfl d3 ?_))
  refine (fitting_yes true (val (dg r)) _ HV.out).mono ?_
  rintro e w2 ⟨rfl, hb2⟩
  have f1 := d1.call hb2
  go_wp2_with (first | (with_reducible refine stM rfl rfl rfl rfl f1 (wd_length _ _) ?_))
  exact ret_ct (v := .bool true) rfl rfl rfl rfl (wholeM _) (f1.row _) ⟨rfl, below_row (bthen hb' hb2) (Nat.le_refl _) _⟩
set_option maxHeartbeats 1000000 in
set_option maxRecDepth 100000 in
theorem Parse_zero (s : ByteArray) (w : World) (hs : s.toList = [48]) :
    Calls Try.prog 33 #[.string s] w fun e w' => e = .returned (.tuple #[.agg (mk 0).toArray, .bool true]) ∧ Below w.heap.size w w' := by
  have hne : (s.toList == [48]) = true := by rw [beq_iff_eq]; exact hs
  have h1 : s.size = 1 := by rw [ByteArray.toList_eq] at hs; have := congrArg List.length hs; simpa using this
  have h400 : ¬ (400 : Int) < (s.size : Int) := by omega
  clear hs h1
  have b1 := Blk.new w (wd false 0) 27 rfl
  have hb : Below w.heap.size w (w.alloc (.cells (wd false 0).toArray 27)) := (Below.refl _ _).alloc (Nat.le_refl _) _
  go_enter Try.func33, Try.ntmps33
  go_wp2_with (first | (with_reducible refine alW rfl rfl ?_) | (with_reducible refine bdW0 rfl rfl ?_) | (with_reducible refine stW rfl rfl rfl rfl b1 ?_))
  exact ret_ct (v := .bool true) rfl rfl rfl rfl (whole25 _ _) (b1.row _) ⟨rfl, below_row hb (Nat.le_refl _) _⟩
/-- No sign ahead, and no plain digits. -/
theorem Parse_bad (s : ByteArray) (w : World) (hs : s.size ≤ 400) (hz : (s.toList == [48]) = false) (h45 : ∀ h : 0 < s.size, s[0].toNat ≠ 45) (hb0 : s.size = 0 ∨ (∃ h : 0 < s.size, s[0].toNat = 48) ∨ ∃ i, ∃ h : i < s.size, s[i].toNat < 48 ∨ 57 < s[i].toNat) :
    Calls Try.prog 33 #[.string s] w fun e w' => e = .returned (.tuple #[.agg (mk 0).toArray, .bool false]) ∧ Below w.heap.size w w' := by
  have h400 : ¬ (400 : Int) < (s.size : Int) := by omega
  have HB := Lib.hid hb0
  have b1 := Blk.new w (wd false 0) 27 rfl
  have hb : Below w.heap.size w (w.alloc (.cells (wd false 0).toArray 27)) := (Below.refl _ _).alloc (Nat.le_refl _) _
  clear hb0
  by_cases h0 : 0 < s.size
  · have h0' : (0 : Int) < (s.size : Int) := by omega
    have h45' : ((s[0].toNat : Int) == 45) = false := by rw [beq_eq_false_iff_ne]; have := h45 h0; omega
    clear h45
    go_enter Try.func33, Try.ntmps33
    go_wp2_with (first | (with_reducible refine alW rfl rfl ?_))
    refine (plainDigits_no s _ (by omega) HB.out).mono ?_
    rintro e w1 ⟨rfl, rfl⟩
    go_wp2_with (first | (with_reducible refine bdW0 rfl rfl ?_) | (with_reducible refine stW rfl rfl rfl rfl b1 ?_))
    exact ret_ct (v := .bool false) rfl rfl rfl rfl (whole25 _ _) (b1.row _) ⟨rfl, below_row hb (Nat.le_refl _) _⟩
  · have h0' : ¬ (0 : Int) < (s.size : Int) := by omega
    clear h45
    go_enter Try.func33, Try.ntmps33
    go_wp2_with (first | (with_reducible refine alW rfl rfl ?_))
    refine (plainDigits_no s _ (by omega) HB.out).mono ?_
    rintro e w1 ⟨rfl, rfl⟩
    go_wp2_with (first | (with_reducible refine bdW0 rfl rfl ?_) | (with_reducible refine stW rfl rfl rfl rfl b1 ?_))
    exact ret_ct (v := .bool false) rfl rfl rfl rfl (whole25 _ _) (b1.row _) ⟨rfl, below_row hb (Nat.le_refl _) _⟩
/-- A sign ahead, and no plain digits behind it. -/
theorem Parse_badneg (s r : ByteArray) (w : World) (hs : s.size ≤ 400) (h0 : 0 < s.size) (h45 : s[0].toNat = 45) (hr : s.extract 1 s.size = r) (hb0 : r.size = 0 ∨ (∃ h : 0 < r.size, r[0].toNat = 48) ∨ ∃ i, ∃ h : i < r.size, r[i].toNat < 48 ∨ 57 < r[i].toNat) :
    Calls Try.prog 33 #[.string s] w fun e w' => e = .returned (.tuple #[.agg (mk 0).toArray, .bool false]) ∧ Below w.heap.size w w' := by
  have h400 : ¬ (400 : Int) < (s.size : Int) := by omega
  have hrs : r.size = s.size - 1 := by rw [← hr]; simp
  have HRs : Hid (r.size ≤ 500) := by
    show r.size ≤ 500
    omega
  have HB := Lib.hid hb0
  have HR := Lib.hid hr
  have b1 := Blk.new w (wd false 0) 27 rfl
  have hb : Below w.heap.size w (w.alloc (.cells (wd false 0).toArray 27)) := (Below.refl _ _).alloc (Nat.le_refl _) _
  have h0' : (0 : Int) < (s.size : Int) := by omega
  have h45' : ((s[0].toNat : Int) == 45) = true := by rw [beq_iff_eq]; omega
  have hne := ne_zero_text h0 (.inl (by omega))
  clear hb0 hr h45 hrs
  go_enter Try.func33, Try.ntmps33
  go_wp2_with (first | (with_reducible refine alW rfl rfl ?_))
  rw [HR.out]
  refine (plainDigits_no r _ HRs.out HB.out).mono ?_
  rintro e w1 ⟨rfl, rfl⟩
  go_wp2_with (first | (with_reducible refine bdW0 rfl rfl ?_) | (with_reducible refine stW rfl rfl rfl rfl b1 ?_))
  exact ret_ct (v := .bool false) rfl rfl rfl rfl (whole25 _ _) (b1.row _) ⟨rfl, below_row hb (Nat.le_refl _) _⟩
end Go.Proofs.Ytcbhmmeobkhomaa

/- Wides held against each other by == and !=. -/
namespace Go.Proofs.Ytcbhmmeobkhomaa
set_option linter.unusedSimpArgs false
set_option linter.unusedVariables false
open Go.RowKit
set_option maxRecDepth 100000
theorem part22 (N i : Nat) (hi : i < 32) (w : World) : (part 24 (wc N).toArray i).run Try.prog w = .ok (.int .u32 (dig N i : Nat)) w := by
  have h := wc_get N i hi
  have ha : (isAgg 24).run Try.prog w = .ok false w := by kernel_rfl
  unfold part
  simp [Sem.run_bind, ha, h]
/-- Are the words at these places alike? -/
def eqW (N M : Nat) (l : List Nat) : Bool := l.all fun i => decide (dig N i = dig M i)
theorem eq23_loop (d N M : Nat) (w : World) : ∀ l : List Nat, (∀ i ∈ l, i < 32) →
    (forIn l ((none, ()) : Option Bool × Unit) fun i __s => do
            let __do_lift ← part 24 (wc N).toArray (i * 1)
            let __do_lift_1 ← part 24 (wc M).toArray (i * 1)
            let __do_lift ← Op.equalIn (d + 1) 24 __do_lift __do_lift_1
            if (!__do_lift) = true then pure (ForInStep.done (some false, ())) else pure (ForInStep.yield (none, ()))).run Try.prog w = .ok (if eqW N M l then none else some false, ()) w
  | [], _ => by simp [eqW]
  | i :: l, h => by
    have hi := h i (List.mem_cons_self ..)
    have h22 : Try.prog.underlying 24 = some (.int .u32) := by kernel_rfl
    have ih := eq23_loop d N M w l fun j hj => h j (List.mem_cons_of_mem _ hj)
    rw [List.forIn_cons]
    simp only [Sem.run_bind, Nat.mul_one, part22 N i hi, part22 M i hi, Result.andThen_ok, run_equalIn_int w d 24 .u32 .u32 _ _ h22]
    by_cases he : dig N i = dig M i
    · have hb : ((dig N i : Int) == (dig M i : Int)) = true := by rw [he]; simp
      simp only [hb, Bool.not_true, Bool.false_eq_true, if_false, Sem.run_pure, Result.andThen_ok]
      simp only [Nat.mul_one, Sem.run_bind] at ih
      rw [show eqW N M (i :: l) = eqW N M l by simp [eqW, he]]
      simpa only [Nat.mul_one] using ih
    · have hb : ((dig N i : Int) == (dig M i : Int)) = false := by rw [beq_eq_false_iff_ne]; omega
      simp only [hb, Bool.not_false, if_true, Sem.run_pure, Result.andThen_ok]
      rw [show eqW N M (i :: l) = false by simp [eqW, he]]
      rfl
theorem eq23 (d N M : Nat) (w : World) : (Op.equalIn (d + 2) 25 (.agg (wc N).toArray) (.agg (wc M).toArray)).run Try.prog w = .ok (eqW N M (List.range' 0 32)) w := by
  have hs : ∀ w, (sizeOf 24).run Try.prog w = .ok 1 w := fun w => by kernel_rfl
  rw [Op.equalIn]
  simp only [Sem.run_bind, run_underlying under23, Result.andThen_ok, hs, Std.Legacy.Range.forIn_eq_forIn_range']
  have h := eq23_loop d N M w (List.range' 0 32) (fun i hi => by simp at hi; omega)
  have e : (List.range' 0 [:32].size) = List.range' 0 32 := rfl
  rw [e, h]
  cases eqW N M (List.range' 0 32) <;> rfl
/-- Numbers whose words are alike are alike. -/
theorem mod_eq_of_dig (N M : Nat) : ∀ k, (∀ i, i < k → dig N i = dig M i) → N % bb ^ k = M % bb ^ k
  | 0, _ => by simp [Nat.mod_one]
  | k + 1, h => by rw [mod_succ, mod_succ, mod_eq_of_dig N M k (fun i hi => h i (by omega)), h k (by omega)]
theorem eqW_iff {N M : Nat} (hN : N < bb ^ 32) (hM : M < bb ^ 32) : eqW N M (List.range' 0 32) = decide (N = M) := by
  rw [Bool.eq_iff_iff]
  simp only [eqW, List.all_eq_true, decide_eq_true_eq]
  constructor
  · intro h
    have := mod_eq_of_dig N M 32 (fun i hi => h i (by simp; omega))
    rwa [Nat.mod_eq_of_lt hN, Nat.mod_eq_of_lt hM] at this
  · rintro rfl i _; rfl
theorem extract_wd (s : Bool) (N : Nat) : (wd s N).toArray.extract 1 (1 + 32) = (wc N).toArray := by
  rw [List.extract_toArray]
  simp [wd, List.extract_eq_take_drop, List.take_of_length_le, wc_length]
/-- The two fields of a Wide. -/
noncomputable def fld (i : Nat) : Field := ((Try.prog.fieldsOf 27)[i]?).getD default
theorem flds : (Try.prog.fieldsOf 27).toList = [fld 0, fld 1] := by kernel_rfl
theorem fld0 : decide ((fld 0).name ≠ "_") = true ∧ (fld 0).type = 4 ∧ (fld 0).offset = 0 := ⟨by kernel_rfl, by kernel_rfl, by kernel_rfl⟩
theorem fld1 : decide ((fld 1).name ≠ "_") = true ∧ (fld 1).type = 25 ∧ (fld 1).offset = 1 := ⟨by kernel_rfl, by kernel_rfl, by kernel_rfl⟩
theorem part25b (s : Bool) (N : Nat) (w : World) : (part 4 (wd s N).toArray 0).run Try.prog w = .ok (.bool s) w := by
  have ha1 : (isAgg 4).run Try.prog w = .ok false w := by kernel_rfl
  unfold part; simp [Sem.run_bind, ha1, wd]
theorem part25a (s : Bool) (N : Nat) (w : World) : (part 25 (wd s N).toArray 1).run Try.prog w = .ok (.agg (wc N).toArray) w := by
  have ha2 : (isAgg 25).run Try.prog w = .ok true w := by kernel_rfl
  have hs2 : (sizeOf 25).run Try.prog w = .ok 32 w := by kernel_rfl
  unfold part
  simp only [Sem.run_bind, ha2, hs2, Result.andThen_ok, if_true, extract_wd, Sem.run_pure]
theorem eq25 (s t : Bool) (N M : Nat) (hN : N < bb ^ 32) (hM : M < bb ^ 32) (w : World) : (Op.equalIn 10000 27 (.agg (wd s N).toArray) (.agg (wd t M).toArray)).run Try.prog w = .ok (decide (s = t ∧ N = M)) w := by
  have hst : Try.prog.underlying 27 = some (.struct (Try.prog.fieldsOf 27)) := by kernel_rfl
  have hb : Try.prog.underlying 4 = some .bool := by kernel_rfl
  obtain ⟨f1, f2, f3⟩ := fld0
  obtain ⟨g1, g2, g3⟩ := fld1
  rw [run_equalIn_struct w 9999 27 _ _ hst (by kernel_rfl), flds]
  rw [Op.eqFields, if_pos (of_decide_eq_true f1), f2, f3, Op.eqFields, if_pos (of_decide_eq_true g1), g2, g3, Op.eqFields]
  have e2 := eq23 9997 N M w
  rw [eqW_iff hN hM] at e2
  rw [Sem.run_bind, part25b, Result.andThen_ok, Sem.run_bind, part25b, Result.andThen_ok, Sem.run_bind, run_equalIn_bool' w 9998 _ _ _ hb, Result.andThen_ok]
  by_cases hst : s = t
  · subst hst
    rw [if_neg (by simp), Sem.run_bind, part25a, Result.andThen_ok, Sem.run_bind, part25a, Result.andThen_ok, Sem.run_bind, e2, Result.andThen_ok]
    by_cases h : N = M
    · simp [h]
    · simp [h]
  · rw [if_pos (by simpa using hst)]
    simp [hst]
theorem run_eqlW (s t : Bool) (N M : Nat) (hN : N < bb ^ 32) (hM : M < bb ^ 32) (x y : Operand) (w : World) :
    (do eqGuard .eql 27 x y (.agg (wd s N).toArray) (.agg (wd t M).toArray); binOp .eql 27 (.agg (wd s N).toArray) (.agg (wd t M).toArray)).run Try.prog w = .ok (.bool (decide (s = t ∧ N = M))) w := by
  rw [Sem.run_bind, run_eqGuard_agg w .eql 27 x y _ _ (by kernel_rfl), Result.andThen_ok, run_eql_struct, eq25 s t N M hN hM]
  rfl
theorem run_neqW (s t : Bool) (N M : Nat) (hN : N < bb ^ 32) (hM : M < bb ^ 32) (x y : Operand) (w : World) :
    (do eqGuard .neq 27 x y (.agg (wd s N).toArray) (.agg (wd t M).toArray); binOp .neq 27 (.agg (wd s N).toArray) (.agg (wd t M).toArray)).run Try.prog w = .ok (.bool (!decide (s = t ∧ N = M))) w := by
  rw [Sem.run_bind, run_eqGuard_agg w .neq 27 x y _ _ (by kernel_rfl), Result.andThen_ok, run_neq_struct, eq25 s t N M hN hM]
  rfl
/-- The comparing of two Wides, as an operation. -/
theorem op_eq {o : Oper} {a : Act} {x y : Operand} {s t : Bool} {N M : Nat} {ty : TypeId} (hN : N < bb ^ 32) (hM : M < bb ^ 32) (ho : o.op = .binOp .eql 27 x y ty) (hx : a.eval x = .agg (wd s N).toArray) (hy : a.eval y = .agg (wd t M).toArray) (w : World) :
    (execOp a.eval o).run Try.prog w = .ok (.value (.bool (decide (s = t ∧ N = M)))) w := by
  unfold execOp
  simp only [ho, hx, hy]
  rw [Sem.run_bind, run_eqlW s t N M hN hM]
  rfl
theorem op_eqM {o : Oper} {a : Act} {x y : Operand} {z : Int} {ty : TypeId} (hz : fits z) (ho : o.op = .binOp .eql 27 x y ty) (hx : a.eval x = .agg (mk z).toArray) (hy : a.eval y = .agg (mk z).toArray) (w : World) :
    (execOp a.eval o).run Try.prog w = .ok (.value (.bool true)) w := by
  rw [op_eq hz hz ho hx hy w]
  simp
theorem op_neqM {o : Oper} {a : Act} {x y : Operand} {z : Int} {ty : TypeId} (hz : fits z) (ho : o.op = .binOp .neq 27 x y ty) (hx : a.eval x = .agg (mk z).toArray) (hy : a.eval y = .agg (mk z).toArray) (w : World) :
    (execOp a.eval o).run Try.prog w = .ok (.value (.bool false)) w := by
  unfold execOp
  simp only [ho, hx, hy]
  unfold mk
  rw [Sem.run_bind, run_neqW _ _ _ _ hz hz]
  simp
end Go.Proofs.Ytcbhmmeobkhomaa

/- The laws' own examples: what known answers. -/
namespace Go.Proofs.Ytcbhmmeobkhomaa
open Go.RowKit
set_option maxRecDepth 100000
theorem divOk_small {B : Nat} (h : B < bb ^ 2) : DivOk B := fun N M w hN hM h0 => by
  have hN2 : N < bb ^ 2 := by omega
  have hM2 : M < bb ^ 2 := by omega
  have hN' := Nat.lt_of_lt_of_le hN2 (bp_mono (show 2 ≤ 32 by omega))
  have hM' := Nat.lt_of_lt_of_le hM2 (bp_mono (show 2 ≤ 32 by omega))
  rcases Nat.lt_or_ge (nw N) (nw M) with h1 | h1
  · exact divide_less N M w hN' hM' h1
  · exact divide_two N M w hN' hM' h0 h1 (nw_le_of hN2)
theorem small_fits {n : Int} (h1 : -1000 ≤ n) (h2 : n ≤ 1000) : fits n := fits_of (by omega) (by omega)
theorem small_w {n : Int} (h1 : -1000 ≤ n) (h2 : n ≤ 1000) : Wd (mk n) n := wd_of (small_fits h1 h2)
theorem k_mul (w : World) : Calls Try.prog 55 #[.agg (mk (-3)).toArray, .agg (mk 4).toArray] w fun e w' => e = .returned (.tuple #[.agg (mk (-12)).toArray, .bool true]) ∧ Below w.heap.size w w' :=
  Mul_w (x := -3) (y := 4) (small_w (by decide) (by decide)) (small_w (by decide) (by decide)) w (small_fits (by decide) (by decide))
theorem k_div (w : World) : Calls Try.prog 38 #[.agg (mk (-7)).toArray, .agg (mk 2).toArray] w fun e w' => e = .returned (.tuple #[.agg (mk (-3)).toArray, .agg (mk (-1)).toArray, .bool true]) ∧ Below w.heap.size w w' :=
  DivMod_w (x := -7) (y := 2) (small_w (by decide) (by decide)) (small_w (by decide) (by decide)) (by decide) 7 (by decide) (by decide) (divOk_small (by rw [bb_eq]; decide)) w
theorem k_divz (w : World) : Calls Try.prog 38 #[.agg (mk (-12)).toArray, .agg (mk 0).toArray] w fun e w' => e = .returned (.tuple #[.agg (mk 0).toArray, .agg (mk 0).toArray, .bool false]) ∧ Below w.heap.size w w' :=
  DivMod_wz (x := -12) (small_w (by decide) (by decide)) (small_w (by decide) (by decide)) w
def t12 : ByteArray := ⟨#[45, 49, 50]⟩
def d12 : ByteArray := ⟨#[49, 50]⟩
theorem d12_digits : Digits d12 := fun i h => by
  have h2 : i < 2 := h
  rcases i with _ | _ | i
  · exact (show 48 ≤ (49 : UInt8).toNat ∧ (49 : UInt8).toNat ≤ 57 by decide)
  · exact (show 48 ≤ (50 : UInt8).toNat ∧ (50 : UInt8).toNat ≤ 57 by decide)
  · omega
theorem k_parse (w : World) : Calls Try.prog 33 #[.string t12] w fun e w' => e = .returned (.tuple #[.agg (mk (-12)).toArray, .bool true]) ∧ Below w.heap.size w w' :=
  Parse_neg t12 d12 w (by decide) (by decide) (by decide) (by decide) (by decide) d12_digits (by decide) (Nat.lt_of_lt_of_le (show val (dg d12) < bb ^ 1 by decide) (bp_mono (by omega)))
theorem held_of {n : Int} (h0 : 0 ≤ n) (h1 : n ≤ 1024) : (held n : Int) = n := by rw [← held_eq]; omega
/-- 2 to the power of 1023. -/
def big : Int := 1 * 2 ^ held 1023
theorem two_abs (k : Nat) : ((2 : Int) ^ k).natAbs = 2 ^ k := by rw [Int.natAbs_pow]; rfl
theorem bitLen_pow (k : Nat) : bitLen (2 ^ k) = k + 1 := by rw [bitLen, if_neg (Nat.ne_of_gt (Nat.two_pow_pos k)), Nat.log2_two_pow]
theorem not_dbl {A k : Nat} (h : A = 2 ^ (k + 1)) : ¬ 2 ^ k * 2 < A := by rw [h, Nat.pow_succ]; exact Nat.lt_irrefl _
theorem big_abs : big.natAbs = 2 ^ 1023 := by
  have h : held 1023 = 1023 := by have := held_of (n := 1023) (by decide) (by decide); omega
  rw [big, h, Int.one_mul, two_abs]
theorem big_fits : fits big := by
  rw [fits, big_abs, bb_pow 1024 rfl]
  exact two_lt (a := 1023) (b := 1024) (by decide)
theorem big_pos : 0 < big := by
  rw [big, Int.one_mul]; exact Int.pow_pos (by decide)
theorem big_over : ¬ fits (big + big) := by
  intro h
  rw [fits, show (big + big).natAbs = big.natAbs * 2 by have := big_pos; omega, big_abs] at h
  exact not_dbl (bb_pow (1023 + 1) rfl) h
theorem k_over (w : World) : Calls Try.prog 48 #[.agg (mk big).toArray, .agg (mk big).toArray] w fun e w' => e = .returned (.tuple #[.agg (mk 0).toArray, .bool false]) ∧ Below w.heap.size w w' :=
  Add_wn (wd_of big_fits) (wd_of big_fits) w big_over
theorem k_text (w : World) : Calls Try.prog 26 #[.agg (mk (-12)).toArray] w fun e w' => e = .returned (.string t12) ∧ Below w.heap.size w w' :=
  (Text_any true 12 w (Nat.lt_of_lt_of_le (show 12 < bb ^ 1 by decide) (bp_mono (by omega)))).mono fun _ _ ⟨he, hb⟩ => ⟨he.trans (by kernel_rfl), hb⟩
theorem k_bits (w : World) : Calls Try.prog 43 #[.agg (mk big).toArray] w fun e w' => e = .returned (.int .i64 1024) ∧ Below w.heap.size w w' :=
  (Bits_w (wd_of big_fits) w).mono fun _ _ ⟨he, hb⟩ => ⟨he.trans (by
    rw [big_abs, bitLen_pow 1023]; rfl), hb⟩
theorem k_gcd (w : World) : Calls Try.prog 42 #[.agg (mk (-12)).toArray, .agg (mk 18).toArray] w fun e w' => e = .returned (.agg (mk 6).toArray) ∧ Below w.heap.size w w' :=
  Gcd_w (x := -12) (y := 18) (small_w (by decide) (by decide)) (small_w (by decide) (by decide)) 18 (Nat.lt_of_lt_of_le (show 18 < bb ^ 1 by decide) (bp_mono (by omega))) (by decide) (by decide) (divOk_small (by rw [bb_eq]; decide)) w
theorem k_cmp (w : World) : Calls Try.prog 30 #[.agg (mk (-12)).toArray, .agg (mk 6).toArray] w fun e w' => e = .returned (.int .i64 (-1)) ∧ Below w.heap.size w w' :=
  Cmp_w (x := -12) (y := 6) (small_w (by decide) (by decide)) (small_w (by decide) (by decide)) w
theorem k_neg (w : World) : Calls Try.prog 29 #[.agg (mk (-12)).toArray] w fun e w' => e = .returned (.agg (mk 12).toArray) ∧ Below w.heap.size w w' :=
  Neg_w (x := -12) (small_w (by decide) (by decide)) w
theorem k_is (w : World) : Calls Try.prog 41 #[.agg (mk (-12)).toArray] w fun e w' => e = .returned (.bool true) ∧ Below w.heap.size w w' :=
  Is_any true 12 w (Nat.lt_of_lt_of_le (show 12 < bb ^ 1 by decide) (bp_mono (by omega)))
theorem k_isn (w : World) : Calls Try.prog 41 #[.agg (wd true 0).toArray] w fun e w' => e = .returned (.bool false) ∧ Below w.heap.size w w' :=
  Is_any true 0 w (bp_pos 32)
theorem k_from (n : Int) (h1 : -1000 ≤ n) (h2 : n ≤ 1000) (w : World) : Calls Try.prog 22 #[.int .i64 n] w fun e w' => e = .returned (.agg (mk n).toArray) ∧ Below w.heap.size w w' :=
  From_any n w (by omega) (by omega)
end Go.Proofs.Ytcbhmmeobkhomaa

/- Variables laid behind all others. -/
namespace Go.Proofs.Ytcbhmmeobkhomaa
open Go.RowKit
set_option maxRecDepth 100000
/- A variable laid behind all others, that holds z. -/
theorem laid_new (w : World) (z : Int) : Blk ((w.alloc (.cells (wd false 0).toArray 27)).setRow w.heap.size (mk z).toArray) w.heap.size (mk z) 27 := (Blk.new w (wd false 0) 27 rfl).row (mk z)
theorem laid_old {w : World} {b : Nat} {cs : List Value} {t : TypeId} (h : Blk w b cs t) (z : Int) : Blk ((w.alloc (.cells (wd false 0).toArray 27)).setRow w.heap.size (mk z).toArray) b cs t :=
  (h.old _).rowOther _ (Nat.ne_of_lt h.lt)
theorem laid_below {w W : World} (h : Below w.heap.size w W) (z : Int) : Below w.heap.size w ((W.alloc (.cells (wd false 0).toArray 27)).setRow W.heap.size (mk z).toArray) :=
  below_row (h.alloc h.size _) h.size _
theorem laid_two {w : World} {b : Nat} {cs : List Value} {t : TypeId} (h : Blk w b cs t) (z y : Int) : Blk ((((w.alloc (.cells (wd false 0).toArray 27)).alloc (.cells (wd false 0).toArray 27)).setRow w.heap.size (mk z).toArray).setRow (w.heap.size + 1) (mk y).toArray) b cs t := by
  have := h.lt
  exact (((h.old _).old _).rowOther _ (by omega)).rowOther _ (by omega)
theorem laid_below2 {w W : World} (h : Below w.heap.size w W) (z y : Int) : Below w.heap.size w ((((W.alloc (.cells (wd false 0).toArray 27)).alloc (.cells (wd false 0).toArray 27)).setRow W.heap.size (mk z).toArray).setRow (W.heap.size + 1) (mk y).toArray) := by
  have := h.size
  exact below_row (below_row ((h.alloc h.size _).alloc (by simp; omega) _) h.size _) (by omega) _
end Go.Proofs.Ytcbhmmeobkhomaa
