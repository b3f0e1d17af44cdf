/- The reference's texts: tenth, text, Text. -/
import Derived.Test.YtkknaigpdnokkaaGreatMgy
import Derived.Test.YtkknaigpdnokkaaGreatRps
namespace Go.Proofs.YtkknaigpdnokkaaGreat
set_option linter.unusedSimpArgs false
set_option linter.unusedVariables false
open Go.RowKit
set_option maxRecDepth 100000
set_option maxHeartbeats 2000000 in
theorem tenth_any {u : Value} {A : Nat} {w : World} (h : Mv w u A) (hn : nw A ≤ 1000) : Calls Tryz.prog 100 #[u] w fun e w' => ∃ v', e = .returned (.tuple #[v', .int .u32 (A % 10 : Nat)]) ∧ Mv w' v' (A / 10) ∧ Below w.heap.size w w' := by
  obtain ⟨p, c, rfl, hc, hx⟩ := h.old
  have HX := Lib.hid hx
  have HA := Lib.hid (nw_lt A)
  clear hx h
  generalize nw A = n at *
  have hm : (0 : Nat) < 10 := by decide
  obtain ⟨i0, hi, hz0, hz1, hz2⟩ := info_parts info_u32
  go_enter Tryz.func100, Tryz.ntmps100
  go_wp2_with (first | (with_reducible refine wpList_make_full _ rfl _ _ 79 rfl w.heap.size 22 i0 (.int .u32 0) 1 Tryz.underlying79 hi hz0 hz1 _ _ _ _ n rfl rfl (by omega) (by omega) (by rw [hz2]; omega) (by unfold maxLen; omega) (Nat.le_refl _) ?_))
  intro w1 ho hg
  obtain ⟨b1, hb⟩ := made_blk ho hg
  clear ho hg
  go_wp2_with fail
  go_loopw [5, 6] (fun r i wr => ∃ k : Nat, k ≤ n ∧ i = .int .i64 ((k : Int) - 1) ∧ r = .int .u64 (wrem A 10 k : Nat) ∧ Blk wr w.heap.size (ds (wquo A 10 k) n) 22 ∧ Below w.heap.size w wr) (fun _ i _ => (intOf i + 1).toNat)
  case atStart => exact ⟨n, Nat.le_refl _, by go_num, by rw [wr_top HA.out]; rfl, by rw [wq_top HA.out]; exact b1, hb⟩
  case round =>
    clear b1 hb
    obtain ⟨k, hk, rfl, rfl, b3, hb⟩ := hrel
    have hr9 : wrem A 10 k ≤ 9 := by have := wr_lt (N := A) (k := k) hm; omega
    by_cases hk0 : k = 0
    · subst hk0
      rw [wr_zero] at hr9 ⊢
      rw [wq_zero] at b3
      have HV : Hid (A / 10 < bb ^ n) := Nat.lt_of_le_of_lt (Nat.div_le_self A 10) HA.out
      obtain ⟨R, hR⟩ : ∃ R, A % 10 = R := ⟨_, rfl⟩
      rw [hR] at hr9 ⊢
      have ER := Lib.hid hR
      clear hR
      go_wp2_with fail
      refine (trim_blk (c := 0) b3 HV.out (by omega)).mono ?_
      rintro e w1 ⟨v', rfl, hv, rfl⟩
      go_wp2
      go_ret2
      exact ⟨v', by rw [ER.out]; rfl, hv, hb⟩
    · obtain ⟨j, rfl⟩ : ∃ j, k = j + 1 := ⟨k - 1, by omega⟩
      obtain ⟨b0, rfl, l0, x0⟩ := HX.out (by omega)
      have c0 := (hb.cell (p := ⟨b0, j, none⟩) l0).trans (x0 j (by omega))
      have d0 := dig_le A j
      have HW := Lib.hid (wr_step (N := A) (m := 10) (k := j))
      have HQ := Lib.hid (wq_put (N := A) (m := 10) (k := j) hm)
      have HL := Lib.hid (w_lt (N := A) (m := 10) (k := j) hm)
      have s0 := or_join (wrem A 10 (j + 1)) (dig A j) (by omega) d0
      have f3 := b3.frozen j
      have c3 := b3.cell (i := j) (ds_get (by omega))
      have hjn : (j : Int) < (n : Int) := by omega
      clear x0 HX
      generalize wrem A 10 (j + 1) = R at *
      generalize dig A j = D at *
      obtain ⟨X, hX⟩ : ∃ X, D + bb * R = X := ⟨_, rfl⟩
      rw [hX] at s0 HW HQ HL
      have hXl : X ≤ 42949672959 := by rw [bb_eq] at hX; omega
      clear hX
      obtain ⟨xq, hxq⟩ : ∃ xq, X / 10 = xq := ⟨_, rfl⟩
      obtain ⟨xr, hxr⟩ : ∃ xr, X % 10 = xr := ⟨_, rfl⟩
      rw [hxr] at HW
      rw [hxq] at HQ HL
      have e1 : (X : Int).tdiv 10 = (xq : Int) := by rw [← hxq]; exact (Int.ofNat_tdiv X 10).symm
      have e2 : (X : Int).tmod 10 = (xr : Int) := by rw [← hxr]; exact (Int.ofNat_tmod X 10).symm
      have e3 : (X : Int) / 10 = (xq : Int) := by omega
      have e4 : (X : Int) % 10 = (xr : Int) := by omega
      have hxq4 : xq ≤ 4294967295 := Nat.le_of_lt_succ (show xq < 4294967295 + 1 from HL.out)
      have hxr4 : xr ≤ 9 := by omega
      go_wp2
      go_roundw
      case rel =>
        refine ⟨j, by omega, by go_num, by rw [HW.out], ?_, hb.setCell (by exact Nat.le_refl _) _⟩
        have := b3.set j (.int .u32 (xq : Nat))
        rw [ds_set HL.out, ← HQ.out] at this
        exact this
      case measure => simp [intOf] <;> omega
def slen : Value → Nat
  | .string b => b.size
  | _ => 0
/-- The lowest c digits, as bytes. -/
def lo (c A : Nat) : ByteArray := bs ((low c A).map fun d => UInt8.ofNat (48 + d))
theorem lo_size (c A : Nat) : (lo c A).size = c := by rw [lo, bs_size, List.length_map, low_length]
theorem lo_succ (c A : Nat) : bs [UInt8.ofNat (48 + A / 10 ^ c % 10)] ++ lo c A = lo (c + 1) A := by
  rw [lo, bs_append]; rfl
set_option maxHeartbeats 2000000 in
theorem text_any {u : Value} {A : Nat} {w : World} (h : Mv w u A) (hA : A < bb ^ 32) : Calls Tryz.prog 52 #[u] w fun e w' => e = .returned (.string (bs (txt false A))) ∧ Below w.heap.size w w' := by
  by_cases h0 : A = 0
  · obtain ⟨p, c, rfl, hc, hx⟩ := h.old
    have hnw : nw A = 0 := nw_zero.2 h0
    have ET : Hid (txt false A = [48]) := by show txt false A = [48]; unfold txt; rw [if_pos h0]
    rw [hnw, ET.out]
    have hb := Below.refl w.heap.size w
    clear h hx hA h0 hnw hc
    go_enter Tryz.func52, Tryz.ntmps52
    go_wp2
    go_ret
    exact ⟨rfl, hb⟩
  · have ET : Hid (.string (bs (txt false A)) = Value.string (lo (ndig A) A)) := by
      show Value.string (bs (txt false A)) = Value.string (lo (ndig A) A)
      unfold txt lo; rw [if_neg h0]; rfl
    obtain ⟨s1, s2, s3⟩ := ndig_spec hA
    have HN : Hid (∀ c, A / 10 ^ c ≠ 0 → c < ndig A) := fun c hc => by
      rcases Nat.lt_or_ge c (ndig A) with h | h
      · exact h
      · exact absurd (Nat.div_eq_of_lt (Nat.lt_of_lt_of_le s2 (ten_mono h))) hc
    have HZ : Hid (∀ c, A / 10 ^ c = 0 → ndig A ≤ c) := fun c hc => by
      rcases Nat.lt_or_ge c (ndig A) with h | h
      · have h1 := s3 (by omega)
        have h2 : 10 ^ c ≤ A := Nat.le_trans (ten_mono (by omega)) h1
        have h3 := Nat.div_pos h2 (Nat.pow_pos (by decide))
        omega
      · exact h
    have HL : Hid (∀ c, nw (A / 10 ^ c) ≤ 1000) := fun c => by
      have := nw32.2 (Nat.lt_of_le_of_lt (Nat.div_le_self A (10 ^ c)) hA)
      omega
    have HD : Hid (∀ c, A / 10 ^ c / 10 = A / 10 ^ (c + 1)) := fun c => by rw [Nat.div_div_eq_div_mul, ← Nat.pow_succ]
    rw [ET.out]
    have H := Lib.hid h
    have hb := Below.refl w.heap.size w
    obtain ⟨p, c, rfl, hc, hx⟩ := h.old
    have hnz : ¬ (nw A : Int) = 0 := by have := mt nw_zero.1 h0; omega
    clear h hx hA h0 s2 s3 hc
    generalize nw A = n at *
    have hn5 : ((n : Int) == 0) = false := by simp; omega
    generalize hnd : ndig A = nd at *
    clear hnd
    go_enter Tryz.func52, Tryz.ntmps52
    go_wp2_with fail
    try simp only [hn5]
    go_loopw [0, 3] (fun m s wr => ∃ c : Nat, c ≤ nd ∧ s = .string (lo c A) ∧ Mv wr m (A / 10 ^ c) ∧ Below w.heap.size w wr) (fun _ s _ => 400 - slen s)
    case atStart => exact ⟨0, by omega, rfl, by rw [Nat.pow_zero, Nat.div_one]; exact H.out, hb⟩
    case round =>
      clear hb H
      obtain ⟨c, hc, rfl, hm, hb⟩ := hrel
      have HM := Lib.hid hm
      obtain ⟨p2, c2, rfl, hc2, hx2⟩ := hm.old
      clear hx2 hm hc2
      by_cases hz : A / 10 ^ c = 0
      · obtain rfl : c = nd := by have := HZ.out c hz; omega
        have hnw : nw (A / 10 ^ c) = 0 := nw_zero.2 hz
        rw [hnw]
        clear hz hnw HM
        go_wp2
        go_ret
        exact ⟨rfl, hb⟩
      · have hlt := HN.out c hz
        have hnp : (0 : Int) < (nw (A / 10 ^ c) : Int) := by have := mt nw_zero.1 hz; omega
        have TN := Lib.hid (tenth_any HM.out (HL.out c))
        rw [HD.out] at TN
        have hr9 : A / 10 ^ c % 10 ≤ 9 := by omega
        have LS := Lib.hid (lo_succ c A)
        have SZ := Lib.hid (lo_size c A)
        have SZ' := Lib.hid (lo_size (c + 1) A)
        clear hz HM HZ HN HL HD
        generalize nw (A / 10 ^ c) = n2 at *
        generalize A / 10 ^ c % 10 = R at *
        generalize A / 10 ^ c = Y at *
        generalize lo c A = S at *
        go_wp2_with fail
        refine TN.out.mono ?_
        rintro e w1 ⟨v', rfl, hv, h1⟩
        replace hb := bthen hb h1
        have hsz : ¬ 9223372036854775807 < 1 + S.size := by rw [SZ.out]; omega
        have hr48 : IntKind.u8.wrap (48 + (R : Int)) = ((48 + R : Nat) : Int) := by rw [IntKind.wrap_u8]; omega
        have cc : (w1.alloc (.cells #[.int .u8 (48 + (R : Int))] 5)).rangeAt w1.heap.size 0 ([48 + R].map fun n : Nat => Value.int .u8 (n : Int)) := by
          have := (Blk.new w1 [.int .u8 (48 + (R : Int))] 5 rfl).range
          exact this
        go_wp2_with (first | (with_reducible refine cvS rfl rfl rfl (ns := [48 + R]) rfl cc ?_))
        go_roundw
        case rel => exact ⟨c + 1, hlt, by rw [← LS.out]; simp [bs], hv.call ((Below.refl _ _).alloc (Nat.le_refl _) _), hb.alloc hb.size _⟩
        case measure =>
          have e1 : (({ data := #[48 + UInt8.ofNat R] } : ByteArray) ++ S).size = c + 1 := by
            rw [← SZ'.out, ← LS.out]; simp [bs]
          simp only [slen, e1, SZ.out]
          omega
theorem Textref_any (s : Bool) {N : Nat} (hN : N < bb ^ 32) : Tl 14 #[.agg (wd s N).toArray] (.string (bs (txt s N))) := fun w => by
  have N1 := Lib.hid (fun w => negref_any s hN w)
  have O1 := Lib.hid (fun w => of_any s hN w)
  have HN := Lib.hid hN
  obtain ⟨sn, hsn⟩ : ∃ sn : Bool, (s && decide (N ≠ 0)) = sn := ⟨_, rfl⟩
  rw [hsn] at N1
  have b1 := Blk.new w (wd s N) 25 rfl
  have hb : Below w.heap.size w (w.alloc (.cells (wd s N).toArray 25)) := (Below.refl _ _).alloc (Nat.le_refl _) _
  have hsz : (bs (txt false N)).size ≤ 400 := by
    rw [bs_size]; unfold txt
    split
    · simp
    · simp [low_length]; have := (ndig_spec hN).1; omega
  cases sn with
  | false =>
    have ET : Hid (txt s N = txt false N) := by
      show txt s N = txt false N
      unfold txt
      by_cases h0 : N = 0
      · rw [if_pos h0, if_pos h0]
      · cases s
        · rfl
        · simp [h0] at hsn
    rw [ET.out]
    clear hsn hN hsz
    go_enter Tryz.func14, Tryz.ntmps14
    go_wp2_with (first | (with_reducible refine ldWp rfl rfl rfl b1 ?_))
    refine (N1.out _).mono ?_
    rintro e w1 ⟨rfl, h1⟩
    replace b1 := b1.call h1
    replace hb := bthen hb h1
    clear h1
    go_wp2_with (first | (with_reducible refine ldWp rfl rfl rfl b1 ?_))
    refine (O1.out _).mono ?_
    rintro e w1 ⟨v, rfl, hv, h1⟩
    replace hb := bthen hb h1
    clear h1
    go_wp2_with fail
    refine (text_any hv HN.out).mono ?_
    rintro e w2 ⟨rfl, h1⟩
    replace hb := bthen hb h1
    go_wp2
    go_ret
    exact ⟨rfl, hb⟩
  | true =>
    have ET : Hid (bs (txt s N) = bs [45] ++ bs (txt false N)) := by
      show bs (txt s N) = bs [45] ++ bs (txt false N)
      simp at hsn
      obtain ⟨rfl, h0⟩ := hsn
      rw [bs_append]; unfold txt
      rw [if_neg h0, if_neg h0]; rfl
    rw [ET.out]
    clear hsn hN ET
    go_enter Tryz.func14, Tryz.ntmps14
    go_wp2_with (first | (with_reducible refine ldWp rfl rfl rfl b1 ?_))
    refine (N1.out _).mono ?_
    rintro e w1 ⟨rfl, h1⟩
    replace b1 := b1.call h1
    replace hb := bthen hb h1
    clear h1
    go_wp2_with (first | (with_reducible refine ldWp rfl rfl rfl b1 ?_))
    refine (O1.out _).mono ?_
    rintro e w1 ⟨v, rfl, hv, h1⟩
    replace hb := bthen hb h1
    clear h1
    go_wp2_with fail
    refine (text_any hv HN.out).mono ?_
    rintro e w2 ⟨rfl, h1⟩
    replace hb := bthen hb h1
    have hsz2 : ¬ 9223372036854775807 < 1 + (bs (txt false N)).size := by omega
    go_wp2
    go_ret
    exact ⟨rfl, hb⟩
end Go.Proofs.YtkknaigpdnokkaaGreat
