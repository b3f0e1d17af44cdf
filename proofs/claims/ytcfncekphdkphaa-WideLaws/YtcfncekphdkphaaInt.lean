/- wide.Int, wide.Sum. -/
import Derived.Test.YtcfncekphdkphaaGcd
namespace Go.Proofs.Ytcfncekphdkphaa
open Go.RowKit
set_option maxRecDepth 100000
theorem ret_ib {k : IntKind} {a b : Int} {c : Bool} (h : a = b) : Ending.returned (.tuple #[.int k a, .bool c]) = .returned (.tuple #[.int k b, .bool c]) := by rw [h]
set_option maxHeartbeats 1000000 in
set_option maxRecDepth 100000 in
theorem Int_yes (s : Bool) (N : Nat) (w : World) (h1 : -9223372036854775808 ≤ zn s N) (h2 : zn s N ≤ 9223372036854775807) :
    Calls Try.prog 23 #[.agg (wd s N).toArray] w fun e w' => e = .returned (.tuple #[.int .i64 (zn s N), .bool true]) ∧ Below w.heap.size w w' := by
  have hle : N ≤ 9223372036854775808 := by have := zn_abs s N; omega
  have hN2 : N < bb ^ 2 := by rw [bb_eq]; omega
  have HN : Hid (N < bb ^ 32) := Nat.lt_of_lt_of_le hN2 (bp_mono (by omega))
  have HN2 : Hid (N % bb ^ 2 = N) := Nat.mod_eq_of_lt hN2
  have hw : ¬ (2 : Int) < (nw N : Int) := by have := nw_le_of hN2; omega
  have b0 := Blk.new w (wd s N) 25 rfl
  have hb : Below w.heap.size w (w.alloc (.cells (wd s N).toArray 25)) := (Below.refl _ _).alloc (Nat.le_refl _) _
  clear hN2
  cases s
  · have h3 : (N : Int) ≤ 9223372036854775807 := h2
    have HE : Hid (zn false N = N) := rfl
    clear h1 h2 hle
    go_enter Try.func23, Try.ntmps23
    go_wp2_with (first | (with_reducible refine ldD rfl rfl rfl b0 ?_))
    refine (length_any N _ HN.out).mono ?_
    rintro e w1 ⟨rfl, hb1⟩
    replace b0 := b0.call hb1
    replace hb := bthen hb hb1
    clear hb1
    go_wp2_with (first | (with_reducible refine ldD rfl rfl rfl b0 ?_))
    refine (lowUint_small N HN2.out _).mono ?_
    rintro e w2 ⟨rfl, hb2⟩
    replace b0 := b0.call hb2
    replace hb := bthen hb hb2
    clear hb2
    have c0 := b0.cell (wd_sign false N)
    go_wp2
    go_ret2
    exact ⟨by rw [HE.out]; rfl, hb⟩
  · have h3 : (N : Int) ≤ 9223372036854775808 := by omega
    have HE : Hid (zn true N = -(N : Int)) := rfl
    clear h1 h2 hle
    have HW : Hid (wrap64 (IntKind.u64.wrap (-(N : Int))) = -(N : Int)) := by
      show wrap64 (IntKind.u64.wrap (-(N : Int))) = -(N : Int)
      rw [IntKind.wrap_u64]
      unfold wrap64
      omega
    go_enter Try.func23, Try.ntmps23
    go_wp2_with (first | (with_reducible refine ldD rfl rfl rfl b0 ?_))
    refine (length_any N _ HN.out).mono ?_
    rintro e w1 ⟨rfl, hb1⟩
    replace b0 := b0.call hb1
    replace hb := bthen hb hb1
    clear hb1
    go_wp2_with (first | (with_reducible refine ldD rfl rfl rfl b0 ?_))
    refine (lowUint_small N HN2.out _).mono ?_
    rintro e w2 ⟨rfl, hb2⟩
    replace b0 := b0.call hb2
    replace hb := bthen hb hb2
    clear hb2
    have c0 := b0.cell (wd_sign true N)
    go_wp2
    go_ret2
    exact ⟨ret_ib (HW.out.trans HE.out.symm), hb⟩
/-- A Wide is loaded out of the middle of a block. -/
theorem ldR {ops : Array Oper} {rest : List Oper} {o : Oper} {a : Act} {w : World} {Q : Exit → Act → World → Prop} {x : Operand} {b f : Nat} {cs : List Value} (hgd : o.guard = none) (ho : o.op = .load 25 x) (hx : a.eval x = .pointer (some ⟨b, f, none⟩)) (h : w.rangeAt b f cs) (hl : cs.length = 33)
    (hr : wpList Try.prog ops Q rest (a.put o.dst (.agg cs.toArray)) w) : wpList Try.prog ops Q (o :: rest) a w := by
  obtain ⟨d, hu, hd⟩ := under25
  exact wpList_load_mid hgd 25 x ho b f hx cs d h hu hd (by rw [hl]; exact size25) hr
set_option maxHeartbeats 1000000 in
set_option maxRecDepth 100000 in
theorem Sum_any (n b : Nat) (f S : Nat → Int) (w : World) (hn : n ≤ 1000) (h0 : S 0 = 0) (hS : ∀ k, k < n → S (k + 1) = S k + f k) (hfS : ∀ k, k ≤ n → fits (S k)) (hff : ∀ k, k < n → fits (f k)) (hbw : b < w.heap.size) (hr : ∀ k, k < n → w.rangeAt b (k * 33) (mk (f k))) :
    Calls Try.prog 56 #[.slice (some ⟨b, 0, none⟩) n n] w fun e w' => e = .returned (.tuple #[.agg (mk (S n)).toArray, .bool true]) ∧ Below w.heap.size w w' := by
  have H0 := Lib.hid h0
  have HS := Lib.hid hS
  have HfS := Lib.hid hfS
  have Hff := Lib.hid hff
  have Hr := Lib.hid hr
  clear h0 hS hfS hff hr
  have b1 := (Blk.new w (wd false 0) 25 rfl).old (.cells (wd false 0).toArray 25)
  have b2 := Blk.new (w.alloc (.cells (wd false 0).toArray 25)) (wd false 0) 25 (b := w.heap.size + 1) (by simp)
  have hb : Below w.heap.size w ((w.alloc (.cells (wd false 0).toArray 25)).alloc (.cells (wd false 0).toArray 25)) := ((Below.refl _ _).alloc (Nat.le_refl _) _).alloc (by simp) _
  go_enter Try.func56, Try.ntmps56
  go_wp2_with (first | (with_reducible refine alW2 rfl rfl ?_) | (with_reducible refine alW rfl rfl ?_) | (with_reducible refine bdW0 rfl rfl ?_) | (with_reducible refine stW rfl rfl rfl rfl b2 ?_))
  go_loopw [5, 11] (fun ok i wr => ∃ k : Nat, k ≤ n ∧ i = .int .i64 k ∧ ok = .bool true ∧ Below w.heap.size w wr ∧ Blk wr w.heap.size (wd false 0) 25 ∧ Blk wr (w.heap.size + 1) (mk (S k)) 25) (fun _ i _ => n - (intOf i).toNat)
  case atStart =>
    exact ⟨0, Nat.zero_le _, rfl, rfl, below_row hb (by omega) _, b1.rowOther _ (by omega), by rw [H0.out]; exact b2.row _⟩
  case round =>
    clear hb b1 b2
    obtain ⟨k, hk, rfl, rfl, hb, b1, b2⟩ := hrel
    by_cases hlt : k < n
    · have r0 : wr.rangeAt b (k * 33) (mk (f k)) := fun j v hv => by
        rw [hb.cell (p := ⟨b, k * 33 + j, none⟩) hbw]
        exact Hr.out k hlt j v hv
      have wf := wd_of (Hff.out k hlt)
      have ws := wd_of (HfS.out k (by omega))
      have HN := Lib.hid (HS.out k hlt)
      have HF : Hid (fits (S k + f k)) := by
        show fits (S k + f k)
        rw [← HS.out k hlt]; exact HfS.out (k + 1) (by omega)
      have a3 := Blk.new wr (wd false 0) 25 rfl
      have hsz : w.heap.size + 1 < wr.heap.size := b2.lt
      have d2 := (b2.old (.cells (wd false 0).toArray 25)).rowOther (g := wr.heap.size) (mk (f k)).toArray (by omega)
      have d1 := (b1.old (.cells (wd false 0).toArray 25)).rowOther (g := wr.heap.size) (mk (f k)).toArray (by omega)
      have d3 := a3.row (mk (f k))
      have hb' := below_row (hb.alloc hb.size (.cells (wd false 0).toArray 25)) (g := wr.heap.size) (by omega) (mk (f k)).toArray
      go_wp2_with (first | (with_reducible refine ldR rfl rfl rfl r0 (mk_length _) ?_) | (with_reducible refine alW rfl rfl ?_) | (with_reducible refine stM rfl rfl rfl rfl a3 (wd_length _ _) ?_) | (with_reducible refine ldM rfl rfl rfl d2 ?_) | (with_reducible refine ldM rfl rfl rfl d3 ?_))
      refine (Add_w ws wf _ HF.out).mono ?_
      rintro e w1 ⟨rfl, hb1⟩
      replace d2 := d2.call hb1
      replace d1 := d1.call hb1
      replace hb' := bthen hb' hb1
      rw [← HN.out]
      go_wp2_with (first | (with_reducible refine stM rfl rfl rfl rfl d2 (mk_length _) ?_))
      go_roundw
      case rel => exact ⟨k + 1, by omega, by go_num, rfl, below_row hb' (by omega) _, d1.rowOther _ (by omega), d2.row _⟩
      case measure => simp [intOf]; omega
    · obtain rfl : k = n := by omega
      go_wp2_with (first | (with_reducible refine ldM rfl rfl rfl b2 ?_) | (with_reducible refine stM rfl rfl rfl rfl b1 (wd_length _ _) ?_))
      exact ret_ct (v := .bool true) rfl rfl rfl rfl (wholeM _) (b1.row _) ⟨rfl, below_row hb (Nat.le_refl _) _⟩
set_option maxHeartbeats 1000000 in
set_option maxRecDepth 100000 in
theorem Sum_nil (w : World) :
    Calls Try.prog 56 #[.slice none 0 0] w fun e w' => e = .returned (.tuple #[.agg (mk 0).toArray, .bool true]) ∧ Below w.heap.size w w' := by
  have b1 := (Blk.new w (wd false 0) 25 rfl).old (.cells (wd false 0).toArray 25)
  have b2 := Blk.new (w.alloc (.cells (wd false 0).toArray 25)) (wd false 0) 25 (b := w.heap.size + 1) (by simp)
  have hb : Below w.heap.size w ((w.alloc (.cells (wd false 0).toArray 25)).alloc (.cells (wd false 0).toArray 25)) := ((Below.refl _ _).alloc (Nat.le_refl _) _).alloc (by simp) _
  have d1 := b1.rowOther (g := w.heap.size + 1) (wd false 0).toArray (by omega)
  have d2 := b2.row (wd false 0)
  go_enter Try.func56, Try.ntmps56
  go_wp2_with (first | (with_reducible refine alW2 rfl rfl ?_) | (with_reducible refine alW rfl rfl ?_) | (with_reducible refine bdW0 rfl rfl ?_) | (with_reducible refine stW rfl rfl rfl rfl b2 ?_))
  refine wp_loop_rounds 1 ?_
  rw [rounds_succ]
  go_wp2_with (first | (with_reducible refine ldW rfl rfl rfl d2 ?_) | (with_reducible refine stW rfl rfl rfl rfl d1 ?_))
  exact ret_ct (v := .bool true) rfl rfl rfl rfl (whole25 _ _) (d1.row _) ⟨rfl, below_row (below_row hb (g := w.heap.size + 1) (by omega) _) (Nat.le_refl _) _⟩
end Go.Proofs.Ytcfncekphdkphaa
