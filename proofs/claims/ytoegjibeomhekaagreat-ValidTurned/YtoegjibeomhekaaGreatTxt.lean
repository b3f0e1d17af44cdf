/- Joined of: Wrd Tpl Txt. -/
import Derived.Test.YtoegjibeomhekaaGreatInt
import Derived.Test.YtoegjibeomhekaaGreatNum
/- wide.divideWord. -/
namespace Go.Proofs.YtoegjibeomhekaaGreat
open Go.RowKit
set_option maxRecDepth 100000
set_option maxHeartbeats 1000000 in
set_option maxRecDepth 100000 in
theorem divideWord_any (N m : Nat) (w : World) (hN : N < bb ^ 32) (hm : 0 < m) (hm2 : m ≤ 4294967295) :
    Calls Tryz.prog 101 #[.agg (wc N).toArray, .int .u32 m] w fun e w' => e = .returned (.tuple #[.agg (wc (N / m)).toArray, .int .u32 (N % m : Nat)]) ∧ Below w.heap.size w w' := by
  have HN := Lib.hid hN
  have HT := Lib.hid (nw_lt N)
  have hn := nw_le_of hN
  have hm0 : ¬ m = 0 := by omega
  clear hN
  have b0 := ((Blk.new w (wc N) 41 rfl).old (.cells (wc 0).toArray 41)).old (.cells (wc 0).toArray 41)
  have b1 := (Blk.new (w.alloc (.cells (wc N).toArray 41)) (wc 0) 41 (b := w.heap.size + 1) (by simp)).old (.cells (wc 0).toArray 41)
  have b2 := Blk.new ((w.alloc (.cells (wc N).toArray 41)).alloc (.cells (wc 0).toArray 41)) (wc 0) 41 (b := w.heap.size + 1 + 1) (by simp)
  have hb : Below w.heap.size w (((w.alloc (.cells (wc N).toArray 41)).alloc (.cells (wc 0).toArray 41)).alloc (.cells (wc 0).toArray 41)) := (((Below.refl _ _).alloc (Nat.le_refl _) _).alloc (by simp) _).alloc (by simp; omega) _
  go_enter Tryz.func101, Tryz.ntmps101
  go_wp2_with (first | (with_reducible refine alA2 rfl rfl ?_) | (with_reducible refine alA rfl rfl ?_) | (with_reducible refine ldA rfl rfl rfl b0 ?_))
  refine (length_any N _ HN.out).mono ?_
  rintro e w1 ⟨rfl, hb1⟩
  go_wp2_with fail
  go_loopw [7, 8] (fun r i wr' => ∃ k : Nat, k ≤ nw N ∧ i = .int .i64 ((k : Int) - 1) ∧ r = .int .u64 (wrem N m k : Nat) ∧ Below w.heap.size w wr' ∧ Blk wr' w.heap.size (wc N) 41 ∧ Blk wr' (w.heap.size + 1) (wc 0) 41 ∧ Blk wr' (w.heap.size + 1 + 1) (wc (wquo N m k)) 41) (fun _ i _ => (intOf i + 1).toNat)
  case atStart => exact ⟨nw N, Nat.le_refl _, rfl, by rw [wr_top HT.out]; rfl, bthen hb hb1, b0.call hb1, b1.call hb1, by rw [wq_top HT.out]; exact b2.call hb1⟩
  case round =>
    clear hb hb1 b0 b1 b2
    obtain ⟨k, hk, rfl, rfl, hb, b0, b1, b2⟩ := hrel
    rcases Nat.eq_zero_or_pos k with rfl | hp
    · have hlt := wr_lt (N := N) (k := 0) hm
      have hle : wrem N m 0 ≤ 4294967295 := by omega
      go_wp2_with (first | (with_reducible refine ldA rfl rfl rfl b2 ?_) | (with_reducible refine stA rfl rfl rfl rfl b1 ?_))
      refine ret_ct (v := .int .u32 (wrem N m 0 : Nat)) (cs := wc (wquo N m 0)) rfl rfl rfl rfl (whole23 _) (b1.row _) ⟨?_, below_row hb (by omega) _⟩
      rw [wq_zero, wr_zero]
    · obtain ⟨j, rfl⟩ : ∃ j, k = j + 1 := ⟨k - 1, by omega⟩
      rw [show ((j + 1 : Nat) : Int) - 1 = (j : Int) by omega]
      have c0 := b0.cell (wc_get N j (by omega))
      have c2 := b2.cell (wc_get (wquo N m (j + 1)) j (by omega))
      have f2 := b2.frozen j
      have d0 := dig_le N j
      have hlt := wr_lt (N := N) (k := j + 1) hm
      have hle : wrem N m (j + 1) ≤ 4294967295 := by omega
      have HQ := Lib.hid (wq_put (N := N) (k := j) hm)
      have HR := Lib.hid (wr_step (N := N) (m := m) (k := j))
      have hvl := w_lt (N := N) (k := j) hm
      have HO := or_join (wrem N m (j + 1)) (dig N j) hle d0
      have hT : dig N j + bb * wrem N m (j + 1) ≤ 18446744073709551615 := by rw [bb_eq]; omega
      generalize dig N j + bb * wrem N m (j + 1) = T at *
      obtain ⟨q, hq⟩ : ∃ q, T / m = q := ⟨_, rfl⟩
      obtain ⟨r, hr⟩ : ∃ r, T % m = r := ⟨_, rfl⟩
      rw [hq] at hvl HQ
      rw [hr] at HR
      have E1 : IntKind.u64.wrap ((T : Int) / (m : Int)) = (q : Int) := by
        rw [IntKind.wrap_u64, ← hq, show (T : Int) / (m : Int) = ((T / m : Nat) : Int) by push_cast; rfl]
        have h3 := Nat.div_le_self T m
        generalize T / m = x at *
        omega
      have E2 : (T : Int).tmod (m : Int) = (r : Int) := by rw [← hr]; exact (Int.ofNat_tmod T m).symm
      have hq2 : q ≤ 4294967295 := by rw [bb_eq] at hvl; omega
      have HV := Lib.hid hvl
      clear hq hr hT hvl hlt
      go_wp2
      go_roundw
      case rel =>
        refine ⟨j, by omega, by go_num, int_eq (by rw [HR.out]), hb.setCell (by simp; omega) _, b0.setOther _ _ (by omega), b1.setOther _ _ (by omega), ?_⟩
        have := b2.set j (.int .u32 (q : Nat))
        rw [wc_put HV.out, ← HQ.out] at this
        exact this
      case measure => simp [intOf]
end Go.Proofs.YtoegjibeomhekaaGreat

/- wide.timesPlus. -/
namespace Go.Proofs.YtoegjibeomhekaaGreat
open Go.RowKit
set_option maxRecDepth 100000
end Go.Proofs.YtoegjibeomhekaaGreat

/- wide.Text. -/
namespace Go.Proofs.YtoegjibeomhekaaGreat
set_option linter.unusedSimpArgs false
set_option linter.unusedVariables false
open Go.RowKit
set_option maxRecDepth 100000
/-- A digit as a cell of bytes; the buffer that holds the lowest c digits of N. -/
def dcell (d : Nat) : Value := .int .u8 ((48 + d : Nat) : Int)
def bufc (c N : Nat) : List Value := List.replicate (400 - c) (Value.int .u8 0) ++ (low c N).map dcell
theorem bufc_length {c N : Nat} (h : c ≤ 400) : (bufc c N).length = 400 := by simp [bufc, low_length]; omega
theorem bufc_set {c N : Nat} (h : c < 400) : (bufc c N).set (400 - c - 1) (dcell (N / 10 ^ c % 10)) = bufc (c + 1) N := by
  unfold bufc
  rw [show 400 - c = (400 - (c + 1)) + 1 by omega, List.replicate_succ', List.append_assoc, Nat.add_sub_cancel, List.set_append_right _ _ (by simp)]
  simp [low]
theorem bufc_one (c N : Nat) : ∀ v ∈ bufc c N, v.oneCell' = true := by
  intro v hv
  simp only [bufc, List.mem_append, List.mem_replicate, List.mem_map] at hv
  rcases hv with ⟨_, rfl⟩ | ⟨d, _, rfl⟩ <;> rfl
theorem bufc_get {c N i : Nat} (h : c ≤ 400) (hi : i < 400) : ∃ v, (bufc c N)[i]? = some v := ⟨_, List.getElem?_eq_getElem (by rw [bufc_length h]; exact hi)⟩
theorem bufc_zero (N : Nat) : bufc 0 N = bufc 0 0 := rfl
/-- N's digits, - ahead of what is below 0. -/
def txt (s : Bool) (N : Nat) : List UInt8 := if N = 0 then [48] else (if s then [45] else []) ++ (low (ndig N) N).map (fun d => UInt8.ofNat (48 + d))
theorem foldl_push : ∀ (ns : List Int) (r : ByteArray), ns.foldl (fun r n => r.push (UInt8.ofNat n.toNat)) r = ⟨r.data ++ (ns.map fun n => UInt8.ofNat n.toNat).toArray⟩
  | [], r => by simp
  | n :: ns, r => by
    rw [List.foldl_cons, foldl_push ns]
    simp [ByteArray.push]
theorem Blk.sub {w : World} {b : Nat} {pre cs : List Value} {t : TypeId} (h : Blk w b (pre ++ cs) t) : w.rangeAt b pre.length cs := fun j v hv =>
  h.cell (by rw [List.getElem?_append_right (by omega), Nat.add_sub_cancel_left]; exact hv)
theorem bufc_range {w : World} {b c N : Nat} {t : TypeId} (h : Blk w b (bufc c N) t) (_hc : c ≤ 400) : w.rangeAt b (400 - c) ((low c N).map dcell) := by
  have := Blk.sub h
  rwa [List.length_replicate] at this
end Go.Proofs.YtoegjibeomhekaaGreat
