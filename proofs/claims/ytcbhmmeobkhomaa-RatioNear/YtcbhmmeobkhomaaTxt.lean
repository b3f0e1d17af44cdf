/- Joined of: Wrd Tpl Txt. -/
import Derived.Test.YtcbhmmeobkhomaaInt
import Derived.Test.YtcbhmmeobkhomaaNum
/- wide.divideWord. -/
namespace Go.Proofs.Ytcbhmmeobkhomaa
open Go.RowKit
set_option maxRecDepth 100000
set_option maxHeartbeats 1000000 in
set_option maxRecDepth 100000 in
theorem divideWord_any (N m : Nat) (w : World) (hN : N < bb ^ 32) (hm : 0 < m) (hm2 : m ≤ 4294967295) :
    Calls Try.prog 51 #[.agg (wc N).toArray, .int .u32 m] w fun e w' => e = .returned (.tuple #[.agg (wc (N / m)).toArray, .int .u32 (N % m : Nat)]) ∧ Below w.heap.size w w' := by
  have HN := Lib.hid hN
  have HT := Lib.hid (nw_lt N)
  have hn := nw_le_of hN
  have hm0 : ¬ m = 0 := by omega
  clear hN
  have b0 := ((Blk.new w (wc N) 25 rfl).old (.cells (wc 0).toArray 25)).old (.cells (wc 0).toArray 25)
  have b1 := (Blk.new (w.alloc (.cells (wc N).toArray 25)) (wc 0) 25 (b := w.heap.size + 1) (by simp)).old (.cells (wc 0).toArray 25)
  have b2 := Blk.new ((w.alloc (.cells (wc N).toArray 25)).alloc (.cells (wc 0).toArray 25)) (wc 0) 25 (b := w.heap.size + 1 + 1) (by simp)
  have hb : Below w.heap.size w (((w.alloc (.cells (wc N).toArray 25)).alloc (.cells (wc 0).toArray 25)).alloc (.cells (wc 0).toArray 25)) := (((Below.refl _ _).alloc (Nat.le_refl _) _).alloc (by simp) _).alloc (by simp; omega) _
  go_enter Try.func51, Try.ntmps51
  go_wp2_with (first | (with_reducible refine alA2 rfl rfl ?_) | (with_reducible refine alA rfl rfl ?_) | (with_reducible refine ldA rfl rfl rfl b0 ?_))
  refine (length_any N _ HN.out).mono ?_
  rintro e w1 ⟨rfl, hb1⟩
  go_wp2_with fail
  go_loopw [7, 8] (fun r i wr' => ∃ k : Nat, k ≤ nw N ∧ i = .int .i64 ((k : Int) - 1) ∧ r = .int .u64 (wrem N m k : Nat) ∧ Below w.heap.size w wr' ∧ Blk wr' w.heap.size (wc N) 25 ∧ Blk wr' (w.heap.size + 1) (wc 0) 25 ∧ Blk wr' (w.heap.size + 1 + 1) (wc (wquo N m k)) 25) (fun _ i _ => (intOf i + 1).toNat)
  case atStart => exact ⟨nw N, Nat.le_refl _, rfl, by rw [wr_top HT.out]; rfl, bthen hb hb1, b0.call hb1, b1.call hb1, by rw [wq_top HT.out]; exact b2.call hb1⟩
  case round =>
    clear hb hb1 b0 b1 b2
    obtain ⟨k, hk, rfl, rfl, hb, b0, b1, b2⟩ := hrel
    rcases Nat.eq_zero_or_pos k with rfl | hp
    · have hlt := wr_lt (N := N) (k := 0) hm
      have hle : wrem N m 0 ≤ 4294967295 := by omega
      go_wp2_with (first | (with_reducible refine ldA rfl rfl rfl b2 ?_) | (with_reducible refine stA rfl rfl rfl rfl b1 ?_))
      refine ret_ct (v := .int .u32 (wrem N m 0 : Nat)) (cs := wc (wquo N m 0)) rfl rfl rfl rfl (whole23 _) (b1.row _) ⟨?_, below_row hb (by omega) _⟩
      rw [wq_zero, wr_zero]
    · obtain ⟨j, rfl⟩ : ∃ j, k = j + 1 := ⟨k - 1, by omega⟩
      rw [show ((j + 1 : Nat) : Int) - 1 = (j : Int) by omega]
      have c0 := b0.cell (wc_get N j (by omega))
      have c2 := b2.cell (wc_get (wquo N m (j + 1)) j (by omega))
      have f2 := b2.frozen j
      have d0 := dig_le N j
      have hlt := wr_lt (N := N) (k := j + 1) hm
      have hle : wrem N m (j + 1) ≤ 4294967295 := by omega
      have HQ := Lib.hid (wq_put (N := N) (k := j) hm)
      have HR := Lib.hid (wr_step (N := N) (m := m) (k := j))
      have hvl := w_lt (N := N) (k := j) hm
      have HO := or_join (wrem N m (j + 1)) (dig N j) hle d0
      have hT : dig N j + bb * wrem N m (j + 1) ≤ 18446744073709551615 := by rw [bb_eq]; omega
      generalize dig N j + bb * wrem N m (j + 1) = T at *
      obtain ⟨q, hq⟩ : ∃ q, T / m = q := ⟨_, rfl⟩
      obtain ⟨r, hr⟩ : ∃ r, T % m = r := ⟨_, rfl⟩
      rw [hq] at hvl HQ
      rw [hr] at HR
      have E1 : IntKind.u64.wrap ((T : Int) / (m : Int)) = (q : Int) := by
        rw [IntKind.wrap_u64, ← hq, show (T : Int) / (m : Int) = ((T / m : Nat) : Int) by push_cast; rfl]
        have h3 := Nat.div_le_self T m
        generalize T / m = x at *
        omega
      have E2 : (T : Int).tmod (m : Int) = (r : Int) := by rw [← hr]; exact (Int.ofNat_tmod T m).symm
      have hq2 : q ≤ 4294967295 := by rw [bb_eq] at hvl; omega
      have HV := Lib.hid hvl
      clear hq hr hT hvl hlt
      go_wp2
      go_roundw
      case rel =>
        refine ⟨j, by omega, by go_num, int_eq (by rw [HR.out]), hb.setCell (by simp; omega) _, b0.setOther _ _ (by omega), b1.setOther _ _ (by omega), ?_⟩
        have := b2.set j (.int .u32 (q : Nat))
        rw [wc_put HV.out, ← HQ.out] at this
        exact this
      case measure => simp [intOf]
end Go.Proofs.Ytcbhmmeobkhomaa

/- wide.timesPlus. -/
namespace Go.Proofs.Ytcbhmmeobkhomaa
open Go.RowKit
set_option maxRecDepth 100000
set_option maxHeartbeats 1000000 in
set_option maxRecDepth 100000 in
theorem timesPlus_yes (N m c : Nat) (w : World) (hN : N < bb ^ 32) (hm : m ≤ 4294967295) (hc : c ≤ 4294967295) (h : N * m + c < bb ^ 32) :
    Calls Try.prog 74 #[.agg (wc N).toArray, .int .u32 m, .int .u32 c] w fun e w' => e = .returned (.tuple #[.agg (wc (N * m + c)).toArray, .bool true]) ∧ Below w.heap.size w w' := by
  have HE : Hid (tl N m c 32 = N * m + c ∧ tc N m c 32 = 0) := ⟨by rw [tl_all hN, Nat.mod_eq_of_lt h], (tc_all hN).2 h⟩
  have HM : Hid (m < bb) := by
    show m < bb
    rw [bb_eq]; omega
  have HC : Hid (c < bb) := by
    show c < bb
    rw [bb_eq]; omega
  clear hN h
  go_enter Try.func74, Try.ntmps74
  go_wp2_with (first | (with_reducible refine alA2 rfl rfl ?_) | (with_reducible refine alA rfl rfl ?_))
  go_loopw [8, 13] (fun a8 i wr => ∃ k : Nat, k ≤ 32 ∧ i = .int .i64 k ∧ a8 = .int .u64 (tc N m c k : Nat) ∧ Below w.heap.size w wr ∧ Blk wr w.heap.size (wc (tl N m c k)) 25 ∧ Blk wr (w.heap.size + 1) (wc 0) 25) (fun _ i _ => 32 - (intOf i).toNat)
  case atStart => exact ⟨0, by omega, rfl, by rw [tc_zero], ((Below.refl _ _).alloc (Nat.le_refl _) _).alloc (by simp) _, by rw [tl_zero]; exact (Blk.new _ _ _ rfl).old _, Blk.new _ _ _ (by simp)⟩
  case round =>
    obtain ⟨k, hk, rfl, rfl, hb, b0, b1⟩ := hrel
    have hcl := tc_lt (N := N) (k := k) HM.out HC.out
    have hcl' : tc N m c k ≤ 4294967295 := by rw [bb_eq] at hcl; omega
    clear hcl
    by_cases hlt : k < 32
    · have c0 := b0.cell (wc_get _ k hlt)
      rw [dig_tl] at c0
      have f0 := b0.frozen k
      have d0 := dig_le N k
      have H1 := Lib.hid (tc_succ N m c k)
      have H2 := Lib.hid (tl_succ N m c k)
      have hmul : dig N k * m ≤ 4294967295 * 4294967295 := Nat.mul_le_mul d0 hm
      have e1 : IntKind.u64.wrap ((dig N k : Int) * (m : Int)) = (dig N k : Int) * (m : Int) := by
        rw [IntKind.wrap_u64]; omega
      have hT : dig N k * m + tc N m c k ≤ 18446744073709551615 := by omega
      obtain ⟨T, hTe⟩ : ∃ T, dig N k * m + tc N m c k = T := ⟨_, rfl⟩
      have e2 : IntKind.u64.wrap ((dig N k : Int) * (m : Int) + (tc N m c k : Int)) = (T : Int) := by
        rw [IntKind.wrap_u64, ← hTe]; omega
      rw [hTe] at H1 H2 hT
      clear hTe hmul
      have HT1 : Hid ((T : Int) % 4294967296 = ((T % bb : Nat) : Int)) := by
        show (T : Int) % 4294967296 = ((T % bb : Nat) : Int)
        rw [bb_eq]; omega
      have HT2 : Hid ((T : Int) / 4294967296 = ((T / bb : Nat) : Int)) := by
        show (T : Int) / 4294967296 = ((T / bb : Nat) : Int)
        rw [bb_eq]; omega
      go_wp2
      rw [HT1.out, HT2.out]
      go_roundw
      case rel =>
        refine ⟨k + 1, by omega, by go_num, int_eq (by rw [H1.out]), hb.setCell (by simp) _, ?_, b1.setOther _ _ (by omega)⟩
        have := b0.set k (.int .u32 (T % bb : Nat))
        rw [wc_put (Nat.mod_lt _ bb_pos), ← H2.out] at this
        exact this
      case measure => simp [intOf]; omega
    · obtain rfl : k = 32 := by omega
      rw [HE.out.2]
      go_wp2_with (first | (with_reducible refine ldA rfl rfl rfl b0 ?_) | (with_reducible refine stA rfl rfl rfl rfl b1 ?_))
      refine ret_ct (v := .bool true) (cs := wc (tl N m c 32)) rfl rfl rfl rfl (whole23 _) (b1.row _) ⟨?_, below_row hb (by omega) _⟩
      rw [HE.out.1]
end Go.Proofs.Ytcbhmmeobkhomaa

/- wide.Text. -/
namespace Go.Proofs.Ytcbhmmeobkhomaa
set_option linter.unusedSimpArgs false
set_option linter.unusedVariables false
open Go.RowKit
set_option maxRecDepth 100000
/-- A digit as a cell of bytes; the buffer that holds the lowest c digits of N. -/
def dcell (d : Nat) : Value := .int .u8 ((48 + d : Nat) : Int)
def bufc (c N : Nat) : List Value := List.replicate (400 - c) (Value.int .u8 0) ++ (low c N).map dcell
theorem bufc_length {c N : Nat} (h : c ≤ 400) : (bufc c N).length = 400 := by simp [bufc, low_length]; omega
theorem bufc_set {c N : Nat} (h : c < 400) : (bufc c N).set (400 - c - 1) (dcell (N / 10 ^ c % 10)) = bufc (c + 1) N := by
  unfold bufc
  rw [show 400 - c = (400 - (c + 1)) + 1 by omega, List.replicate_succ', List.append_assoc, Nat.add_sub_cancel, List.set_append_right _ _ (by simp)]
  simp [low]
theorem bufc_one (c N : Nat) : ∀ v ∈ bufc c N, v.oneCell' = true := by
  intro v hv
  simp only [bufc, List.mem_append, List.mem_replicate, List.mem_map] at hv
  rcases hv with ⟨_, rfl⟩ | ⟨d, _, rfl⟩ <;> rfl
theorem bufc_get {c N i : Nat} (h : c ≤ 400) (hi : i < 400) : ∃ v, (bufc c N)[i]? = some v := ⟨_, List.getElem?_eq_getElem (by rw [bufc_length h]; exact hi)⟩
theorem zero75 : (Try.prog.info? 76).map (·.zero) = some (some (.agg (bufc 0 0).toArray)) := by kernel_rfl
theorem bufc_zero (N : Nat) : bufc 0 N = bufc 0 0 := rfl
theorem alU {ops : Array Oper} {rest : List Oper} {o : Oper} {a : Act} {w : World} {Q : Exit → Act → World → Prop} {ob : Obj} (hgd : o.guard = none) (ho : o.op = .alloc 76)
    (hr : wpList Try.prog ops Q rest (a.put o.dst (.pointer (some ⟨w.heap.size + 1, 0, none⟩))) ((w.alloc ob).alloc (.cells (bufc 0 0).toArray 76))) : wpList Try.prog ops Q (o :: rest) a (w.alloc ob) :=
  al_blk hgd ho zero75 (by rw [show (w.alloc ob).heap.size = w.heap.size + 1 by simp]; exact hr)
/-- N's digits, - ahead of what is below 0. -/
def txt (s : Bool) (N : Nat) : List UInt8 := if N = 0 then [48] else (if s then [45] else []) ++ (low (ndig N) N).map (fun d => UInt8.ofNat (48 + d))
theorem foldl_push : ∀ (ns : List Int) (r : ByteArray), ns.foldl (fun r n => r.push (UInt8.ofNat n.toNat)) r = ⟨r.data ++ (ns.map fun n => UInt8.ofNat n.toNat).toArray⟩
  | [], r => by simp
  | n :: ns, r => by
    rw [List.foldl_cons, foldl_push ns]
    simp [ByteArray.push]
theorem Blk.sub {w : World} {b : Nat} {pre cs : List Value} {t : TypeId} (h : Blk w b (pre ++ cs) t) : w.rangeAt b pre.length cs := fun j v hv =>
  h.cell (by rw [List.getElem?_append_right (by omega), Nat.add_sub_cancel_left]; exact hv)
theorem bufc_range {w : World} {b c N : Nat} {t : TypeId} (h : Blk w b (bufc c N) t) (_hc : c ≤ 400) : w.rangeAt b (400 - c) ((low c N).map dcell) := by
  have := Blk.sub h
  rwa [List.length_replicate] at this
/-- Bytes are made into a text. -/
theorem cvS {ops : Array Oper} {rest : List Oper} {o : Oper} {a : Act} {w : World} {Q : Exit → Act → World → Prop} {x : Operand} {b f len cap : Nat} {ns : List Nat} (hgd : o.guard = none) (ho : o.op = .convert 80 9 x) (hx : a.eval x = .slice (some ⟨b, f, none⟩) len cap)
    (hl : ns.length = len) (h : w.rangeAt b f (ns.map fun n : Nat => Value.int .u8 (n : Int)))
    (hr : wpList Try.prog ops Q rest (a.put o.dst (.string ⟨(ns.map UInt8.ofNat).toArray⟩)) w) : wpList Try.prog ops Q (o :: rest) a w :=
  wpList_plain hgd fun K hK => by
    have := hK _ _ hr
    have hc : (loadCells ⟨b, f, none⟩ len).run Try.prog w = .ok ((ns.map fun n : Nat => (n : Int)).map (Value.int .u8)).toArray w := by
      have := run_loadCells_list (P := Try.prog) w ⟨b, f, none⟩ (ns.map fun n : Nat => Value.int .u8 (n : Int)) (fun j v hv => by rw [Addr.add_mid]; exact h j v hv)
      rw [List.length_map, hl] at this
      rw [List.map_map]
      exact this
    unfold Oper.wp execOp
    simp only [ho, hx, Sem.run_bind, run_convert_bytes_string w 80 9 5 _ _ _ Try.underlying80 Try.underlying5 Try.underlying9, run_bytesToString w _ _ _ _ hc, foldl_push]
    rw [show (⟨ByteArray.empty.data ++ ((ns.map fun n : Nat => (n : Int)).map fun n => UInt8.ofNat n.toNat).toArray⟩ : ByteArray) = ⟨(ns.map UInt8.ofNat).toArray⟩ by simp [Function.comp_def]]
    exact this
/-- The end of the buffer, from l on. -/
theorem slU {ops : Array Oper} {rest : List Oper} {o : Oper} {a : Act} {w : World} {Q : Exit → Act → World → Prop} {x y : Operand} {b l : Nat} (hgd : o.guard = none) (ho : o.op = .slice 76 x (some y) none none) (hx : a.eval x = .pointer (some ⟨b, 0, none⟩)) (hy : a.eval y = .int .i64 (l : Int)) (hl : l < 400)
    (hr : wpList Try.prog ops Q rest (a.put o.dst (.slice (some ⟨b, l, none⟩) (400 - l) (400 - l))) w) : wpList Try.prog ops Q (o :: rest) a w :=
  wpList_plain hgd fun K hK => by
    have := hK _ _ hr
    have hal : Try.prog.arrayLen 76 = 400 := by kernel_rfl
    have hel : Try.prog.elem 76 = 5 := by kernel_rfl
    have hsz : (sizeOf 5).run Try.prog w = .ok 1 w := by kernel_rfl
    have hrun := run_sliceAt_array_l (P := Try.prog) w 76 ⟨b, 0, none⟩ (by kernel_rfl) .i64 (l : Int) (by omega) (by rw [hal]; omega)
    rw [hel, hsz, hal] at hrun
    unfold Oper.wp execOp
    simp only [ho, hx, hy, Option.map_some, Option.map_none, Sem.run_bind, hrun, Result.andThen_ok, slicedAt, Int.toNat_natCast, if_neg (show ¬ 400 = l by omega), Nat.mul_one, Addr.add_mid, Nat.zero_add, Sem.run_pure]
    exact this
/-- What Text keeps in memory: the number, the buffer, what is left. -/
def TextMem (w wr : World) (p : Nat) (s : Bool) (N c R : Nat) : Prop :=
  Below w.heap.size w wr ∧ w.heap.size + 1 < p ∧ Blk wr w.heap.size (wd s N) 27 ∧ Blk wr (w.heap.size + 1) (bufc c N) 76 ∧ Blk wr p (wc R) 25
set_option maxHeartbeats 2000000 in
set_option maxRecDepth 100000 in
theorem Text_any (s : Bool) (N : Nat) (w : World) (hN : N < bb ^ 32) :
    Calls Try.prog 26 #[.agg (wd s N).toArray] w fun e w' => e = .returned (.string ⟨(txt s N).toArray⟩) ∧ Below w.heap.size w w' := by
  have HN := Lib.hid hN
  clear hN
  have b0 := (Blk.new w (wd s N) 27 rfl).old (.cells (bufc 0 0).toArray 76)
  have b3 := Blk.new (w.alloc (.cells (wd s N).toArray 27)) (bufc 0 0) 76 (b := w.heap.size + 1) (by simp)
  have hb : Below w.heap.size w ((w.alloc (.cells (wd s N).toArray 27)).alloc (.cells (bufc 0 0).toArray 76)) := ((Below.refl _ _).alloc (Nat.le_refl _) _).alloc (by simp) _
  go_enter Try.func26, Try.ntmps26
  go_wp2_with (first | (with_reducible refine alU rfl rfl ?_))
  generalize (w.alloc (.cells (wd s N).toArray 27)).alloc (.cells (bufc 0 0).toArray 76) = W at *
  have hsz : w.heap.size + 1 < W.heap.size := b3.lt
  have hsz2 : w.heap.size + 1 < W.drew.heap.size := hsz
  refine rg_start [] (by kernel_rfl) (fun hS => ?_)
  refine rg_take 0 rfl (by kernel_rfl) (by kernel_rfl) (by kernel_rfl) (by rfl) hS (v := ?_) ?_ ?_
  rotate_left
  · (intro w' hS'; go_simp <;> try with_reducible rfl)
  try simp only [Act.put, List.setIfInBounds_toArray, List.set_cons_zero, List.set_cons_succ]
  refine rg_ldT 1 rfl (by kernel_rfl) (by kernel_rfl) (by kernel_rfl) (by rfl) hS rfl rfl b0 (by simp <;> omega) (whole23 _) ?_
  try simp only [Act.put, List.setIfInBounds_toArray, List.set_cons_zero, List.set_cons_succ]
  refine rg_take 2 rfl (by kernel_rfl) (by kernel_rfl) (by kernel_rfl) (by rfl) hS (v := ?_) ?_ ?_
  rotate_left
  · (intro w' hS'; go_simp <;> try with_reducible rfl)
  try simp only [Act.put, List.setIfInBounds_toArray, List.set_cons_zero, List.set_cons_succ]
  refine rg_ldT 3 rfl (by kernel_rfl) (by kernel_rfl) (by kernel_rfl) (by rfl) hS rfl rfl b0 (by simp <;> omega) (whole23 _) ?_
  try simp only [Act.put, List.setIfInBounds_toArray, List.set_cons_zero, List.set_cons_succ]
  refine rg_two 4 5 rfl rfl (by kernel_rfl) (by rfl) (by rfl) (fun K hK => ?_) (fun K hK => ?_)
  · go_simp
    refine (length_any N _ HN.out).mono ?_
    rintro e w1 ⟨rfl, hb1⟩
    refine hK _ _ (hS.call hb1) (fun hS => ?_)
    clear hK K
    first | (replace a5 := a5.call hb1; have e0 := (b0.drew.old (.cells (wc 0).toArray 25)).call hb1; have e3 := (b3.drew.old (.cells (wc 0).toArray 25)).call hb1; have hbV := bthen (hb.drew.alloc hb.size (.cells (wc 0).toArray 25)) hb1) | (have e0 := b0.drew.call hb1; have e3 := b3.drew.call hb1; have hbV := bthen hb.drew hb1)
    try simp only [Act.put, List.setIfInBounds_toArray, List.set_cons_zero, List.set_cons_succ]
    refine rg_eff 5 rfl (by kernel_rfl) (by rfl) (fun K hK => ?_)
    refine wp_al rfl zero23 ?_
    refine hK _ _ (hS.alloc _) (fun hS => ?_)
    clear hK K
    first | (have hp : w.heap.size + 1 < w1.heap.size := e3.lt; have a5 := Blk.new w1 (wc 0) 25 rfl; have hkp : W.heap.size ≤ w1.heap.size := hb1.size; replace e0 := e0.old (.cells (wc 0).toArray 25); replace e3 := e3.old (.cells (wc 0).toArray 25); replace hbV := hbV.alloc hbV.size (.cells (wc 0).toArray 25); generalize w1.heap.size = p at *) | (have hp := hsz2; have a5 := Blk.new W.drew (wc 0) 25 rfl; have hkp : W.heap.size ≤ W.drew.heap.size := Nat.le_refl _; generalize W.drew.heap.size = p at *)
    try simp only [Act.put, List.setIfInBounds_toArray, List.set_cons_zero, List.set_cons_succ]
    refine rg_eff 6 rfl (by kernel_rfl) (by rfl) (fun K hK => ?_)
    refine wp_st (vs := wc N) rfl rfl rfl a5 (wc_len2 _ _) (whole23 _) (wc_one _) ?_
    refine hK _ _ (hS.row (.inr hkp) _) (fun hS => ?_)
    clear hK K
    replace e0 := e0.rowOther (g := p) (wc N).toArray (by omega)
    replace e3 := e3.rowOther (g := p) (wc N).toArray (by omega)
    have e5 := a5.row (wc N)
    replace hbV := below_row hbV (g := p) (by omega) (wc N).toArray
    try simp only [Act.put, List.setIfInBounds_toArray, List.set_cons_zero, List.set_cons_succ]
    refine rg_take 7 rfl (by kernel_rfl) (by kernel_rfl) (by kernel_rfl) (by rfl) hS (v := ?_) ?_ ?_
    rotate_left
    · (intro w' hS'; go_simp <;> try with_reducible rfl)
    try simp only [Act.put, List.setIfInBounds_toArray, List.set_cons_zero, List.set_cons_succ]
    refine rg_done (by kernel_rfl) ?_
    have hM : TextMem w _ p s N 0 N := ⟨hbV, hp, e0, e3, e5⟩
    clear hbV e0 e3 e5 hS a5
    go_wp2_with fail
    go_loopg [4, 6] N (fun g a4 a6 wr => ∃ c : Nat, c ≤ 309 ∧ g = N / 10 ^ c ∧ (0 < c → 0 < N / 10 ^ (c - 1)) ∧ a4 = .int .i64 ((400 - c : Nat) : Int) ∧ a6 = .int .i64 (nw g : Nat) ∧ TextMem w wr p s N c g)
    case atStart => exact ⟨0, by omega, by simp, by omega, rfl, rfl, hM⟩
    case round =>
      clear hM
      obtain ⟨c, hc, hg, hlow, rfl, rfl, hM⟩ := hrel
      have HG := Lib.hid hg
      have HLow := Lib.hid hlow
      clear hg hlow
      have hgN : gk ≤ N := by rw [HG.out]; exact Nat.div_le_self _ _
      have HGB : Hid (gk < bb ^ 32) := Nat.lt_of_le_of_lt hgN HN.out
      clear hgN
      by_cases h0 : gk = 0
      · subst h0
        have hz : ((nw 0 : Nat) : Int) = 0 := rfl
        rw [hz]
        obtain ⟨hb, _, e0, e3, e5⟩ := hM
        have c0 := e0.cell (wd_sign s N)
        rcases Nat.eq_zero_or_pos c with rfl | hc0
        · have hN0 : N = 0 := by have := HG.out; simpa using this.symm
          have HN0 := Lib.hid hN0
          clear hN0
          go_wp2
          go_ret
          exact ⟨by rw [txt, if_pos HN0.out]; rfl, hb⟩
        · have hlt : N < 10 ^ c := by
            rcases Nat.div_eq_zero_iff.1 HG.out.symm with h | h
            · have : 0 < 10 ^ c := Nat.pow_pos (by decide)
              omega
            · exact h
          have hge : 10 ^ (c - 1) ≤ N := by
            have h1 := HLow.out hc0
            have h2 : 0 < 10 ^ (c - 1) := Nat.pow_pos (by decide)
            have := (Nat.le_div_iff_mul_le h2).1 h1
            omega
          have HT : Hid (txt s N = (if s then [45] else []) ++ (low c N).map (fun d => UInt8.ofNat (48 + d))) := by
            show txt s N = _
            have hN0 : N ≠ 0 := by have : 0 < 10 ^ (c - 1) := Nat.pow_pos (by decide); omega
            rw [txt, if_neg hN0, ndig_of (by omega) hlt (fun _ => hge)]
          clear hlt hge
          have h400 : (((400 - c : Nat) : Int) == 400) = false := by rw [beq_eq_false_iff_ne]; omega
          cases s
          · have r3 := bufc_range e3 (by omega)
            have r4 : 400 - c ≤ 400 := by omega
            have r5 : ((low c N).map (48 + ·)).length = 400 - (400 - c) := by rw [List.length_map, low_length]; omega
            have r6 : wr.rangeAt (w.heap.size + 1) (400 - c) (((low c N).map (48 + ·)).map fun n : Nat => Value.int .u8 (n : Int)) := by
              rw [List.map_map]; exact r3
            go_wp2_with (first | (with_reducible refine slU rfl rfl rfl rfl (by omega) ?_) | (refine cvS (ns := (low c N).map (48 + ·)) rfl rfl rfl r5 r6 ?_))
            go_ret
            refine ⟨?_, hb⟩
            rw [HT.out]
            rfl
          · have hset : (bufc c N).set (400 - c - 1) (.int .u8 45) = List.replicate (400 - c - 1) (Value.int .u8 0) ++ ((45 :: (low c N).map (48 + ·)).map fun n : Nat => Value.int .u8 (n : Int)) := by
              unfold bufc
              rw [show 400 - c = (400 - c - 1) + 1 by omega, List.replicate_succ', List.append_assoc, Nat.add_sub_cancel, List.set_append_right _ _ (by simp)]
              simp [dcell, Function.comp_def]
            have e4 := e3.set (400 - c - 1) (.int .u8 45)
            rw [hset] at e4
            clear hset
            have r6 := Blk.sub e4
            rw [List.length_replicate] at r6
            have r5 : (45 :: (low c N).map (48 + ·)).length = 400 - (400 - c - 1) := by rw [List.length_cons, List.length_map, low_length]; omega
            obtain ⟨v, hv⟩ := bufc_get (c := c) (N := N) (i := 400 - c - 1) (by omega) (by omega)
            have c3 := e3.cell hv
            have f3 := e3.frozen (400 - c - 1)
            clear hv e4
            rw [show (((400 - c : Nat) : Int)) = ((400 - c - 1 : Nat) : Int) + 1 by omega] at h400 ⊢
            generalize hat : 400 - c - 1 = at1 at *
            have hat2 : at1 < 400 := by omega
            clear hat
            go_wp2_with (first | (with_reducible refine slU rfl rfl rfl rfl hat2 ?_) | (refine cvS (ns := 45 :: (low c N).map (48 + ·)) rfl rfl rfl r5 r6 ?_))
            go_ret
            refine ⟨?_, hb.setCell (by simp) _⟩
            rw [HT.out]
            rfl
      · have hz : (0 : Int) < (nw gk : Int) := by have := nw_zero (N := gk); omega
        obtain ⟨hb, _, e0, e3, e5⟩ := hM
        go_wp2_with (first | (with_reducible refine ldA rfl rfl rfl e5 ?_))
        refine (divideWord_any gk 1000000000 _ HGB.out (by omega) (by omega)).mono ?_
        rintro e w1 ⟨rfl, hb1⟩
        replace e0 := e0.call hb1
        replace e3 := e3.call hb1
        replace e5 := e5.call hb1
        replace hb := bthen hb hb1
        clear hb1
        obtain ⟨R1, hR1⟩ : ∃ R1, gk / 1000000000 = R1 := ⟨_, rfl⟩
        obtain ⟨G, hG0⟩ : ∃ G, gk % 1000000000 = G := ⟨_, rfl⟩
        rw [hR1, hG0]
        have HR1 := Lib.hid hR1
        have HG0 := Lib.hid hG0
        have hGl : G ≤ 999999999 := by omega
        have HRB : Hid (R1 < bb ^ 32) := Nat.lt_of_le_of_lt (hR1 ▸ Nat.div_le_self gk 1000000000) HGB.out
        clear hR1 hG0
        have d5 := e5.row (wc R1)
        go_wp2_with (first | (with_reducible refine stA rfl rfl rfl rfl e5 ?_) | (with_reducible refine ldA rfl rfl rfl d5 ?_))
        refine (length_any R1 _ HRB.out).mono ?_
        rintro e w2 ⟨rfl, hb2⟩
        replace e0 := (e0.rowOther (g := p) (wc R1).toArray (by omega)).call hb2
        replace e3 := (e3.rowOther (g := p) (wc R1).toArray (by omega)).call hb2
        replace e5 := d5.call hb2
        replace hb := bthen (below_row hb (g := p) (by omega) (wc R1).toArray) hb2
        clear hb2 d5
        have hM : TextMem w w2 p s N c R1 := ⟨hb, hp, e0, e3, e5⟩
        clear hb e0 e3 e5
        by_cases hR : R1 = 0
        · subst hR
          rw [show ((nw 0 : Nat) : Int) = 0 from rfl]
          go_wp2_with fail
          go_loopw [4, 7, 8] (fun a4 a7 a8 wr => ∃ i : Nat, i ≤ 9 ∧ c + i ≤ 309 ∧ (0 < c + i → 0 < N / 10 ^ (c + i - 1)) ∧ a4 = .int .i64 ((400 - (c + i) : Nat) : Int) ∧ a7 = .int .u32 (G / 10 ^ i : Nat) ∧ a8 = .int .i64 i ∧ TextMem w wr p s N (c + i) 0) (fun _ _ a8 _ => 9 - (intOf a8).toNat)
          case atStart => exact ⟨0, by omega, hc, HLow.out, rfl, by simp, rfl, hM⟩
          case round =>
            clear hM
            obtain ⟨i, hi, hci, hlw, rfl, rfl, rfl, hM⟩ := hrel
            have HLw := Lib.hid hlw
            clear hlw
            have hgr : N / 10 ^ (c + i) = gk / 10 ^ i := by rw [HG.out, Nat.pow_add, Nat.div_div_eq_div_mul]
            have HGr := Lib.hid hgr
            clear hgr
            obtain ⟨y, hy⟩ : ∃ y, G / 10 ^ i = y := ⟨_, rfl⟩
            rw [hy]
            have hyl : y ≤ 999999999 := by rw [← hy]; exact Nat.le_trans (Nat.div_le_self _ _) hGl
            have HY := Lib.hid hy
            clear hy
            by_cases h9 : i < 9
            · have h9' : (i : Int) < 9 := by omega
              by_cases hy0 : y = 0
              · have hyz : ¬ (0 : Int) < (y : Int) := by omega
                have hend : N / 10 ^ (c + i) = 0 := by
                  rw [HGr.out, grp gk i (by omega), HR1.out, HG0.out, HY.out]
                  rw [hy0]; omega
                have HEnd := Lib.hid hend
                clear hend
                go_wp2
                go_roundg 0
                case measure =>
                  have := HR1.out
                  have h3 : gk / 1000000000 < gk := Nat.div_lt_self (Nat.pos_of_ne_zero h0) (by decide)
                  omega
                case rel => exact ⟨c + i, hci, HEnd.out.symm, HLw.out, int_eq (by omega), rfl, hM⟩
              · have hyz : (0 : Int) < (y : Int) := by omega
                have hpos : 0 < gk / 10 ^ i := by
                  rcases Nat.eq_zero_or_pos (gk / 10 ^ i) with h | h
                  · have := ((grp_zero gk i (by omega)).1 h).2; rw [HG0.out, HY.out] at this; exact absurd this hy0
                  · exact h
                have hc3 : c + i < 309 := nd_bound HN.out (by rw [HGr.out]; exact hpos)
                have HP := Lib.hid hpos
                clear hpos
                obtain ⟨hb, _, e0, e3, e5⟩ := hM
                obtain ⟨v, hv⟩ := bufc_get (c := c + i) (N := N) (i := 400 - (c + i) - 1) (by omega) (by omega)
                have c3 := e3.cell hv
                have f3 := e3.frozen (400 - (c + i) - 1)
                have HV := Lib.hid hv
                clear hv
                rw [show (((400 - (c + i) : Nat) : Int)) = ((400 - (c + i) - 1 : Nat) : Int) + 1 by omega]
                generalize hat : 400 - (c + i) - 1 = at1 at *
                have hat2 : at1 < 400 := by omega
                have HAT := Lib.hid hat
                clear hat
                go_wp2
                go_roundw
                case rel =>
                  refine ⟨i + 1, by omega, by omega, fun _ => ?_, int_eq (by have := HAT.out; omega), int_eq ?_, by go_num, hb.setCell (by simp) _, hp, e0.setOther _ _ (by omega), ?_, e5.setOther _ _ (by omega)⟩
                  · rw [show c + (i + 1) - 1 = c + i by omega, HGr.out]; exact HP.out
                  · rw [Nat.pow_succ, ← Nat.div_div_eq_div_mul, HY.out]; omega
                  · have := e3.set at1 (dcell (N / 10 ^ (c + i) % 10))
                    rw [← HAT.out, bufc_set (by omega), HAT.out] at this
                    rw [show c + (i + 1) = c + i + 1 by omega]
                    rw [HGr.out, grp_mod gk i h9, HG0.out, HY.out] at this
                    rw [show Value.int .u8 (48 + (y : Int) % 10) = dcell (y % 10) from int_eq (by omega)]
                    exact this
                case measure => simp [intOf]; omega
            · have h9' : ¬ (i : Int) < 9 := by omega
              have hi9 : i = 9 := by omega
              have hG9 : y = 0 := by rw [← HY.out, hi9]; exact Nat.div_eq_of_lt (by omega)
              have hend : N / 10 ^ (c + i) = 0 := by
                rw [HGr.out, grp gk i (by omega), HR1.out, HG0.out, HY.out]
                rw [hG9]; omega
              have HEnd := Lib.hid hend
              clear hend
              go_wp2
              go_roundg 0
              case measure =>
                have := HR1.out
                have h3 : gk / 1000000000 < gk := Nat.div_lt_self (Nat.pos_of_ne_zero h0) (by decide)
                omega
              case rel => exact ⟨c + i, hci, HEnd.out.symm, HLw.out, int_eq (by omega), rfl, hM⟩
        · have hRz : (0 : Int) < (nw R1 : Int) := by have := nw_zero (N := R1); omega
          go_wp2_with fail
          go_loopw [4, 7, 8] (fun a4 a7 a8 wr => ∃ i : Nat, i ≤ 9 ∧ c + i ≤ 309 ∧ (0 < c + i → 0 < N / 10 ^ (c + i - 1)) ∧ a4 = .int .i64 ((400 - (c + i) : Nat) : Int) ∧ a7 = .int .u32 (G / 10 ^ i : Nat) ∧ a8 = .int .i64 i ∧ TextMem w wr p s N (c + i) R1) (fun _ _ a8 _ => 9 - (intOf a8).toNat)
          case atStart => exact ⟨0, by omega, hc, HLow.out, rfl, by simp, rfl, hM⟩
          case round =>
            clear hM
            obtain ⟨i, hi, hci, hlw, rfl, rfl, rfl, hM⟩ := hrel
            have HLw := Lib.hid hlw
            clear hlw
            have hgr : N / 10 ^ (c + i) = gk / 10 ^ i := by rw [HG.out, Nat.pow_add, Nat.div_div_eq_div_mul]
            have HGr := Lib.hid hgr
            clear hgr
            obtain ⟨y, hy⟩ : ∃ y, G / 10 ^ i = y := ⟨_, rfl⟩
            rw [hy]
            have hyl : y ≤ 999999999 := by rw [← hy]; exact Nat.le_trans (Nat.div_le_self _ _) hGl
            have HY := Lib.hid hy
            clear hy
            by_cases h9 : i < 9
            · have h9' : (i : Int) < 9 := by omega
              have hpos : 0 < gk / 10 ^ i := by
                rcases Nat.eq_zero_or_pos (gk / 10 ^ i) with h | h
                · have := ((grp_zero gk i (by omega)).1 h).1; exact absurd (HR1.out.symm.trans this) hR
                · exact h
              have hc3 : c + i < 309 := nd_bound HN.out (by rw [HGr.out]; exact hpos)
              have HP := Lib.hid hpos
              clear hpos
              obtain ⟨hb, _, e0, e3, e5⟩ := hM
              obtain ⟨v, hv⟩ := bufc_get (c := c + i) (N := N) (i := 400 - (c + i) - 1) (by omega) (by omega)
              have c3 := e3.cell hv
              have f3 := e3.frozen (400 - (c + i) - 1)
              have HV := Lib.hid hv
              clear hv
              rw [show (((400 - (c + i) : Nat) : Int)) = ((400 - (c + i) - 1 : Nat) : Int) + 1 by omega]
              generalize hat : 400 - (c + i) - 1 = at1 at *
              have hat2 : at1 < 400 := by omega
              have HAT := Lib.hid hat
              clear hat
              go_wp2
              go_roundw
              case rel =>
                refine ⟨i + 1, by omega, by omega, fun _ => ?_, int_eq (by have := HAT.out; omega), int_eq ?_, by go_num, hb.setCell (by simp) _, hp, e0.setOther _ _ (by omega), ?_, e5.setOther _ _ (by omega)⟩
                · rw [show c + (i + 1) - 1 = c + i by omega, HGr.out]; exact HP.out
                · rw [Nat.pow_succ, ← Nat.div_div_eq_div_mul, HY.out]; omega
                · have := e3.set at1 (dcell (N / 10 ^ (c + i) % 10))
                  rw [← HAT.out, bufc_set (by omega), HAT.out] at this
                  rw [show c + (i + 1) = c + i + 1 by omega]
                  rw [HGr.out, grp_mod gk i h9, HG0.out, HY.out] at this
                  rw [show Value.int .u8 (48 + (y : Int) % 10) = dcell (y % 10) from int_eq (by omega)]
                  exact this
              case measure => simp [intOf]; omega
            · have h9' : ¬ (i : Int) < 9 := by omega
              have hi9 : i = 9 := by omega
              have hG9 : y = 0 := by rw [← HY.out, hi9]; exact Nat.div_eq_of_lt (by omega)
              have hend : N / 10 ^ (c + i) = R1 := by
                rw [HGr.out, grp gk i (by omega), HR1.out, HG0.out, HY.out]
                rw [hG9, hi9]; omega
              have HEnd := Lib.hid hend
              clear hend
              go_wp2
              go_roundg R1
              case measure =>
                have := HR1.out
                have h3 : gk / 1000000000 < gk := Nat.div_lt_self (Nat.pos_of_ne_zero h0) (by decide)
                omega
              case rel => exact ⟨c + i, hci, HEnd.out.symm, HLw.out, int_eq (by omega), rfl, hM⟩
  · refine wp_al rfl zero23 ?_
    refine hK _ _ (hS.alloc _) (fun hS => ?_)
    clear hK K
    first | (have hp : w.heap.size + 1 < w1.heap.size := e3.lt; have a5 := Blk.new w1 (wc 0) 25 rfl; have hkp : W.heap.size ≤ w1.heap.size := hb1.size; replace e0 := e0.old (.cells (wc 0).toArray 25); replace e3 := e3.old (.cells (wc 0).toArray 25); replace hbV := hbV.alloc hbV.size (.cells (wc 0).toArray 25); generalize w1.heap.size = p at *) | (have hp := hsz2; have a5 := Blk.new W.drew (wc 0) 25 rfl; have hkp : W.heap.size ≤ W.drew.heap.size := Nat.le_refl _; generalize W.drew.heap.size = p at *)
    try simp only [Act.put, List.setIfInBounds_toArray, List.set_cons_zero, List.set_cons_succ]
    refine rg_eff 4 rfl (by kernel_rfl) (by rfl) (fun K hK => ?_)
    go_simp
    refine (length_any N _ HN.out).mono ?_
    rintro e w1 ⟨rfl, hb1⟩
    refine hK _ _ (hS.call hb1) (fun hS => ?_)
    clear hK K
    first | (replace a5 := a5.call hb1; have e0 := (b0.drew.old (.cells (wc 0).toArray 25)).call hb1; have e3 := (b3.drew.old (.cells (wc 0).toArray 25)).call hb1; have hbV := bthen (hb.drew.alloc hb.size (.cells (wc 0).toArray 25)) hb1) | (have e0 := b0.drew.call hb1; have e3 := b3.drew.call hb1; have hbV := bthen hb.drew hb1)
    try simp only [Act.put, List.setIfInBounds_toArray, List.set_cons_zero, List.set_cons_succ]
    refine rg_eff 6 rfl (by kernel_rfl) (by rfl) (fun K hK => ?_)
    refine wp_st (vs := wc N) rfl rfl rfl a5 (wc_len2 _ _) (whole23 _) (wc_one _) ?_
    refine hK _ _ (hS.row (.inr hkp) _) (fun hS => ?_)
    clear hK K
    replace e0 := e0.rowOther (g := p) (wc N).toArray (by omega)
    replace e3 := e3.rowOther (g := p) (wc N).toArray (by omega)
    have e5 := a5.row (wc N)
    replace hbV := below_row hbV (g := p) (by omega) (wc N).toArray
    try simp only [Act.put, List.setIfInBounds_toArray, List.set_cons_zero, List.set_cons_succ]
    refine rg_take 7 rfl (by kernel_rfl) (by kernel_rfl) (by kernel_rfl) (by rfl) hS (v := ?_) ?_ ?_
    rotate_left
    · (intro w' hS'; go_simp <;> try with_reducible rfl)
    try simp only [Act.put, List.setIfInBounds_toArray, List.set_cons_zero, List.set_cons_succ]
    refine rg_done (by kernel_rfl) ?_
    have hM : TextMem w _ p s N 0 N := ⟨hbV, hp, e0, e3, e5⟩
    clear hbV e0 e3 e5 hS a5
    go_wp2_with fail
    go_loopg [4, 6] N (fun g a4 a6 wr => ∃ c : Nat, c ≤ 309 ∧ g = N / 10 ^ c ∧ (0 < c → 0 < N / 10 ^ (c - 1)) ∧ a4 = .int .i64 ((400 - c : Nat) : Int) ∧ a6 = .int .i64 (nw g : Nat) ∧ TextMem w wr p s N c g)
    case atStart => exact ⟨0, by omega, by simp, by omega, rfl, rfl, hM⟩
    case round =>
      clear hM
      obtain ⟨c, hc, hg, hlow, rfl, rfl, hM⟩ := hrel
      have HG := Lib.hid hg
      have HLow := Lib.hid hlow
      clear hg hlow
      have hgN : gk ≤ N := by rw [HG.out]; exact Nat.div_le_self _ _
      have HGB : Hid (gk < bb ^ 32) := Nat.lt_of_le_of_lt hgN HN.out
      clear hgN
      by_cases h0 : gk = 0
      · subst h0
        have hz : ((nw 0 : Nat) : Int) = 0 := rfl
        rw [hz]
        obtain ⟨hb, _, e0, e3, e5⟩ := hM
        have c0 := e0.cell (wd_sign s N)
        rcases Nat.eq_zero_or_pos c with rfl | hc0
        · have hN0 : N = 0 := by have := HG.out; simpa using this.symm
          have HN0 := Lib.hid hN0
          clear hN0
          go_wp2
          go_ret
          exact ⟨by rw [txt, if_pos HN0.out]; rfl, hb⟩
        · have hlt : N < 10 ^ c := by
            rcases Nat.div_eq_zero_iff.1 HG.out.symm with h | h
            · have : 0 < 10 ^ c := Nat.pow_pos (by decide)
              omega
            · exact h
          have hge : 10 ^ (c - 1) ≤ N := by
            have h1 := HLow.out hc0
            have h2 : 0 < 10 ^ (c - 1) := Nat.pow_pos (by decide)
            have := (Nat.le_div_iff_mul_le h2).1 h1
            omega
          have HT : Hid (txt s N = (if s then [45] else []) ++ (low c N).map (fun d => UInt8.ofNat (48 + d))) := by
            show txt s N = _
            have hN0 : N ≠ 0 := by have : 0 < 10 ^ (c - 1) := Nat.pow_pos (by decide); omega
            rw [txt, if_neg hN0, ndig_of (by omega) hlt (fun _ => hge)]
          clear hlt hge
          have h400 : (((400 - c : Nat) : Int) == 400) = false := by rw [beq_eq_false_iff_ne]; omega
          cases s
          · have r3 := bufc_range e3 (by omega)
            have r4 : 400 - c ≤ 400 := by omega
            have r5 : ((low c N).map (48 + ·)).length = 400 - (400 - c) := by rw [List.length_map, low_length]; omega
            have r6 : wr.rangeAt (w.heap.size + 1) (400 - c) (((low c N).map (48 + ·)).map fun n : Nat => Value.int .u8 (n : Int)) := by
              rw [List.map_map]; exact r3
            go_wp2_with (first | (with_reducible refine slU rfl rfl rfl rfl (by omega) ?_) | (refine cvS (ns := (low c N).map (48 + ·)) rfl rfl rfl r5 r6 ?_))
            go_ret
            refine ⟨?_, hb⟩
            rw [HT.out]
            rfl
          · have hset : (bufc c N).set (400 - c - 1) (.int .u8 45) = List.replicate (400 - c - 1) (Value.int .u8 0) ++ ((45 :: (low c N).map (48 + ·)).map fun n : Nat => Value.int .u8 (n : Int)) := by
              unfold bufc
              rw [show 400 - c = (400 - c - 1) + 1 by omega, List.replicate_succ', List.append_assoc, Nat.add_sub_cancel, List.set_append_right _ _ (by simp)]
              simp [dcell, Function.comp_def]
            have e4 := e3.set (400 - c - 1) (.int .u8 45)
            rw [hset] at e4
            clear hset
            have r6 := Blk.sub e4
            rw [List.length_replicate] at r6
            have r5 : (45 :: (low c N).map (48 + ·)).length = 400 - (400 - c - 1) := by rw [List.length_cons, List.length_map, low_length]; omega
            obtain ⟨v, hv⟩ := bufc_get (c := c) (N := N) (i := 400 - c - 1) (by omega) (by omega)
            have c3 := e3.cell hv
            have f3 := e3.frozen (400 - c - 1)
            clear hv e4
            rw [show (((400 - c : Nat) : Int)) = ((400 - c - 1 : Nat) : Int) + 1 by omega] at h400 ⊢
            generalize hat : 400 - c - 1 = at1 at *
            have hat2 : at1 < 400 := by omega
            clear hat
            go_wp2_with (first | (with_reducible refine slU rfl rfl rfl rfl hat2 ?_) | (refine cvS (ns := 45 :: (low c N).map (48 + ·)) rfl rfl rfl r5 r6 ?_))
            go_ret
            refine ⟨?_, hb.setCell (by simp) _⟩
            rw [HT.out]
            rfl
      · have hz : (0 : Int) < (nw gk : Int) := by have := nw_zero (N := gk); omega
        obtain ⟨hb, _, e0, e3, e5⟩ := hM
        go_wp2_with (first | (with_reducible refine ldA rfl rfl rfl e5 ?_))
        refine (divideWord_any gk 1000000000 _ HGB.out (by omega) (by omega)).mono ?_
        rintro e w1 ⟨rfl, hb1⟩
        replace e0 := e0.call hb1
        replace e3 := e3.call hb1
        replace e5 := e5.call hb1
        replace hb := bthen hb hb1
        clear hb1
        obtain ⟨R1, hR1⟩ : ∃ R1, gk / 1000000000 = R1 := ⟨_, rfl⟩
        obtain ⟨G, hG0⟩ : ∃ G, gk % 1000000000 = G := ⟨_, rfl⟩
        rw [hR1, hG0]
        have HR1 := Lib.hid hR1
        have HG0 := Lib.hid hG0
        have hGl : G ≤ 999999999 := by omega
        have HRB : Hid (R1 < bb ^ 32) := Nat.lt_of_le_of_lt (hR1 ▸ Nat.div_le_self gk 1000000000) HGB.out
        clear hR1 hG0
        have d5 := e5.row (wc R1)
        go_wp2_with (first | (with_reducible refine stA rfl rfl rfl rfl e5 ?_) | (with_reducible refine ldA rfl rfl rfl d5 ?_))
        refine (length_any R1 _ HRB.out).mono ?_
        rintro e w2 ⟨rfl, hb2⟩
        replace e0 := (e0.rowOther (g := p) (wc R1).toArray (by omega)).call hb2
        replace e3 := (e3.rowOther (g := p) (wc R1).toArray (by omega)).call hb2
        replace e5 := d5.call hb2
        replace hb := bthen (below_row hb (g := p) (by omega) (wc R1).toArray) hb2
        clear hb2 d5
        have hM : TextMem w w2 p s N c R1 := ⟨hb, hp, e0, e3, e5⟩
        clear hb e0 e3 e5
        by_cases hR : R1 = 0
        · subst hR
          rw [show ((nw 0 : Nat) : Int) = 0 from rfl]
          go_wp2_with fail
          go_loopw [4, 7, 8] (fun a4 a7 a8 wr => ∃ i : Nat, i ≤ 9 ∧ c + i ≤ 309 ∧ (0 < c + i → 0 < N / 10 ^ (c + i - 1)) ∧ a4 = .int .i64 ((400 - (c + i) : Nat) : Int) ∧ a7 = .int .u32 (G / 10 ^ i : Nat) ∧ a8 = .int .i64 i ∧ TextMem w wr p s N (c + i) 0) (fun _ _ a8 _ => 9 - (intOf a8).toNat)
          case atStart => exact ⟨0, by omega, hc, HLow.out, rfl, by simp, rfl, hM⟩
          case round =>
            clear hM
            obtain ⟨i, hi, hci, hlw, rfl, rfl, rfl, hM⟩ := hrel
            have HLw := Lib.hid hlw
            clear hlw
            have hgr : N / 10 ^ (c + i) = gk / 10 ^ i := by rw [HG.out, Nat.pow_add, Nat.div_div_eq_div_mul]
            have HGr := Lib.hid hgr
            clear hgr
            obtain ⟨y, hy⟩ : ∃ y, G / 10 ^ i = y := ⟨_, rfl⟩
            rw [hy]
            have hyl : y ≤ 999999999 := by rw [← hy]; exact Nat.le_trans (Nat.div_le_self _ _) hGl
            have HY := Lib.hid hy
            clear hy
            by_cases h9 : i < 9
            · have h9' : (i : Int) < 9 := by omega
              by_cases hy0 : y = 0
              · have hyz : ¬ (0 : Int) < (y : Int) := by omega
                have hend : N / 10 ^ (c + i) = 0 := by
                  rw [HGr.out, grp gk i (by omega), HR1.out, HG0.out, HY.out]
                  rw [hy0]; omega
                have HEnd := Lib.hid hend
                clear hend
                go_wp2
                go_roundg 0
                case measure =>
                  have := HR1.out
                  have h3 : gk / 1000000000 < gk := Nat.div_lt_self (Nat.pos_of_ne_zero h0) (by decide)
                  omega
                case rel => exact ⟨c + i, hci, HEnd.out.symm, HLw.out, int_eq (by omega), rfl, hM⟩
              · have hyz : (0 : Int) < (y : Int) := by omega
                have hpos : 0 < gk / 10 ^ i := by
                  rcases Nat.eq_zero_or_pos (gk / 10 ^ i) with h | h
                  · have := ((grp_zero gk i (by omega)).1 h).2; rw [HG0.out, HY.out] at this; exact absurd this hy0
                  · exact h
                have hc3 : c + i < 309 := nd_bound HN.out (by rw [HGr.out]; exact hpos)
                have HP := Lib.hid hpos
                clear hpos
                obtain ⟨hb, _, e0, e3, e5⟩ := hM
                obtain ⟨v, hv⟩ := bufc_get (c := c + i) (N := N) (i := 400 - (c + i) - 1) (by omega) (by omega)
                have c3 := e3.cell hv
                have f3 := e3.frozen (400 - (c + i) - 1)
                have HV := Lib.hid hv
                clear hv
                rw [show (((400 - (c + i) : Nat) : Int)) = ((400 - (c + i) - 1 : Nat) : Int) + 1 by omega]
                generalize hat : 400 - (c + i) - 1 = at1 at *
                have hat2 : at1 < 400 := by omega
                have HAT := Lib.hid hat
                clear hat
                go_wp2
                go_roundw
                case rel =>
                  refine ⟨i + 1, by omega, by omega, fun _ => ?_, int_eq (by have := HAT.out; omega), int_eq ?_, by go_num, hb.setCell (by simp) _, hp, e0.setOther _ _ (by omega), ?_, e5.setOther _ _ (by omega)⟩
                  · rw [show c + (i + 1) - 1 = c + i by omega, HGr.out]; exact HP.out
                  · rw [Nat.pow_succ, ← Nat.div_div_eq_div_mul, HY.out]; omega
                  · have := e3.set at1 (dcell (N / 10 ^ (c + i) % 10))
                    rw [← HAT.out, bufc_set (by omega), HAT.out] at this
                    rw [show c + (i + 1) = c + i + 1 by omega]
                    rw [HGr.out, grp_mod gk i h9, HG0.out, HY.out] at this
                    rw [show Value.int .u8 (48 + (y : Int) % 10) = dcell (y % 10) from int_eq (by omega)]
                    exact this
                case measure => simp [intOf]; omega
            · have h9' : ¬ (i : Int) < 9 := by omega
              have hi9 : i = 9 := by omega
              have hG9 : y = 0 := by rw [← HY.out, hi9]; exact Nat.div_eq_of_lt (by omega)
              have hend : N / 10 ^ (c + i) = 0 := by
                rw [HGr.out, grp gk i (by omega), HR1.out, HG0.out, HY.out]
                rw [hG9]; omega
              have HEnd := Lib.hid hend
              clear hend
              go_wp2
              go_roundg 0
              case measure =>
                have := HR1.out
                have h3 : gk / 1000000000 < gk := Nat.div_lt_self (Nat.pos_of_ne_zero h0) (by decide)
                omega
              case rel => exact ⟨c + i, hci, HEnd.out.symm, HLw.out, int_eq (by omega), rfl, hM⟩
        · have hRz : (0 : Int) < (nw R1 : Int) := by have := nw_zero (N := R1); omega
          go_wp2_with fail
          go_loopw [4, 7, 8] (fun a4 a7 a8 wr => ∃ i : Nat, i ≤ 9 ∧ c + i ≤ 309 ∧ (0 < c + i → 0 < N / 10 ^ (c + i - 1)) ∧ a4 = .int .i64 ((400 - (c + i) : Nat) : Int) ∧ a7 = .int .u32 (G / 10 ^ i : Nat) ∧ a8 = .int .i64 i ∧ TextMem w wr p s N (c + i) R1) (fun _ _ a8 _ => 9 - (intOf a8).toNat)
          case atStart => exact ⟨0, by omega, hc, HLow.out, rfl, by simp, rfl, hM⟩
          case round =>
            clear hM
            obtain ⟨i, hi, hci, hlw, rfl, rfl, rfl, hM⟩ := hrel
            have HLw := Lib.hid hlw
            clear hlw
            have hgr : N / 10 ^ (c + i) = gk / 10 ^ i := by rw [HG.out, Nat.pow_add, Nat.div_div_eq_div_mul]
            have HGr := Lib.hid hgr
            clear hgr
            obtain ⟨y, hy⟩ : ∃ y, G / 10 ^ i = y := ⟨_, rfl⟩
            rw [hy]
            have hyl : y ≤ 999999999 := by rw [← hy]; exact Nat.le_trans (Nat.div_le_self _ _) hGl
            have HY := Lib.hid hy
            clear hy
            by_cases h9 : i < 9
            · have h9' : (i : Int) < 9 := by omega
              have hpos : 0 < gk / 10 ^ i := by
                rcases Nat.eq_zero_or_pos (gk / 10 ^ i) with h | h
                · have := ((grp_zero gk i (by omega)).1 h).1; exact absurd (HR1.out.symm.trans this) hR
                · exact h
              have hc3 : c + i < 309 := nd_bound HN.out (by rw [HGr.out]; exact hpos)
              have HP := Lib.hid hpos
              clear hpos
              obtain ⟨hb, _, e0, e3, e5⟩ := hM
              obtain ⟨v, hv⟩ := bufc_get (c := c + i) (N := N) (i := 400 - (c + i) - 1) (by omega) (by omega)
              have c3 := e3.cell hv
              have f3 := e3.frozen (400 - (c + i) - 1)
              have HV := Lib.hid hv
              clear hv
              rw [show (((400 - (c + i) : Nat) : Int)) = ((400 - (c + i) - 1 : Nat) : Int) + 1 by omega]
              generalize hat : 400 - (c + i) - 1 = at1 at *
              have hat2 : at1 < 400 := by omega
              have HAT := Lib.hid hat
              clear hat
              go_wp2
              go_roundw
              case rel =>
                refine ⟨i + 1, by omega, by omega, fun _ => ?_, int_eq (by have := HAT.out; omega), int_eq ?_, by go_num, hb.setCell (by simp) _, hp, e0.setOther _ _ (by omega), ?_, e5.setOther _ _ (by omega)⟩
                · rw [show c + (i + 1) - 1 = c + i by omega, HGr.out]; exact HP.out
                · rw [Nat.pow_succ, ← Nat.div_div_eq_div_mul, HY.out]; omega
                · have := e3.set at1 (dcell (N / 10 ^ (c + i) % 10))
                  rw [← HAT.out, bufc_set (by omega), HAT.out] at this
                  rw [show c + (i + 1) = c + i + 1 by omega]
                  rw [HGr.out, grp_mod gk i h9, HG0.out, HY.out] at this
                  rw [show Value.int .u8 (48 + (y : Int) % 10) = dcell (y % 10) from int_eq (by omega)]
                  exact this
              case measure => simp [intOf]; omega
            · have h9' : ¬ (i : Int) < 9 := by omega
              have hi9 : i = 9 := by omega
              have hG9 : y = 0 := by rw [← HY.out, hi9]; exact Nat.div_eq_of_lt (by omega)
              have hend : N / 10 ^ (c + i) = R1 := by
                rw [HGr.out, grp gk i (by omega), HR1.out, HG0.out, HY.out]
                rw [hG9, hi9]; omega
              have HEnd := Lib.hid hend
              clear hend
              go_wp2
              go_roundg R1
              case measure =>
                have := HR1.out
                have h3 : gk / 1000000000 < gk := Nat.div_lt_self (Nat.pos_of_ne_zero h0) (by decide)
                omega
              case rel => exact ⟨c + i, hci, HEnd.out.symm, HLw.out, int_eq (by omega), rfl, hM⟩
end Go.Proofs.Ytcbhmmeobkhomaa
