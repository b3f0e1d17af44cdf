/- Joined of: Cut Tbs Tzz Rtx Rps. -/
import Derived.Test.YtcbhmmeobkhomaaRss
import Derived.Lib.Bytealg
import Derived.BigQuiet
import Derived.Deep.QuietTactic
import Derived.Test.YtcbhmmeobkhomaaLay
import Derived.Test.YtcbhmmeobkhomaaRle
/- strings.Cut at a text of one byte. -/
namespace Go.Proofs.Ytcbhmmeobkhomaa
set_option linter.unusedSimpArgs false
set_option linter.unusedVariables false
open Go.RowKit
set_option maxRecDepth 100000
set_option maxHeartbeats 1000000 in
theorem sl_IndexByte (s : ByteArray) (c : Int) (w : World) :
    Calls Try.prog 86 #[.string s, .int .u8 c] w fun e w' => e = .returned (.int .i64 (Lib.indexByte s.data.toList c.toNat.toUInt8)) ∧ w' = w := by
  go_enter Try.func86, Try.ntmps86
  go_wp2_with fail
  rw [run_callFunc_extern Try.func98 (by kernel_rfl) (by kernel_rfl) (by kernel_rfl) (e := Extern.BytealgIndexByte.indexByte) (by kernel_rfl), Lib.run_indexByteString]
  simp only [Result.andThen]
  rw [Oper.upon_value]
  go_wp2
  go_ret
  exact ⟨rfl, rfl⟩
set_option maxHeartbeats 1000000 in
theorem sl_Index_one (s : ByteArray) (c : UInt8) (w : World) :
    Calls Try.prog 73 #[.string s, .string ⟨#[c]⟩] w fun e w' => e = .returned (.int .i64 (Lib.indexByte s.data.toList c)) ∧ w' = w := by
  go_enter Try.func73, Try.ntmps73
  go_wp2_with (first | (go_at_call 86; refine (sl_IndexByte _ _ _).mono ?_; rintro e w' ⟨rfl, rfl⟩))
  · have h : ([c] == s.toList) = true := by assumption
    go_ret
    refine ⟨?_, rfl⟩
    have e : s.data.toList = [c] := by rw [← Lib.toList_data]; exact (beq_iff_eq.1 h).symm
    rw [e]
    simp [Lib.indexByte]
  · go_ret
    exact ⟨rfl, rfl⟩
set_option maxHeartbeats 1000000 in
theorem sl_Cut_yes (s : ByteArray) (c : UInt8) (k : Nat) (w : World) (hs : s.size ≤ 1000000) (h : Lib.indexByte s.data.toList c = (k : Int)) (hk : k < s.size) :
    Calls Try.prog 56 #[.string s, .string ⟨#[c]⟩] w fun e w' => e = .returned (.tuple #[.string (s.extract 0 k), .string (s.extract (k + 1) s.size), .bool true]) ∧ Below w.heap.size w w' := by
  have HI := fun w => sl_Index_one s c w
  rw [h] at HI
  have HH := Lib.hid HI
  clear HI h
  have k1 : (k : Int) ≤ (s.size : Int) := by omega
  have k2 : (k : Int) + 1 ≤ (s.size : Int) := by omega
  have k3 : (0 : Int) ≤ (k : Int) := by omega
  have k4 : (0 : Int) ≤ (k : Int) + 1 := by omega
  have k5 : IntKind.i64.wrap ((k : Int) + 1) = (k : Int) + 1 := by rw [IntKind.wrap_i64]; omega
  go_enter Try.func56, Try.ntmps56
  go_wp2_with (first | (go_at_call 73; refine (HH.out _).mono ?_; rintro e w' ⟨rfl, rfl⟩))
  go_quiet (fail)
  go_wp2
  go_ret3
  exact ⟨rfl, below_drewN (Below.refl _ _) _⟩
set_option maxHeartbeats 1000000 in
theorem sl_Cut_no (s : ByteArray) (c : UInt8) (w : World) (h : Lib.indexByte s.data.toList c = -1) :
    Calls Try.prog 56 #[.string s, .string ⟨#[c]⟩] w fun e w' => e = .returned (.tuple #[.string s, .string ⟨#[]⟩, .bool false]) ∧ Below w.heap.size w w' := by
  have HI := fun w => sl_Index_one s c w
  rw [h] at HI
  have HH := Lib.hid HI
  clear HI h
  go_enter Try.func56, Try.ntmps56
  go_wp2_with (first | (go_at_call 73; refine (HH.out _).mono ?_; rintro e w' ⟨rfl, rfl⟩))
  go_ret3
  exact ⟨rfl, Below.refl _ _⟩
set_option maxHeartbeats 1000000 in
theorem Cut_of {x y : Value} {p q : ByteArray} {b : Bool} (h : ∀ w, Calls Try.prog 56 #[x, y] w fun e w' => e = .returned (.tuple #[.string p, .string q, .bool b]) ∧ Below w.heap.size w w') (w : World) :
    Calls Try.prog 32 #[x, y] w fun e w' => e = .returned (.tuple #[.string p, .string q, .bool b]) ∧ Below w.heap.size w w' := by
  have HH := Lib.hid h
  clear h
  go_enter Try.func32, Try.ntmps32
  go_wp2_with fail
  refine (HH.out _).mono ?_
  rintro e w1 ⟨rfl, h1⟩
  go_wp2
  go_ret3
  exact ⟨rfl, h1⟩
end Go.Proofs.Ytcbhmmeobkhomaa

/- Texts and what Parse answers to them. -/
namespace Go.Proofs.Ytcbhmmeobkhomaa
set_option linter.unusedSimpArgs false
set_option linter.unusedVariables false
open Go.RowKit
set_option maxRecDepth 100000
/-- The text of these bytes. -/
def bs (l : List UInt8) : ByteArray := ⟨l.toArray⟩
theorem bs_size (l : List UInt8) : (bs l).size = l.length := by simp [bs, ByteArray.size]
theorem bs_get (l : List UInt8) (i : Nat) (h : i < (bs l).size) : (bs l)[i] = l[i]'(by rw [bs_size] at h; exact h) := rfl
theorem bs_append (l m : List UInt8) : bs l ++ bs m = bs (l ++ m) := by
  apply ByteArray.ext
  simp [bs]
theorem bs_tail (c : UInt8) (l : List UInt8) : (bs (c :: l)).extract 1 (bs (c :: l)).size = bs l := by
  apply ByteArray.ext
  simp [bs, ByteArray.size]
theorem bs_toList (l : List UInt8) : (bs l).toList = l := by rw [ByteArray.toList_eq]; rfl
/-- The digits of N. -/
def dd (N : Nat) : List UInt8 := (low (ndig N) N).map (fun d => UInt8.ofNat (48 + d))
theorem dd_len (N : Nat) : (dd N).length = ndig N := by simp [dd, low_length]
theorem ndig_pos {N : Nat} (h : N ≠ 0) : 0 < ndig N := by
  show 0 < ndF (399 + 1) N
  rw [ndF, if_neg h]; omega
theorem log_ten (N : Nat) : ∀ f, N < 10 ^ f → ∃ c, c ≤ f ∧ N < 10 ^ c ∧ (0 < c → 10 ^ (c - 1) ≤ N)
  | 0, h => ⟨0, Nat.le_refl _, h, fun h => absurd h (by decide)⟩
  | f + 1, h => by
    rcases Nat.lt_or_ge N (10 ^ f) with h1 | h1
    · obtain ⟨c, a, b, d⟩ := log_ten N f h1
      exact ⟨c, by omega, b, d⟩
    · exact ⟨f + 1, Nat.le_refl _, h, fun _ => h1⟩
theorem ndig_spec {N : Nat} (hN : N < bb ^ 32) : ndig N ≤ 309 ∧ N < 10 ^ ndig N ∧ (0 < ndig N → 10 ^ (ndig N - 1) ≤ N) := by
  obtain ⟨c, a, b, d⟩ := log_ten N 309 (Nat.lt_of_lt_of_le hN lim_dec)
  rw [ndig_of (by omega) b d]
  exact ⟨a, b, d⟩
theorem dd_digit {N : Nat} {c : UInt8} (h : c ∈ dd N) : 48 ≤ c.toNat ∧ c.toNat ≤ 57 := by
  obtain ⟨d, hd, rfl⟩ := List.mem_map.1 h
  have := low_le _ _ d hd
  rw [UInt8.toNat_ofNat']
  omega
theorem dd_val {N : Nat} (hN : N < bb ^ 32) : val ((dd N).map fun c => c.toNat - 48) = N := by
  have e : (dd N).map (fun c => c.toNat - 48) = low (ndig N) N := by
    rw [dd, List.map_map]
    conv => rhs; rw [← List.map_id (low (ndig N) N)]
    apply List.map_congr_left
    intro d hd
    have := low_le _ _ d hd
    simp only [Function.comp, id, UInt8.toNat_ofNat']
    omega
  rw [e, val_low, Nat.mod_eq_of_lt (ndig_spec hN).2.1]
theorem dd_cons {N : Nat} (hN : N < bb ^ 32) (h0 : N ≠ 0) : ∃ c l, dd N = c :: l ∧ c.toNat ≠ 48 ∧ c.toNat ≠ 45 := by
  have hp := ndig_pos h0
  obtain ⟨h1, h2, h3⟩ := ndig_spec hN
  obtain ⟨k, hk⟩ : ∃ k, ndig N = k + 1 := ⟨ndig N - 1, by omega⟩
  rw [hk] at h2 h3
  have h4 := h3 (by omega)
  rw [Nat.add_sub_cancel] at h4
  have hq : N / 10 ^ k < 10 := by rw [Nat.div_lt_iff_lt_mul (Nat.pow_pos (by decide)), Nat.mul_comm, ← Nat.pow_succ]; exact h2
  have hq1 : 1 ≤ N / 10 ^ k := by rw [Nat.le_div_iff_mul_le (Nat.pow_pos (by decide)), Nat.one_mul]; exact h4
  refine ⟨UInt8.ofNat (48 + N / 10 ^ k % 10), (low k N).map (fun d => UInt8.ofNat (48 + d)), by rw [dd, hk]; rfl, ?_, ?_⟩
  · rw [UInt8.toNat_ofNat']; omega
  · rw [UInt8.toNat_ofNat']; omega
theorem txt_of (s : Bool) (N : Nat) : txt s N = if N = 0 then [48] else (if s then [45] else []) ++ dd N := rfl
theorem parse_bad (l : List UInt8) (w : World) (hl : l.length ≤ 400) (h1 : l ≠ [48]) (h45 : ∀ c r, l = c :: r → c.toNat ≠ 45) (hb : l = [] ∨ (∃ c r, l = c :: r ∧ c.toNat = 48) ∨ ∃ c ∈ l, c.toNat < 48 ∨ 57 < c.toNat) :
    Calls Try.prog 33 #[.string (bs l)] w fun e w' => e = .returned (.tuple #[.agg (mk 0).toArray, .bool false]) ∧ Below w.heap.size w w' := by
  refine Parse_bad (bs l) w (by rw [bs_size]; exact hl) ?_ ?_ ?_
  · rw [bs_toList, beq_eq_false_iff_ne]; exact h1
  · intro h
    rw [bs_get]
    cases l with
    | nil => simp [bs, ByteArray.size] at h
    | cons c r => exact h45 c r rfl
  · rcases hb with rfl | ⟨c, r, rfl, hc⟩ | ⟨c, hc, hd⟩
    · exact .inl rfl
    · exact .inr (.inl ⟨by rw [bs_size]; simp, by rw [bs_get]; exact hc⟩)
    · obtain ⟨i, hi, rfl⟩ := List.getElem_of_mem hc
      exact .inr (.inr ⟨i, by rw [bs_size]; exact hi, by rw [bs_get]; exact hd⟩)
theorem parse_badneg (l : List UInt8) (w : World) (hl : l.length < 400) (hb : ∃ c ∈ l, c.toNat < 48 ∨ 57 < c.toNat) :
    Calls Try.prog 33 #[.string (bs (45 :: l))] w fun e w' => e = .returned (.tuple #[.agg (mk 0).toArray, .bool false]) ∧ Below w.heap.size w w' := by
  obtain ⟨c, hc, hd⟩ := hb
  obtain ⟨i, hi, rfl⟩ := List.getElem_of_mem hc
  exact Parse_badneg (bs (45 :: l)) (bs l) w (by rw [bs_size, List.length_cons]; omega) (by rw [bs_size]; simp) (by rw [bs_get]; rfl) (bs_tail _ _)
    (.inr (.inr ⟨i, by rw [bs_size]; exact hi, by rw [bs_get]; exact hd⟩))
theorem dg_bs (l : List UInt8) : dg (bs l) = l.map fun c => c.toNat - 48 := rfl
theorem parse_txt (s : Bool) (N : Nat) (w : World) (hN : N < bb ^ 32) :
    Calls Try.prog 33 #[.string (bs (txt s N))] w fun e w' => e = .returned (.tuple #[.agg (mk (zn s N)).toArray, .bool true]) ∧ Below w.heap.size w w' := by
  by_cases h0 : N = 0
  · subst h0
    have : zn s 0 = 0 := by cases s <;> rfl
    rw [this]
    exact Parse_zero _ w (bs_toList _)
  · rw [txt_of, if_neg h0]
    obtain ⟨c, l, hc, h48, _⟩ := dd_cons hN h0
    have hlen : (dd N).length ≤ 309 := by rw [dd_len]; exact (ndig_spec hN).1
    have hpos : 0 < (dd N).length := by rw [hc]; simp
    have hdig : Digits (bs (dd N)) := fun i h => by
      rw [bs_get]
      exact dd_digit (List.getElem_mem _)
    have h1 : ∀ h : 0 < (bs (dd N)).size, (bs (dd N))[0].toNat ≠ 48 := fun h => by
      rw [bs_get]
      simp only [hc, List.getElem_cons_zero]
      exact h48
    have hv : val (dg (bs (dd N))) = N := by rw [dg_bs]; exact dd_val hN
    cases s
    · have := Parse_pos (bs (dd N)) w (by rw [bs_size]; omega) (by rw [bs_size]; exact hpos) hdig (h1 _) (by rw [hv]; exact hN)
      rw [hv] at this
      exact this
    · have := Parse_neg (bs (45 :: dd N)) (bs (dd N)) w (by rw [bs_size, List.length_cons]; omega) (by rw [bs_size]; simp) (by rw [bs_get]; rfl) (bs_tail _ _) (by rw [bs_size]; exact hpos) hdig (h1 _) (by rw [hv]; exact hN)
      rw [hv] at this
      exact this
end Go.Proofs.Ytcbhmmeobkhomaa

/- Texts of numbers: as they are told, as they are read. -/
namespace Go.Proofs.Ytcbhmmeobkhomaa
set_option linter.unusedSimpArgs false
set_option linter.unusedVariables false
open Go.RowKit
set_option maxRecDepth 100000
theorem txt_len (s : Bool) {N : Nat} (hN : N < bb ^ 32) : (txt s N).length ≤ 310 ∧ 0 < (txt s N).length := by
  rw [txt_of]
  by_cases h0 : N = 0
  · rw [if_pos h0]; decide
  · rw [if_neg h0, List.length_append, dd_len]
    have h1 := (ndig_spec hN).1
    have h2 := ndig_pos h0
    cases s <;> simp <;> omega
/-- The text of z. -/
def tz (z : Int) : ByteArray := bs (txt (decide (z < 0)) z.natAbs)
theorem tz_size {z : Int} (h : fits z) : (tz z).size ≤ 310 := by rw [tz, bs_size]; exact (txt_len _ h).1
theorem text_mk {z : Int} (h : fits z) (w : World) : Calls Try.prog 26 #[.agg (mk z).toArray] w fun e w' => e = .returned (.string (tz z)) ∧ Below w.heap.size w w' :=
  Text_any (decide (z < 0)) z.natAbs w h
theorem parse_mk {z : Int} (h : fits z) (w : World) : Calls Try.prog 33 #[.string (tz z)] w fun e w' => e = .returned (.tuple #[.agg (mk z).toArray, .bool true]) ∧ Below w.heap.size w w' := by
  have := parse_txt (decide (z < 0)) z.natAbs w h
  rwa [zn_self] at this
end Go.Proofs.Ytcbhmmeobkhomaa

/- Package ratio: Text, Parse of what Text tells. -/
namespace Go.Proofs.Ytcbhmmeobkhomaa
set_option linter.unusedSimpArgs false
set_option linter.unusedVariables false
open Go.RowKit
set_option maxRecDepth 100000
theorem op_cat {o : Oper} {a : Act} {x y : Operand} {s t : ByteArray} {ty : TypeId} (h : s.size + t.size ≤ 9223372036854775807) (ho : o.op = .binOp .add 9 x y ty) (hx : a.eval x = .string s) (hy : a.eval y = .string t) (w : World) :
    (execOp a.eval o).run Try.prog w = .ok (.value (.string (s ++ t))) w := by
  have h' : ¬ 9223372036854775807 < s.size + t.size := by omega
  unfold execOp
  simp only [ho, hx, hy]
  go_simp
set_option maxHeartbeats 1000000 in
theorem Text_whole {n : Int} (hn : fits n) : Tl 17 #[vf n 1] (.string (tz n)) := fun w => by
  unfold vf
  have HI := Lib.hid (fun w => isr_yes hn f1 ⟨by decide, Int.gcd_one_right ..⟩ w)
  have HT := Lib.hid (fun w => text_mk hn w)
  clear hn
  have b1 := Blk.new w (fr n 1) 29 rfl
  have hb : Below w.heap.size w (w.alloc (.cells (fr n 1).toArray 29)) := (Below.refl _ _).alloc (Nat.le_refl _) _
  go_enter Try.func17, Try.ntmps17
  go_wp2_with (first | (with_reducible refine ldFr rfl rfl rfl b1 ?_))
  refine (HI.out _).mono ?_
  rintro e w1 ⟨rfl, h1⟩
  replace b1 := b1.call h1
  replace hb := bthen hb h1
  clear h1
  go_wp2_with (first | (with_reducible refine ldP rfl rfl rfl b1 (partF_d _ _) (wholeM _) ?_))
  refine (isOne_yes _).mono ?_
  rintro e w1 ⟨rfl, h1⟩
  replace b1 := b1.call h1
  replace hb := bthen hb h1
  clear h1
  go_wp2_with (first | (with_reducible refine ldP rfl rfl rfl b1 (partF_n _ _) (wholeM _) ?_))
  refine (HT.out _).mono ?_
  rintro e w1 ⟨rfl, h1⟩
  replace b1 := b1.call h1
  replace hb := bthen hb h1
  clear h1
  go_wp2
  go_ret
  exact ⟨rfl, hb⟩
set_option maxHeartbeats 1000000 in
theorem Text_rat {n d : Int} (hn : fits n) (hd : fits d) (hr : Rt n d) (h1 : ¬ d = 1) : Tl 17 #[vf n d] (.string (tz n ++ ⟨#[47]⟩ ++ tz d)) := fun w => by
  unfold vf
  have HI := Lib.hid (fun w => isr_yes hn hd hr w)
  have HO := Lib.hid (fun w => isOne_no hd h1 w)
  have HT1 := Lib.hid (fun w => text_mk hn w)
  have HT2 := Lib.hid (fun w => text_mk hd w)
  have s1 := tz_size hn
  have s2 := tz_size hd
  have s3 : (tz n ++ (⟨#[47]⟩ : ByteArray)).size ≤ 311 := by rw [ByteArray.size_append]; show (tz n).size + 1 ≤ 311; omega
  generalize tz n = x at *
  generalize tz d = y at *
  clear hn hd hr h1
  have b1 := Blk.new w (fr n d) 29 rfl
  have hb : Below w.heap.size w (w.alloc (.cells (fr n d).toArray 29)) := (Below.refl _ _).alloc (Nat.le_refl _) _
  go_enter Try.func17, Try.ntmps17
  go_wp2_with (first | (with_reducible refine ldFr rfl rfl rfl b1 ?_))
  refine (HI.out _).mono ?_
  rintro e w1 ⟨rfl, h1⟩
  replace b1 := b1.call h1
  replace hb := bthen hb h1
  clear h1
  go_wp2_with (first | (with_reducible refine ldP rfl rfl rfl b1 (partF_d _ _) (wholeM _) ?_))
  refine (HO.out _).mono ?_
  rintro e w1 ⟨rfl, h1⟩
  replace b1 := b1.call h1
  replace hb := bthen hb h1
  clear h1
  go_wp2_with fail
  refine rg_start [] (by kernel_rfl) (fun hS => ?_)
  replace hb := hb.drew
  refine rg_take 0 rfl (by kernel_rfl) (by kernel_rfl) (by kernel_rfl) (by rfl) hS (v := ?_) ?_ ?_
  rotate_left
  · (intro w' hS'; go_simp <;> try with_reducible rfl)
  try simp only [Act.put, List.setIfInBounds_toArray, List.set_cons_zero, List.set_cons_succ]
  refine rg_ldP 1 rfl (by kernel_rfl) (by kernel_rfl) (by kernel_rfl) (by rfl) hS rfl rfl b1 (by simp <;> omega) (partF_n _ _) (wholeM _) ?_
  try simp only [Act.put, List.setIfInBounds_toArray, List.set_cons_zero, List.set_cons_succ]
  refine rg_take 4 rfl (by kernel_rfl) (by kernel_rfl) (by kernel_rfl) (by rfl) hS (v := ?_) ?_ ?_
  rotate_left
  · (intro w' hS'; go_simp <;> try with_reducible rfl)
  try simp only [Act.put, List.setIfInBounds_toArray, List.set_cons_zero, List.set_cons_succ]
  refine rg_ldP 5 rfl (by kernel_rfl) (by kernel_rfl) (by kernel_rfl) (by rfl) hS rfl rfl b1 (by simp <;> omega) (partF_d _ _) (wholeM _) ?_
  try simp only [Act.put, List.setIfInBounds_toArray, List.set_cons_zero, List.set_cons_succ]
  refine rg_eff 2 rfl (by kernel_rfl) (by rfl) (fun K hK => ?_)
  go_simp
  refine (HT1.out _).mono ?_
  rintro e w1 ⟨rfl, h1⟩
  refine hK _ _ (hS.call h1) (fun hS => ?_)
  clear hK K
  replace hb := bthen hb h1
  clear h1
  try simp only [Act.put, List.setIfInBounds_toArray, List.set_cons_zero, List.set_cons_succ]
  refine rg_take 3 rfl (by kernel_rfl) (by kernel_rfl) (by kernel_rfl) (by rfl) hS (v := .string (x ++ ⟨#[47]⟩)) (fun w' _ => op_cat (by show x.size + 1 ≤ _; omega) rfl rfl rfl w') ?_
  try simp only [Act.put, List.setIfInBounds_toArray, List.set_cons_zero, List.set_cons_succ]
  refine rg_eff 6 rfl (by kernel_rfl) (by rfl) (fun K hK => ?_)
  go_simp
  refine (HT2.out _).mono ?_
  rintro e w1 ⟨rfl, h1⟩
  refine hK _ _ (hS.call h1) (fun hS => ?_)
  clear hK K
  replace hb := bthen hb h1
  clear h1
  try simp only [Act.put, List.setIfInBounds_toArray, List.set_cons_zero, List.set_cons_succ]
  refine rg_take 7 rfl (by kernel_rfl) (by kernel_rfl) (by kernel_rfl) (by rfl) hS (v := .string (x ++ ⟨#[47]⟩ ++ y)) (fun w' _ => op_cat (by omega) rfl rfl rfl w') ?_
  try simp only [Act.put, List.setIfInBounds_toArray, List.set_cons_zero, List.set_cons_succ]
  refine rg_take 8 rfl (by kernel_rfl) (by kernel_rfl) (by kernel_rfl) (by rfl) hS (v := ?_) ?_ ?_
  rotate_left
  · (intro w' hS'; go_simp <;> try with_reducible rfl)
  try simp only [Act.put, List.setIfInBounds_toArray, List.set_cons_zero, List.set_cons_succ]
  refine rg_done (by kernel_rfl) ?_
  go_wp2
  go_ret
  exact ⟨rfl, hb⟩
end Go.Proofs.Ytcbhmmeobkhomaa

/- Package ratio: Parse of what Text tells. -/
namespace Go.Proofs.Ytcbhmmeobkhomaa
set_option linter.unusedSimpArgs false
set_option linter.unusedVariables false
open Go.RowKit
set_option maxRecDepth 100000
set_option maxHeartbeats 2000000 in
theorem Parse_walk {n d : Int} {x y s : ByteArray} (hn : fits n) (hd : fits d) (hr : Rt n d) (h1 : ¬ d = 1) (C : Tl 32 #[.string s, .string ⟨#[47]⟩] (.tuple #[.string x, .string y, .bool true])) (P1 : Tl 33 #[.string x] (.tuple #[vw n, .bool true])) (P2 : Tl 33 #[.string y] (.tuple #[vw d, .bool true])) :
    Tl 11 #[.string s] (.tuple #[vf n d, .bool true]) := fun w => by
  unfold Tl at C P1 P2
  unfold vw at P1 P2
  unfold vf
  have HC := Lib.hid C
  have HP1 := Lib.hid P1
  have HP2 := Lib.hid P2
  have HI := Lib.hid (fun w => isr_yes hn hd hr w)
  have HO := Lib.hid (fun w => isOne_no hd h1 w)
  clear C P1 P2 hn hd hr h1
  have b2 := Blk.new w (rr false 0 false 0) 29 rfl
  have hb : Below w.heap.size w (w.alloc (.cells (rr false 0 false 0).toArray 29)) := (Below.refl _ _).alloc (Nat.le_refl _) _
  go_enter Try.func11, Try.ntmps11
  go_wp2_with (first | (with_reducible refine alR rfl rfl ?_))
  refine (HC.out _).mono ?_
  rintro e w1 ⟨rfl, h1⟩
  replace b2 := b2.call h1
  replace hb := bthen hb h1
  clear h1
  go_wp2_with fail
  refine (HP1.out _).mono ?_
  rintro e w1 ⟨rfl, h1⟩
  replace b2 := b2.call h1
  replace hb := bthen hb h1
  clear h1
  have f := Blk.new w1 (wd false 0) 27 rfl
  have b7 := laid_new w1 (n)
  replace b2 := laid_old b2 (n)
  replace hb := laid_below hb (n)
  go_wp2_with (first | (with_reducible refine alW rfl rfl ?_) | (with_reducible refine stM rfl rfl rfl rfl f (wd_length _ _) ?_))
  clear f
  generalize (w1.alloc (.cells (wd false 0).toArray 27)).setRow w1.heap.size (mk (n)).toArray = W at *
  generalize w1.heap.size = pl_b7 at *
  refine (HP2.out _).mono ?_
  rintro e w1 ⟨rfl, h1⟩
  replace b2 := b2.call h1
  replace b7 := b7.call h1
  replace hb := bthen hb h1
  clear h1
  have f := Blk.new w1 (wd false 0) 27 rfl
  have l2 := b2.lt
  have l7 := b7.lt
  have b9 := laid_new w1 d
  replace b7 := laid_old b7 d
  replace b2 := laid_old b2 d
  replace hb := laid_below hb d
  have f10 := Blk.new ((w1.alloc (.cells (wd false 0).toArray 27)).setRow w1.heap.size (mk d).toArray) (rr false 0 false 0) 29 (b := w1.heap.size + 1) (by simp)
  have f10' := Blk.new ((w1.alloc (.cells (wd false 0).toArray 27)).setRow w1.heap.size (mk d).toArray) (rr false 0 false 0) 29 rfl
  have b10 := f10.row (fr n d)
  have c9 := (b9.old (.cells (rr false 0 false 0).toArray 29)).rowOther (g := w1.heap.size + 1) (fr n d).toArray (by omega)
  have c2 := (b2.old (.cells (rr false 0 false 0).toArray 29)).rowOther (g := w1.heap.size + 1) (fr n d).toArray (by omega)
  have hs := hb.size
  have hc := below_row (hb.alloc hs (.cells (rr false 0 false 0).toArray 29)) (g := w1.heap.size + 1) (by omega) (fr n d).toArray
  go_wp2_with (first | (with_reducible refine alW rfl rfl ?_) | (with_reducible refine alR rfl rfl ?_) | (with_reducible refine stM rfl rfl rfl rfl f (wd_length _ _) ?_) | (with_reducible refine ldM rfl rfl rfl b7 ?_) | (with_reducible refine ldM rfl rfl rfl b9 ?_) | (with_reducible refine bdF rfl rfl rfl rfl ?_) | (with_reducible refine stR rfl rfl rfl rfl f10 (rr_length _ _ _ _) ?_) | (with_reducible refine stR rfl rfl rfl rfl f10' (rr_length _ _ _ _) ?_) | (refine ldMg (by rfl) rfl rfl c9 ?_))
  clear f f10 f10' b7 b9 b2 hb hs
  try rw [show ((w1.alloc (.cells (wd false 0).toArray 27)).setRow w1.heap.size (mk d).toArray).heap.size = w1.heap.size + 1 by simp]
  generalize (((w1.alloc (.cells (wd false 0).toArray 27)).setRow w1.heap.size (mk d).toArray).alloc (.cells (rr false 0 false 0).toArray 29)).setRow (w1.heap.size + 1) (fr n d).toArray = W at *
  generalize w1.heap.size + 1 = p10 at *
  refine (HO.out _).mono ?_
  rintro e w2 ⟨rfl, h1⟩
  replace c2 := c2.call h1
  replace b10 := b10.call h1
  replace hc := bthen hc h1
  clear h1
  go_wp2_with (first | (refine ldPg (by rfl) rfl rfl b10 (part_all _) (wholeF _ _) ?_))
  refine (HI.out _).mono ?_
  rintro e w3 ⟨rfl, h1⟩
  replace c2 := c2.call h1
  replace b10 := b10.call h1
  replace hc := bthen hc h1
  clear h1
  go_wp2_with (first | (with_reducible refine ldFr rfl rfl rfl b10 ?_) | (with_reducible refine stR rfl rfl rfl rfl c2 (rr_length _ _ _ _) ?_))
  exact ret_ct (cs := fr n d) (v := .bool true) rfl rfl rfl rfl (wholeF _ _) (c2.row _) ⟨rfl, below_row hc (Nat.le_refl _) _⟩
theorem ix_none : ∀ {l : List UInt8}, (47 : UInt8) ∉ l → Lib.indexByte l 47 = -1
  | [], _ => rfl
  | b :: l, h => by
    have h1 : ¬ b = 47 := fun e => h (by rw [e]; exact List.mem_cons_self ..)
    have h2 := ix_none (l := l) fun e => h (List.mem_cons_of_mem _ e)
    unfold Lib.indexByte
    rw [if_neg (by simpa using h1), h2]
    rfl
theorem ix_at : ∀ {l : List UInt8} (m : List UInt8), (47 : UInt8) ∉ l → Lib.indexByte (l ++ 47 :: m) 47 = (l.length : Int)
  | [], m, _ => by unfold Lib.indexByte; rfl
  | b :: l, m, h => by
    have h1 : ¬ b = 47 := fun e => h (by rw [e]; exact List.mem_cons_self ..)
    have h2 := ix_at (l := l) m fun e => h (List.mem_cons_of_mem _ e)
    rw [List.cons_append]
    unfold Lib.indexByte
    rw [if_neg (by simpa using h1), h2, if_neg (by simp), List.length_cons]
    omega
theorem no47 (s : Bool) (N : Nat) : (47 : UInt8) ∉ txt s N := by
  rw [txt_of]
  by_cases h : N = 0
  · rw [if_pos h]; decide
  · rw [if_neg h]
    intro hm
    rcases List.mem_append.1 hm with h1 | h1
    · cases s <;> simp at h1
    · have := dd_digit h1
      have e : (47 : UInt8).toNat = 47 := by decide
      omega
theorem bs_left (l m : List UInt8) : (bs (l ++ m)).extract 0 l.length = bs l := by
  unfold bs
  apply ByteArray.ext
  simp
theorem bs_right (l m : List UInt8) (c : UInt8) : (bs (l ++ c :: m)).extract (l.length + 1) (bs (l ++ c :: m)).size = bs m := by
  rw [bs_size]
  unfold bs
  apply ByteArray.ext
  simp
  rw [List.take_of_length_le (by omega)]
theorem tz_slash (n d : Int) : tz n ++ (⟨#[47]⟩ : ByteArray) ++ tz d = bs (txt (decide (n < 0)) n.natAbs ++ 47 :: txt (decide (d < 0)) d.natAbs) := by
  unfold tz
  rw [show (⟨#[47]⟩ : ByteArray) = bs [47] from rfl, bs_append, bs_append]
  simp
/-- What Text tells is parsed as it. -/
theorem Parse_rat {n d : Int} (hn : fits n) (hd : fits d) (hr : Rt n d) (h1 : ¬ d = 1) : Tl 11 #[.string (tz n ++ ⟨#[47]⟩ ++ tz d)] (.tuple #[vf n d, .bool true]) := by
  rw [tz_slash]
  have l1 := txt_len (decide (n < 0)) hn
  have l2 := txt_len (decide (d < 0)) hd
  have C := fun w => Cut_of (fun w => sl_Cut_yes (bs (txt (decide (n < 0)) n.natAbs ++ 47 :: txt (decide (d < 0)) d.natAbs)) 47 (txt (decide (n < 0)) n.natAbs).length w (by rw [bs_size]; simp; omega)
    (ix_at _ (no47 _ _)) (by rw [bs_size]; simp)) w
  rw [bs_left, bs_right] at C
  exact Parse_walk hn hd hr h1 C (fun w => parse_mk hn w) (fun w => parse_mk hd w)
end Go.Proofs.Ytcbhmmeobkhomaa
