/- Arrays of 32 words in memory; wide.length. -/
import Derived.Test.YtcfncekphdkphaaRows
import Derived.Test.YtcfncekphdkphaaNum
import Derived.Test.YtcfncekphdkphaaMem
namespace Go.Proofs.Ytcfncekphdkphaa
open Go.RowKit
set_option maxRecDepth 100000
/-- The words of N as cells. -/
def wc (N : Nat) : List Value := (List.range 32).map fun i => Value.int .u32 (dig N i : Nat)
theorem wc_length (N : Nat) : (wc N).length = 32 := by simp [wc]
theorem wc_get (N i : Nat) (h : i < 32) : (wc N)[i]? = some (.int .u32 (dig N i : Nat)) := by simp [wc, h]
theorem wc_one (N : Nat) : ∀ v ∈ wc N, v.oneCell' = true := by
  intro v hv; simp [wc] at hv; obtain ⟨i, _, rfl⟩ := hv; rfl
/-- A Wide: its sign, its words. -/
def wd (s : Bool) (N : Nat) : List Value := .bool s :: wc N
theorem wd_length (s : Bool) (N : Nat) : (wd s N).length = 33 := by simp [wd, wc_length]
theorem wd_one (s : Bool) (N : Nat) : ∀ v ∈ wd s N, v.oneCell' = true := by
  intro v hv; simp [wd] at hv; rcases hv with rfl | hv
  · rfl
  · exact wc_one N v hv
theorem zero23 : (Try.prog.info? 23).map (·.zero) = some (some (.agg (wc 0).toArray)) := by kernel_rfl
theorem zero25 : (Try.prog.info? 25).map (·.zero) = some (some (.agg (wd false 0).toArray)) := by kernel_rfl
theorem size23 : (Try.prog.info? 23).map (·.size) = some 32 := by kernel_rfl
theorem size25 : (Try.prog.info? 25).map (·.size) = some 33 := by kernel_rfl
theorem under23 : Try.prog.underlying 23 = some (.array 32 22) := by kernel_rfl
theorem under25 : ∃ d, Try.prog.underlying 25 = some d ∧ d.isRow = true := ⟨_, Try.underlying25, rfl⟩
theorem whole23 (N : Nat) : Whole Try.prog 23 (wc N).length := ⟨_, under23, rfl, by rw [wc_length]; exact size23⟩
theorem whole25 (s : Bool) (N : Nat) : Whole Try.prog 25 (wd s N).length := by
  obtain ⟨d, h, h'⟩ := under25
  exact ⟨d, h, h', by rw [wd_length]; exact size25⟩
/-- Word k of what has no words from k on is set. -/
theorem wc_set {X k v : Nat} (hX : X < bb ^ k) (hv : v < bb) : (wc X).set k (.int .u32 (v : Nat)) = wc (X + bb ^ k * v) := by
  apply List.ext_getElem?
  intro i
  rw [List.getElem?_set]
  by_cases hi : i < 32
  · rw [wc_get (X + bb ^ k * v) i hi, wc_length]
    split
    · rename_i h; subst h
      rw [if_pos hi, dig_add_same hX hv]
    · rename_i h
      rw [wc_get X i hi]
      rcases Nat.lt_or_ge i k with h1 | h1
      · rw [dig_add_low h1]
      · rw [dig_add_high hX hv (by omega), dig_of_lt (Nat.lt_of_lt_of_le hX (bp_mono h1))]
  · rw [List.getElem?_eq_none (by rw [wc_length]; omega), List.getElem?_eq_none (by rw [wc_length]; omega)]
    split
    · rw [if_neg (by rw [wc_length]; omega)]
    · rfl
section
variable {ops : Array Oper} {rest : List Oper} {o : Oper} {a : Act} {w : World} {Q : Exit → Act → World → Prop}
/-- An array of words is loaded. -/
theorem ldA {t : TypeId} {x : Operand} {b N : Nat} (hgd : o.guard = none) (ho : o.op = .load 23 x) (hx : a.eval x = .pointer (some ⟨b, 0, none⟩)) (h : Blk w b (wc N) t)
    (hr : wpList Try.prog ops Q rest (a.put o.dst (.agg (wc N).toArray)) w) : wpList Try.prog ops Q (o :: rest) a w :=
  ld_blk hgd ho hx h _ under23 rfl (by rw [wc_length]; exact size23) hr
/-- The words of a Wide are loaded. -/
theorem ldD {t : TypeId} {x : Operand} {b N : Nat} {s : Bool} (hgd : o.guard = none) (ho : o.op = .load 23 x) (hx : a.eval x = .pointer (some ⟨b, 1, none⟩)) (h : Blk w b (wd s N) t)
    (hr : wpList Try.prog ops Q rest (a.put o.dst (.agg (wc N).toArray)) w) : wpList Try.prog ops Q (o :: rest) a w :=
  ld_tail hgd ho hx h _ under23 rfl (by rw [wc_length]; exact size23) hr
/-- A Wide is loaded. -/
theorem ldW {t : TypeId} {x : Operand} {b N : Nat} {s : Bool} (hgd : o.guard = none) (ho : o.op = .load 25 x) (hx : a.eval x = .pointer (some ⟨b, 0, none⟩)) (h : Blk w b (wd s N) t)
    (hr : wpList Try.prog ops Q rest (a.put o.dst (.agg (wd s N).toArray)) w) : wpList Try.prog ops Q (o :: rest) a w := by
  obtain ⟨d, hu, hd⟩ := under25
  exact ld_blk hgd ho hx h d hu hd (by rw [wd_length]; exact size25) hr
theorem stA {t : TypeId} {x y : Operand} {b N M : Nat} (hgd : o.guard = none) (ho : o.op = .store 23 x y) (hx : a.eval x = .pointer (some ⟨b, 0, none⟩)) (hy : a.eval y = .agg (wc N).toArray) (h : Blk w b (wc M) t)
    (hr : wpList Try.prog ops Q rest (a.put o.dst undef) (w.setRow b (wc N).toArray)) : wpList Try.prog ops Q (o :: rest) a w :=
  st_blk hgd ho hx hy h (by rw [wc_length, wc_length]) (by rw [wc_length]; exact size23) (wc_one N) hr
theorem stW {t : TypeId} {x y : Operand} {b N M : Nat} {s s' : Bool} (hgd : o.guard = none) (ho : o.op = .store 25 x y) (hx : a.eval x = .pointer (some ⟨b, 0, none⟩)) (hy : a.eval y = .agg (wd s N).toArray) (h : Blk w b (wd s' M) t)
    (hr : wpList Try.prog ops Q rest (a.put o.dst undef) (w.setRow b (wd s N).toArray)) : wpList Try.prog ops Q (o :: rest) a w :=
  st_blk hgd ho hx hy h (by rw [wd_length, wd_length]) (by rw [wd_length]; exact size25) (wd_one s N) hr
theorem alA (hgd : o.guard = none) (ho : o.op = .alloc 23)
    (hr : wpList Try.prog ops Q rest (a.put o.dst (.pointer (some ⟨w.heap.size, 0, none⟩))) (w.alloc (.cells (wc 0).toArray 23))) : wpList Try.prog ops Q (o :: rest) a w :=
  al_blk hgd ho zero23 hr
theorem alW (hgd : o.guard = none) (ho : o.op = .alloc 25)
    (hr : wpList Try.prog ops Q rest (a.put o.dst (.pointer (some ⟨w.heap.size, 0, none⟩))) (w.alloc (.cells (wd false 0).toArray 25))) : wpList Try.prog ops Q (o :: rest) a w :=
  al_blk hgd ho zero25 hr
end
theorem ret_int {k : IntKind} {a b : Int} (h : a = b) : Ending.returned (.int k a) = .returned (.int k b) := by rw [h]
set_option maxHeartbeats 400000 in
theorem length_any (N : Nat) (w : World) (hN : N < bb ^ 32) :
    Calls Try.prog 68 #[.agg (wc N).toArray] w fun e w' => e = .returned (.int .i64 (nw N : Nat)) ∧ Below w.heap.size w w' := by
  have HN := Lib.hid hN
  clear hN
  have hr := Blk.new w (wc N) 23 rfl
  go_enter Try.func68, Try.ntmps68
  go_wp2
  go_loop [3] (fun n => ∃ k : Nat, k ≤ 32 ∧ n = .int .i64 k ∧ N < bb ^ k) (fun n => (intOf n).toNat)
  case atStart => exact ⟨32, Nat.le_refl _, rfl, HN.out⟩
  case round =>
    obtain ⟨k, hk, rfl, hb⟩ := hrel
    have HB := Lib.hid hb
    clear hb
    by_cases h0 : 0 < k
    · obtain ⟨j, rfl⟩ : ∃ j, k = j + 1 := ⟨k - 1, by omega⟩
      have hc := hr.cell (wc_get N j (by omega))
      by_cases hd : dig N j = 0
      · go_wp2
        go_round
        case rel => exact ⟨j, by omega, by go_num, lt_of_dig HB.out hd⟩
        case measure => simp [intOf]
      · go_wp2
        go_ret
        exact ⟨ret_int (by rw [nw_of HB.out (fun _ => le_of_dig hd)]; rfl), (Below.refl _ _).alloc (Nat.le_refl _) _⟩
    · obtain rfl : k = 0 := by omega
      go_wp2
      go_ret
      exact ⟨ret_int (by rw [nw_of HB.out (by omega)]; rfl), (Below.refl _ _).alloc (Nat.le_refl _) _⟩
end Go.Proofs.Ytcfncekphdkphaa
