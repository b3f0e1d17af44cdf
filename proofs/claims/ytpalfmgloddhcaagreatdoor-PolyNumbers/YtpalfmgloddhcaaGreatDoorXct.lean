/- lex.cut: parts a text at the first of some bytes. -/
import Derived.Test.YtpalfmgloddhcaaGreatDoorMem
import Derived.Test.YtpalfmgloddhcaaGreatDoorProg
import Derived.Lib.Strings
import Derived.Lib.Bytealg
import Derived.BigQuiet
import Derived.Deep.QuietTactic
namespace Go.Proofs.YtpalfmgloddhcaaGreatDoor
set_option linter.unusedSimpArgs false
set_option linter.unusedVariables false
open Go.RowKit
set_option maxRecDepth 100000
/-- The cells of some bytes. -/
def bys (l : List UInt8) : List Value := l.map fun c => Value.int .u8 (c.toNat : Int)
theorem bys_get (l : List UInt8) (j : Nat) (h : j < l.length) : (bys l)[j]? = some (.int .u8 (l[j].toNat : Int)) := by simp [bys, h]
set_option maxHeartbeats 1000000 in
theorem sIndex_any (l : List UInt8) (c : UInt8) (b : Nat) (w : World) (hl : l.length ≤ 100) (hb : Blk w b (bys l) 5) :
    Calls Tryz.prog 128 #[.slice (some ⟨b, 0, none⟩) l.length l.length, .int .u8 (c.toNat : Int)] w fun e w' => ∃ i : Int, e = .returned (.int .i64 i) ∧ (0 ≤ i ↔ c ∈ l) ∧ w' = w := by
  have hc : ∀ k (h : k < l.length), w.cell? ⟨b, k, none⟩ = some (.int .u8 (l[k].toNat : Int)) := fun k h => hb.cell (bys_get l k h)
  have HC := Lib.hid hc
  clear hc hb
  go_enter Tryz.func128, Tryz.ntmps128
  go_wp2
  go_loop [8] (fun i => ∃ k : Nat, k ≤ l.length ∧ (∀ j (h : j < l.length), j < k → l[j] ≠ c) ∧ i = .int .i64 k) (fun i => l.length - (intOf i).toNat)
  case atStart => exact ⟨0, Nat.zero_le _, fun _ _ h => absurd h (Nat.not_lt_zero _), rfl⟩
  case round =>
    obtain ⟨k, hk, hno, rfl⟩ := hrel
    have HN := Lib.hid hno
    clear hno
    by_cases hlt : k < l.length
    · have hck := HC.out k hlt
      by_cases he : l[k] = c
      · have g : ((c.toNat : Int) == (l[k].toNat : Int)) = true := by rw [he]; exact beq_self_eq_true _
        have hm : c ∈ l := he ▸ List.getElem_mem hlt
        clear he
        go_wp2
        go_ret
        exact ⟨_, rfl, by simp [hm], rfl⟩
      · have g : ((c.toNat : Int) == (l[k].toNat : Int)) = false := by
          rw [beq_eq_false_iff_ne]; intro h; exact he (UInt8.toNat_inj.1 (by omega)).symm
        go_wp2
        go_round
        case rel => exact ⟨k + 1, by omega, fun j h hj => (by by_cases e : j = k; · subst e; exact he
                                                              · exact HN.out j h (by omega)), by go_num⟩
        case measure => simp [intOf]; omega
    · go_wp2
      go_ret
      refine ⟨-1, rfl, ⟨fun h => absurd h (by decide), fun h => ?_⟩, rfl⟩
      obtain ⟨j, hj, e⟩ := List.mem_iff_getElem.1 h
      exact absurd e (HN.out j hj (by omega))
set_option maxHeartbeats 1000000 in
theorem sContains_any (l : List UInt8) (c : UInt8) (b : Nat) (w : World) (hl : l.length ≤ 100) (hb : Blk w b (bys l) 5) :
    Calls Tryz.prog 104 #[.slice (some ⟨b, 0, none⟩) l.length l.length, .int .u8 (c.toNat : Int)] w fun e w' => e = .returned (.bool (decide (c ∈ l))) ∧ w' = w := by
  have H := Lib.hid (sIndex_any l c b w hl hb)
  clear hb
  go_enter Tryz.func104, Tryz.ntmps104
  go_wp2_with fail
  refine (H.out).mono ?_
  rintro e w1 ⟨i, rfl, hi, rfl⟩
  go_wp2
  go_ret
  refine ⟨?_, rfl⟩
  have : decide (0 ≤ i) = decide (c ∈ l) := by simp [hi]
  rw [← this]; try rfl
set_option maxHeartbeats 2000000 in
theorem cut_yes (s : ByteArray) (l : List UInt8) (b k : Nat) (w : World) (hs : s.size ≤ 1000000) (hl : l.length ≤ 100) (hb : Blk w b (bys l) 5) (hk : k < s.size) (hno : ∀ j (h : j < s.size), j < k → s[j] ∉ l) (hy : s[k] ∈ l) :
    Calls Tryz.prog 61 #[.string s, .slice (some ⟨b, 0, none⟩) l.length l.length] w fun e w' => e = .returned (.tuple #[.string (s.extract 0 k), .string (s.extract (k + 1) s.size)]) ∧ Below w.heap.size w w' := by
  have H := Lib.hid fun c => sContains_any l c b w hl hb
  have HN := Lib.hid hno
  have HY := Lib.hid hy
  clear hno hy hb
  go_enter Tryz.func61, Tryz.ntmps61
  go_wp2
  go_loop [9] (fun i => ∃ j : Nat, j ≤ k ∧ i = .int .i64 j) (fun i => s.size - (intOf i).toNat)
  case atStart => exact ⟨0, Nat.zero_le _, rfl⟩
  case round =>
    obtain ⟨j, hj, rfl⟩ := hrel
    have hlt : j < s.size := by omega
    by_cases he : j = k
    · subst he
      have g : decide (s[j] ∈ l) = true := decide_eq_true HY.out
      have k1 : (j : Int) ≤ (s.size : Int) := by omega
      have k2 : (j : Int) + 1 ≤ (s.size : Int) := by omega
      have k3 : (0 : Int) ≤ (j : Int) := by omega
      have k4 : (0 : Int) ≤ (j : Int) + 1 := by omega
      have k5 : IntKind.i64.wrap ((j : Int) + 1) = (j : Int) + 1 := by rw [IntKind.wrap_i64]; omega
      go_wp2_with (first | (go_at_call 104; refine (H.out _).mono ?_; rintro e w1 ⟨rfl, rfl⟩; rw [g]))
      go_quiet (fail)
      go_wp2
      go_ret2
      exact ⟨rfl, below_drewN (Below.refl _ _) _⟩
    · have g : decide (s[j] ∈ l) = false := decide_eq_false (HN.out j hlt (by omega))
      go_wp2_with (first | (go_at_call 104; refine (H.out _).mono ?_; rintro e w1 ⟨rfl, rfl⟩; rw [g]))
      go_round
      case rel => exact ⟨j + 1, by omega, by go_num⟩
      case measure => simp [intOf]; omega
set_option maxHeartbeats 2000000 in
theorem cut_no (s : ByteArray) (l : List UInt8) (b : Nat) (w : World) (hs : s.size ≤ 1000000) (hl : l.length ≤ 100) (hb : Blk w b (bys l) 5) (hno : ∀ j (h : j < s.size), s[j] ∉ l) :
    Calls Tryz.prog 61 #[.string s, .slice (some ⟨b, 0, none⟩) l.length l.length] w fun e w' => e = .returned (.tuple #[.string s, .string ⟨#[]⟩]) ∧ Below w.heap.size w w' := by
  have H := Lib.hid fun c => sContains_any l c b w hl hb
  have HN := Lib.hid hno
  clear hno hb
  go_enter Tryz.func61, Tryz.ntmps61
  go_wp2
  go_loop [9] (fun i => ∃ j : Nat, j ≤ s.size ∧ i = .int .i64 j) (fun i => s.size - (intOf i).toNat)
  case atStart => exact ⟨0, Nat.zero_le _, rfl⟩
  case round =>
    obtain ⟨j, hj, rfl⟩ := hrel
    by_cases hlt : j < s.size
    · have g : decide (s[j] ∈ l) = false := decide_eq_false (HN.out j hlt)
      go_wp2_with (first | (go_at_call 104; refine (H.out _).mono ?_; rintro e w1 ⟨rfl, rfl⟩; rw [g]))
      go_round
      case rel => exact ⟨j + 1, by omega, by go_num⟩
      case measure => simp [intOf]; omega
    · go_wp2
      go_ret2
      exact ⟨rfl, Below.refl _ _⟩
/-- A text of these bytes. -/
def tx (l : List UInt8) : ByteArray := ⟨l.toArray⟩
theorem tx_size (l : List UInt8) : (tx l).size = l.length := by simp [tx, ByteArray.size]
theorem tx_list (s : ByteArray) : tx s.data.toList = s := rfl
theorem tx_toList (l : List UInt8) : (tx l).toList = l := by rw [Lib.toList_data]; rfl
theorem tx_empty (l : List UInt8) : (tx l).toList.isEmpty = l.isEmpty := by rw [tx_toList]
theorem tx_get (l : List UInt8) (j : Nat) (h : j < (tx l).size) : (tx l)[j] = l[j]'(by rwa [tx_size] at h) := by
  simp [tx]; rfl
theorem tx_app (a b : List UInt8) : tx a ++ tx b = tx (a ++ b) := by
  apply ByteArray.ext
  simp [tx]
theorem tx_extract (l : List UInt8) (a b : Nat) : (tx l).extract a b = tx ((l.take b).drop a) := by
  apply ByteArray.ext
  simp [tx, ByteArray.data_extract, List.extract_toArray, List.extract_eq_take_drop, List.drop_take]
/-- A text parted at the first of some bytes. -/
def ahead (p : List UInt8) : List UInt8 → List UInt8
  | [] => []
  | c :: r => if c ∈ p then [] else c :: ahead p r
def behind (p : List UInt8) : List UInt8 → List UInt8
  | [] => []
  | c :: r => if c ∈ p then r else behind p r
theorem ahead_all (p : List UInt8) : ∀ l : List UInt8, (∀ c ∈ l, c ∉ p) → ahead p l = l ∧ behind p l = []
  | [], _ => ⟨rfl, rfl⟩
  | c :: r, h => by
    have h1 := h c (List.mem_cons_self ..)
    have h2 := ahead_all p r fun x hx => h x (List.mem_cons_of_mem _ hx)
    simp [ahead, behind, h1, h2]
theorem ahead_at (p : List UInt8) {c : UInt8} (r : List UInt8) (hc : c ∈ p) : ∀ a : List UInt8, (∀ x ∈ a, x ∉ p) → ahead p (a ++ c :: r) = a ∧ behind p (a ++ c :: r) = r
  | [], _ => by simp [ahead, behind, hc]
  | x :: a, h => by
    have h1 := h x (List.mem_cons_self ..)
    have h2 := ahead_at p r hc a fun y hy => h y (List.mem_cons_of_mem _ hy)
    simp [ahead, behind, h1, h2]
theorem parted (p : List UInt8) : ∀ l : List UInt8, (∀ c ∈ l, c ∉ p) ∨ ∃ a c r, l = a ++ c :: r ∧ (∀ x ∈ a, x ∉ p) ∧ c ∈ p
  | [] => .inl fun _ h => absurd h (List.not_mem_nil)
  | c :: r => by
    by_cases hc : c ∈ p
    · exact .inr ⟨[], c, r, rfl, fun _ h => absurd h (List.not_mem_nil), hc⟩
    · rcases parted p r with h | ⟨a, d, r', rfl, h, hd⟩
      · refine .inl fun x hx => ?_
        rcases List.mem_cons.1 hx with rfl | hx
        · exact hc
        · exact h x hx
      · refine .inr ⟨c :: a, d, r', rfl, fun x hx => ?_, hd⟩
        rcases List.mem_cons.1 hx with rfl | hx
        · exact hc
        · exact h x hx
theorem cut_any (l p : List UInt8) (b : Nat) (w : World) (hs : l.length ≤ 1000000) (hl : p.length ≤ 100) (hb : Blk w b (bys p) 5) :
    Calls Tryz.prog 61 #[.string (tx l), .slice (some ⟨b, 0, none⟩) p.length p.length] w fun e w' => e = .returned (.tuple #[.string (tx (ahead p l)), .string (tx (behind p l))]) ∧ Below w.heap.size w w' := by
  rcases parted p l with h | ⟨a, c, r, rfl, h, hc⟩
  · rw [(ahead_all p l h).1, (ahead_all p l h).2]
    exact cut_no (tx l) p b w (by rw [tx_size]; exact hs) hl hb fun j hj => by rw [tx_get]; exact h _ (List.getElem_mem _)
  · rw [(ahead_at p r hc a h).1, (ahead_at p r hc a h).2]
    have := cut_yes (tx (a ++ c :: r)) p b a.length w (by rw [tx_size]; exact hs) hl hb (by rw [tx_size]; simp) (fun j hj hja => by
      rw [tx_get, List.getElem_append_left hja]; exact h _ (List.getElem_mem _)) (by rw [tx_get, List.getElem_append_right (Nat.le_refl _)]; simpa using hc)
    rw [tx_extract, tx_extract, tx_size, List.take_length, show (a ++ c :: r).drop (a.length + 1) = r by rw [show a ++ c :: r = (a ++ [c]) ++ r by simp, List.drop_left' (by simp)]] at this
    simpa using this
theorem behind_lt (p : List UInt8) : ∀ l : List UInt8, l ≠ [] → (behind p l).length < l.length
  | [], h => absurd rfl h
  | c :: r, _ => by
    unfold behind
    split
    · simp
    · by_cases hr : r = []
      · subst hr; simp [behind]
      · have := behind_lt p r hr
        simp; omega
theorem ahead_le (p : List UInt8) : ∀ l : List UInt8, (ahead p l).length ≤ l.length
  | [] => Nat.le_refl _
  | c :: r => by
    have := ahead_le p r
    unfold ahead
    split
    · simp
    · simp; omega
theorem behind_le (p l : List UInt8) : (behind p l).length ≤ l.length := by
  by_cases h : l = []
  · subst h; exact Nat.le_refl _
  · exact Nat.le_of_lt (behind_lt p l h)
end Go.Proofs.YtpalfmgloddhcaaGreatDoor
