/- Joined of: Ynw Ynt. -/
import Derived.Test.YtpalfmgloddhcaaGreatDoorYkn
/- PolyNumbers: what it asks. -/
namespace Go.Proofs.YtpalfmgloddhcaaGreatDoor
set_option linter.unusedSimpArgs false
set_option linter.unusedVariables false
open Go.RowKit
set_option maxRecDepth 100000
/-- The words more of a vertex. -/
def ext3 : Nat → List UInt8
  | 0 => []
  | 1 => [32, 97, 46, 98]
  | _ => [32, 49, 46, 53, 32, 120]
def rowI (l : List Int) : List UInt8 := rowW (l.map numT)
/-- The line of a vertex, of a segment. -/
def vrow (b a : Nat) (m : Bool) (j : Nat) : List UInt8 := rowI [(j : Int) + b, 3 * (j : Int), (j : Int)] ++ ext3 a ++ (if m then 32 :: numT (7 + (j : Int)) else []) ++ [10]
def srow (k b : Nat) (m : Bool) (j : Nat) : List UInt8 := rowI ([(j : Int) + b, (j : Int) + b, (((j + 1) % k : Nat) : Int) + b] ++ if m then [(j : Int)] else []) ++ [10]
def m01 (m : Bool) : Int := if m then 1 else 0
def tV (k b a : Nat) (m : Bool) : Nat → List UInt8
  | 0 => rowI [(k : Int), 2, (a : Int), m01 m] ++ [10]
  | i + 1 => tV k b a m i ++ vrow b a m i
def tS (k b a : Nat) (m : Bool) : Nat → List UInt8
  | 0 => tV k b a m k ++ (rowI [(k : Int), m01 m] ++ [10])
  | i + 1 => tS k b a m i ++ srow k b m i
def lV (m : Bool) : Nat → List (Int × Int × Int)
  | 0 => []
  | i + 1 => lV m i ++ [(3 * (i : Int), (i : Int), if m then 7 + (i : Int) else 0)]
def lS (k : Nat) (m : Bool) : Nat → List (Int × Int × Int)
  | 0 => []
  | i + 1 => lS k m i ++ [((i : Int), (((i + 1) % k : Nat) : Int), if m then (i : Int) else 0)]
def tAll (k b a : Nat) (m : Bool) : List UInt8 := tS k b a m k ++ [48, 10]
def dAll (k : Nat) (m : Bool) : Dr := ⟨lV m k, lS k m k, []⟩
theorem lV_len (m : Bool) : ∀ i, (lV m i).length = i
  | 0 => rfl
  | i + 1 => by rw [lV, List.length_append, lV_len m i]; rfl
theorem lS_len (k : Nat) (m : Bool) : ∀ i, (lS k m i).length = i
  | 0 => rfl
  | i + 1 => by rw [lS, List.length_append, lS_len k m i]; rfl
/-- All that is to be known of such a text. -/
def good3 (k b a : Nat) (m : Bool) : Prop := prs fq1 ok1 (tAll k b a m) = (dAll k m, 0) ∧ (tAll k b a m).length ≤ 4000 ∧ (∀ p ∈ lns 1 (tAll k b a m), ∀ u ∈ p.2, P1 u)
theorem good_all (k b a : Nat) (m : Bool) (h1 : 1 ≤ k) (h8 : k ≤ 8) (hb : b < 2) (ha : a < 3) : good3 k b a m := by
  rcases (show b = 0 ∨ b = 1 by omega) with rfl | rfl <;> rcases (show a = 0 ∨ a = 1 ∨ a = 2 by omega) with rfl | rfl | rfl <;> rcases (show k = 1 ∨ k = 2 ∨ k = 3 ∨ k = 4 ∨ k = 5 ∨ k = 6 ∨ k = 7 ∨ k = 8 by omega) with rfl | rfl | rfl | rfl | rfl | rfl | rfl | rfl <;> cases m <;> exact ⟨by kernel_rfl, of_decide_eq_true (by kernel_rfl), of_decide_eq_true (by kernel_rfl)⟩
theorem bodyI_len : ∀ l : List Int, (body [32] (l.map numT)).length ≤ 12 * l.length
  | [] => Nat.le_refl _
  | x :: l => by
    have h1 := bodyI_len l
    have h2 := numT_len x
    simp only [List.map_cons, body, List.length_append, List.length_cons, List.length_nil]
    omega
theorem rowI_len (l : List Int) : (rowI l).length ≤ 12 * l.length := by
  cases l with
  | nil => exact Nat.le_refl _
  | cons x l =>
    have h1 := bodyI_len l
    have h2 := numT_len x
    unfold rowI
    simp only [List.map_cons, rowW, List.length_append, List.length_cons]
    omega
theorem ext3_len (a : Nat) : (ext3 a).length ≤ 6 := by
  unfold ext3; split <;> simp
theorem vrow_len (b a : Nat) (m : Bool) (j : Nat) : (vrow b a m j).length ≤ 60 := by
  have h1 := rowI_len [(j : Int) + b, 3 * (j : Int), (j : Int)]
  have h2 := ext3_len a
  have h3 := numT_len (7 + (j : Int))
  unfold vrow
  cases m <;> simp at h1 ⊢ <;> omega
theorem tV_len (k b a : Nat) (m : Bool) : ∀ i, (tV k b a m i).length ≤ 60 + 60 * i
  | 0 => by
    have h1 := rowI_len [(k : Int), 2, (a : Int), m01 m]
    unfold tV
    simp at h1 ⊢; omega
  | i + 1 => by
    have h1 := tV_len k b a m i
    have h2 := vrow_len b a m i
    rw [tV, List.length_append]; omega
theorem srow_len (k b : Nat) (m : Bool) (j : Nat) : (srow k b m j).length ≤ 60 := by
  unfold srow
  cases m
  · have h1 := rowI_len [(j : Int) + b, (j : Int) + b, (((j + 1) % k : Nat) : Int) + b]
    simp at h1 ⊢; omega
  · have h1 := rowI_len [(j : Int) + b, (j : Int) + b, (((j + 1) % k : Nat) : Int) + b, (j : Int)]
    simp at h1 ⊢; omega
theorem tS_len (k b a : Nat) (m : Bool) : ∀ i, (tS k b a m i).length ≤ 100 + 60 * k + 60 * i
  | 0 => by
    have h1 := tV_len k b a m k
    have h2 := rowI_len [(k : Int), m01 m]
    unfold tS
    simp at h2 ⊢; omega
  | i + 1 => by
    have h1 := tS_len k b a m i
    have h2 := srow_len k b m i
    rw [tS, List.length_append]; omega
theorem tAll_len (k b a : Nat) (m : Bool) (h : k ≤ 8) : (tAll k b a m).length ≤ 3000 := by
  have h1 := tS_len k b a m k
  unfold tAll
  simp; omega
/-- Row of numbers, by the numbers that lie there. -/
theorem Row_i (l : List Int) (g o c : Nat) (w : World) (hl : l.length ≤ 10) (hx : ∀ x ∈ l, -1000000000 < x ∧ x < 1000000000) (hc : ∀ (i : Nat) x, l[i]? = some x → w.cell? ⟨g, o + i, none⟩ = some (.int .i64 x)) :
    Calls Tryz.prog 12 #[.slice (some ⟨g, o, none⟩) l.length c] w fun e w' => e = .returned (.string (tx (rowI l ++ [10]))) ∧ Below w.heap.size w w' := Row_any l g o c w (by omega) hx hc
theorem ints_at {w : World} {g : Nat} {l : List Int} {t : TypeId} (h : Blk w g (l.map fun x => Value.int .i64 x) t) : ∀ (i : Nat) x, l[i]? = some x → w.cell? ⟨g, 0 + i, none⟩ = some (.int .i64 x) := fun i x hi => by
  rw [Nat.zero_add]
  exact h.cell (by simp [hi])
set_option maxHeartbeats 16000000 in
theorem nums_false (n b a : Nat) (hn : n ≤ 255) (hb : b ≤ 255) (ha : a ≤ 255) (w : World) :
    Calls Tryz.prog 4 #[.int .u8 (n : Int), .int .u8 (b : Int), .int .u8 (a : Int), .bool false] w fun e w' => e = .returned (.bool true) ∧ Below w.heap.size w w' := by
  have HK := Lib.hid fun w => known7_any w
  obtain ⟨k, hk⟩ : ∃ k, n % 8 + 1 = k := ⟨_, rfl⟩
  obtain ⟨B, hB⟩ : ∃ B, b % 2 = B := ⟨_, rfl⟩
  obtain ⟨A, hA⟩ : ∃ A, a % 3 = A := ⟨_, rfl⟩
  have q1 : (n : Int).tmod 8 = (k : Int) - 1 := by rw [← hk]; show ((n % 8 : Nat) : Int) = _; omega
  have q2 : (b : Int).tmod 2 = (B : Int) := by rw [← hB]; rfl
  have q3 : (a : Int).tmod 3 = (A : Int) := by rw [← hA]; rfl
  have k1 : 1 ≤ k := by omega
  have k8 : k ≤ 8 := by omega
  have B2 : B < 2 := by omega
  have A3 : A < 3 := by omega
  clear hk hB hA
  go_enter Tryz.func4, Tryz.ntmps4
  go_wp2_with fail
  refine (HK.out _).mono ?_
  rintro e w1 ⟨rfl, hb1⟩
  go_wp2_with fail
  refine (Row_i [(k : Int), 2, (A : Int), 0] _ 0 4 _ (by simp) (by intro x hx; simp at hx; omega) (ints_at (Blk.new _ _ _ rfl))).mono ?_
  rintro e w2 ⟨rfl, hb2⟩
  have hb := bthen (hb1.alloc hb1.size _) hb2
  go_wp2_with fail
  have hB0 := Blk.new w2 (c3v (.slice none 0 0) (.slice none 0 0) (.slice none 0 0)) 26 rfl
  have hz0 : (w2.alloc (.cells (c3v (.slice none 0 0) (.slice none 0 0) (.slice none 0 0)).toArray 26)).heap.size = w2.heap.size + 1 := by simp
  have hb0 := hb.alloc hb.size (.cells (c3v (.slice none 0 0) (.slice none 0 0) (.slice none 0 0)).toArray 26)
  have hix : ∀ w, Sem.run Tryz.prog (Instr.index 36 (Value.agg #[Value.string { data := #[] }, Value.string { data := #[32, 97, 46, 98] }, Value.string { data := #[32, 49, 46, 53, 32, 120] }]) (Value.int IntKind.i64 (A : Int))) w = .ok (.string (tx (ext3 A))) w := by
    intro w
    rcases (show A = 0 ∨ A = 1 ∨ A = 2 by omega) with rfl | rfl | rfl
    all_goals with_unfolding_all rfl
  have hw2 := hb.size
  clear hb1 hb2 hb
  obtain ⟨g, hg⟩ : ∃ g, w2.heap.size = g := ⟨_, rfl⟩
  rw [hg] at hB0 hz0 hw2 ⊢
  go_loopw [13, 15] (fun s j wr => ∃ (i : Nat) (va : Option Addr) (vc : Nat), i ≤ k ∧ j = .int .i64 (i : Int) ∧ s = .string (tx (tV k B A false i)) ∧ Blk wr g (c3v (.slice va i vc) (.slice none 0 0) (.slice none 0 0)) 26 ∧ wr.ownsRow (g + 1) 38 3 (.slice va i vc) i ((lV false i).flatMap celI) ∧ g + 1 ≤ wr.heap.size ∧ Below w.heap.size w wr) (fun _ j _ => k - (intOf j).toNat)
  case atStart => exact ⟨0, none, 0, Nat.zero_le _, rfl, rfl, hB0, World.ownsRow_nil _ _ _ _, Nat.le_of_eq hz0.symm, hb0⟩
  case round =>
    obtain ⟨i, va, vc, hi, rfl, rfl, hB, ho, hz, hb⟩ := hrel
    have HO := Lib.hid ho
    clear ho hB0 hz0 hb0 hg
    by_cases hlt : i < k
    · have w1' : IntKind.i64.wrap ((i : Int) + (B : Int)) = (i : Int) + B := by rw [IntKind.wrap_i64]; omega
      have w2' : IntKind.i64.wrap (3 * (i : Int)) = 3 * (i : Int) := by rw [IntKind.wrap_i64]; omega
      go_wp2_with fail
      refine (Row_i [(i : Int) + B, 3 * (i : Int), (i : Int)] _ 0 3 _ (by simp) (by intro x hx; simp at hx; omega) (ints_at ((Blk.new _ _ _ rfl).old _))).mono ?_
      rintro e w3 ⟨rfl, hb3⟩
      have BV : Blk w3 (wr.heap.size + 1) (celI (3 * (i : Int), (i : Int), 0)) 38 := (Blk.new _ _ _ (by simp)).call hb3
      have B3 := ((hB.old _).old _).call hb3
      have HO3 := Lib.hid (owns_below ((HO.out.alloc _).alloc _) hb3)
      have hz3 : wr.heap.size + 2 ≤ w3.heap.size := by have := hb3.size; simp at this; omega
      have hb' := bthen ((hb.alloc hb.size _).alloc (hb.alloc hb.size _).size _) hb3
      clear hb3 HO hB hb
      have HT := Lib.hid (show tV k B A false (i + 1) = tV k B A false i ++ (rowI [(i : Int) + B, 3 * (i : Int), (i : Int)] ++ ext3 A ++ [] ++ [10]) from rfl)
      have hl1 := tV_len k B A false i
      have hl2 := rowI_len [(i : Int) + B, 3 * (i : Int), (i : Int)]
      have hl3 := ext3_len A
      obtain ⟨R, hR⟩ : ∃ R, rowI [(i : Int) + B, 3 * (i : Int), (i : Int)] = R := ⟨_, rfl⟩
      obtain ⟨E, hE⟩ : ∃ E, ext3 A = E := ⟨_, rfl⟩
      obtain ⟨S, hS⟩ : ∃ S, tV k B A false i = S := ⟨_, rfl⟩
      rw [hR] at hl2 HT ⊢
      rw [hE] at hl3 HT ⊢
      rw [hS] at hl1 HT ⊢
      clear hR hE hS
      simp only [List.length_cons, List.length_nil] at hl2
      have zs := tx_size S
      have zr := tx_size R
      have ze := tx_size E
      have zr1 : (tx (R ++ [10])).size = R.length + 1 := by rw [tx_size]; simp
      have hx : (tx (R ++ [10])).extract 0 R.length = tx R := bs_left R [10]
      have y1 : ¬ (9223372036854775807 : Nat) < S.length + R.length := by omega
      have y2 : ¬ (9223372036854775807 : Nat) < S.length + R.length + E.length := by omega
      have y3 : ¬ (9223372036854775807 : Nat) < S.length + R.length + E.length + 1 := by omega
      have q : IntKind.i64.wrap ((R.length : Int) + 1 - 1) = (R.length : Int) := by rw [IntKind.wrap_i64]; omega
      have c0 := B3.cell (i := 0) rfl
      have f0 := B3.frozen 0
      go_wp2_with (first | (with_reducible refine ld_blk (cs := celI (3 * (i : Int), (i : Int), 0)) rfl rfl rfl BV _ Tryz.underlying38 rfl (by kernel_rfl) ?_) | (with_reducible refine one_el Tryz.underlying22 infV (by decide) (by decide) (celI_len _) rfl rfl rfl ?_) | (at_builtin; refine app_el Tryz.underlying22 infV rfl (by decide) (by decide) (celI_len _) (celI_one _) rfl rfl rfl rfl (HO3.out.alloc _) (Blk.new _ _ _ rfl) (by omega) (by simp; omega) ?_; intro v' w5 hown5 h5; obtain ⟨va', vc', rfl⟩ := owns_shape hown5; have B5 := (B3.old (.cells (celI (3 * (i : Int), (i : Int), 0)).toArray 38)).below h5 (Nat.lt_succ_self _); have c5 := B5.cell (i := 0) rfl; have f5 := B5.frozen 0; have HW5 := Lib.hid hown5; have H5 := Lib.hid h5; clear hown5 h5 c0 f0))
      go_roundw
      case rel =>
        have o6 := HW5.out
        have e6 : (lV false (i + 1)).flatMap celI = (lV false i).flatMap celI ++ celI (3 * (i : Int), (i : Int), 0) := by rw [lV, List.flatMap_append]; simp only [List.flatMap_cons, List.flatMap_nil, List.append_nil]; rfl
        rw [← e6] at o6
        have h6 := (((hb'.alloc hb'.size (.cells (celI (3 * (i : Int), (i : Int), 0)).toArray 38)).trans (H5.out.mono (by omega))).setCell (p := ⟨g, 0, none⟩) hw2 (.slice va' (i + 1) vc'))
        have z5 := (B5.set 0 (.slice va' (i + 1) vc')).lt
        refine ⟨i + 1, va', vc', by omega, by go_num, ?_, B5.set 0 (.slice va' (i + 1) vc'), owns_set o6 B5 (by decide) 0 _, z5, h6⟩
        rw [HT.out]
        show Value.string (tx S ++ tx R ++ tx E ++ tx [10]) = _
        rw [tx_app, tx_app, tx_app]
        simp
      case measure => simp [intOf]; omega
    · obtain rfl : k = i := by omega
      have HB := Lib.hid hB
      clear hB
      go_wp2_with fail
      refine (Row_i [(k : Int), 0] _ 0 2 _ (by simp) (by intro x hx; simp at hx; omega) (ints_at (Blk.new _ _ _ rfl))).mono ?_
      rintro e w3 ⟨rfl, hb3⟩
      have B3 := Lib.hid ((HB.out.old _).call hb3)
      have HO3 := Lib.hid (owns_below (HO.out.alloc _) hb3)
      have hz3 : g + 1 ≤ w3.heap.size := B3.out.lt
      have hb' := bthen (hb.alloc hb.size _) hb3
      clear hb3 HO HB hb hi hlt hix hz
      have HT := Lib.hid (show tS k B A false 0 = tV k B A false k ++ (rowI [(k : Int), 0] ++ [10]) from rfl)
      have hl1 := tV_len k B A false k
      have hl2 := rowI_len [(k : Int), 0]
      obtain ⟨R, hR⟩ : ∃ R, rowI [(k : Int), 0] ++ [10] = R := ⟨_, rfl⟩
      have hl3 : R.length ≤ 30 := by rw [← hR]; simp at hl2 ⊢; omega
      obtain ⟨S, hS⟩ : ∃ S, tV k B A false k = S := ⟨_, rfl⟩
      rw [hR] at HT ⊢
      rw [hS] at hl1 HT ⊢
      clear hR hS hl2
      have zs := tx_size S
      have zr := tx_size R
      have y1 : ¬ (9223372036854775807 : Nat) < S.length + R.length := by omega
      go_wp2_with fail
      go_loopw [13, 20] (fun s j wr => ∃ (i : Nat) (sa : Option Addr) (sc : Nat), i ≤ k ∧ j = .int .i64 (i : Int) ∧ s = .string (tx (tS k B A false i)) ∧ Blk wr g (c3v (.slice va k vc) (.slice sa i sc) (.slice none 0 0)) 26 ∧ wr.ownsRow w3.heap.size 41 3 (.slice sa i sc) i ((lS k false i).flatMap celI) ∧ Oth g w3 wr) (fun _ j _ => k - (intOf j).toNat)
      case atStart => exact ⟨0, none, 0, Nat.zero_le _, rfl, by rw [HT.out, ← tx_app], B3.out, World.ownsRow_nil _ _ _ _, Oth.refl _ _⟩
      case round =>
        generalize wr = W1 at *
        obtain ⟨i, sa, sc, hi, rfl, rfl, hB, ho, ht⟩ := hrel
        have HO := Lib.hid ho
        have HTH := Lib.hid ht
        have hz := ht.size
        clear ho ht B3 HT zs zr y1 hl1 hl3
        by_cases hlt : i < k
        · obtain ⟨r, hr⟩ : ∃ r, (i + 1) % k = r := ⟨_, rfl⟩
          have hri : ((i : Int) + 1).tmod (k : Int) = (r : Int) := by rw [← hr]; rfl
          have hr8 : r < k := by rw [← hr]; exact Nat.mod_lt _ (by omega)
          have w1' : IntKind.i64.wrap ((i : Int) + (B : Int)) = (i : Int) + B := by rw [IntKind.wrap_i64]; omega
          have w2' : IntKind.i64.wrap ((i : Int) + 1) = (i : Int) + 1 := by rw [IntKind.wrap_i64]; omega
          have w3' : IntKind.i64.wrap ((r : Int) + (B : Int)) = (r : Int) + B := by rw [IntKind.wrap_i64]; omega
          have w4' : IntKind.i64.wrap (r : Int) = (r : Int) := by rw [IntKind.wrap_i64]; omega
          have kn : ¬ (k : Int) = 0 := by omega
          have HRR := Lib.hid hr
          clear hr
          go_wp2_with fail
          refine (Row_i [(i : Int) + B, (i : Int) + B, (r : Int) + B] _ 0 3 _ (by simp) (by intro x hx; simp at hx; omega) (ints_at ((Blk.new _ _ _ rfl).old _))).mono ?_
          rintro e w4 ⟨rfl, hb4⟩
          have BV : Blk w4 (W1.heap.size + 1) (celI ((i : Int), (r : Int), 0)) 41 := (Blk.new _ _ _ (by simp)).call hb4
          have B4 := ((hB.old _).old _).call hb4
          have HO4 := Lib.hid (owns_below ((HO.out.alloc _).alloc _) hb4)
          have HT4 := Lib.hid ((((HTH.out.old _).old _).then hb4).old (.cells (celI ((i : Int), (r : Int), 0)).toArray 41))
          have hz4 : W1.heap.size + 2 ≤ w4.heap.size := by have := hb4.size; simp at this; omega
          clear hb4 HO HTH hB
          have HT := Lib.hid (show tS k B A false (i + 1) = tS k B A false i ++ (rowI [(i : Int) + B, (i : Int) + B, (((i + 1) % k : Nat) : Int) + B] ++ [10]) from rfl)
          have HL := Lib.hid (show lS k false (i + 1) = lS k false i ++ [((i : Int), (((i + 1) % k : Nat) : Int), 0)] from rfl)
          rw [HRR.out] at HT HL
          have hl1 := tS_len k B A false i
          have hl2 := rowI_len [(i : Int) + B, (i : Int) + B, (r : Int) + B]
          obtain ⟨R, hR⟩ : ∃ R, rowI [(i : Int) + B, (i : Int) + B, (r : Int) + B] ++ [10] = R := ⟨_, rfl⟩
          have hl3 : R.length ≤ 50 := by rw [← hR]; simp at hl2 ⊢; omega
          obtain ⟨S, hS⟩ : ∃ S, tS k B A false i = S := ⟨_, rfl⟩
          rw [hR] at HT ⊢
          rw [hS] at hl1 HT ⊢
          clear hR hS hl2
          have zs := tx_size S
          have zr := tx_size R
          have y1 : ¬ (9223372036854775807 : Nat) < S.length + R.length := by omega
          have c0 := B4.cell (i := 1) rfl
          have f0 := B4.frozen 1
          go_wp2_with (first | (with_reducible refine ld_blk (cs := celI ((i : Int), (r : Int), 0)) rfl rfl rfl BV _ Tryz.underlying41 rfl (by kernel_rfl) ?_) | (with_reducible refine one_el Tryz.underlying23 infS (by decide) (by decide) (celI_len _) rfl rfl rfl ?_) | (at_builtin; refine app_el Tryz.underlying23 infS rfl (by decide) (by decide) (celI_len _) (celI_one _) rfl rfl rfl rfl (HO4.out.alloc _) (Blk.new _ _ _ rfl) (by omega) (by simp; omega) ?_; intro v' w5 hown5 h5; obtain ⟨sa', sc', rfl⟩ := owns_shape hown5; have B5 := (B4.old (.cells (celI ((i : Int), (r : Int), 0)).toArray 41)).below h5 (by omega); have c5 := B5.cell (i := 1) rfl; have f5 := B5.frozen 1; have HW5 := Lib.hid hown5; have H5 := Lib.hid h5; clear hown5 h5 c0 f0))
          go_roundw
          case rel =>
            have o6 := HW5.out
            have e6 : (lS k false (i + 1)).flatMap celI = (lS k false i).flatMap celI ++ celI ((i : Int), (r : Int), 0) := by rw [HL.out, List.flatMap_append]; simp only [List.flatMap_cons, List.flatMap_nil, List.append_nil]
            rw [← e6] at o6
            refine ⟨i + 1, sa', sc', by omega, by go_num, ?_, B5.set 1 (.slice sa' (i + 1) sc'), owns_set o6 B5 (by decide) 1 _, (HT4.out.belowB H5.out (Nat.le_refl _)).set 1 _⟩
            rw [HT.out, tx_app]
          case measure => simp [intOf]; omega
        · obtain rfl : k = i := by omega
          obtain ⟨hp, hl4, hw4⟩ := good_all k B A false k1 k8 B2 A3
          have HTA := Lib.hid (show tAll k B A false = tS k B A false k ++ [48, 10] from rfl)
          have hl1 := tS_len k B A false k
          obtain ⟨S, hS⟩ : ∃ S, tS k B A false k = S := ⟨_, rfl⟩
          rw [hS] at HTA hl1 ⊢
          have HX := Lib.hid (tx_app S [48, 10])
          have zs := tx_size S
          have y1 : ¬ (9223372036854775807 : Nat) < S.length + 2 := by omega
          have HP := Lib.hid hp
          have HL4 := Lib.hid hl4
          have HW4 := Lib.hid hw4
          clear hS hp hl4 hw4
          go_wp2_with fail
          rw [show (⟨#[48, 10]⟩ : ByteArray) = tx [48, 10] from rfl, HX.out, ← HTA.out]
          refine (Parse_any pq1 (tAll k B A false) W1 HL4.out (.inl (by decide)) HW4.out).mono ?_
          rw [HP.out]
          rintro e w5 ⟨v, s, t, rfl, hd, hb5⟩
          have hO1 := owns_below (owns_oth HO3.out HTH.out (Nat.lt_succ_self g)) hb5
          have hO2 := owns_below HO.out hb5
          have B5 : Blk w5 g (c3v (.slice va k vc) (.slice sa k sc) (.slice none 0 0)) 26 := hB.call hb5
          have RW : RdD w5 (.slice va k vc) (.slice sa k sc) (.slice none 0 0) (dAll k false) := ⟨RdI.of (B := g + 1) (T := 38) (by show w5.ownsRow _ _ _ _ (lV false k).length _; rw [lV_len]; exact hO1), RdI.of (B := w3.heap.size) (T := 41) (by show w5.ownsRow _ _ _ _ (lS k false k).length _; rw [lS_len]; exact hO2), RdH.of (B := 0) (T := 51) (World.ownsRow_nil _ _ _ _)⟩
          obtain ⟨va2, vc2, sa2, sc2, ta2, tc2, rfl, rfl, rfl⟩ := hd.shape
          have RD := hd.rd
          have lz := B5.lt
          have HB5 := bthen (hb'.trans (HTH.out.below hw2 (by omega))) hb5
          have okd : Dok (dAll k false) := ⟨by show (lV false k).length ≤ _; rw [lV_len]; omega, by show (lS k false k).length ≤ _; rw [lS_len]; omega, Nat.zero_le _, fun p hp => by cases hp⟩
          have HOK := Lib.hid okd
          clear hO1 hO2 hd okd hB HO HTH HO3 hb' HP HX zs y1 hl1 hb5
          generalize (dAll k false).V.length = vn2 at *
          generalize (dAll k false).S.length = sn2 at *
          generalize (dAll k false).H.length = tn2 at *
          have f := Blk.new w5 (c3v (.slice none 0 0) (.slice none 0 0) (.slice none 0 0)) 26 rfl
          have B8 := f.row (c3v (.slice va2 vn2 vc2) (.slice sa2 sn2 sc2) (.slice ta2 tn2 tc2))
          have B9 := (B5.old (.cells (c3v (.slice none 0 0) (.slice none 0 0) (.slice none 0 0)).toArray 26)).rowOther (g := w5.heap.size) (c3v (.slice va2 vn2 vc2) (.slice sa2 sn2 sc2) (.slice ta2 tn2 tc2)).toArray (by omega)
          have hst := below_row ((Below.refl w5.heap.size w5).alloc (Nat.le_refl _) (.cells (c3v (.slice none 0 0) (.slice none 0 0) (.slice none 0 0)).toArray 26)) (g := w5.heap.size) (Nat.le_refl _) (c3v (.slice va2 vn2 vc2) (.slice sa2 sn2 sc2) (.slice ta2 tn2 tc2)).toArray
          have HRD := Lib.hid (RD.below hst)
          have HRW := Lib.hid (RW.below hst)
          have HB9 := Lib.hid (bthen HB5 hst)
          clear RD RW HB5 B5 hst
          have c80 := B8.cell (i := 0) rfl
          have c81 := B8.cell (i := 1) rfl
          have c82 := B8.cell (i := 2) rfl
          have c90 := B9.cell (i := 0) rfl
          have c91 := B9.cell (i := 1) rfl
          have c92 := B9.cell (i := 2) rfl
          go_wp2_with (first | (with_reducible refine ldP rfl rfl rfl B8 (part_all _) (wholeD _ _ _) ?_) | (with_reducible refine ldP rfl rfl rfl B9 (part_all _) (wholeD _ _ _) ?_) | (with_reducible refine al_blk rfl rfl zeroD ?_) | (with_reducible refine st_blk (vs := c3v (.slice va2 vn2 vc2) (.slice sa2 sn2 sc2) (.slice ta2 tn2 tc2)) rfl rfl rfl rfl f rfl (by kernel_rfl) (c3v_one _ _ _ _ _ _ _ _ _) ?_))
          refine (rsame_any _ _ _ _ _ _ (dAll k false) _ HOK.out HRD.out HRW.out).mono ?_
          rintro e w6 ⟨rfl, hb6⟩
          go_wp2_with fail
          go_ret
          exact ⟨rfl, bthen HB9.out hb6⟩
end Go.Proofs.YtpalfmgloddhcaaGreatDoor

/- PolyNumbers with marks. -/
namespace Go.Proofs.YtpalfmgloddhcaaGreatDoor
set_option linter.unusedSimpArgs false
set_option linter.unusedVariables false
open Go.RowKit
set_option maxRecDepth 100000
theorem ints_pre {w : World} {g : Nat} {l : List Int} {zl : List Value} {t : TypeId} (h : Blk w g ((l.map fun x => Value.int .i64 x) ++ zl) t) : ∀ (i : Nat) x, l[i]? = some x → w.cell? ⟨g, 0 + i, none⟩ = some (.int .i64 x) := fun i x hi => by
  rw [Nat.zero_add]
  exact h.cell (by rw [List.getElem?_append_left (by simpa using (List.getElem?_eq_some_iff.1 hi).1)]; simp [hi])
set_option maxHeartbeats 16000000 in
theorem nums_true (n b a : Nat) (hn : n ≤ 255) (hb : b ≤ 255) (ha : a ≤ 255) (w : World) :
    Calls Tryz.prog 4 #[.int .u8 (n : Int), .int .u8 (b : Int), .int .u8 (a : Int), .bool true] w fun e w' => e = .returned (.bool true) ∧ Below w.heap.size w w' := by
  have HK := Lib.hid fun w => known7_any w
  obtain ⟨k, hk⟩ : ∃ k, n % 8 + 1 = k := ⟨_, rfl⟩
  obtain ⟨B, hB⟩ : ∃ B, b % 2 = B := ⟨_, rfl⟩
  obtain ⟨A, hA⟩ : ∃ A, a % 3 = A := ⟨_, rfl⟩
  have q1 : (n : Int).tmod 8 = (k : Int) - 1 := by rw [← hk]; show ((n % 8 : Nat) : Int) = _; omega
  have q2 : (b : Int).tmod 2 = (B : Int) := by rw [← hB]; rfl
  have q3 : (a : Int).tmod 3 = (A : Int) := by rw [← hA]; rfl
  have k1 : 1 ≤ k := by omega
  have k8 : k ≤ 8 := by omega
  have B2 : B < 2 := by omega
  have A3 : A < 3 := by omega
  clear hk hB hA
  go_enter Tryz.func4, Tryz.ntmps4
  go_wp2_with fail
  refine (HK.out _).mono ?_
  rintro e w1 ⟨rfl, hb1⟩
  go_wp2_with fail
  refine (Row_i [(k : Int), 2, (A : Int), 1] _ 0 4 _ (by simp) (by intro x hx; simp at hx; omega) (ints_at (Blk.new _ _ _ rfl))).mono ?_
  rintro e w2 ⟨rfl, hb2⟩
  have hb := bthen (hb1.alloc hb1.size _) hb2
  go_wp2_with fail
  have hB0 := Blk.new w2 (c3v (.slice none 0 0) (.slice none 0 0) (.slice none 0 0)) 26 rfl
  have hz0 : (w2.alloc (.cells (c3v (.slice none 0 0) (.slice none 0 0) (.slice none 0 0)).toArray 26)).heap.size = w2.heap.size + 1 := by simp
  have hb0 := hb.alloc hb.size (.cells (c3v (.slice none 0 0) (.slice none 0 0) (.slice none 0 0)).toArray 26)
  have hix : ∀ w, Sem.run Tryz.prog (Instr.index 36 (Value.agg #[Value.string { data := #[] }, Value.string { data := #[32, 97, 46, 98] }, Value.string { data := #[32, 49, 46, 53, 32, 120] }]) (Value.int IntKind.i64 (A : Int))) w = .ok (.string (tx (ext3 A))) w := by
    intro w
    rcases (show A = 0 ∨ A = 1 ∨ A = 2 by omega) with rfl | rfl | rfl
    all_goals with_unfolding_all rfl
  have hw2 := hb.size
  clear hb1 hb2 hb
  obtain ⟨g, hg⟩ : ∃ g, w2.heap.size = g := ⟨_, rfl⟩
  rw [hg] at hB0 hz0 hw2 ⊢
  go_loopw [13, 15] (fun s j wr => ∃ (i : Nat) (va : Option Addr) (vc : Nat), i ≤ k ∧ j = .int .i64 (i : Int) ∧ s = .string (tx (tV k B A true i)) ∧ Blk wr g (c3v (.slice va i vc) (.slice none 0 0) (.slice none 0 0)) 26 ∧ wr.ownsRow (g + 1) 38 3 (.slice va i vc) i ((lV true i).flatMap celI) ∧ g + 1 ≤ wr.heap.size ∧ Below w.heap.size w wr) (fun _ j _ => k - (intOf j).toNat)
  case atStart => exact ⟨0, none, 0, Nat.zero_le _, rfl, rfl, hB0, World.ownsRow_nil _ _ _ _, Nat.le_of_eq hz0.symm, hb0⟩
  case round =>
    obtain ⟨i, va, vc, hi, rfl, rfl, hB, ho, hz, hb⟩ := hrel
    have HO := Lib.hid ho
    clear ho hB0 hz0 hb0 hg
    by_cases hlt : i < k
    · have w1' : IntKind.i64.wrap ((i : Int) + (B : Int)) = (i : Int) + B := by rw [IntKind.wrap_i64]; omega
      have w2' : IntKind.i64.wrap (3 * (i : Int)) = 3 * (i : Int) := by rw [IntKind.wrap_i64]; omega
      have w3' : IntKind.i64.wrap (7 + (i : Int)) = 7 + (i : Int) := by rw [IntKind.wrap_i64]; omega
      go_wp2_with fail
      refine (Row_i [(i : Int) + B, 3 * (i : Int), (i : Int)] _ 0 3 _ (by simp) (by intro x hx; simp at hx; omega) (ints_at ((Blk.new _ _ _ rfl).old _))).mono ?_
      rintro e w3 ⟨rfl, hb3⟩
      have BV : Blk w3 (wr.heap.size + 1) (celI (3 * (i : Int), (i : Int), 7 + (i : Int))) 38 := (Blk.new _ _ _ (by simp)).call hb3
      have B3 := ((hB.old _).old _).call hb3
      have HO3 := Lib.hid (owns_below ((HO.out.alloc _).alloc _) hb3)
      have hz3 : wr.heap.size + 2 ≤ w3.heap.size := by have := hb3.size; simp at this; omega
      have hb' := bthen ((hb.alloc hb.size _).alloc (hb.alloc hb.size _).size _) hb3
      clear hb3 HO hB hb
      have HT := Lib.hid (show tV k B A true (i + 1) = tV k B A true i ++ (rowI [(i : Int) + B, 3 * (i : Int), (i : Int)] ++ ext3 A ++ (32 :: numT (7 + (i : Int))) ++ [10]) from rfl)
      have hl1 := tV_len k B A true i
      have hl2 := rowI_len [(i : Int) + B, 3 * (i : Int), (i : Int)]
      have hl3 := ext3_len A
      obtain ⟨R, hR⟩ : ∃ R, rowI [(i : Int) + B, 3 * (i : Int), (i : Int)] = R := ⟨_, rfl⟩
      obtain ⟨E, hE⟩ : ∃ E, ext3 A = E := ⟨_, rfl⟩
      obtain ⟨S, hS⟩ : ∃ S, tV k B A true i = S := ⟨_, rfl⟩
      rw [hR] at hl2 HT ⊢
      rw [hE] at hl3 HT ⊢
      rw [hS] at hl1 HT ⊢
      clear hR hE hS
      simp only [List.length_cons, List.length_nil] at hl2
      have zs := tx_size S
      have zr := tx_size R
      have ze := tx_size E
      have zr1 : (tx (R ++ [10])).size = R.length + 1 := by rw [tx_size]; simp
      have hx : (tx (R ++ [10])).extract 0 R.length = tx R := bs_left R [10]
      have y1 : ¬ (9223372036854775807 : Nat) < S.length + R.length := by omega
      have y2 : ¬ (9223372036854775807 : Nat) < S.length + R.length + E.length := by omega
      have hl4 := numT_len (7 + (i : Int))
      have HN := Lib.hid fun w => Num_any (7 + (i : Int)) w (by omega)
      obtain ⟨N, hN⟩ : ∃ N, numT (7 + (i : Int)) = N := ⟨_, rfl⟩
      rw [hN] at hl4 HT HN
      clear hN
      have zn := tx_size N
      have y3 : ¬ (9223372036854775807 : Nat) < S.length + R.length + E.length + 1 := by omega
      have y4 : ¬ (9223372036854775807 : Nat) < S.length + R.length + E.length + 1 + N.length := by omega
      have y5 : ¬ (9223372036854775807 : Nat) < S.length + R.length + E.length + 1 + N.length + 1 := by omega
      have q : IntKind.i64.wrap ((R.length : Int) + 1 - 1) = (R.length : Int) := by rw [IntKind.wrap_i64]; omega
      have cv2 := BV.cell (i := 2) rfl
      go_wp2_with fail
      refine (HN.out _).mono ?_
      rintro e w4 ⟨rfl, hb4⟩
      replace BV := BV.call hb4
      replace B3 := B3.call hb4
      replace HO3 := Lib.hid (owns_below HO3.out hb4)
      replace hb' := bthen hb' hb4
      replace hz3 := Nat.le_trans hz3 hb4.size
      have c0 := B3.cell (i := 0) rfl
      have f0 := B3.frozen 0
      clear hb4 cv2
      try clear w3
      go_wp2_with (first | (with_reducible refine ld_blk (cs := celI (3 * (i : Int), (i : Int), 7 + (i : Int))) rfl rfl rfl BV _ Tryz.underlying38 rfl (by kernel_rfl) ?_) | (with_reducible refine one_el Tryz.underlying22 infV (by decide) (by decide) (celI_len _) rfl rfl rfl ?_) | (at_builtin; refine app_el Tryz.underlying22 infV rfl (by decide) (by decide) (celI_len _) (celI_one _) rfl rfl rfl rfl (HO3.out.alloc _) (Blk.new _ _ _ rfl) (by omega) (by simp; omega) ?_; intro v' w5 hown5 h5; obtain ⟨va', vc', rfl⟩ := owns_shape hown5; have B5 := (B3.old (.cells (celI (3 * (i : Int), (i : Int), 7 + (i : Int))).toArray 38)).below h5 (Nat.lt_succ_self _); have c5 := B5.cell (i := 0) rfl; have f5 := B5.frozen 0; have HW5 := Lib.hid hown5; have H5 := Lib.hid h5; clear hown5 h5 c0 f0))
      go_roundw
      case rel =>
        have o6 := HW5.out
        have e6 : (lV true (i + 1)).flatMap celI = (lV true i).flatMap celI ++ celI (3 * (i : Int), (i : Int), 7 + (i : Int)) := by rw [lV, List.flatMap_append]; simp only [List.flatMap_cons, List.flatMap_nil, List.append_nil]; rfl
        rw [← e6] at o6
        have h6 := (((hb'.alloc hb'.size (.cells (celI (3 * (i : Int), (i : Int), 7 + (i : Int))).toArray 38)).trans (H5.out.mono (by omega))).setCell (p := ⟨g, 0, none⟩) hw2 (.slice va' (i + 1) vc'))
        have z5 := (B5.set 0 (.slice va' (i + 1) vc')).lt
        refine ⟨i + 1, va', vc', by omega, by go_num, ?_, B5.set 0 (.slice va' (i + 1) vc'), owns_set o6 B5 (by decide) 0 _, z5, h6⟩
        rw [HT.out]
        show Value.string (tx S ++ tx R ++ tx E ++ tx [32] ++ tx N ++ tx [10]) = _
        rw [tx_app, tx_app, tx_app, tx_app, tx_app]
        simp
      case measure => simp [intOf]; omega
    · obtain rfl : k = i := by omega
      have HB := Lib.hid hB
      clear hB
      go_wp2_with fail
      refine (Row_i [(k : Int), 1] _ 0 2 _ (by simp) (by intro x hx; simp at hx; omega) (ints_at (Blk.new _ _ _ rfl))).mono ?_
      rintro e w3 ⟨rfl, hb3⟩
      have B3 := Lib.hid ((HB.out.old _).call hb3)
      have HO3 := Lib.hid (owns_below (HO.out.alloc _) hb3)
      have hz3 : g + 1 ≤ w3.heap.size := B3.out.lt
      have hb' := bthen (hb.alloc hb.size _) hb3
      clear hb3 HO HB hb hi hlt hix hz
      have HT := Lib.hid (show tS k B A true 0 = tV k B A true k ++ (rowI [(k : Int), 1] ++ [10]) from rfl)
      have hl1 := tV_len k B A true k
      have hl2 := rowI_len [(k : Int), 1]
      obtain ⟨R, hR⟩ : ∃ R, rowI [(k : Int), 1] ++ [10] = R := ⟨_, rfl⟩
      have hl3 : R.length ≤ 30 := by rw [← hR]; simp at hl2 ⊢; omega
      obtain ⟨S, hS⟩ : ∃ S, tV k B A true k = S := ⟨_, rfl⟩
      rw [hR] at HT ⊢
      rw [hS] at hl1 HT ⊢
      clear hR hS hl2
      have zs := tx_size S
      have zr := tx_size R
      have y1 : ¬ (9223372036854775807 : Nat) < S.length + R.length := by omega
      go_wp2_with fail
      go_loopw [13, 20] (fun s j wr => ∃ (i : Nat) (sa : Option Addr) (sc : Nat), i ≤ k ∧ j = .int .i64 (i : Int) ∧ s = .string (tx (tS k B A true i)) ∧ Blk wr g (c3v (.slice va k vc) (.slice sa i sc) (.slice none 0 0)) 26 ∧ wr.ownsRow w3.heap.size 41 3 (.slice sa i sc) i ((lS k true i).flatMap celI) ∧ Oth g w3 wr) (fun _ j _ => k - (intOf j).toNat)
      case atStart => exact ⟨0, none, 0, Nat.zero_le _, rfl, by rw [HT.out, ← tx_app], B3.out, World.ownsRow_nil _ _ _ _, Oth.refl _ _⟩
      case round =>
        generalize wr = W1 at *
        obtain ⟨i, sa, sc, hi, rfl, rfl, hB, ho, ht⟩ := hrel
        have HO := Lib.hid ho
        have HTH := Lib.hid ht
        have hz := ht.size
        clear ho ht B3 HT zs zr y1 hl1 hl3
        by_cases hlt : i < k
        · obtain ⟨r, hr⟩ : ∃ r, (i + 1) % k = r := ⟨_, rfl⟩
          have hri : ((i : Int) + 1).tmod (k : Int) = (r : Int) := by rw [← hr]; rfl
          have hr8 : r < k := by rw [← hr]; exact Nat.mod_lt _ (by omega)
          have w1' : IntKind.i64.wrap ((i : Int) + (B : Int)) = (i : Int) + B := by rw [IntKind.wrap_i64]; omega
          have w2' : IntKind.i64.wrap ((i : Int) + 1) = (i : Int) + 1 := by rw [IntKind.wrap_i64]; omega
          have w3' : IntKind.i64.wrap ((r : Int) + (B : Int)) = (r : Int) + B := by rw [IntKind.wrap_i64]; omega
          have w4' : IntKind.i64.wrap (r : Int) = (r : Int) := by rw [IntKind.wrap_i64]; omega
          have kn : ¬ (k : Int) = 0 := by omega
          have HRR := Lib.hid hr
          clear hr
          go_wp2_with fail
          generalize Question.cut _ _ = cap
          generalize Builtin.zeroCells _ _ = Z
          obtain ⟨zl⟩ := Z
          rw [show (#[Value.int IntKind.i64 ((i : Int) + B), Value.int IntKind.i64 ((i : Int) + B), Value.int IntKind.i64 ((r : Int) + B), Value.int IntKind.i64 (i : Int)] ++ (⟨zl⟩ : Array Value)) = ((([(i : Int) + B, (i : Int) + B, (r : Int) + B, (i : Int)] : List Int).map fun x => Value.int .i64 x) ++ zl).toArray by simp]
          refine (Row_i [(i : Int) + B, (i : Int) + B, (r : Int) + B, (i : Int)] _ 0 cap _ (by simp) (by intro x hx; simp at hx; omega) (ints_pre (Blk.new _ _ _ (by simp)).drew)).mono ?_
          rintro e w4 ⟨rfl, hb4⟩
          have BV : Blk w4 (W1.heap.size + 1) (celI ((i : Int), (r : Int), (i : Int))) 41 := (((Blk.new _ _ _ (by simp)).old _).old _).drew.call hb4
          have hz4 : W1.heap.size + 2 ≤ w4.heap.size := by have := hb4.size; simp [World.drew] at this; omega
          have bt := bthen (((((((Below.refl W1.heap.size W1).alloc (Nat.le_refl _) _).alloc (by simp) _).alloc (by simp; omega) _).alloc (by simp; omega) _)).drew) hb4
          have B4 := hB.call bt
          have HO4 := Lib.hid (owns_below HO.out bt)
          have HT4 := Lib.hid ((HTH.out.then bt).old (.cells (celI ((i : Int), (r : Int), (i : Int))).toArray 41))
          clear hb4 HO HTH hB bt
          have HT := Lib.hid (show tS k B A true (i + 1) = tS k B A true i ++ (rowI [(i : Int) + B, (i : Int) + B, (((i + 1) % k : Nat) : Int) + B, (i : Int)] ++ [10]) from rfl)
          have HL := Lib.hid (show lS k true (i + 1) = lS k true i ++ [((i : Int), (((i + 1) % k : Nat) : Int), (i : Int))] from rfl)
          rw [HRR.out] at HT HL
          have hl1 := tS_len k B A true i
          have hl2 := rowI_len [(i : Int) + B, (i : Int) + B, (r : Int) + B, (i : Int)]
          obtain ⟨R, hR⟩ : ∃ R, rowI [(i : Int) + B, (i : Int) + B, (r : Int) + B, (i : Int)] ++ [10] = R := ⟨_, rfl⟩
          have hl3 : R.length ≤ 60 := by rw [← hR]; simp at hl2 ⊢; omega
          obtain ⟨S, hS⟩ : ∃ S, tS k B A true i = S := ⟨_, rfl⟩
          rw [hR] at HT ⊢
          rw [hS] at hl1 HT ⊢
          clear hR hS hl2
          have zs := tx_size S
          have zr := tx_size R
          have y1 : ¬ (9223372036854775807 : Nat) < S.length + R.length := by omega
          have c0 := B4.cell (i := 1) rfl
          have f0 := B4.frozen 1
          go_wp2_with (first | (with_reducible refine ld_blk (cs := celI ((i : Int), (r : Int), (i : Int))) rfl rfl rfl BV _ Tryz.underlying41 rfl (by kernel_rfl) ?_) | (with_reducible refine one_el Tryz.underlying23 infS (by decide) (by decide) (celI_len _) rfl rfl rfl ?_) | (at_builtin; refine app_el Tryz.underlying23 infS rfl (by decide) (by decide) (celI_len _) (celI_one _) rfl rfl rfl rfl (HO4.out.alloc _) (Blk.new _ _ _ rfl) (by omega) (by simp; omega) ?_; intro v' w5 hown5 h5; obtain ⟨sa', sc', rfl⟩ := owns_shape hown5; have B5 := (B4.old (.cells (celI ((i : Int), (r : Int), (i : Int))).toArray 41)).below h5 (by omega); have c5 := B5.cell (i := 1) rfl; have f5 := B5.frozen 1; have HW5 := Lib.hid hown5; have H5 := Lib.hid h5; clear hown5 h5 c0 f0))
          go_roundw
          case rel =>
            have o6 := HW5.out
            have e6 : (lS k true (i + 1)).flatMap celI = (lS k true i).flatMap celI ++ celI ((i : Int), (r : Int), (i : Int)) := by rw [HL.out, List.flatMap_append]; simp only [List.flatMap_cons, List.flatMap_nil, List.append_nil]
            rw [← e6] at o6
            refine ⟨i + 1, sa', sc', by omega, by go_num, ?_, B5.set 1 (.slice sa' (i + 1) sc'), owns_set o6 B5 (by decide) 1 _, (HT4.out.belowB H5.out (Nat.le_refl _)).set 1 _⟩
            rw [HT.out, tx_app]
          case measure => simp [intOf]; omega
        · obtain rfl : k = i := by omega
          obtain ⟨hp, hl4, hw4⟩ := good_all k B A true k1 k8 B2 A3
          have HTA := Lib.hid (show tAll k B A true = tS k B A true k ++ [48, 10] from rfl)
          have hl1 := tS_len k B A true k
          obtain ⟨S, hS⟩ : ∃ S, tS k B A true k = S := ⟨_, rfl⟩
          rw [hS] at HTA hl1 ⊢
          have HX := Lib.hid (tx_app S [48, 10])
          have zs := tx_size S
          have y1 : ¬ (9223372036854775807 : Nat) < S.length + 2 := by omega
          have HP := Lib.hid hp
          have HL4 := Lib.hid hl4
          have HW4 := Lib.hid hw4
          clear hS hp hl4 hw4
          go_wp2_with fail
          rw [show (⟨#[48, 10]⟩ : ByteArray) = tx [48, 10] from rfl, HX.out, ← HTA.out]
          refine (Parse_any pq1 (tAll k B A true) W1 HL4.out (.inl (by decide)) HW4.out).mono ?_
          rw [HP.out]
          rintro e w5 ⟨v, s, t, rfl, hd, hb5⟩
          have hO1 := owns_below (owns_oth HO3.out HTH.out (Nat.lt_succ_self g)) hb5
          have hO2 := owns_below HO.out hb5
          have B5 : Blk w5 g (c3v (.slice va k vc) (.slice sa k sc) (.slice none 0 0)) 26 := hB.call hb5
          have RW : RdD w5 (.slice va k vc) (.slice sa k sc) (.slice none 0 0) (dAll k true) := ⟨RdI.of (B := g + 1) (T := 38) (by show w5.ownsRow _ _ _ _ (lV true k).length _; rw [lV_len]; exact hO1), RdI.of (B := w3.heap.size) (T := 41) (by show w5.ownsRow _ _ _ _ (lS k true k).length _; rw [lS_len]; exact hO2), RdH.of (B := 0) (T := 51) (World.ownsRow_nil _ _ _ _)⟩
          obtain ⟨va2, vc2, sa2, sc2, ta2, tc2, rfl, rfl, rfl⟩ := hd.shape
          have RD := hd.rd
          have lz := B5.lt
          have HB5 := bthen (hb'.trans (HTH.out.below hw2 (by omega))) hb5
          have okd : Dok (dAll k true) := ⟨by show (lV true k).length ≤ _; rw [lV_len]; omega, by show (lS k true k).length ≤ _; rw [lS_len]; omega, Nat.zero_le _, fun p hp => by cases hp⟩
          have HOK := Lib.hid okd
          clear hO1 hO2 hd okd hB HO HTH HO3 hb' HP HX zs y1 hl1 hb5
          generalize (dAll k true).V.length = vn2 at *
          generalize (dAll k true).S.length = sn2 at *
          generalize (dAll k true).H.length = tn2 at *
          have f := Blk.new w5 (c3v (.slice none 0 0) (.slice none 0 0) (.slice none 0 0)) 26 rfl
          have B8 := f.row (c3v (.slice va2 vn2 vc2) (.slice sa2 sn2 sc2) (.slice ta2 tn2 tc2))
          have B9 := (B5.old (.cells (c3v (.slice none 0 0) (.slice none 0 0) (.slice none 0 0)).toArray 26)).rowOther (g := w5.heap.size) (c3v (.slice va2 vn2 vc2) (.slice sa2 sn2 sc2) (.slice ta2 tn2 tc2)).toArray (by omega)
          have hst := below_row ((Below.refl w5.heap.size w5).alloc (Nat.le_refl _) (.cells (c3v (.slice none 0 0) (.slice none 0 0) (.slice none 0 0)).toArray 26)) (g := w5.heap.size) (Nat.le_refl _) (c3v (.slice va2 vn2 vc2) (.slice sa2 sn2 sc2) (.slice ta2 tn2 tc2)).toArray
          have HRD := Lib.hid (RD.below hst)
          have HRW := Lib.hid (RW.below hst)
          have HB9 := Lib.hid (bthen HB5 hst)
          clear RD RW HB5 B5 hst
          have c80 := B8.cell (i := 0) rfl
          have c81 := B8.cell (i := 1) rfl
          have c82 := B8.cell (i := 2) rfl
          have c90 := B9.cell (i := 0) rfl
          have c91 := B9.cell (i := 1) rfl
          have c92 := B9.cell (i := 2) rfl
          go_wp2_with (first | (with_reducible refine ldP rfl rfl rfl B8 (part_all _) (wholeD _ _ _) ?_) | (with_reducible refine ldP rfl rfl rfl B9 (part_all _) (wholeD _ _ _) ?_) | (with_reducible refine al_blk rfl rfl zeroD ?_) | (with_reducible refine st_blk (vs := c3v (.slice va2 vn2 vc2) (.slice sa2 sn2 sc2) (.slice ta2 tn2 tc2)) rfl rfl rfl rfl f rfl (by kernel_rfl) (c3v_one _ _ _ _ _ _ _ _ _) ?_))
          refine (rsame_any _ _ _ _ _ _ (dAll k true) _ HOK.out HRD.out HRW.out).mono ?_
          rintro e w6 ⟨rfl, hb6⟩
          go_wp2_with fail
          go_ret
          exact ⟨rfl, bthen HB9.out hb6⟩
end Go.Proofs.YtpalfmgloddhcaaGreatDoor
