/- Joined of: Mag Rsu Rle. -/
import Derived.Test.YtoegjibeomhekaaGreatRof
/- The reference's amounts: slices of words; trim, wide, From, Whole. -/
namespace Go.Proofs.YtoegjibeomhekaaGreat
set_option linter.unusedSimpArgs false
set_option linter.unusedVariables false
open Go.RowKit
set_option maxRecDepth 100000
/-- The words of M lie at b, n of them, and M has no more. -/
def Mg (w : World) (b n M : Nat) : Prop := M < bb ^ n ∧ ∀ i, i < n → w.cell? ⟨b, i, none⟩ = some (.int .u32 (dig M i : Nat))
theorem Mg.call {w w' : World} {b n M : Nat} (h : Mg w b n M) (hb : b < w.heap.size) (h1 : Below w.heap.size w w') : Mg w' b n M := ⟨h.1, fun i hi => by rw [h1.cell (p := ⟨b, i, none⟩) hb]; exact h.2 i hi⟩
theorem Mg.less {w : World} {b n M k : Nat} (h : Mg w b n M) (hk : k ≤ n) (hM : M < bb ^ k) : Mg w b k M := ⟨hM, fun i hi => h.2 i (by omega)⟩
set_option maxHeartbeats 1000000 in
theorem trim_any {b n c M : Nat} (w : World) (h : Mg w b n M) (hn : n ≤ c) (hc : n ≤ 1000000) :
    Calls Tryz.prog 51 #[.slice (some ⟨b, 0, none⟩) n c] w fun e w' => e = .returned (.slice (some ⟨b, 0, none⟩) (nw M) c) ∧ w' = w := by
  have H := Lib.hid h
  clear h
  go_enter Tryz.func51, Tryz.ntmps51
  go_wp2
  go_loop [3] (fun v => ∃ k : Nat, k ≤ n ∧ v = .int .i64 k ∧ M < bb ^ k) (fun v => (intOf v).toNat)
  case atStart => exact ⟨n, Nat.le_refl _, rfl, H.out.1⟩
  case round =>
    obtain ⟨k, hk, rfl, hM⟩ := hrel
    have HM := Lib.hid hM
    clear hM
    by_cases h0 : 0 < k
    · obtain ⟨j, rfl⟩ : ∃ j, k = j + 1 := ⟨k - 1, by omega⟩
      have hcl := H.out.2 j (by omega)
      have hj : (j : Int) < (n : Int) := by omega
      by_cases hd : dig M j = 0
      · go_wp2
        go_round
        case rel => exact ⟨j, by omega, by go_num, lt_of_dig HM.out hd⟩
        case measure => simp [intOf]
      · have E : Hid (nw M = j + 1) := nw_of HM.out (fun _ => le_of_dig hd)
        go_wp2
        go_ret
        rw [E.out]
        exact ⟨rfl, rfl⟩
    · obtain rfl : k = 0 := by omega
      have E : Hid (nw M = 0) := nw_of HM.out (by omega)
      go_wp2
      go_ret
      rw [E.out]
      exact ⟨rfl, rfl⟩
theorem built25b (b : Bool) : Tryz.prog.built 43 [(0, .bool b)] = some (wd b 0).toArray := by kernel_rfl
theorem bdWs {ops : Array Oper} {rest : List Oper} {o : Oper} {a : Act} {w : World} {Q : Exit → Act → World → Prop} {x : Operand} {b : Bool} (hgd : o.guard = none) (ho : o.op = .build 43 #[(0, x)]) (hx : a.eval x = .bool b)
    (hr : wpList Tryz.prog ops Q rest (a.put o.dst (.agg (wd b 0).toArray)) w) : wpList Tryz.prog ops Q (o :: rest) a w :=
  wpList_plain hgd fun K hK => by
    have := hK _ _ hr
    unfold Oper.wp execOp
    simp only [ho, Sem.run_bind]
    rw [show Array.map (fun x : Nat × Operand => (x.fst, a.eval x.snd)) #[(0, x)] = #[(0, .bool b)] by simp [hx], run_build w 43 _ _ (built25b b)]
    exact this
theorem wd_set {s : Bool} {X k v : Nat} (hX : X < bb ^ k) (hv : v < bb) : (wd s X).set (k + 1) (.int .u32 (v : Nat)) = wd s (X + bb ^ k * v) := by
  unfold wd
  rw [List.set_cons_succ, wc_set hX hv]
set_option maxHeartbeats 1000000 in
theorem wideref_yes {b n c M : Nat} (s : Bool) (w : World) (h : Mg w b n M) (hbw : b < w.heap.size) (hn : n ≤ c) (hc : n ≤ 1000000) (h32 : nw M ≤ 32) :
    Calls Tryz.prog 41 #[.bool s, .slice (some ⟨b, 0, none⟩) n c] w fun e w' => e = .returned (.tuple #[.agg (wd (s && decide (M ≠ 0)) M).toArray, .bool true]) ∧ Below w.heap.size w w' := by
  have H := Lib.hid h
  have hnM : nw M ≤ n := nw_le_of h.1
  have HM := Lib.hid (nw_lt M)
  have HZ : Hid (decide (M ≠ 0) = decide (0 < nw M)) := by
    apply decide_eq_decide.2
    have := nw_zero (N := M)
    omega
  rw [HZ.out]
  have HT : Hid (∀ w, Mg w b n M → Calls Tryz.prog 51 #[.slice (some ⟨b, 0, none⟩) n c] w fun e w' => e = .returned (.slice (some ⟨b, 0, none⟩) (nw M) c) ∧ w' = w) := fun w h => trim_any w h hn hc
  have HD : Hid (∀ i, i < nw M → Mg w b n M → True) := fun _ _ _ => trivial
  clear h
  obtain ⟨m, hm⟩ : ∃ m, nw M = m := ⟨_, rfl⟩
  rw [hm] at HT HM hnM h32 ⊢
  clear hm HZ HD
  obtain ⟨g, hg⟩ : ∃ g : Bool, (s && decide (0 < m)) = g := ⟨_, rfl⟩
  have HG := Lib.hid hg
  rw [hg]
  clear hg
  have b4 := Blk.new w (wd false 0) 43 rfl
  have hb : Below w.heap.size w (w.alloc (.cells (wd false 0).toArray 43)) := (Below.refl _ _).alloc (Nat.le_refl _) _
  have g1 := H.out.call hbw hb
  go_enter Tryz.func41, Tryz.ntmps41
  go_wp2_with (first | (with_reducible refine alW rfl rfl ?_))
  refine (HT.out _ g1).mono ?_
  rintro e w1 ⟨rfl, rfl⟩
  have f7 := Blk.new (w.alloc (.cells (wd false 0).toArray 43)) (wd false 0) 43 (b := w.heap.size + 1) (by simp)
  have b7 := f7.row (wd g 0)
  have c4 := (b4.old (.cells (wd false 0).toArray 43)).rowOther (g := w.heap.size + 1) (wd g 0).toArray (by omega)
  have hc' := below_row (hb.alloc hb.size (.cells (wd false 0).toArray 43)) (g := w.heap.size + 1) (by omega) (wd g 0).toArray
  have hm32 : ¬ (32 : Int) < (m : Int) := by omega
  cases s with
  | false =>
    obtain rfl : g = false := by rw [← HG.out]; rfl
    go_wp2_with (first | (with_reducible refine bdWs rfl rfl rfl ?_) | (with_reducible refine alW2 rfl rfl ?_) | (with_reducible refine alW rfl rfl ?_) | (with_reducible refine stW rfl rfl rfl rfl f7 ?_))
    generalize ((w.alloc (.cells (wd false 0).toArray 43)).alloc (.cells (wd false 0).toArray 43)).setRow (w.heap.size + 1) (wd false 0).toArray = W at *
    go_loopw [8] (fun i wr => ∃ k : Nat, k ≤ m ∧ i = .int .i64 k ∧ Below w.heap.size w wr ∧ Blk wr w.heap.size (wd false 0) 43 ∧ Blk wr (w.heap.size + 1) (wd false (M % bb ^ k)) 43) (fun i _ => m - (intOf i).toNat)
    case atStart => exact ⟨0, Nat.zero_le _, rfl, hc', c4, by rw [Nat.pow_zero, Nat.mod_one]; exact b7⟩
    case round =>
      clear hc' c4 b7 f7 b4 hb g1
      obtain ⟨k, hk, rfl, hb, b4, b7⟩ := hrel
      by_cases hlt : k < m
      · have hlt' : (k : Int) < (m : Nat) := by omega
        have hk32 : (k : Int) < 32 := by omega
        have hcl := (H.out.call hbw hb).2 k (by omega)
        have c7 := b7.cell (i := k + 1) (v := .int .u32 (dig (M % bb ^ k) k : Nat)) (by unfold wd; rw [List.getElem?_cons_succ]; exact wc_get _ k (by omega))
        have e7 : k + 1 = 1 + k := Nat.add_comm _ _
        rw [e7] at c7
        have f7 := b7.frozen (1 + k)
        have d0 := dig_le M k
        go_wp2
        go_roundw
        case rel =>
          refine ⟨k + 1, by omega, by go_num, hb.setCell (by simp) _, b4.setOther _ _ (by omega), ?_⟩
          have := b7.set (k + 1) (.int .u32 (dig M k : Nat))
          rw [wd_set (Nat.mod_lt _ (bp_pos k)) (dig_lt _ _), ← mod_succ] at this
          rw [show 1 + k = k + 1 from Nat.add_comm _ _]
          exact this
        case measure => simp [intOf] <;> omega
      · obtain rfl : k = m := by omega
        rw [Nat.mod_eq_of_lt HM.out] at b7
        go_wp2_with (first | (with_reducible refine ldW rfl rfl rfl b7 ?_) | (with_reducible refine stW rfl rfl rfl rfl b4 ?_))
        exact ret_ct (cs := wd false M) (v := .bool true) rfl rfl rfl rfl (whole25 _ _) (b4.row _) ⟨rfl, below_row hb (Nat.le_refl _) _⟩
  | true =>
    by_cases h0 : 0 < m
    · have h0' : (0 : Int) < (m : Int) := by omega
      obtain rfl : g = true := by rw [← HG.out]; simp [h0]
      go_wp2_with (first | (with_reducible refine bdWs rfl rfl rfl ?_) | (with_reducible refine alW2 rfl rfl ?_) | (with_reducible refine alW rfl rfl ?_) | (with_reducible refine stW rfl rfl rfl rfl f7 ?_))
      generalize ((w.alloc (.cells (wd false 0).toArray 43)).alloc (.cells (wd false 0).toArray 43)).setRow (w.heap.size + 1) (wd true 0).toArray = W at *
      go_loopw [8] (fun i wr => ∃ k : Nat, k ≤ m ∧ i = .int .i64 k ∧ Below w.heap.size w wr ∧ Blk wr w.heap.size (wd false 0) 43 ∧ Blk wr (w.heap.size + 1) (wd true (M % bb ^ k)) 43) (fun i _ => m - (intOf i).toNat)
      case atStart => exact ⟨0, Nat.zero_le _, rfl, hc', c4, by rw [Nat.pow_zero, Nat.mod_one]; exact b7⟩
      case round =>
        clear hc' c4 b7 f7 b4 hb g1
        obtain ⟨k, hk, rfl, hb, b4, b7⟩ := hrel
        by_cases hlt : k < m
        · have hlt' : (k : Int) < (m : Nat) := by omega
          have hk32 : (k : Int) < 32 := by omega
          have hcl := (H.out.call hbw hb).2 k (by omega)
          have c7 := b7.cell (i := k + 1) (v := .int .u32 (dig (M % bb ^ k) k : Nat)) (by unfold wd; rw [List.getElem?_cons_succ]; exact wc_get _ k (by omega))
          have e7 : k + 1 = 1 + k := Nat.add_comm _ _
          rw [e7] at c7
          have f7 := b7.frozen (1 + k)
          have d0 := dig_le M k
          go_wp2
          go_roundw
          case rel =>
            refine ⟨k + 1, by omega, by go_num, hb.setCell (by simp) _, b4.setOther _ _ (by omega), ?_⟩
            have := b7.set (k + 1) (.int .u32 (dig M k : Nat))
            rw [wd_set (Nat.mod_lt _ (bp_pos k)) (dig_lt _ _), ← mod_succ] at this
            rw [show 1 + k = k + 1 from Nat.add_comm _ _]
            exact this
          case measure => simp [intOf] <;> omega
        · obtain rfl : k = m := by omega
          rw [Nat.mod_eq_of_lt HM.out] at b7
          go_wp2_with (first | (with_reducible refine ldW rfl rfl rfl b7 ?_) | (with_reducible refine stW rfl rfl rfl rfl b4 ?_))
          exact ret_ct (cs := wd true M) (v := .bool true) rfl rfl rfl rfl (whole25 _ _) (b4.row _) ⟨rfl, below_row hb (Nat.le_refl _) _⟩
    · have h0' : ¬ (0 : Int) < (m : Int) := by omega
      have h0'' : decide ((0 : Int) < (m : Int)) = false := decide_eq_false h0'
      obtain rfl : g = false := by rw [← HG.out]; simp [h0]
      go_wp2_with (first | (with_reducible refine bdWs rfl rfl rfl ?_) | (with_reducible refine alW2 rfl rfl ?_) | (with_reducible refine alW rfl rfl ?_) | (with_reducible refine stW rfl rfl rfl rfl f7 ?_))
      generalize ((w.alloc (.cells (wd false 0).toArray 43)).alloc (.cells (wd false 0).toArray 43)).setRow (w.heap.size + 1) (wd false 0).toArray = W at *
      go_loopw [8] (fun i wr => ∃ k : Nat, k ≤ m ∧ i = .int .i64 k ∧ Below w.heap.size w wr ∧ Blk wr w.heap.size (wd false 0) 43 ∧ Blk wr (w.heap.size + 1) (wd false (M % bb ^ k)) 43) (fun i _ => m - (intOf i).toNat)
      case atStart => exact ⟨0, Nat.zero_le _, rfl, hc', c4, by rw [Nat.pow_zero, Nat.mod_one]; exact b7⟩
      case round =>
        clear hc' c4 b7 f7 b4 hb g1
        obtain ⟨k, hk, rfl, hb, b4, b7⟩ := hrel
        obtain rfl : k = m := by omega
        rw [Nat.mod_eq_of_lt HM.out] at b7
        go_wp2_with (first | (with_reducible refine ldW rfl rfl rfl b7 ?_) | (with_reducible refine stW rfl rfl rfl rfl b4 ?_))
        exact ret_ct (cs := wd false M) (v := .bool true) rfl rfl rfl rfl (whole25 _ _) (b4.row _) ⟨rfl, below_row hb (Nat.le_refl _) _⟩
theorem wideref_mk {b n c M : Nat} (s : Bool) (w : World) (h : Mg w b n M) (hbw : b < w.heap.size) (hn : n ≤ c) (hc : n ≤ 1000000) (h32 : M < bb ^ 32) :
    Calls Tryz.prog 41 #[.bool s, .slice (some ⟨b, 0, none⟩) n c] w fun e w' => e = .returned (.tuple #[.agg (mk (zn s M)).toArray, .bool true]) ∧ Below w.heap.size w w' := by
  have := wideref_yes s w h hbw hn hc (nw_le_of h32)
  rwa [wd_mk] at this
theorem m_build2 (x y : Int) (w : World) : (Instr.buildSlice 79 2 #[(0, .int .u32 x), (1, .int .u32 y)]).run Tryz.prog w = .ok (.slice (some ⟨w.heap.size, 0, none⟩) 2 2) (w.alloc (.cells #[.int .u32 x, .int .u32 y] 27)) := by kernel_rfl
theorem bsM {ops : Array Oper} {rest : List Oper} {o : Oper} {a : Act} {w : World} {Q : Exit → Act → World → Prop} {p q : Operand} {x y : Int} (hgd : o.guard = none) (ho : o.op = .buildSlice 79 2 #[(0, p), (1, q)]) (hp : a.eval p = .int .u32 x) (hq : a.eval q = .int .u32 y)
    (hr : wpList Tryz.prog ops Q rest (a.put o.dst (.slice (some ⟨w.heap.size, 0, none⟩) 2 2)) (w.alloc (.cells #[.int .u32 x, .int .u32 y] 27))) : wpList Tryz.prog ops Q (o :: rest) a w :=
  wpList_plain hgd fun K hK => by
    have := hK _ _ hr
    unfold Oper.wp execOp
    simp only [ho, Sem.run_bind]
    rw [show Array.map (fun x : Nat × Operand => (x.fst, a.eval x.snd)) #[(0, p), (1, q)] = #[(0, .int .u32 x), (1, .int .u32 y)] by simp [hp, hq], m_build2]
    exact this
theorem mg_two {w : World} {b u : Nat} {t : TypeId} (hu : u < bb ^ 2) (h : Blk w b [.int .u32 (dig u 0 : Nat), .int .u32 (dig u 1 : Nat)] t) : Mg w b 2 u := by
  refine ⟨hu, fun i hi => ?_⟩
  rcases (show i = 0 ∨ i = 1 by omega) with rfl | rfl
  · exact h.cell rfl
  · exact h.cell rfl
theorem dig01 {u : Nat} (hu : u ≤ 18446744073709551615) : ((u : Int) % 4294967296 = (dig u 0 : Nat)) ∧ ((u : Int) / 4294967296 % 4294967296 = (dig u 1 : Nat)) ∧ ((u : Int) / 4294967296 = (dig u 1 : Nat)) := by
  unfold dig
  rw [Nat.pow_zero, Nat.pow_one, Nat.div_one, bb_eq]
  refine ⟨by omega, by omega, by omega⟩
set_option maxHeartbeats 1000000 in
theorem fromref_walk {n : Int} {u : Nat} (s : Bool) (hn : -9223372036854775808 ≤ n ∧ n ≤ 9223372036854775807) (hu : u ≤ 18446744073709551615) (hs : s = true ∧ n < 0 ∧ (u : Int) = -n ∨ s = false ∧ ¬ n < 0 ∧ (u : Int) = n) (w : World) :
    Calls Tryz.prog 31 #[.int .i64 n] w fun e w' => e = .returned (.agg (mk n).toArray) ∧ Below w.heap.size w w' := by
  have hz : zn s u = n := by
    unfold zn
    rcases hs with ⟨rfl, _, h⟩ | ⟨rfl, _, h⟩
    · simp; omega
    · simp; omega
  obtain ⟨d1, d2, d3⟩ := dig01 hu
  have hu2 : u < bb ^ 2 := by rw [bb_eq]; omega
  have hu32 : u < bb ^ 32 := Nat.lt_of_lt_of_le hu2 (bp_mono (by omega))
  have HW : Hid (∀ (w : World) (b : Nat), Mg w b 2 u → b < w.heap.size → Calls Tryz.prog 41 #[.bool s, .slice (some ⟨b, 0, none⟩) 2 2] w fun e w' => e = .returned (.tuple #[.agg (mk n).toArray, .bool true]) ∧ Below w.heap.size w w') := fun w b h hb => by
    have := wideref_mk s w h hb (Nat.le_refl 2) (by omega) hu32
    rwa [hz] at this
  have HU := Lib.hid hu2
  clear hz hu2 hu32
  have b2 := Blk.new w (wd false 0) 43 rfl
  have hb : Below w.heap.size w (w.alloc (.cells (wd false 0).toArray 43)) := (Below.refl _ _).alloc (Nat.le_refl _) _
  have q0 := dig_le u 0
  have q1 := dig_le u 1
  rcases hs with ⟨rfl, h1, h2⟩ | ⟨rfl, h1, h2⟩
  · have e1 : IntKind.u64.wrap n = n + 18446744073709551616 := by rw [IntKind.wrap_u64]; omega
    have e2 : IntKind.u64.wrap (-(n + 18446744073709551616)) = (u : Int) := by rw [IntKind.wrap_u64]; omega
    have k1 : -n % 4294967296 = (dig u 0 : Nat) := by rw [← h2]; exact d1
    have k3 : -n / 4294967296 = (dig u 1 : Nat) := by rw [← h2]; exact d3
    clear d1 d2 d3
    go_enter Tryz.func31, Tryz.ntmps31
    go_wp2_with (first | (with_reducible refine alW rfl rfl ?_) | (with_reducible refine bsM rfl rfl rfl rfl ?_))
    try rw [k1]
    try rw [k3]
    have sl := Blk.new (w.alloc (.cells (wd false 0).toArray 43)) [.int .u32 (dig u 0 : Nat), .int .u32 (dig u 1 : Nat)] 27 (b := w.heap.size + 1) (by simp)
    replace b2 := b2.old (.cells [.int .u32 (dig u 0 : Nat), .int .u32 (dig u 1 : Nat)].toArray 27)
    replace hb := hb.alloc hb.size (.cells [.int .u32 (dig u 0 : Nat), .int .u32 (dig u 1 : Nat)].toArray 27)
    refine (HW.out _ _ (mg_two HU.out sl) sl.lt).mono ?_
    rintro e w1 ⟨rfl, h3⟩
    replace b2 := b2.call h3
    replace hb := bthen hb h3
    clear h3 sl
    have f := Blk.new w1 (wd false 0) 43 rfl
    have b5 := laid_new w1 n
    have c2 := laid_old b2 n
    have hc := laid_below hb n
    go_wp2_with (first | (with_reducible refine alW rfl rfl ?_) | (with_reducible refine stM rfl rfl rfl rfl f (wd_length _ _) ?_) | (with_reducible refine ldM rfl rfl rfl b5 ?_) | (with_reducible refine stM rfl rfl rfl rfl c2 (wd_length _ _) ?_))
    exact ret_c (cs := mk n) rfl rfl rfl (wholeM _) (c2.row _) ⟨rfl, below_row hc (Nat.le_refl _) _⟩
  · have e1 : IntKind.u64.wrap n = (u : Int) := by rw [IntKind.wrap_u64]; omega
    have k1 : n % 4294967296 = (dig u 0 : Nat) := by rw [← h2]; exact d1
    have k3 : n / 4294967296 = (dig u 1 : Nat) := by rw [← h2]; exact d3
    clear d1 d2 d3
    go_enter Tryz.func31, Tryz.ntmps31
    go_wp2_with (first | (with_reducible refine alW rfl rfl ?_) | (with_reducible refine bsM rfl rfl rfl rfl ?_))
    try rw [k1]
    try rw [k3]
    have sl := Blk.new (w.alloc (.cells (wd false 0).toArray 43)) [.int .u32 (dig u 0 : Nat), .int .u32 (dig u 1 : Nat)] 27 (b := w.heap.size + 1) (by simp)
    replace b2 := b2.old (.cells [.int .u32 (dig u 0 : Nat), .int .u32 (dig u 1 : Nat)].toArray 27)
    replace hb := hb.alloc hb.size (.cells [.int .u32 (dig u 0 : Nat), .int .u32 (dig u 1 : Nat)].toArray 27)
    refine (HW.out _ _ (mg_two HU.out sl) sl.lt).mono ?_
    rintro e w1 ⟨rfl, h3⟩
    replace b2 := b2.call h3
    replace hb := bthen hb h3
    clear h3 sl
    have f := Blk.new w1 (wd false 0) 43 rfl
    have b5 := laid_new w1 n
    have c2 := laid_old b2 n
    have hc := laid_below hb n
    go_wp2_with (first | (with_reducible refine alW rfl rfl ?_) | (with_reducible refine stM rfl rfl rfl rfl f (wd_length _ _) ?_) | (with_reducible refine ldM rfl rfl rfl b5 ?_) | (with_reducible refine stM rfl rfl rfl rfl c2 (wd_length _ _) ?_))
    exact ret_c (cs := mk n) rfl rfl rfl (wholeM _) (c2.row _) ⟨rfl, below_row hc (Nat.le_refl _) _⟩
theorem From_ref {n : Int} (hn : -9223372036854775808 ≤ n ∧ n ≤ 9223372036854775807) : Tl 31 #[.int .i64 n] (vw n) := fun w => by
  by_cases h : n < 0
  · exact fromref_walk (u := n.natAbs) true hn (by omega) (.inl ⟨rfl, h, by omega⟩) w
  · exact fromref_walk (u := n.natAbs) false hn (by omega) (.inr ⟨rfl, h, by omega⟩) w
set_option maxHeartbeats 1000000 in
theorem Whole_ref {n : Int} (hn : -9223372036854775808 ≤ n ∧ n ≤ 9223372036854775807) : Tl 18 #[.int .i64 n] (vf n 1) := fun w => by
  unfold vf
  have HF := Lib.hid (From_ref hn)
  have HO := Lib.hid (From_ref (n := 1) (by decide))
  unfold Tl vw at HF HO
  clear hn
  have b2 := Blk.new w (rr false 0 false 0) 45 rfl
  have hb : Below w.heap.size w (w.alloc (.cells (rr false 0 false 0).toArray 45)) := (Below.refl _ _).alloc (Nat.le_refl _) _
  go_enter Tryz.func18, Tryz.ntmps18
  go_wp2_with (first | (with_reducible refine alR rfl rfl ?_))
  refine (HF.out _).mono ?_
  rintro e w1 ⟨rfl, h1⟩
  replace b2 := b2.call h1
  replace hb := bthen hb h1
  clear h1
  go_wp2_with fail
  refine (HO.out _).mono ?_
  rintro e w1 ⟨rfl, h1⟩
  replace b2 := b2.call h1
  replace hb := bthen hb h1
  clear h1
  go_wp2_with (first | (with_reducible refine bdF rfl rfl rfl rfl ?_) | (with_reducible refine stR rfl rfl rfl rfl b2 (rr_length _ _ _ _) ?_))
  exact ret_c (cs := fr n 1) rfl rfl rfl (wholeF _ _) (b2.row _) ⟨rfl, below_row hb (Nat.le_refl _) _⟩
end Go.Proofs.YtoegjibeomhekaaGreat

/- Package ratio: whole, Sum, Least. -/
namespace Go.Proofs.YtoegjibeomhekaaGreat
set_option linter.unusedSimpArgs false
set_option linter.unusedVariables false
open Go.RowKit
set_option maxRecDepth 100000
end Go.Proofs.YtoegjibeomhekaaGreat

/- Package ratio: Least. -/
namespace Go.Proofs.YtoegjibeomhekaaGreat
set_option linter.unusedSimpArgs false
set_option linter.unusedVariables false
open Go.RowKit
set_option maxRecDepth 100000
end Go.Proofs.YtoegjibeomhekaaGreat
