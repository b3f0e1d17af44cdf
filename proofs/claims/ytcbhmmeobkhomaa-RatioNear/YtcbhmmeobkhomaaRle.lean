/- Joined of: Mag Rsu Rle. -/
import Derived.Test.YtcbhmmeobkhomaaRof
/- The reference's amounts: slices of words; trim, wide, From, Whole. -/
namespace Go.Proofs.Ytcbhmmeobkhomaa
set_option linter.unusedSimpArgs false
set_option linter.unusedVariables false
open Go.RowKit
set_option maxRecDepth 100000
/-- The words of M lie at b, n of them, and M has no more. -/
def Mg (w : World) (b n M : Nat) : Prop := M < bb ^ n ∧ ∀ i, i < n → w.cell? ⟨b, i, none⟩ = some (.int .u32 (dig M i : Nat))
theorem Mg.call {w w' : World} {b n M : Nat} (h : Mg w b n M) (hb : b < w.heap.size) (h1 : Below w.heap.size w w') : Mg w' b n M := ⟨h.1, fun i hi => by rw [h1.cell (p := ⟨b, i, none⟩) hb]; exact h.2 i hi⟩
theorem Mg.less {w : World} {b n M k : Nat} (h : Mg w b n M) (hk : k ≤ n) (hM : M < bb ^ k) : Mg w b k M := ⟨hM, fun i hi => h.2 i (by omega)⟩
set_option maxHeartbeats 1000000 in
theorem trim_any {b n c M : Nat} (w : World) (h : Mg w b n M) (hn : n ≤ c) (hc : n ≤ 1000000) :
    Calls Try.prog 61 #[.slice (some ⟨b, 0, none⟩) n c] w fun e w' => e = .returned (.slice (some ⟨b, 0, none⟩) (nw M) c) ∧ w' = w := by
  have H := Lib.hid h
  clear h
  go_enter Try.func61, Try.ntmps61
  go_wp2
  go_loop [3] (fun v => ∃ k : Nat, k ≤ n ∧ v = .int .i64 k ∧ M < bb ^ k) (fun v => (intOf v).toNat)
  case atStart => exact ⟨n, Nat.le_refl _, rfl, H.out.1⟩
  case round =>
    obtain ⟨k, hk, rfl, hM⟩ := hrel
    have HM := Lib.hid hM
    clear hM
    by_cases h0 : 0 < k
    · obtain ⟨j, rfl⟩ : ∃ j, k = j + 1 := ⟨k - 1, by omega⟩
      have hcl := H.out.2 j (by omega)
      have hj : (j : Int) < (n : Int) := by omega
      by_cases hd : dig M j = 0
      · go_wp2
        go_round
        case rel => exact ⟨j, by omega, by go_num, lt_of_dig HM.out hd⟩
        case measure => simp [intOf]
      · have E : Hid (nw M = j + 1) := nw_of HM.out (fun _ => le_of_dig hd)
        go_wp2
        go_ret
        rw [E.out]
        exact ⟨rfl, rfl⟩
    · obtain rfl : k = 0 := by omega
      have E : Hid (nw M = 0) := nw_of HM.out (by omega)
      go_wp2
      go_ret
      rw [E.out]
      exact ⟨rfl, rfl⟩
theorem built25b (b : Bool) : Try.prog.built 27 [(0, .bool b)] = some (wd b 0).toArray := by kernel_rfl
theorem bdWs {ops : Array Oper} {rest : List Oper} {o : Oper} {a : Act} {w : World} {Q : Exit → Act → World → Prop} {x : Operand} {b : Bool} (hgd : o.guard = none) (ho : o.op = .build 27 #[(0, x)]) (hx : a.eval x = .bool b)
    (hr : wpList Try.prog ops Q rest (a.put o.dst (.agg (wd b 0).toArray)) w) : wpList Try.prog ops Q (o :: rest) a w :=
  wpList_plain hgd fun K hK => by
    have := hK _ _ hr
    unfold Oper.wp execOp
    simp only [ho, Sem.run_bind]
    rw [show Array.map (fun x : Nat × Operand => (x.fst, a.eval x.snd)) #[(0, x)] = #[(0, .bool b)] by simp [hx], run_build w 27 _ _ (built25b b)]
    exact this
theorem wd_set {s : Bool} {X k v : Nat} (hX : X < bb ^ k) (hv : v < bb) : (wd s X).set (k + 1) (.int .u32 (v : Nat)) = wd s (X + bb ^ k * v) := by
  unfold wd
  rw [List.set_cons_succ, wc_set hX hv]
set_option maxHeartbeats 1000000 in
theorem wideref_yes {b n c M : Nat} (s : Bool) (w : World) (h : Mg w b n M) (hbw : b < w.heap.size) (hn : n ≤ c) (hc : n ≤ 1000000) (h32 : nw M ≤ 32) :
    Calls Try.prog 40 #[.bool s, .slice (some ⟨b, 0, none⟩) n c] w fun e w' => e = .returned (.tuple #[.agg (wd (s && decide (M ≠ 0)) M).toArray, .bool true]) ∧ Below w.heap.size w w' := by
  have H := Lib.hid h
  have hnM : nw M ≤ n := nw_le_of h.1
  have HM := Lib.hid (nw_lt M)
  have HZ : Hid (decide (M ≠ 0) = decide (0 < nw M)) := by
    apply decide_eq_decide.2
    have := nw_zero (N := M)
    omega
  rw [HZ.out]
  have HT : Hid (∀ w, Mg w b n M → Calls Try.prog 61 #[.slice (some ⟨b, 0, none⟩) n c] w fun e w' => e = .returned (.slice (some ⟨b, 0, none⟩) (nw M) c) ∧ w' = w) := fun w h => trim_any w h hn hc
  have HD : Hid (∀ i, i < nw M → Mg w b n M → True) := fun _ _ _ => trivial
  clear h
  obtain ⟨m, hm⟩ : ∃ m, nw M = m := ⟨_, rfl⟩
  rw [hm] at HT HM hnM h32 ⊢
  clear hm HZ HD
  obtain ⟨g, hg⟩ : ∃ g : Bool, (s && decide (0 < m)) = g := ⟨_, rfl⟩
  have HG := Lib.hid hg
  rw [hg]
  clear hg
  have b4 := Blk.new w (wd false 0) 27 rfl
  have hb : Below w.heap.size w (w.alloc (.cells (wd false 0).toArray 27)) := (Below.refl _ _).alloc (Nat.le_refl _) _
  have g1 := H.out.call hbw hb
  go_enter Try.func40, Try.ntmps40
  go_wp2_with (first | (with_reducible refine alW rfl rfl ?_))
  refine (HT.out _ g1).mono ?_
  rintro e w1 ⟨rfl, rfl⟩
  have f7 := Blk.new (w.alloc (.cells (wd false 0).toArray 27)) (wd false 0) 27 (b := w.heap.size + 1) (by simp)
  have b7 := f7.row (wd g 0)
  have c4 := (b4.old (.cells (wd false 0).toArray 27)).rowOther (g := w.heap.size + 1) (wd g 0).toArray (by omega)
  have hc' := below_row (hb.alloc hb.size (.cells (wd false 0).toArray 27)) (g := w.heap.size + 1) (by omega) (wd g 0).toArray
  have hm32 : ¬ (32 : Int) < (m : Int) := by omega
  cases s with
  | false =>
    obtain rfl : g = false := by rw [← HG.out]; rfl
    go_wp2_with (first | (with_reducible refine bdWs rfl rfl rfl ?_) | (with_reducible refine alW2 rfl rfl ?_) | (with_reducible refine alW rfl rfl ?_) | (with_reducible refine stW rfl rfl rfl rfl f7 ?_))
    generalize ((w.alloc (.cells (wd false 0).toArray 27)).alloc (.cells (wd false 0).toArray 27)).setRow (w.heap.size + 1) (wd false 0).toArray = W at *
    go_loopw [8] (fun i wr => ∃ k : Nat, k ≤ m ∧ i = .int .i64 k ∧ Below w.heap.size w wr ∧ Blk wr w.heap.size (wd false 0) 27 ∧ Blk wr (w.heap.size + 1) (wd false (M % bb ^ k)) 27) (fun i _ => m - (intOf i).toNat)
    case atStart => exact ⟨0, Nat.zero_le _, rfl, hc', c4, by rw [Nat.pow_zero, Nat.mod_one]; exact b7⟩
    case round =>
      clear hc' c4 b7 f7 b4 hb g1
      obtain ⟨k, hk, rfl, hb, b4, b7⟩ := hrel
      by_cases hlt : k < m
      · have hlt' : (k : Int) < (m : Nat) := by omega
        have hk32 : (k : Int) < 32 := by omega
        have hcl := (H.out.call hbw hb).2 k (by omega)
        have c7 := b7.cell (i := k + 1) (v := .int .u32 (dig (M % bb ^ k) k : Nat)) (by unfold wd; rw [List.getElem?_cons_succ]; exact wc_get _ k (by omega))
        have e7 : k + 1 = 1 + k := Nat.add_comm _ _
        rw [e7] at c7
        have f7 := b7.frozen (1 + k)
        have d0 := dig_le M k
        go_wp2
        go_roundw
        case rel =>
          refine ⟨k + 1, by omega, by go_num, hb.setCell (by simp) _, b4.setOther _ _ (by omega), ?_⟩
          have := b7.set (k + 1) (.int .u32 (dig M k : Nat))
          rw [wd_set (Nat.mod_lt _ (bp_pos k)) (dig_lt _ _), ← mod_succ] at this
          rw [show 1 + k = k + 1 from Nat.add_comm _ _]
          exact this
        case measure => simp [intOf] <;> omega
      · obtain rfl : k = m := by omega
        rw [Nat.mod_eq_of_lt HM.out] at b7
        go_wp2_with (first | (with_reducible refine ldW rfl rfl rfl b7 ?_) | (with_reducible refine stW rfl rfl rfl rfl b4 ?_))
        exact ret_ct (cs := wd false M) (v := .bool true) rfl rfl rfl rfl (whole25 _ _) (b4.row _) ⟨rfl, below_row hb (Nat.le_refl _) _⟩
  | true =>
    by_cases h0 : 0 < m
    · have h0' : (0 : Int) < (m : Int) := by omega
      obtain rfl : g = true := by rw [← HG.out]; simp [h0]
      go_wp2_with (first | (with_reducible refine bdWs rfl rfl rfl ?_) | (with_reducible refine alW2 rfl rfl ?_) | (with_reducible refine alW rfl rfl ?_) | (with_reducible refine stW rfl rfl rfl rfl f7 ?_))
      generalize ((w.alloc (.cells (wd false 0).toArray 27)).alloc (.cells (wd false 0).toArray 27)).setRow (w.heap.size + 1) (wd true 0).toArray = W at *
      go_loopw [8] (fun i wr => ∃ k : Nat, k ≤ m ∧ i = .int .i64 k ∧ Below w.heap.size w wr ∧ Blk wr w.heap.size (wd false 0) 27 ∧ Blk wr (w.heap.size + 1) (wd true (M % bb ^ k)) 27) (fun i _ => m - (intOf i).toNat)
      case atStart => exact ⟨0, Nat.zero_le _, rfl, hc', c4, by rw [Nat.pow_zero, Nat.mod_one]; exact b7⟩
      case round =>
        clear hc' c4 b7 f7 b4 hb g1
        obtain ⟨k, hk, rfl, hb, b4, b7⟩ := hrel
        by_cases hlt : k < m
        · have hlt' : (k : Int) < (m : Nat) := by omega
          have hk32 : (k : Int) < 32 := by omega
          have hcl := (H.out.call hbw hb).2 k (by omega)
          have c7 := b7.cell (i := k + 1) (v := .int .u32 (dig (M % bb ^ k) k : Nat)) (by unfold wd; rw [List.getElem?_cons_succ]; exact wc_get _ k (by omega))
          have e7 : k + 1 = 1 + k := Nat.add_comm _ _
          rw [e7] at c7
          have f7 := b7.frozen (1 + k)
          have d0 := dig_le M k
          go_wp2
          go_roundw
          case rel =>
            refine ⟨k + 1, by omega, by go_num, hb.setCell (by simp) _, b4.setOther _ _ (by omega), ?_⟩
            have := b7.set (k + 1) (.int .u32 (dig M k : Nat))
            rw [wd_set (Nat.mod_lt _ (bp_pos k)) (dig_lt _ _), ← mod_succ] at this
            rw [show 1 + k = k + 1 from Nat.add_comm _ _]
            exact this
          case measure => simp [intOf] <;> omega
        · obtain rfl : k = m := by omega
          rw [Nat.mod_eq_of_lt HM.out] at b7
          go_wp2_with (first | (with_reducible refine ldW rfl rfl rfl b7 ?_) | (with_reducible refine stW rfl rfl rfl rfl b4 ?_))
          exact ret_ct (cs := wd true M) (v := .bool true) rfl rfl rfl rfl (whole25 _ _) (b4.row _) ⟨rfl, below_row hb (Nat.le_refl _) _⟩
    · have h0' : ¬ (0 : Int) < (m : Int) := by omega
      have h0'' : decide ((0 : Int) < (m : Int)) = false := decide_eq_false h0'
      obtain rfl : g = false := by rw [← HG.out]; simp [h0]
      go_wp2_with (first | (with_reducible refine bdWs rfl rfl rfl ?_) | (with_reducible refine alW2 rfl rfl ?_) | (with_reducible refine alW rfl rfl ?_) | (with_reducible refine stW rfl rfl rfl rfl f7 ?_))
      generalize ((w.alloc (.cells (wd false 0).toArray 27)).alloc (.cells (wd false 0).toArray 27)).setRow (w.heap.size + 1) (wd false 0).toArray = W at *
      go_loopw [8] (fun i wr => ∃ k : Nat, k ≤ m ∧ i = .int .i64 k ∧ Below w.heap.size w wr ∧ Blk wr w.heap.size (wd false 0) 27 ∧ Blk wr (w.heap.size + 1) (wd false (M % bb ^ k)) 27) (fun i _ => m - (intOf i).toNat)
      case atStart => exact ⟨0, Nat.zero_le _, rfl, hc', c4, by rw [Nat.pow_zero, Nat.mod_one]; exact b7⟩
      case round =>
        clear hc' c4 b7 f7 b4 hb g1
        obtain ⟨k, hk, rfl, hb, b4, b7⟩ := hrel
        obtain rfl : k = m := by omega
        rw [Nat.mod_eq_of_lt HM.out] at b7
        go_wp2_with (first | (with_reducible refine ldW rfl rfl rfl b7 ?_) | (with_reducible refine stW rfl rfl rfl rfl b4 ?_))
        exact ret_ct (cs := wd false M) (v := .bool true) rfl rfl rfl rfl (whole25 _ _) (b4.row _) ⟨rfl, below_row hb (Nat.le_refl _) _⟩
theorem wideref_mk {b n c M : Nat} (s : Bool) (w : World) (h : Mg w b n M) (hbw : b < w.heap.size) (hn : n ≤ c) (hc : n ≤ 1000000) (h32 : M < bb ^ 32) :
    Calls Try.prog 40 #[.bool s, .slice (some ⟨b, 0, none⟩) n c] w fun e w' => e = .returned (.tuple #[.agg (mk (zn s M)).toArray, .bool true]) ∧ Below w.heap.size w w' := by
  have := wideref_yes s w h hbw hn hc (nw_le_of h32)
  rwa [wd_mk] at this
theorem m_build2 (x y : Int) (w : World) : (Instr.buildSlice 72 2 #[(0, .int .u32 x), (1, .int .u32 y)]).run Try.prog w = .ok (.slice (some ⟨w.heap.size, 0, none⟩) 2 2) (w.alloc (.cells #[.int .u32 x, .int .u32 y] 24)) := by kernel_rfl
theorem bsM {ops : Array Oper} {rest : List Oper} {o : Oper} {a : Act} {w : World} {Q : Exit → Act → World → Prop} {p q : Operand} {x y : Int} (hgd : o.guard = none) (ho : o.op = .buildSlice 72 2 #[(0, p), (1, q)]) (hp : a.eval p = .int .u32 x) (hq : a.eval q = .int .u32 y)
    (hr : wpList Try.prog ops Q rest (a.put o.dst (.slice (some ⟨w.heap.size, 0, none⟩) 2 2)) (w.alloc (.cells #[.int .u32 x, .int .u32 y] 24))) : wpList Try.prog ops Q (o :: rest) a w :=
  wpList_plain hgd fun K hK => by
    have := hK _ _ hr
    unfold Oper.wp execOp
    simp only [ho, Sem.run_bind]
    rw [show Array.map (fun x : Nat × Operand => (x.fst, a.eval x.snd)) #[(0, p), (1, q)] = #[(0, .int .u32 x), (1, .int .u32 y)] by simp [hp, hq], m_build2]
    exact this
theorem mg_two {w : World} {b u : Nat} {t : TypeId} (hu : u < bb ^ 2) (h : Blk w b [.int .u32 (dig u 0 : Nat), .int .u32 (dig u 1 : Nat)] t) : Mg w b 2 u := by
  refine ⟨hu, fun i hi => ?_⟩
  rcases (show i = 0 ∨ i = 1 by omega) with rfl | rfl
  · exact h.cell rfl
  · exact h.cell rfl
theorem dig01 {u : Nat} (hu : u ≤ 18446744073709551615) : ((u : Int) % 4294967296 = (dig u 0 : Nat)) ∧ ((u : Int) / 4294967296 % 4294967296 = (dig u 1 : Nat)) ∧ ((u : Int) / 4294967296 = (dig u 1 : Nat)) := by
  unfold dig
  rw [Nat.pow_zero, Nat.pow_one, Nat.div_one, bb_eq]
  refine ⟨by omega, by omega, by omega⟩
set_option maxHeartbeats 1000000 in
theorem fromref_walk {n : Int} {u : Nat} (s : Bool) (hn : -9223372036854775808 ≤ n ∧ n ≤ 9223372036854775807) (hu : u ≤ 18446744073709551615) (hs : s = true ∧ n < 0 ∧ (u : Int) = -n ∨ s = false ∧ ¬ n < 0 ∧ (u : Int) = n) (w : World) :
    Calls Try.prog 18 #[.int .i64 n] w fun e w' => e = .returned (.agg (mk n).toArray) ∧ Below w.heap.size w w' := by
  have hz : zn s u = n := by
    unfold zn
    rcases hs with ⟨rfl, _, h⟩ | ⟨rfl, _, h⟩
    · simp; omega
    · simp; omega
  obtain ⟨d1, d2, d3⟩ := dig01 hu
  have hu2 : u < bb ^ 2 := by rw [bb_eq]; omega
  have hu32 : u < bb ^ 32 := Nat.lt_of_lt_of_le hu2 (bp_mono (by omega))
  have HW : Hid (∀ (w : World) (b : Nat), Mg w b 2 u → b < w.heap.size → Calls Try.prog 40 #[.bool s, .slice (some ⟨b, 0, none⟩) 2 2] w fun e w' => e = .returned (.tuple #[.agg (mk n).toArray, .bool true]) ∧ Below w.heap.size w w') := fun w b h hb => by
    have := wideref_mk s w h hb (Nat.le_refl 2) (by omega) hu32
    rwa [hz] at this
  have HU := Lib.hid hu2
  clear hz hu2 hu32
  have b2 := Blk.new w (wd false 0) 27 rfl
  have hb : Below w.heap.size w (w.alloc (.cells (wd false 0).toArray 27)) := (Below.refl _ _).alloc (Nat.le_refl _) _
  have q0 := dig_le u 0
  have q1 := dig_le u 1
  rcases hs with ⟨rfl, h1, h2⟩ | ⟨rfl, h1, h2⟩
  · have e1 : IntKind.u64.wrap n = n + 18446744073709551616 := by rw [IntKind.wrap_u64]; omega
    have e2 : IntKind.u64.wrap (-(n + 18446744073709551616)) = (u : Int) := by rw [IntKind.wrap_u64]; omega
    have k1 : -n % 4294967296 = (dig u 0 : Nat) := by rw [← h2]; exact d1
    have k3 : -n / 4294967296 = (dig u 1 : Nat) := by rw [← h2]; exact d3
    clear d1 d2 d3
    go_enter Try.func18, Try.ntmps18
    go_wp2_with (first | (with_reducible refine alW rfl rfl ?_) | (with_reducible refine bsM rfl rfl rfl rfl ?_))
    try rw [k1]
    try rw [k3]
    have sl := Blk.new (w.alloc (.cells (wd false 0).toArray 27)) [.int .u32 (dig u 0 : Nat), .int .u32 (dig u 1 : Nat)] 24 (b := w.heap.size + 1) (by simp)
    replace b2 := b2.old (.cells [.int .u32 (dig u 0 : Nat), .int .u32 (dig u 1 : Nat)].toArray 24)
    replace hb := hb.alloc hb.size (.cells [.int .u32 (dig u 0 : Nat), .int .u32 (dig u 1 : Nat)].toArray 24)
    refine (HW.out _ _ (mg_two HU.out sl) sl.lt).mono ?_
    rintro e w1 ⟨rfl, h3⟩
    replace b2 := b2.call h3
    replace hb := bthen hb h3
    clear h3 sl
    have f := Blk.new w1 (wd false 0) 27 rfl
    have b5 := laid_new w1 n
    have c2 := laid_old b2 n
    have hc := laid_below hb n
    go_wp2_with (first | (with_reducible refine alW rfl rfl ?_) | (with_reducible refine stM rfl rfl rfl rfl f (wd_length _ _) ?_) | (with_reducible refine ldM rfl rfl rfl b5 ?_) | (with_reducible refine stM rfl rfl rfl rfl c2 (wd_length _ _) ?_))
    exact ret_c (cs := mk n) rfl rfl rfl (wholeM _) (c2.row _) ⟨rfl, below_row hc (Nat.le_refl _) _⟩
  · have e1 : IntKind.u64.wrap n = (u : Int) := by rw [IntKind.wrap_u64]; omega
    have k1 : n % 4294967296 = (dig u 0 : Nat) := by rw [← h2]; exact d1
    have k3 : n / 4294967296 = (dig u 1 : Nat) := by rw [← h2]; exact d3
    clear d1 d2 d3
    go_enter Try.func18, Try.ntmps18
    go_wp2_with (first | (with_reducible refine alW rfl rfl ?_) | (with_reducible refine bsM rfl rfl rfl rfl ?_))
    try rw [k1]
    try rw [k3]
    have sl := Blk.new (w.alloc (.cells (wd false 0).toArray 27)) [.int .u32 (dig u 0 : Nat), .int .u32 (dig u 1 : Nat)] 24 (b := w.heap.size + 1) (by simp)
    replace b2 := b2.old (.cells [.int .u32 (dig u 0 : Nat), .int .u32 (dig u 1 : Nat)].toArray 24)
    replace hb := hb.alloc hb.size (.cells [.int .u32 (dig u 0 : Nat), .int .u32 (dig u 1 : Nat)].toArray 24)
    refine (HW.out _ _ (mg_two HU.out sl) sl.lt).mono ?_
    rintro e w1 ⟨rfl, h3⟩
    replace b2 := b2.call h3
    replace hb := bthen hb h3
    clear h3 sl
    have f := Blk.new w1 (wd false 0) 27 rfl
    have b5 := laid_new w1 n
    have c2 := laid_old b2 n
    have hc := laid_below hb n
    go_wp2_with (first | (with_reducible refine alW rfl rfl ?_) | (with_reducible refine stM rfl rfl rfl rfl f (wd_length _ _) ?_) | (with_reducible refine ldM rfl rfl rfl b5 ?_) | (with_reducible refine stM rfl rfl rfl rfl c2 (wd_length _ _) ?_))
    exact ret_c (cs := mk n) rfl rfl rfl (wholeM _) (c2.row _) ⟨rfl, below_row hc (Nat.le_refl _) _⟩
theorem From_ref {n : Int} (hn : -9223372036854775808 ≤ n ∧ n ≤ 9223372036854775807) : Tl 18 #[.int .i64 n] (vw n) := fun w => by
  by_cases h : n < 0
  · exact fromref_walk (u := n.natAbs) true hn (by omega) (.inl ⟨rfl, h, by omega⟩) w
  · exact fromref_walk (u := n.natAbs) false hn (by omega) (.inr ⟨rfl, h, by omega⟩) w
set_option maxHeartbeats 1000000 in
theorem Whole_ref {n : Int} (hn : -9223372036854775808 ≤ n ∧ n ≤ 9223372036854775807) : Tl 13 #[.int .i64 n] (vf n 1) := fun w => by
  unfold vf
  have HF := Lib.hid (From_ref hn)
  have HO := Lib.hid (From_ref (n := 1) (by decide))
  unfold Tl vw at HF HO
  clear hn
  have b2 := Blk.new w (rr false 0 false 0) 29 rfl
  have hb : Below w.heap.size w (w.alloc (.cells (rr false 0 false 0).toArray 29)) := (Below.refl _ _).alloc (Nat.le_refl _) _
  go_enter Try.func13, Try.ntmps13
  go_wp2_with (first | (with_reducible refine alR rfl rfl ?_))
  refine (HF.out _).mono ?_
  rintro e w1 ⟨rfl, h1⟩
  replace b2 := b2.call h1
  replace hb := bthen hb h1
  clear h1
  go_wp2_with fail
  refine (HO.out _).mono ?_
  rintro e w1 ⟨rfl, h1⟩
  replace b2 := b2.call h1
  replace hb := bthen hb h1
  clear h1
  go_wp2_with (first | (with_reducible refine bdF rfl rfl rfl rfl ?_) | (with_reducible refine stR rfl rfl rfl rfl b2 (rr_length _ _ _ _) ?_))
  exact ret_c (cs := fr n 1) rfl rfl rfl (wholeF _ _) (b2.row _) ⟨rfl, below_row hb (Nat.le_refl _) _⟩
end Go.Proofs.Ytcbhmmeobkhomaa

/- Package ratio: whole, Sum, Least. -/
namespace Go.Proofs.Ytcbhmmeobkhomaa
set_option linter.unusedSimpArgs false
set_option linter.unusedVariables false
open Go.RowKit
set_option maxRecDepth 100000
set_option maxHeartbeats 1000000 in
theorem whole_any (n : Int) : Tl 34 #[vw n] (vf n 1) := fun w => by
  unfold vf vw
  have b1 := (Blk.new w (mk n) 27 rfl).old (.cells (rr false 0 false 0).toArray 29)
  have b2 := Blk.new (w.alloc (.cells (mk n).toArray 27)) (rr false 0 false 0) 29 (b := w.heap.size + 1) (by simp)
  have hb : Below w.heap.size w ((w.alloc (.cells (mk n).toArray 27)).alloc (.cells (rr false 0 false 0).toArray 29)) := ((Below.refl _ _).alloc (Nat.le_refl _) _).alloc (by simp) _
  go_enter Try.func34, Try.ntmps34
  go_wp2_with (first | (with_reducible refine alR rfl rfl ?_))
  try rw [show (w.alloc (.cells (mk n).toArray 27)).heap.size = w.heap.size + 1 by simp]
  generalize (w.alloc (.cells (mk n).toArray 27)).alloc (.cells (rr false 0 false 0).toArray 29) = W at *
  refine rg_start [w.heap.size + 1] (by kernel_rfl) (fun hS => ?_)
  replace hb := hb.drew
  replace b2 := b2.drew
  refine rg_ld 0 rfl (by kernel_rfl) (by kernel_rfl) (by kernel_rfl) (by rfl) hS rfl rfl b1 (by simp <;> omega) (wholeM _) ?_
  try simp only [Act.put, List.setIfInBounds_toArray, List.set_cons_zero, List.set_cons_succ]
  refine rg_eff 1 rfl (by kernel_rfl) (by rfl) (fun K hK => ?_)
  go_simp
  refine (k_from 1 (by decide) (by decide) _).mono ?_
  rintro e w1 ⟨rfl, h1⟩
  refine hK _ _ (hS.call h1) (fun hS => ?_)
  clear hK K
  replace b2 := b2.call h1
  replace hb := bthen hb h1
  clear h1
  try simp only [Act.put, List.setIfInBounds_toArray, List.set_cons_zero, List.set_cons_succ]
  refine rg_build 2 rfl (by kernel_rfl) (by kernel_rfl) (by kernel_rfl) (by rfl) hS rfl (pl := [(0, .agg (mk n).toArray), (1, .agg (mk 1).toArray)]) (builtF _ _) (by simp [Act.eval]) ?_
  try simp only [Act.put, List.setIfInBounds_toArray, List.set_cons_zero, List.set_cons_succ]
  refine rg_eff 3 rfl (by kernel_rfl) (by rfl) (fun K hK => ?_)
  refine wp_st (vs := fr n 1) rfl rfl rfl b2 (by rw [rr_length, fr_length]) (wholeF _ _) (fr_one _ _) ?_
  refine hK _ _ (hS.row (.inl (by simp)) _) (fun hS => ?_)
  clear hK K
  try simp only [Act.put, List.setIfInBounds_toArray, List.set_cons_zero, List.set_cons_succ]
  refine rg_done (by kernel_rfl) ?_
  go_wp2
  exact ret_c (cs := fr n 1) rfl rfl rfl (wholeF _ _) (b2.row _) ⟨rfl, below_row hb (by omega) _⟩
set_option maxHeartbeats 1000000 in
theorem Sum_rany (n b : Nat) (N D SN SD : Nat → Int) (w : World) (hn : n ≤ 1000) (h0 : SN 0 = 0 ∧ SD 0 = 1) (hA : ∀ k, k < n → Tl 10 #[vf (SN k) (SD k), vf (N k) (D k)] (.tuple #[vf (SN (k + 1)) (SD (k + 1)), .bool true])) (hbw : b < w.heap.size) (hr : ∀ k, k < n → w.rangeAt b (k * 66) (fr (N k) (D k))) :
    Calls Try.prog 15 #[.slice (some ⟨b, 0, none⟩) n n] w fun e w' => e = .returned (.tuple #[vf (SN n) (SD n), .bool true]) ∧ Below w.heap.size w w' := by
  have H0 := Lib.hid h0
  have HA := Lib.hid hA
  have Hr := Lib.hid hr
  have HW := Lib.hid (whole_any 0)
  unfold Tl vw vf at HW
  unfold Tl vf at HA
  unfold vf
  clear h0 hA hr
  have b2 := Blk.new w (rr false 0 false 0) 29 rfl
  have hb : Below w.heap.size w (w.alloc (.cells (rr false 0 false 0).toArray 29)) := (Below.refl _ _).alloc (Nat.le_refl _) _
  go_enter Try.func15, Try.ntmps15
  go_wp2_with (first | (with_reducible refine alR rfl rfl ?_) | (with_reducible refine bdW0 rfl rfl ?_))
  rw [mk0]
  refine (HW.out _).mono ?_
  rintro e w1 ⟨rfl, h1⟩
  replace b2 := b2.call h1
  replace hb := bthen hb h1
  clear h1
  clear HW
  have f4 := Blk.new w1 (rr false 0 false 0) 29 rfl
  have l2 := b2.lt
  have b4 := f4.row (fr 0 1)
  have c2 := (b2.old (.cells (rr false 0 false 0).toArray 29)).rowOther (g := w1.heap.size) (fr 0 1).toArray (by omega)
  have hc := below_row (hb.alloc hb.size (.cells (rr false 0 false 0).toArray 29)) (g := w1.heap.size) (by omega) (fr 0 1).toArray
  go_wp2_with (first | (with_reducible refine alR rfl rfl ?_) | (with_reducible refine stR rfl rfl rfl rfl f4 (rr_length _ _ _ _) ?_))
  clear f4 b2 hb
  generalize (w1.alloc (.cells (rr false 0 false 0).toArray 29)).setRow w1.heap.size (fr 0 1).toArray = W at *
  generalize w1.heap.size = p4 at *
  go_loopw [5, 12] (fun ok i wr => ∃ k : Nat, k ≤ n ∧ i = .int .i64 k ∧ ok = .bool true ∧ Below w.heap.size w wr ∧ Blk wr w.heap.size (rr false 0 false 0) 29 ∧ Blk wr p4 (fr (SN k) (SD k)) 29) (fun _ i _ => n - (intOf i).toNat)
  case atStart => exact ⟨0, Nat.zero_le _, rfl, rfl, hc, c2, by rw [H0.out.1, H0.out.2]; exact b4⟩
  case round =>
    clear hc c2 b4
    obtain ⟨k, hk, rfl, rfl, hb, b2, b4⟩ := hrel
    by_cases hlt : k < n
    · have r0 : wr.rangeAt b (k * 66) (fr (N k) (D k)) := fun j v hv => by
        rw [hb.cell (p := ⟨b, k * 66 + j, none⟩) hbw]
        exact Hr.out k hlt j v hv
      have HF := Lib.hid (HA.out k hlt)
      have hlt' : (k : Int) < (n : Int) := by omega
      generalize N k = x at *
      generalize D k = y at *
      have l4 := b4.lt
      have a3 := Blk.new wr (rr false 0 false 0) 29 rfl
      have d3 := a3.row (fr x y)
      have d2 := (b2.old (.cells (rr false 0 false 0).toArray 29)).rowOther (g := wr.heap.size) (fr x y).toArray (by omega)
      have d4 := (b4.old (.cells (rr false 0 false 0).toArray 29)).rowOther (g := wr.heap.size) (fr x y).toArray (by omega)
      have hb' := below_row (hb.alloc hb.size (.cells (rr false 0 false 0).toArray 29)) (g := wr.heap.size) hb.size (fr x y).toArray
      go_wp2_with (first | (with_reducible refine ldRR rfl rfl rfl r0 ?_) | (with_reducible refine alR rfl rfl ?_) | (with_reducible refine stR rfl rfl rfl rfl a3 (rr_length _ _ _ _) ?_) | (with_reducible refine ldFr rfl rfl rfl d4 ?_) | (with_reducible refine ldFr rfl rfl rfl d3 ?_))
      refine (HF.out _).mono ?_
      rintro e w1 ⟨rfl, h1⟩
      replace hb' := bthen hb' h1
      replace d2 := d2.call h1
      replace d4 := d4.call h1
      go_wp2_with (first | (with_reducible refine stR rfl rfl rfl rfl d4 (fr_length _ _) ?_))
      go_roundw
      case rel => exact ⟨k + 1, by omega, by go_num, rfl, below_row hb' (by omega) _, d2.rowOther _ (by omega), d4.row _⟩
      case measure => simp [intOf]; omega
    · obtain rfl : k = n := by omega
      go_wp2_with (first | (with_reducible refine ldFr rfl rfl rfl b4 ?_) | (with_reducible refine stR rfl rfl rfl rfl b2 (rr_length _ _ _ _) ?_))
      exact ret_ct (cs := fr (SN k) (SD k)) (v := .bool true) rfl rfl rfl rfl (wholeF _ _) (b2.row _) ⟨rfl, below_row hb (Nat.le_refl _) _⟩
end Go.Proofs.Ytcbhmmeobkhomaa

/- Package ratio: Least. -/
namespace Go.Proofs.Ytcbhmmeobkhomaa
set_option linter.unusedSimpArgs false
set_option linter.unusedVariables false
open Go.RowKit
set_option maxRecDepth 100000
set_option maxHeartbeats 1000000 in
theorem Least_many (n b : Nat) (N D LN LD c : Nat → Int) (w : World) (hn : n ≤ 1000) (h0 : LN 0 = N 0 ∧ LD 0 = D 0)
    (hC : ∀ k, k < n + 1 → Tl 9 #[vf (N (k + 1)) (D (k + 1)), vf (LN k) (LD k)] (.tuple #[.int .i64 (c k), .bool true]) ∧ (c k < 0 → LN (k + 1) = N (k + 1) ∧ LD (k + 1) = D (k + 1)) ∧ (¬ c k < 0 → LN (k + 1) = LN k ∧ LD (k + 1) = LD k))
    (hbw : b < w.heap.size) (hr : ∀ k, k < n + 2 → w.rangeAt b (k * 66) (fr (N k) (D k))) :
    Calls Try.prog 14 #[.slice (some ⟨b, 0, none⟩) (n + 2) (n + 2)] w fun e w' => e = .returned (.tuple #[vf (LN (n + 1)) (LD (n + 1)), .bool true]) ∧ Below w.heap.size w w' := by
  have H0 := Lib.hid h0
  have HC := Lib.hid hC
  have Hr := Lib.hid hr
  unfold Tl vf at HC
  unfold vf
  have r00 : w.rangeAt b 0 (fr (LN 0) (LD 0)) := by
    have := hr 0 (by omega)
    rw [Nat.zero_mul] at this
    rw [h0.1, h0.2]; exact this
  clear h0 hC hr
  have b2 := Blk.new w (rr false 0 false 0) 29 rfl
  have hb : Below w.heap.size w (w.alloc (.cells (rr false 0 false 0).toArray 29)) := (Below.refl _ _).alloc (Nat.le_refl _) _
  have r0 : (w.alloc (.cells (rr false 0 false 0).toArray 29)).rangeAt b 0 (fr (LN 0) (LD 0)) := fun j v hv => by
    rw [hb.cell (p := ⟨b, 0 + j, none⟩) hbw]
    exact r00 j v hv
  have f4 := Blk.new (w.alloc (.cells (rr false 0 false 0).toArray 29)) (rr false 0 false 0) 29 (b := w.heap.size + 1) (by simp)
  have f4' := Blk.new (w.alloc (.cells (rr false 0 false 0).toArray 29)) (rr false 0 false 0) 29 rfl
  have b4 := f4.row (fr (LN 0) (LD 0))
  have c2 := (b2.old (.cells (rr false 0 false 0).toArray 29)).rowOther (g := w.heap.size + 1) (fr (LN 0) (LD 0)).toArray (by omega)
  have hc := below_row (hb.alloc hb.size (.cells (rr false 0 false 0).toArray 29)) (g := w.heap.size + 1) (by omega) (fr (LN 0) (LD 0)).toArray
  have hn0 : ¬ (n : Int) + 2 = 0 := by omega
  go_enter Try.func14, Try.ntmps14
  go_wp2_with (first | (with_reducible refine alR rfl rfl ?_) | (with_reducible refine ldRR rfl rfl rfl r0 ?_) | (with_reducible refine stR rfl rfl rfl rfl f4 (rr_length _ _ _ _) ?_) | (with_reducible refine stR rfl rfl rfl rfl f4' (rr_length _ _ _ _) ?_))
  clear f4 f4' b2 hb r0 r00
  generalize ((w.alloc (.cells (rr false 0 false 0).toArray 29)).alloc (.cells (rr false 0 false 0).toArray 29)).setRow (w.heap.size + 1) (fr (LN 0) (LD 0)).toArray = W at *
  go_loopw [19] (fun i wr => ∃ k : Nat, k ≤ n + 1 ∧ i = .int .i64 k ∧ Below w.heap.size w wr ∧ Blk wr w.heap.size (rr false 0 false 0) 29 ∧ Blk wr (w.heap.size + 1) (fr (LN k) (LD k)) 29) (fun i _ => n + 1 - (intOf i).toNat)
  case atStart => exact ⟨0, Nat.zero_le _, rfl, hc, c2, b4⟩
  case round =>
    clear hc c2 b4
    obtain ⟨k, hk, rfl, hb, b2, b4⟩ := hrel
    by_cases hlt : k < n + 1
    · have r0 : wr.rangeAt b (66 + k * 66) (fr (N (k + 1)) (D (k + 1))) := fun j v hv => by
        rw [hb.cell (p := ⟨b, 66 + k * 66 + j, none⟩) hbw]
        have := Hr.out (k + 1) (by omega) j v hv
        rwa [Nat.add_mul, Nat.one_mul, Nat.add_comm (k * 66)] at this
      obtain ⟨q1, q2, q3⟩ := HC.out k hlt
      have HF := Lib.hid q1
      have Q2 := Lib.hid q2
      have Q3 := Lib.hid q3
      clear q1 q2 q3
      have hlt' : (k : Int) < (n : Int) + 1 := by omega
      generalize N (k + 1) = x at *
      generalize D (k + 1) = y at *
      generalize c k = cc at *
      have l4 := b4.lt
      have a3 := Blk.new wr (rr false 0 false 0) 29 rfl
      have d3 := a3.row (fr x y)
      have d2 := (b2.old (.cells (rr false 0 false 0).toArray 29)).rowOther (g := wr.heap.size) (fr x y).toArray (by omega)
      have d4 := (b4.old (.cells (rr false 0 false 0).toArray 29)).rowOther (g := wr.heap.size) (fr x y).toArray (by omega)
      have hb' := below_row (hb.alloc hb.size (.cells (rr false 0 false 0).toArray 29)) (g := wr.heap.size) hb.size (fr x y).toArray
      go_wp2_with (first | (with_reducible refine ldRR rfl rfl rfl r0 ?_) | (with_reducible refine alR rfl rfl ?_) | (with_reducible refine stR rfl rfl rfl rfl a3 (rr_length _ _ _ _) ?_) | (with_reducible refine ldFr rfl rfl rfl d4 ?_) | (with_reducible refine ldFr rfl rfl rfl d3 ?_))
      refine (HF.out _).mono ?_
      rintro e w1 ⟨rfl, h1⟩
      replace hb' := bthen hb' h1
      replace d2 := d2.call h1
      replace d4 := d4.call h1
      replace d3 := d3.call h1
      by_cases hcc : cc < 0
      · have E := Lib.hid (Q2.out hcc)
        go_wp2_with (first | (with_reducible refine ldFr rfl rfl rfl d3 ?_) | (with_reducible refine stR rfl rfl rfl rfl d4 (fr_length _ _) ?_))
        go_roundw
        case rel => exact ⟨k + 1, by omega, by go_num, below_row hb' (by omega) _, d2.rowOther _ (by omega), by rw [E.out.1, E.out.2]; exact d4.row _⟩
        case measure => simp [intOf]; omega
      · have E := Lib.hid (Q3.out (by omega))
        go_wp2
        go_roundw
        case rel => exact ⟨k + 1, by omega, by go_num, hb', d2, by rw [E.out.1, E.out.2]; exact d4⟩
        case measure => simp [intOf]; omega
    · obtain rfl : k = n + 1 := by omega
      go_wp2_with (first | (with_reducible refine ldFr rfl rfl rfl b4 ?_) | (with_reducible refine stR rfl rfl rfl rfl b2 (rr_length _ _ _ _) ?_))
      exact ret_ct (cs := fr (LN (n + 1)) (LD (n + 1))) (v := .bool true) rfl rfl rfl rfl (wholeF _ _) (b2.row _) ⟨rfl, below_row hb (Nat.le_refl _) _⟩
end Go.Proofs.Ytcbhmmeobkhomaa
