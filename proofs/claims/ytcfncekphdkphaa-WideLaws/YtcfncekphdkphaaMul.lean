/- wide.times, wide.Mul. -/
import Derived.Test.YtcfncekphdkphaaWid
namespace Go.Proofs.Ytcfncekphdkphaa
open Go.RowKit
set_option maxRecDepth 100000
theorem wc_put {Y k v : Nat} (hv : v < bb) : (wc Y).set k (.int .u32 (v : Nat)) = wc (put Y k v) := by
  apply List.ext_getElem?
  intro i
  rw [List.getElem?_set]
  by_cases hi : i < 32
  · rw [wc_get (put Y k v) i hi, wc_length]
    split
    · rename_i h; subst h
      rw [if_pos hi, dig_put_same hv]
    · rename_i h
      rw [wc_get Y i hi]
      rcases Nat.lt_or_ge i k with h1 | h1
      · rw [dig_put_low h1]
      · rw [dig_put_high hv (by omega)]
  · rw [List.getElem?_eq_none (by rw [wc_length]; omega), List.getElem?_eq_none (by rw [wc_length]; omega)]
    split
    · rw [if_neg (by rw [wc_length]; omega)]
    · rfl
theorem built23e : Try.prog.built 23 [] = some (wc 0).toArray := by kernel_rfl
theorem bdA0 {ops : Array Oper} {rest : List Oper} {o : Oper} {a : Act} {w : World} {Q : Exit → Act → World → Prop} (hgd : o.guard = none) (ho : o.op = .build 23 #[])
    (hr : wpList Try.prog ops Q rest (a.put o.dst (.agg (wc 0).toArray)) w) : wpList Try.prog ops Q (o :: rest) a w :=
  wpList_plain hgd fun K hK => by
    have := hK _ _ hr
    unfold Oper.wp execOp
    simp only [ho, Sem.run_bind]
    rw [show Array.map (fun x : Nat × Operand => (x.fst, a.eval x.snd)) #[] = #[] by simp, run_build w 23 #[] _ built23e]
    exact this
/-- What the loops of times keep in memory. -/
def Rows3 (w wr : World) (N M X : Nat) : Prop :=
  Below w.heap.size w wr ∧ Blk wr w.heap.size (wc N) 23 ∧ Blk wr (w.heap.size + 1) (wc M) 23 ∧ Blk wr (w.heap.size + 1 + 1) (wc 0) 23 ∧ Blk wr (w.heap.size + 1 + 1 + 1) (wc X) 23
/-- What times answers. -/
def TimesPost (w : World) (N M : Nat) (e : Ending) (w' : World) : Prop :=
  (N * M < bb ^ 32 → e = .returned (.tuple #[.agg (wc (N * M)).toArray, .bool true])) ∧ (¬ N * M < bb ^ 32 → e = .returned (.tuple #[.agg (wc 0).toArray, .bool false])) ∧ Below w.heap.size w w'
set_option maxHeartbeats 1000000 in
set_option maxRecDepth 100000 in
theorem times_any (N M : Nat) (w : World) (hN : N < bb ^ 32) (hM : M < bb ^ 32) :
    Calls Try.prog 66 #[.agg (wc N).toArray, .agg (wc M).toArray] w (TimesPost w N M) := by
  have HN := Lib.hid hN
  have HM := Lib.hid hM
  have HNn := Lib.hid (nw_lt N)
  have HMm := Lib.hid (nw_lt M)
  have hn := nw_le_of hN
  have hm := nw_le_of hM
  clear hN hM
  have b0 := (((Blk.new w (wc N) 23 rfl).old (.cells (wc M).toArray 23)).old (.cells (wc 0).toArray 23)).old (.cells (wc 0).toArray 23)
  have b1 := ((Blk.new (w.alloc (.cells (wc N).toArray 23)) (wc M) 23 (b := w.heap.size + 1) (by simp)).old (.cells (wc 0).toArray 23)).old (.cells (wc 0).toArray 23)
  have b2 := (Blk.new ((w.alloc (.cells (wc N).toArray 23)).alloc (.cells (wc M).toArray 23)) (wc 0) 23 (b := w.heap.size + 1 + 1) (by simp)).old (.cells (wc 0).toArray 23)
  have b3 := Blk.new (((w.alloc (.cells (wc N).toArray 23)).alloc (.cells (wc M).toArray 23)).alloc (.cells (wc 0).toArray 23)) (wc 0) 23 (b := w.heap.size + 1 + 1 + 1) (by simp)
  have hb : Below w.heap.size w ((((w.alloc (.cells (wc N).toArray 23)).alloc (.cells (wc M).toArray 23)).alloc (.cells (wc 0).toArray 23)).alloc (.cells (wc 0).toArray 23)) := ((((Below.refl _ _).alloc (Nat.le_refl _) _).alloc (by simp) _).alloc (by simp; omega) _).alloc (by simp; omega) _
  go_enter Try.func66, Try.ntmps66
  go_wp2_with (first | (with_reducible refine alA rfl rfl ?_))
  try rw [show (((w.alloc (.cells (wc N).toArray 23)).alloc (.cells (wc M).toArray 23)).alloc (.cells (wc 0).toArray 23)).heap.size = w.heap.size + 1 + 1 + 1 by simp]
  generalize (((w.alloc (.cells (wc N).toArray 23)).alloc (.cells (wc M).toArray 23)).alloc (.cells (wc 0).toArray 23)).alloc (.cells (wc 0).toArray 23) = W at *
  refine rg_start [] (by kernel_rfl) (fun hS => ?_)
  have b0 := b0.drew
  have b1 := b1.drew
  have b2 := b2.drew
  have b3 := b3.drew
  refine rg_ld 0 rfl (by kernel_rfl) (by kernel_rfl) (by kernel_rfl) (by rfl) hS rfl rfl b0 (by simp <;> omega) (whole23 _) ?_
  try simp only [Act.put, List.setIfInBounds_toArray, List.set_cons_zero, List.set_cons_succ]
  refine rg_ld 2 rfl (by kernel_rfl) (by kernel_rfl) (by kernel_rfl) (by rfl) hS rfl rfl b1 (by simp <;> omega) (whole23 _) ?_
  try simp only [Act.put, List.setIfInBounds_toArray, List.set_cons_zero, List.set_cons_succ]
  refine rg_eff 1 rfl (by kernel_rfl) (by rfl) (fun K hK => ?_)
  go_simp
  refine (length_any N _ HN.out).mono ?_
  rintro e w1 ⟨rfl, hb1⟩
  refine hK _ _ (hS.call hb1) (fun hS => ?_)
  clear hK K
  replace b0 := b0.call hb1
  replace b1 := b1.call hb1
  replace b2 := b2.call hb1
  replace b3 := b3.call hb1
  try simp only [Act.put, List.setIfInBounds_toArray, List.set_cons_zero, List.set_cons_succ]
  refine rg_eff 3 rfl (by kernel_rfl) (by rfl) (fun K hK => ?_)
  go_simp
  refine (length_any M _ HM.out).mono ?_
  rintro e w2 ⟨rfl, hb2⟩
  refine hK _ _ (hS.call hb2) (fun hS => ?_)
  clear hK K
  replace b0 := b0.call hb2
  replace b1 := b1.call hb2
  replace b2 := b2.call hb2
  replace b3 := b3.call hb2
  try simp only [Act.put, List.setIfInBounds_toArray, List.set_cons_zero, List.set_cons_succ]
  refine rg_take 4 rfl (by kernel_rfl) (by kernel_rfl) (by kernel_rfl) (by rfl) hS (v := ?_) ?_ ?_
  rotate_left
  · (intro w' hS'; go_simp <;> try with_reducible rfl)
  try simp only [Act.put, List.setIfInBounds_toArray, List.set_cons_zero, List.set_cons_succ]
  refine rg_take 5 rfl (by kernel_rfl) (by kernel_rfl) (by kernel_rfl) (by rfl) hS (v := ?_) ?_ ?_
  rotate_left
  · (intro w' hS'; go_simp <;> try with_reducible rfl)
  try simp only [Act.put, List.setIfInBounds_toArray, List.set_cons_zero, List.set_cons_succ]
  refine rg_done (by kernel_rfl) ?_
  have HR : Rows3 w w2 N M 0 := ⟨bthen (bthen hb.drew hb1) hb2, b0, b1, b2, b3⟩
  by_cases hov : 33 < nw N + nw M
  · have HO := Lib.hid (mul_over hov hn hm)
    have hov' : (33 : Int) < (nw N : Int) + (nw M : Int) := by omega
    go_wp2_with (first | (with_reducible refine bdA0 rfl rfl ?_) | (with_reducible refine stA rfl rfl rfl rfl b2 ?_))
    exact ret_ct (v := .bool false) rfl rfl rfl rfl (whole23 _) (b2.row _) ⟨fun h => absurd h HO.out, fun _ => rfl, below_row HR.1 (by omega) _⟩
  · have hov' : ¬ (33 : Int) < (nw N : Int) + (nw M : Int) := by omega
    clear hb hb1 hb2 b0 b1 b2 b3 hov
    have HP0 : Hid (px N M 0 < bb ^ 32) := by
      show px N M 0 < bb ^ 32
      rw [px_zero]; exact bp_pos 32
    rw [← px_zero N M] at HR
    go_wp2_with fail
    go_loopw [23] (fun i wr => ∃ k : Nat, k ≤ nw N ∧ i = .int .i64 k ∧ px N M k < bb ^ 32 ∧ Rows3 w wr N M (px N M k)) (fun i _ => nw N - (intOf i).toNat)
    case atStart => exact ⟨0, Nat.zero_le _, rfl, HP0.out, HR⟩
    case round =>
      obtain ⟨k, hk, rfl, hx, hr⟩ := hrel
      have HX := Lib.hid hx
      clear hx HR HP0
      by_cases hlt : k < nw N
      · have d0 := dig_le N k
        go_wp2_with fail
        go_loopw [10, 27] (fun c j wr => ∃ l : Nat, l ≤ nw M ∧ j = .int .i64 l ∧ c = .int .u64 (pc (px N M k) (dig N k) M k l : Nat) ∧ Rows3 w wr N M (pl (px N M k) (dig N k) M k l)) (fun _ j _ => nw M - (intOf j).toNat)
        case atStart => exact ⟨0, Nat.zero_le _, rfl, by rw [pc_zero]; rfl, by rw [pl_zero]; exact hr⟩
        case round =>
          obtain ⟨l, hl, rfl, rfl, hr⟩ := hrel
          have hcl : pc (px N M k) (dig N k) M k l ≤ 4294967295 := by have := pc_lt (X := px N M k) (M := M) (i := k) (j := l) (dig_lt N k); rw [bb_eq] at this; omega
          by_cases hlt2 : l < nw M
          · obtain ⟨hb, b0, b1, b2, b3⟩ := hr
            have d1 := dig_le M l
            have d2 := dig_le (px N M k) (k + l)
            have c0 := b0.cell (wc_get N k (by omega))
            have c1 := b1.cell (wc_get M l (by omega))
            have c3 := b3.cell (wc_get _ (k + l) (by omega))
            rw [dig_pl] at c3
            have f3 := b3.frozen (k + l)
            have HC := Lib.hid (pc_succ (px N M k) (dig N k) M k l)
            have HL := Lib.hid (pl_succ (px N M k) (dig N k) M k l)
            have hmul : dig N k * dig M l ≤ 4294967295 * 4294967295 := Nat.mul_le_mul d0 d1
            have e1 : IntKind.u64.wrap ((dig N k : Int) * (dig M l : Int)) = (dig N k : Int) * (dig M l : Int) := by
              rw [IntKind.wrap_u64]; omega
            have e2 : IntKind.u64.wrap ((dig N k : Int) * (dig M l : Int) + (dig (px N M k) (k + l) : Int)) = (dig N k : Int) * (dig M l : Int) + (dig (px N M k) (k + l) : Int) := by
              rw [IntKind.wrap_u64]; omega
            have e3 : IntKind.u64.wrap ((dig N k : Int) * (dig M l : Int) + (dig (px N M k) (k + l) : Int) + (pc (px N M k) (dig N k) M k l : Int)) = (dig N k : Int) * (dig M l : Int) + (dig (px N M k) (k + l) : Int) + (pc (px N M k) (dig N k) M k l : Int) := by
              rw [IntKind.wrap_u64]; omega
            have e4 : IntKind.i64.wrap ((k : Int) + l) = (k : Int) + l := IntWalk.i64_in _ (by omega)
            have e5 : ((k : Int) + l).toNat = k + l := by omega
            have hk1 : (k : Int) < 32 := by omega
            have hl1 : (l : Int) < 32 := by omega
            have hkl : (k : Int) + l < 32 := by omega
            have hkl0 : (0 : Int) ≤ (k : Int) + l := by omega
            go_wp2_with fail
            go_quiet (fail)
            clear e1 e2 e3 e4 e5
            have hT : dig N k * dig M l + dig (px N M k) (k + l) + pc (px N M k) (dig N k) M k l ≤ 18446744073709551615 := by omega
            rw [show (dig N k : Int) * (dig M l : Int) + (dig (px N M k) (k + l) : Int) + (pc (px N M k) (dig N k) M k l : Int) = ((dig N k * dig M l + dig (px N M k) (k + l) + pc (px N M k) (dig N k) M k l : Nat) : Int) by push_cast; rfl]
            generalize dig N k * dig M l + dig (px N M k) (k + l) + pc (px N M k) (dig N k) M k l = T at *
            have HT1 : Hid ((T : Int) % 4294967296 = ((T % bb : Nat) : Int)) := by
              show (T : Int) % 4294967296 = ((T % bb : Nat) : Int)
              rw [bb_eq]; omega
            have HT2 : Hid ((T : Int) / 4294967296 = ((T / bb : Nat) : Int)) := by
              show (T : Int) / 4294967296 = ((T / bb : Nat) : Int)
              rw [bb_eq]; omega
            clear hmul
            go_wp2
            rw [HT1.out, HT2.out]
            go_roundw
            case rel =>
              refine ⟨l + 1, by omega, by go_num, int_eq (by rw [HC.out]), (below_drewN hb _).setCell (by simp; omega) _, (b0.drewN _).setOther _ _ (by omega), (b1.drewN _).setOther _ _ (by omega), (b2.drewN _).setOther _ _ (by omega), ?_⟩
              have := (b3.drewN nq).set (k + l) (.int .u32 (T % bb : Nat))
              rw [wc_put (Nat.mod_lt _ bb_pos), ← HL.out] at this
              exact this
            case measure => simp [intOf]; omega
          · obtain rfl : l = nw M := by omega
            obtain ⟨hb, b0, b1, b2, b3⟩ := hr
            have HC := Lib.hid (pc_all (N := N) (i := k) HMm.out)
            have HL := Lib.hid (pl_all (N := N) (i := k) HMm.out)
            have HE := Lib.hid (Nat.mod_add_div (px N M (k + 1)) (bb ^ (k + nw M)))
            have HV := Lib.hid (px_lt (N := N) (i := k + 1) HMm.out)
            by_cases h32 : k + nw M < 32
            · have h32' : (k : Int) + (nw M : Int) < 32 := by omega
              have c3 := b3.cell (wc_get _ (k + nw M) h32)
              have f3 := b3.frozen (k + nw M)
              go_wp2
              go_roundw
              case rel =>
                refine ⟨k + 1, by omega, by go_num, ?_, hb.setCell (by simp; omega) _, b0.setOther _ _ (by omega), b1.setOther _ _ (by omega), b2.setOther _ _ (by omega), ?_⟩
                · exact Nat.lt_of_lt_of_le HV.out (bp_mono (by omega))
                · have := b3.set (k + nw M) (.int .u32 (pc (px N M k) (dig N k) M k (nw M) : Nat))
                  rw [HL.out] at this
                  rw [wc_set (Nat.mod_lt _ (bp_pos _)) (pc_lt (dig_lt N k)), HC.out, HE.out] at this
                  rw [HC.out]
                  exact this
              case measure => simp [intOf]; omega
            · have h33 : k + nw M = 32 := by omega
              have h32' : ¬ (k : Int) + (nw M : Int) < 32 := by omega
              have H33 := Lib.hid h33
              clear h33
              by_cases hc0 : pc (px N M k) (dig N k) M k (nw M) = 0
              · have hc1 : ¬ (0 : Int) < (pc (px N M k) (dig N k) M k (nw M) : Int) := by omega
                have HC0 := Lib.hid hc0
                clear hc0
                go_wp2
                go_roundw
                case rel =>
                  have h1 := HC.out.symm.trans HC0.out
                  rw [H33.out] at h1
                  have h2 : px N M (k + 1) < bb ^ 32 := by
                    rcases Nat.div_eq_zero_iff.1 h1 with h | h
                    · have := bp_pos 32; omega
                    · exact h
                  refine ⟨k + 1, by omega, by go_num, h2, hb, b0, b1, b2, ?_⟩
                  have := b3
                  rw [HL.out, H33.out, Nat.mod_eq_of_lt h2] at this
                  exact this
                case measure => simp [intOf]; omega
              · have hc1 : (0 : Int) < (pc (px N M k) (dig N k) M k (nw M) : Int) := by omega
                have HC0 := Lib.hid hc0
                clear hc0
                go_wp2_with (first | (with_reducible refine bdA0 rfl rfl ?_) | (with_reducible refine stA rfl rfl rfl rfl b2 ?_))
                have h1 : ¬ N * M < bb ^ 32 := by
                  intro h
                  apply HC0.out
                  rw [HC.out, H33.out]
                  exact Nat.div_eq_of_lt (Nat.lt_of_le_of_lt (px_le N M (k + 1)) h)
                exact ret_ct (v := .bool false) rfl rfl rfl rfl (whole23 _) (b2.row _) ⟨fun h => absurd h h1, fun _ => rfl, below_row hb (by omega) _⟩
      · obtain rfl : k = nw N := by omega
        obtain ⟨hb, b0, b1, b2, b3⟩ := hr
        have HE := Lib.hid (px_all (M := M) HNn.out)
        go_wp2_with (first | (with_reducible refine ldA rfl rfl rfl b3 ?_) | (with_reducible refine stA rfl rfl rfl rfl b2 ?_))
        refine ret_ct (cs := wc (px N M (nw N))) (v := .bool true) rfl rfl rfl rfl (whole23 _) (b2.row _) ⟨fun _ => ?_, fun h => absurd ?_ h, below_row hb (by omega) _⟩
        · rw [HE.out]
        · rw [← HE.out]; exact HX.out
theorem times_yes (N M : Nat) (w : World) (hN : N < bb ^ 32) (hM : M < bb ^ 32) (h : N * M < bb ^ 32) :
    Calls Try.prog 66 #[.agg (wc N).toArray, .agg (wc M).toArray] w fun e w' => e = .returned (.tuple #[.agg (wc (N * M)).toArray, .bool true]) ∧ Below w.heap.size w w' :=
  (times_any N M w hN hM).mono fun _ _ ⟨h1, _, h3⟩ => ⟨h1 h, h3⟩
theorem times_no (N M : Nat) (w : World) (hN : N < bb ^ 32) (hM : M < bb ^ 32) (h : ¬ N * M < bb ^ 32) :
    Calls Try.prog 66 #[.agg (wc N).toArray, .agg (wc M).toArray] w fun e w' => e = .returned (.tuple #[.agg (wc 0).toArray, .bool false]) ∧ Below w.heap.size w w' :=
  (times_any N M w hN hM).mono fun _ _ ⟨_, h2, h3⟩ => ⟨h2 h, h3⟩
/-- The walk of Mul, over what times and fitting answer. -/
theorem Mul_walk (s t : Bool) (N M X : Nat) (ok : Bool) (z : Int) (w : World)
    (hT : ∀ w, Calls Try.prog 66 #[.agg (wc N).toArray, .agg (wc M).toArray] w fun e w' => e = .returned (.tuple #[.agg (wc X).toArray, .bool ok]) ∧ Below w.heap.size w w')
    (hF : ∀ w, Calls Try.prog 58 #[.bool (s != t), .agg (wc X).toArray, .bool ok] w fun e w' => e = .returned (.tuple #[.agg (mk z).toArray, .bool ok]) ∧ Below w.heap.size w w') :
    Calls Try.prog 17 #[.agg (wd s N).toArray, .agg (wd t M).toArray] w fun e w' => e = .returned (.tuple #[.agg (mk z).toArray, .bool ok]) ∧ Below w.heap.size w w' := by
  have HT := Lib.hid hT
  have HF := Lib.hid hF
  clear hT hF
  have b0 := ((Blk.new w (wd s N) 25 rfl).old (.cells (wd t M).toArray 25)).old (.cells (wd false 0).toArray 25)
  have b1 := (Blk.new (w.alloc (.cells (wd s N).toArray 25)) (wd t M) 25 (b := w.heap.size + 1) (by simp)).old (.cells (wd false 0).toArray 25)
  have b2 := Blk.new ((w.alloc (.cells (wd s N).toArray 25)).alloc (.cells (wd t M).toArray 25)) (wd false 0) 25 (b := w.heap.size + 1 + 1) (by simp)
  have hb : Below w.heap.size w (((w.alloc (.cells (wd s N).toArray 25)).alloc (.cells (wd t M).toArray 25)).alloc (.cells (wd false 0).toArray 25)) := (((Below.refl _ _).alloc (Nat.le_refl _) _).alloc (by simp) _).alloc (by simp; omega) _
  go_enter Try.func17, Try.ntmps17
  go_wp2_with (first | (with_reducible refine alW rfl rfl ?_) | (with_reducible refine ldD rfl rfl rfl b0 ?_) | (with_reducible refine ldD rfl rfl rfl b1 ?_))
  refine (HT.out _).mono ?_
  rintro e w1 ⟨rfl, hb1⟩
  have a0 := (b0.call hb1).old (.cells (wc 0).toArray 23)
  have a1 := (b1.call hb1).old (.cells (wc 0).toArray 23)
  have a2 := (b2.call hb1).old (.cells (wc 0).toArray 23)
  have a3 := Blk.new w1 (wc 0) 23 rfl
  have hsz : w.heap.size + 1 + 1 < w1.heap.size := (b2.call hb1).lt
  have hb' := (bthen hb hb1).alloc (Nat.le_trans hb.size hb1.size) (.cells (wc 0).toArray 23)
  have d0 := a0.rowOther (g := w1.heap.size) (wc X).toArray (by omega)
  have d1 := a1.rowOther (g := w1.heap.size) (wc X).toArray (by omega)
  have d2 := a2.rowOther (g := w1.heap.size) (wc X).toArray (by omega)
  have d3 := a3.row (wc X)
  have hb'' := below_row hb' (g := w1.heap.size) (by omega) (wc X).toArray
  have e0 := d0.cell (wd_sign s N)
  have e1 := d1.cell (wd_sign t M)
  go_wp2_with (first | (with_reducible refine alA rfl rfl ?_) | (with_reducible refine stA rfl rfl rfl rfl a3 ?_) | (with_reducible refine ldA rfl rfl rfl d3 ?_))
  refine (HF.out _).mono ?_
  rintro e w2 ⟨rfl, hb2⟩
  have f2 := d2.call hb2
  go_wp2_with (first | (with_reducible refine stM rfl rfl rfl rfl f2 (wd_length _ _) ?_))
  exact ret_ct (v := .bool ok) rfl rfl rfl rfl (wholeM _) (f2.row _) ⟨rfl, below_row (bthen hb'' hb2) (by omega) _⟩
theorem zn_mul (s t : Bool) (N M : Nat) : zn s N * zn t M = zn (s != t) (N * M) := by
  unfold zn; cases s <;> cases t <;> simp [Int.neg_mul, Int.mul_neg]
theorem Mul_w {cs ds : List Value} {x y : Int} (hx : Wd cs x) (hy : Wd ds y) (w : World) (h : fits (x * y)) :
    Calls Try.prog 17 #[.agg cs.toArray, .agg ds.toArray] w fun e w' => e = .returned (.tuple #[.agg (mk (x * y)).toArray, .bool true]) ∧ Below w.heap.size w w' := by
  obtain ⟨s, N, rfl, rfl, hN⟩ := hx
  obtain ⟨t, M, rfl, rfl, hM⟩ := hy
  rw [zn_mul] at h ⊢
  rw [fits, zn_abs] at h
  exact Mul_walk s t N M (N * M) true _ w (fun w => times_yes N M w hN hM h) (fun w => fitting_yes _ _ w h)
theorem Mul_wn {cs ds : List Value} {x y : Int} (hx : Wd cs x) (hy : Wd ds y) (w : World) (h : ¬ fits (x * y)) :
    Calls Try.prog 17 #[.agg cs.toArray, .agg ds.toArray] w fun e w' => e = .returned (.tuple #[.agg (mk 0).toArray, .bool false]) ∧ Below w.heap.size w w' := by
  obtain ⟨s, N, rfl, rfl, hN⟩ := hx
  obtain ⟨t, M, rfl, rfl, hM⟩ := hy
  rw [zn_mul, fits, zn_abs] at h
  exact Mul_walk s t N M 0 false _ w (fun w => times_no N M w hN hM h) (fun w => fitting_no _ _ w)
end Go.Proofs.Ytcfncekphdkphaa
