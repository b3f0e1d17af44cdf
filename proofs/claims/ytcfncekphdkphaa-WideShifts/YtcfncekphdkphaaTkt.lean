/- wide.takeTimes, wide.giveBack. -/
import Derived.Test.YtcfncekphdkphaaGsw
namespace Go.Proofs.Ytcfncekphdkphaa
set_option linter.unusedSimpArgs false
set_option linter.unusedVariables false
open Go.RowKit
set_option maxRecDepth 100000
theorem put_eq (Y k d : Nat) : put Y k d + bb ^ k * dig Y k = Y + bb ^ k * d := by
  have h1 := mod_succ Y k
  have h2 := Nat.mod_add_div Y (bb ^ (k + 1))
  rw [bp_succ, Nat.mul_assoc, ← bp_succ] at h2
  unfold put
  rw [Nat.mul_add]
  omega
theorem put_lt {Y k d n : Nat} (hY : Y < bb ^ n) (hk : k < n) (hd : d < bb) : put Y k d < bb ^ n := by
  obtain ⟨i, rfl⟩ : ∃ i, n = k + 1 + i := ⟨n - k - 1, by omega⟩
  have h1 : Y / bb ^ (k + 1) < bb ^ i := by
    rw [Nat.div_lt_iff_lt_mul (bp_pos _), Nat.mul_comm, ← Nat.pow_add]; exact hY
  rw [Nat.pow_add, Nat.mul_comm, ← Nat.div_lt_iff_lt_mul (bp_pos _), put_high hd]
  exact h1
/-- One word of takeTimes: x the word, t what is taken and what was carried, d the new word. -/
theorem tk_step {Y U P j i x d g v b c b' : Nat} (hx : dig Y (j + i) = x) (h : Y + bb ^ j * (g * P) = U + bb ^ (j + i) * (b + c)) (hd : d + (g * v + c) % bb + b = x + bb * b') :
    put Y (j + i) d + bb ^ j * (g * (P + bb ^ i * v)) = U + bb ^ (j + (i + 1)) * (b' + (g * v + c) / bb) := by
  have h1 := put_eq Y (j + i) d
  have h2 := Nat.mod_add_div (g * v + c) bb
  have h3 : bb ^ (j + i) * (d + (g * v + c) + b) = bb ^ (j + i) * (x + bb * (b' + (g * v + c) / bb)) := by
    congr 1; rw [Nat.mul_add]; omega
  rw [hx] at h1
  generalize (g * v + c) / bb = c' at *
  rw [← Nat.add_assoc j i 1, bp_succ, Nat.mul_assoc (bb ^ (j + i)) bb, Nat.mul_add g, Nat.mul_add (bb ^ j), show bb ^ j * (g * (bb ^ i * v)) = bb ^ (j + i) * (g * v) by rw [Nat.pow_add]; simp only [Nat.mul_assoc, Nat.mul_left_comm]]
  simp only [Nat.mul_add] at h h1 h3 ⊢
  omega
theorem tk_last {Y U P j i x d g b c b' : Nat} (hx : dig Y (j + i) = x) (h : Y + bb ^ j * (g * P) = U + bb ^ (j + i) * (b + c)) (hd : d + c + b = x + bb * b') :
    put Y (j + i) d + bb ^ j * (g * P) = U + bb ^ (j + i + 1) * b' := by
  have h1 := put_eq Y (j + i) d
  have h3 : bb ^ (j + i) * (d + c + b) = bb ^ (j + i) * (x + bb * b') := by congr 1
  rw [hx] at h1
  rw [bp_succ, Nat.mul_assoc (bb ^ (j + i)) bb]
  simp only [Nat.mul_add] at h h1 h3 ⊢
  omega
theorem gb_step {Z Y P j i x d v c c' : Nat} (hx : dig Z (j + i) = x) (h : Z + bb ^ (j + i) * c = Y + bb ^ j * P) (hd : d + bb * c' = x + v + c) :
    put Z (j + i) d + bb ^ (j + (i + 1)) * c' = Y + bb ^ j * (P + bb ^ i * v) := by
  have h1 := put_eq Z (j + i) d
  have h3 : bb ^ (j + i) * (d + bb * c') = bb ^ (j + i) * (x + v + c) := by congr 1
  rw [hx] at h1
  rw [← Nat.add_assoc j i 1, bp_succ, Nat.mul_assoc (bb ^ (j + i)) bb, Nat.mul_add (bb ^ j), show bb ^ j * (bb ^ i * v) = bb ^ (j + i) * v by rw [Nat.pow_add, Nat.mul_assoc]]
  simp only [Nat.mul_add] at h h1 h3 ⊢
  omega
/-- Nothing but block g has changed. -/
def Only (g : Nat) (w w' : World) : Prop := Below g w w' ∧ ∀ k, k ≠ g → w'.heap[k]? = w.heap[k]?
theorem Only.refl (g : Nat) (w : World) : Only g w w := ⟨Below.refl _ _, fun _ _ => rfl⟩
theorem Only.set {g : Nat} {w w' : World} (h : Only g w w') (i : Nat) (v : Value) : Only g w (w'.setCell ⟨g, i, none⟩ v) :=
  ⟨h.1.setCell (Nat.le_refl _) v, fun k hk => (Below.heap_setCell _ _ _ _ (fun e => hk e)).trans (h.2 k hk)⟩
theorem Only.blk {g b : Nat} {w w' : World} {cs : List Value} {t : TypeId} (h : Only g w w') (hb : Blk w b cs t) (hne : b ≠ g) : Blk w' b cs t := (h.2 b hne).trans hb
set_option maxHeartbeats 1000000 in
theorem takeTimes_any {bu bv cu cv j m g U V : Nat} (w : World) (hj : j + m ≤ 32) (hne : bv ≠ bu) (hg : g ≤ 4294967295) (hU : U < bb ^ (j + m + 1))
    (b0 : Blk w bu (lc U) 124) (b1 : Blk w bv (lc V) 124) :
    Calls Try.prog 115 #[.slice (some ⟨bu, j, none⟩) (m + 1) cu, .slice (some ⟨bv, 0, none⟩) m cv, .int .u32 g] w fun e w' =>
      ∃ Y b, b ≤ 1 ∧ e = .returned (.bool (decide (0 < b))) ∧ Blk w' bu (lc Y) 124 ∧ Y < bb ^ (j + m + 1) ∧ Y + bb ^ j * (g * (V % bb ^ m)) = U + bb ^ (j + m + 1) * b ∧ Only bu w w' := by
  have HU := Lib.hid hU
  have B0 := Lib.hid b0
  have B1 := Lib.hid b1
  have HJ := Lib.hid hj
  clear hU b0 b1 hj
  go_enter Try.func115, Try.ntmps115
  go_wp2
  go_loopw [7, 8, 15] (fun c b i wr => ∃ k C B Y : Nat, k ≤ m ∧ i = .int .i64 k ∧ c = .int .u64 C ∧ b = .int .u32 B ∧ C ≤ 4294967295 ∧ B ≤ 1 ∧ Blk wr bu (lc Y) 124 ∧ Y < bb ^ (j + m + 1) ∧ Y + bb ^ j * (g * (V % bb ^ k)) = U + bb ^ (j + k) * (B + C) ∧ Only bu w wr) (fun _ _ i _ => m - (intOf i).toNat)
  case atStart => exact ⟨0, 0, 0, U, Nat.zero_le _, rfl, rfl, rfl, by omega, by omega, B0.out, HU.out, by simp [Nat.mod_one], Only.refl _ _⟩
  case round =>
    obtain ⟨k, C, B, Y, hk, rfl, rfl, rfl, hC, hB, a0, hY, he, ho⟩ := hrel
    have a1 := ho.blk B1.out hne
    have HY := Lib.hid hY
    have HE := Lib.hid he
    clear hY he
    by_cases hlt : k < m
    · have hj' : j + k < 33 := by have := HJ.out; omega
      have c0 := a0.cell (lc_get Y (j + k) hj')
      have f0 := a0.frozen (j + k)
      have c1 := a1.cell (lc_get V k (by omega))
      have d0 := dig_le Y (j + k)
      have d1 := dig_le V k
      have hlt' : (k : Int) < (m : Int) := by omega
      have hlt2 : (k : Int) < (m : Int) + 1 := by omega
      have hk0 : (0 : Int) ≤ (k : Int) := by omega
      obtain ⟨x, hx⟩ : ∃ x, dig Y (j + k) = x := ⟨_, rfl⟩
      obtain ⟨v, hv⟩ : ∃ v, dig V k = v := ⟨_, rfl⟩
      rw [hx] at c0 d0
      rw [hv] at c1 d1
      have HX := Lib.hid hx
      have HV := Lib.hid hv
      clear hx hv
      obtain ⟨t, ht⟩ : ∃ t, g * v + C = t := ⟨_, rfl⟩
      have ET : (g : Int) * (v : Int) + (C : Int) = (t : Int) := by rw [← ht]; push_cast; rfl
      obtain ⟨p, hp⟩ : ∃ p, g * v = p := ⟨_, rfl⟩
      have EP : (g : Int) * (v : Int) = (p : Int) := by rw [← hp]; push_cast; rfl
      have hp2 : p ≤ 18446744065119617025 := by rw [← hp]; exact Nat.le_trans (Nat.mul_le_mul hg d1) (by decide)
      have hpt : p + C = t := by rw [← hp, ht]
      have HT := Lib.hid ht
      clear ht hp ET
      have ht2 : t ≤ 18446744069414584320 := by omega
      have E1 : ((p : Int) + (C : Int)) % 4294967296 = ((t % bb : Nat) : Int) := by rw [bb_eq]; omega
      have E2 : ((p : Int) + (C : Int)) / 4294967296 = ((t / bb : Nat) : Int) := by rw [bb_eq]; omega
      have HT2 : Hid (t % bb ≤ 4294967295 ∧ t / bb ≤ 4294967295) := by
        show t % bb ≤ 4294967295 ∧ t / bb ≤ 4294967295
        rw [bb_eq]; omega
      obtain ⟨l, hl⟩ : ∃ l, t % bb = l := ⟨_, rfl⟩
      obtain ⟨h, hh⟩ : ∃ h, t / bb = h := ⟨_, rfl⟩
      rw [hl] at E1 HT2
      rw [hh] at E2 HT2
      have HL := Lib.hid hl
      have HH := Lib.hid hh
      clear hl hh hpt
      go_wp2_with fail
      refine (sub32_any x l B _ d0 HT2.out.1 hB).mono ?_
      rintro e w' ⟨rfl, rfl⟩
      have HD : Hid ((x + bb - l - B) % bb + l + B = x + bb * (if x < l + B then 1 else 0) ∧ (x + bb - l - B) % bb < bb) := by
        show (x + bb - l - B) % bb + l + B = x + bb * (if x < l + B then 1 else 0) ∧ (x + bb - l - B) % bb < bb
        refine ⟨?_, Nat.mod_lt _ bb_pos⟩
        have := HT2.out.1
        have e := bb_eq
        split
        · rw [Nat.mod_eq_of_lt (by omega)]; omega
        · rw [show x + bb - l - B = (x - l - B) + bb by omega, Nat.add_mod_right, Nat.mod_eq_of_lt (by omega)]; omega
      have HB : Hid ((if x < l + B then 1 else 0 : Nat) ≤ 1) := by
        show (if x < l + B then 1 else 0 : Nat) ≤ 1
        split <;> omega
      generalize (x + bb - l - B) % bb = d at *
      generalize (if x < l + B then 1 else 0 : Nat) = B' at *
      go_wp2
      go_roundw
      case rel =>
        refine ⟨k + 1, h, B', put Y (j + k) d, by omega, by go_num, rfl, rfl, HT2.out.2, HB.out, ?_, put_lt HY.out (by omega) HD.out.2, ?_, ho.set _ _⟩
        · have := a0.set (j + k) (.int .u32 (d : Nat))
          rw [lc_put HD.out.2] at this
          exact this
        · rw [mod_succ, HV.out, ← HH.out, ← HT.out]
          refine tk_step HX.out HE.out ?_
          rw [HT.out, HL.out]
          exact HD.out.1
      case measure => simp [intOf]; omega
    · obtain rfl : k = m := by omega
      have hj' : j + k < 33 := by have := HJ.out; omega
      have c0 := a0.cell (lc_get Y (j + k) hj')
      have f0 := a0.frozen (j + k)
      have d0 := dig_le Y (j + k)
      have hlt2 : (k : Int) < (k : Int) + 1 := by omega
      obtain ⟨x, hx⟩ : ∃ x, dig Y (j + k) = x := ⟨_, rfl⟩
      rw [hx] at c0 d0
      have HX := Lib.hid hx
      clear hx
      go_wp2_with fail
      refine (sub32_any x C B _ d0 hC hB).mono ?_
      rintro e w' ⟨rfl, rfl⟩
      have HD : Hid ((x + bb - C - B) % bb + C + B = x + bb * (if x < C + B then 1 else 0) ∧ (x + bb - C - B) % bb < bb) := by
        show (x + bb - C - B) % bb + C + B = x + bb * (if x < C + B then 1 else 0) ∧ (x + bb - C - B) % bb < bb
        refine ⟨?_, Nat.mod_lt _ bb_pos⟩
        have e := bb_eq
        split
        · rw [Nat.mod_eq_of_lt (by omega)]; omega
        · rw [show x + bb - C - B = (x - C - B) + bb by omega, Nat.add_mod_right, Nat.mod_eq_of_lt (by omega)]; omega
      have HB : Hid ((if x < C + B then 1 else 0 : Nat) ≤ 1) := by
        show (if x < C + B then 1 else 0 : Nat) ≤ 1
        split <;> omega
      generalize (x + bb - C - B) % bb = d at *
      generalize (if x < C + B then 1 else 0 : Nat) = B' at *
      go_wp2
      go_ret
      have a2 := a0.set (j + k) (.int .u32 (d : Nat))
      rw [lc_put HD.out.2] at a2
      refine ⟨put Y (j + k) d, B', HB.out, ?_, a2, put_lt HY.out (by omega) HD.out.2, tk_last HX.out HE.out HD.out.1, ho.set _ _⟩
      rfl
set_option maxHeartbeats 1000000 in
theorem giveBack_any {bu bv cu cv j m U V : Nat} (w : World) (hj : j + m ≤ 32) (hne : bv ≠ bu) (hU : U < bb ^ (j + m + 1))
    (b0 : Blk w bu (lc U) 124) (b1 : Blk w bv (lc V) 124) :
    Calls Try.prog 116 #[.slice (some ⟨bu, j, none⟩) (m + 1) cu, .slice (some ⟨bv, 0, none⟩) m cv] w fun e w' =>
      ∃ Y c, e = .returned (.tuple #[]) ∧ Blk w' bu (lc Y) 124 ∧ Y < bb ^ (j + m + 1) ∧ Y + bb ^ (j + m + 1) * c = U + bb ^ j * (V % bb ^ m) ∧ Only bu w w' := by
  have HU := Lib.hid hU
  have B0 := Lib.hid b0
  have B1 := Lib.hid b1
  have HJ := Lib.hid hj
  clear hU b0 b1 hj
  go_enter Try.func116, Try.ntmps116
  go_wp2
  go_loopw [4, 9] (fun c i wr => ∃ k C Y : Nat, k ≤ m ∧ i = .int .i64 k ∧ c = .int .u32 C ∧ C ≤ 1 ∧ Blk wr bu (lc Y) 124 ∧ Y < bb ^ (j + m + 1) ∧ Y + bb ^ (j + k) * C = U + bb ^ j * (V % bb ^ k) ∧ Only bu w wr) (fun _ i _ => m - (intOf i).toNat)
  case atStart => exact ⟨0, 0, U, Nat.zero_le _, rfl, rfl, by omega, B0.out, HU.out, by simp [Nat.mod_one], Only.refl _ _⟩
  case round =>
    obtain ⟨k, C, Y, hk, rfl, rfl, hC, a0, hY, he, ho⟩ := hrel
    have a1 := ho.blk B1.out hne
    have HY := Lib.hid hY
    have HE := Lib.hid he
    clear hY he
    by_cases hlt : k < m
    · have hj' : j + k < 33 := by have := HJ.out; omega
      have c0 := a0.cell (lc_get Y (j + k) hj')
      have f0 := a0.frozen (j + k)
      have c1 := a1.cell (lc_get V k (by omega))
      have d0 := dig_le Y (j + k)
      have d1 := dig_le V k
      have hlt' : (k : Int) < (m : Int) := by omega
      have hlt2 : (k : Int) < (m : Int) + 1 := by omega
      have hk0 : (0 : Int) ≤ (k : Int) := by omega
      obtain ⟨x, hx⟩ : ∃ x, dig Y (j + k) = x := ⟨_, rfl⟩
      obtain ⟨v, hv⟩ : ∃ v, dig V k = v := ⟨_, rfl⟩
      rw [hx] at c0 d0
      rw [hv] at c1 d1
      have HX := Lib.hid hx
      have HV := Lib.hid hv
      clear hx hv
      go_wp2_with fail
      refine (add32_any x v C _ d0 d1 hC).mono ?_
      rintro e w' ⟨rfl, rfl⟩
      have HD : Hid ((x + v + C) % bb + bb * ((x + v + C) / bb) = x + v + C ∧ (x + v + C) % bb < bb ∧ (x + v + C) / bb ≤ 1) := by
        show (x + v + C) % bb + bb * ((x + v + C) / bb) = x + v + C ∧ (x + v + C) % bb < bb ∧ (x + v + C) / bb ≤ 1
        refine ⟨Nat.mod_add_div _ _, Nat.mod_lt _ bb_pos, ?_⟩
        rw [bb_eq]; omega
      generalize (x + v + C) % bb = d at *
      generalize (x + v + C) / bb = C' at *
      go_wp2
      go_roundw
      case rel =>
        refine ⟨k + 1, C', put Y (j + k) d, by omega, by go_num, rfl, HD.out.2.2, ?_, put_lt HY.out (by omega) HD.out.2.1, ?_, ho.set _ _⟩
        · have := a0.set (j + k) (.int .u32 (d : Nat))
          rw [lc_put HD.out.2.1] at this
          exact this
        · rw [mod_succ, HV.out]
          exact gb_step HX.out HE.out HD.out.1
      case measure => simp [intOf]; omega
    · obtain rfl : k = m := by omega
      have hj' : j + k < 33 := by have := HJ.out; omega
      have c0 := a0.cell (lc_get Y (j + k) hj')
      have f0 := a0.frozen (j + k)
      have d0 := dig_le Y (j + k)
      have hlt2 : (k : Int) < (k : Int) + 1 := by omega
      obtain ⟨x, hx⟩ : ∃ x, dig Y (j + k) = x := ⟨_, rfl⟩
      rw [hx] at c0 d0
      have HX := Lib.hid hx
      clear hx
      have HD : Hid ((x + C) % bb + bb * ((x + C) / bb) = x + 0 + C ∧ (x + C) % bb < bb) := ⟨Nat.mod_add_div _ _, Nat.mod_lt _ bb_pos⟩
      have E : ((x : Int) + (C : Int)) % 4294967296 = (((x + C) % bb : Nat) : Int) := by rw [bb_eq]; omega
      generalize (x + C) % bb = d at *
      generalize (x + C) / bb = C' at *
      go_wp2
      rw [E]
      go_end0
      have a2 := a0.set (j + k) (.int .u32 (d : Nat))
      rw [lc_put HD.out.2] at a2
      have := gb_step HX.out HE.out HD.out.1
      rw [Nat.mul_zero, Nat.add_zero] at this
      exact ⟨put Y (j + k) d, C', rfl, a2, put_lt HY.out (by omega) HD.out.2, this, ho.set _ _⟩
end Go.Proofs.Ytcfncekphdkphaa
