/- Package ratio: Decimal of any fraction, with up to nine digits. -/
import Derived.Test.YtcbhmmeobkhomaaRdl
import Derived.Test.YtcbhmmeobkhomaaRnd
import Derived.Test.YtcbhmmeobkhomaaRsl
import Derived.Test.YtcbhmmeobkhomaaRof
namespace Go.Proofs.Ytcbhmmeobkhomaa
set_option linter.unusedSimpArgs false
set_option linter.unusedVariables false
open Go.RowKit
set_option maxRecDepth 100000
theorem repL_one (c : UInt8) : ∀ m, Lib.repeatL [c] m = List.replicate m c
  | 0 => rfl
  | m + 1 => by rw [Lib.repeatL, repL_one c m, List.replicate_succ]; rfl
theorem Repeat_any (m : Nat) (hm : m ≤ 100) : Tl 49 #[.string ⟨#[48]⟩, .int .i64 (m : Int)] (.string (bs (List.replicate m 48))) := by
  match m, hm with
  | 0, _ => exact Repeat_zero _
  | 1, _ => exact Repeat_one _
  | m + 2, hm =>
    intro w
    refine (Try.strings_Repeat_main ⟨#[48]⟩ (m + 2) w (by omega) (by omega) (by show 1 * (m + 2) ≤ _; omega) (by decide)).mono ?_
    rintro e w' ⟨rfl, hb⟩
    exact ⟨by rw [show Lib.repeatL (⟨#[48]⟩ : ByteArray).data.toList (m + 2) = List.replicate (m + 2) 48 from repL_one 48 (m + 2)]; rfl, hb⟩
theorem bs_extract (l : List UInt8) (a b : Nat) : (bs l).extract a b = bs ((l.take b).drop a) := by
  apply ByteArray.ext
  simp [bs, ByteArray.data_extract, List.extract_toArray, List.extract_eq_take_drop, List.drop_take]
set_option maxHeartbeats 1000000 in
theorem pointed_zero (s : ByteArray) : Tl 25 #[.string s, .int .i64 0] (.string s) := fun w => by
  go_enter Try.func25, Try.ntmps25
  go_wp2_with fail
  go_ret
  exact ⟨rfl, Below.refl _ _⟩
theorem pointed_any (k : Nat) (hk : k ≤ 9) (l : List UInt8) (hl : l.length ≤ 400) : Tl 25 #[.string (bs l), .int .i64 (k : Int)] (.string (bs (ptx k l))) := by
  by_cases h0 : k = 0
  · subst h0
    have e : ptx 0 l = l := by unfold ptx; rw [if_pos rfl]
    rw [e]
    exact pointed_zero _
  · have hz := zs_len k l
    have e1 : bs (List.replicate (k + 1 - l.length) 48) ++ bs l = bs (zs k l) := bs_append _ _
    have h := pointed_walk (s := bs l) (R := bs (List.replicate (k + 1 - l.length) 48)) (k := k) (m := k + 1 - l.length) (a := (zs k l).length - k) (by omega) (by omega) (by rw [bs_size]; omega) (by rw [bs_size, List.length_replicate]; omega) (by rw [bs_size]; omega) (by rw [e1, bs_size]; omega) (Repeat_any _ (by omega))
    have e2 : ptx k l = (zs k l).take ((zs k l).length - k) ++ 46 :: (zs k l).drop ((zs k l).length - k) := by unfold ptx; rw [if_neg h0]
    rw [e1, bs_extract, bs_extract, bs_size, List.drop_zero, List.take_length, show (⟨#[46]⟩ : ByteArray) = bs [46] from rfl, bs_append, bs_append, List.append_assoc] at h
    rw [e2]
    exact h
theorem ptx_len (k : Nat) (hk : k ≤ 9) (l : List UInt8) (hl : l.length ≤ 400) : (ptx k l).length ≤ 500 := by
  unfold ptx
  split
  · omega
  · have h1 : (zs k l).length ≤ 410 := by unfold zs; rw [List.length_append, List.length_replicate]; omega
    rw [List.length_append, List.length_cons, List.length_take, List.length_drop]; omega
/-- The rounded amount. -/
def rnd (n d : Int) (k : Nat) : Int := ((n.natAbs : Int) * 10 ^ k * 2 + d) / (d * 2)
theorem rnd_pos {n d : Int} (hd : 0 < d) (k : Nat) : 0 ≤ rnd n d k := by
  unfold rnd
  refine Int.ediv_nonneg ?_ (by omega)
  have : 0 ≤ (n.natAbs : Int) * 10 ^ k := Int.mul_nonneg (by omega) (Int.pow_nonneg (by decide))
  omega
theorem Decimal_any {n d : Int} (h : Sf n d) {k : Nat} (hk : k ≤ 9) (fq : fits (rnd n d k)) : Tl 6 #[vf n d, .int .i64 (k : Int)] (.tuple #[.string (bs (ntx (decide (n < 0) && decide (rnd n d k ≠ 0)) k (txt false (rnd n d k).natAbs))), .bool true]) := by
  have hq := rnd_pos (n := n) h.1.1 k
  have T1 := nearest_any h (k := k) (by omega)
  have ht : tz (rnd n d k) = bs (txt false (rnd n d k).natAbs) := by unfold tz; rw [decide_eq_false (by omega)]
  have hl : (txt false (rnd n d k).natAbs).length ≤ 400 := Nat.le_trans (txt_len false fq).1 (by decide)
  have T2 := pointed_any k hk _ hl
  rw [← ht] at T2
  refine Decimal_walk h (by omega) (by omega) fq (by rw [bs_size]; exact Nat.le_trans (ptx_len k hk _ hl) (by decide)) T1 T2 ?_
  by_cases h1 : n < 0
  · by_cases h2 : rnd n d k = 0
    · refine .inr ⟨.inr h2, ?_⟩
      unfold ntx
      rw [decide_eq_true h1, decide_eq_false (show ¬ rnd n d k ≠ 0 by simp [h2])]; rfl
    · refine .inl ⟨h1, h2, ?_⟩
      unfold ntx
      rw [decide_eq_true h1, decide_eq_true (show rnd n d k ≠ 0 from h2), show (⟨#[45]⟩ : ByteArray) = bs [45] from rfl, bs_append]; rfl
  · refine .inr ⟨.inl h1, ?_⟩
    unfold ntx
    rw [decide_eq_false h1]; rfl
/-- The nearest is as near as half of the last digit. -/
theorem near1 {N D v ten N' D' E De : Int} (hD : 0 < D) (hD' : 0 < D') (hDe : 0 < De) (h1 : N' * ten = v * D') (hE : E * (D * D') = (N * D' - N' * D) * De) (hv : 2 * (N * ten - v * D) ≤ D) : 2 * E * ten ≤ De := by
  have h2 : (E * D * ten) * D' = ((N * ten - v * D) * De) * D' := by
    have : (E * D * ten) * D' = (E * (D * D')) * ten := by grind
    rw [this, hE]
    have : (N * D' - N' * D) * De * ten = (N * D' * ten - (N' * ten) * D) * De := by grind
    rw [this, h1]; grind
  have h3 : E * D * ten = (N * ten - v * D) * De := Int.eq_of_mul_eq_mul_right (by omega) h2
  have h4 : 2 * E * ten * D = (2 * (N * ten - v * D)) * De := by grind
  have h5 : (2 * (N * ten - v * D)) * De ≤ D * De := Int.mul_le_mul_of_nonneg_right hv (by omega)
  have h6 : 2 * E * ten * D ≤ De * D := by rw [h4, Int.mul_comm De]; exact h5
  exact Int.le_of_mul_le_mul_right h6 hD
theorem near2 {E De Nh Dh ten : Int} (hT : 0 < ten) (hh : Nh * (2 * ten) = 1 * Dh) (hDh : 0 < Dh) (h : 2 * E * ten ≤ De) : E * Dh ≤ Nh * De := by
  have hN : 0 < Nh := by
    rcases Int.lt_or_le 0 Nh with h | h
    · exact h
    · have : Nh * (2 * ten) ≤ 0 := Int.mul_nonpos_of_nonpos_of_nonneg h (by omega)
      omega
  have e : E * Dh = (2 * E * ten) * Nh := by
    rw [← Int.one_mul Dh, ← hh]; grind
  rw [e, Int.mul_comm Nh]
  exact Int.mul_le_mul_of_nonneg_right h (by omega)
theorem rnd_near {n d : Int} (hd : 0 < d) (k : Nat) : -d ≤ 2 * ((n.natAbs : Int) * 10 ^ k - rnd n d k * d) ∧ 2 * ((n.natAbs : Int) * 10 ^ k - rnd n d k * d) ≤ d := by
  obtain ⟨A, hA⟩ : ∃ A : Int, (n.natAbs : Int) * 10 ^ k = A := ⟨_, rfl⟩
  unfold rnd
  rw [hA]
  have h1 := Int.emod_nonneg (A * 2 + d) (show d * 2 ≠ 0 by omega)
  have h2 := Int.emod_lt_of_pos (A * 2 + d) (show 0 < d * 2 by omega)
  have h3 := Int.mul_ediv_add_emod (A * 2 + d) (d * 2)
  obtain ⟨q, hq⟩ : ∃ q, (A * 2 + d) / (d * 2) = q := ⟨_, rfl⟩
  obtain ⟨r, hr⟩ : ∃ r, (A * 2 + d) % (d * 2) = r := ⟨_, rfl⟩
  rw [hq, hr] at h3
  rw [hr] at h1 h2
  rw [hq]
  have e : d * 2 * q = 2 * (q * d) := by grind
  rw [e] at h3
  omega
theorem of_small {n d N D : Int} (hd : 0 < d) (h : Rt N D) (hx : N * d = n * D) : N.natAbs ≤ n.natAbs ∧ D ≤ d := by
  obtain ⟨_, h2⟩ := rt_dvd h hx
  have hD := Int.le_of_dvd hd h2
  refine ⟨?_, hD⟩
  have e := congrArg Int.natAbs hx
  rw [Int.natAbs_mul, Int.natAbs_mul] at e
  have hD0 := h.1
  have h3 : N.natAbs * d.natAbs ≤ n.natAbs * d.natAbs := by
    rw [e]; exact Nat.mul_le_mul_left _ (by omega)
  exact Nat.le_of_mul_le_mul_right h3 (by omega)
theorem sf_small {N D : Int} (h : Rt N D) (hn : N.natAbs < 2 ^ 64) (hd : D.natAbs < 2 ^ 64) : Sf N D := ⟨h, sz_mono (j := 64) hn (by omega), sz_mono (j := 64) hd (by omega)⟩
end Go.Proofs.Ytcbhmmeobkhomaa
