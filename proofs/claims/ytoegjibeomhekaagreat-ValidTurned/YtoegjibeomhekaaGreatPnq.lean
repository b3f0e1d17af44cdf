/- Package point, told over the rational numbers. -/
import Derived.Test.YtoegjibeomhekaaGreatPnh
import Derived.Test.YtoegjibeomhekaaGreatMgo
namespace Go.Proofs.YtoegjibeomhekaaGreat
set_option linter.unusedSimpArgs false
set_option linter.unusedVariables false
open Go.RowKit
set_option maxRecDepth 100000
/-- The cells of a rational number; a point of two. -/
def fq (q : Rat) : List Value := fr q.num q.den
def vp (x y : Rat) : Value := vl (fq x ++ fq y)
theorem rc_q (q : Rat) : Rc (fq q) := rc_fr _ _
theorem vl_q (q : Rat) : vl (fq q) = vq q := rfl
/-- Both numbers have 60 bits at most. -/
def Gd (x y : Rat) : Prop := Bq 60 x ∧ Bq 60 y
theorem Isp_q {x y : Rat} (h : Gd x y) : Tl 34 #[vp x y] (.bool true) := Isp_walk (s := true) (t := true) (rc_q x) (rc_q y) (Safe_q h.1 (by omega) (Nat.le_refl _)) (Safe_q h.2 (by omega) (Nat.le_refl _))
theorem isp_cases (s : Bool) {N : Nat} (t : Bool) {M : Nat} (hN : N < bb ^ 32) (hM : M < bb ^ 32) (s' : Bool) {N' : Nat} (t' : Bool) {M' : Nat} (hN' : N' < bb ^ 32) (hM' : M' < bb ^ 32) :
    Tl 34 #[vl (rr s N t M ++ rr s' N' t' M')] (.bool false) ∨ ∃ x y, rr s N t M ++ rr s' N' t' M' = fq x ++ fq y ∧ Gd x y ∧ Tl 34 #[vp x y] (.bool true) := by
  rcases safe_q s t hN hM 60 with h | ⟨x, ex, hx, _, _, Sx⟩
  · rcases safe_q s' t' hN' hM' 60 with h' | ⟨y, ey, hy, _, _, Sy⟩
    · exact .inl (Isp_walk (s := false) (t := false) (rc_rr _ _ _ _) (rc_rr _ _ _ _) h h')
    · rw [ey]
      exact .inl (Isp_walk (s := false) (t := true) (rc_rr _ _ _ _) (rc_q y) h Sy)
  · rcases safe_q s' t' hN' hM' 60 with h' | ⟨y, ey, hy, _, _, Sy⟩
    · rw [ex]
      exact .inl (Isp_walk (s := true) (t := false) (rc_q x) (rc_rr _ _ _ _) Sx h')
    · refine .inr ⟨x, y, ?_, ⟨hx, hy⟩, Isp_q ⟨hx, hy⟩⟩
      rw [ex, ey]; rfl
/-- The order of points: by X, then Y. -/
def cp (x y u v : Rat) : Int := if cq x u = 0 then cq y v else cq x u
theorem Cmpp_q {x y u v : Rat} (h : Gd x y) (h' : Gd u v) : Tl 47 #[vp x y, vp u v] (.tuple #[.int .i64 (cp x y u v), .bool true]) := by
  have TX := Cmp_q h.1 (by omega) h'.1 (by omega)
  have TY := Cmp_q h.2 (by omega) h'.2 (by omega)
  unfold cp
  by_cases hc : cq x u = 0
  · rw [if_pos hc]
    rw [hc] at TX
    exact Cmpp_y (rc_q x) (rc_q y) (rc_q u) (rc_q v) (Isp_q h) (Isp_q h') TX TY
  · rw [if_neg hc]
    exact Cmpp_x (rc_q x) (rc_q y) (rc_q u) (rc_q v) (Isp_q h) (Isp_q h') TX hc
theorem less_q {j k : Nat} {x y : Rat} (h : Bq j x) (hj : j ≤ 500) (h' : Bq k y) (hk : k ≤ 500) : Tl 104 #[vq x, vq y] (vq (x - y)) := less_walk (rc_q x) (rc_q y) (rc_q _) (Sub_q h hj h' hk)
theorem times_q {j k : Nat} {x y : Rat} (h : Bq j x) (hj : j ≤ 500) (h' : Bq k y) (hk : k ≤ 500) : Tl 100 #[vq x, vq y] (vq (x * y)) := times_walk (rc_q x) (rc_q y) (rc_q _) (Mul_q h hj h' hk)
theorem between_q {x y u v : Rat} (h : Gd x y) (h' : Gd u v) : Tl 98 #[vp x y, vp u v] (vp (u - x) (v - y)) :=
  between_walk (rc_q x) (rc_q y) (rc_q u) (rc_q v) (rc_q _) (rc_q _) (less_q h'.1 (by omega) h.1 (by omega)) (less_q h'.2 (by omega) h.2 (by omega))
def crs (ax ay bx by' cx cy : Rat) : Rat := (bx - ax) * (cy - ay) - (by' - ay) * (cx - ax)
def dt (ax ay bx by' cx cy : Rat) : Rat := (bx - ax) * (cx - ax) + (by' - ay) * (cy - ay)
section
variable {ax ay bx by' cx cy : Rat} (ha : Gd ax ay) (hb : Gd bx by') (hc : Gd cx cy)
include ha hb hc
theorem bq_crs : Bq 485 (crs ax ay bx by' cx cy) := bq_sub (bq_mul (bq_sub hb.1 ha.1) (bq_sub hc.2 ha.2)) (bq_mul (bq_sub hb.2 ha.2) (bq_sub hc.1 ha.1))
theorem bq_dt : Bq 485 (dt ax ay bx by' cx cy) := bq_add (bq_mul (bq_sub hb.1 ha.1) (bq_sub hc.1 ha.1)) (bq_mul (bq_sub hb.2 ha.2) (bq_sub hc.2 ha.2))
theorem Cross_q : Tl 88 #[vp ax ay, vp bx by', vp cx cy] (.tuple #[vq (crs ax ay bx by' cx cy), .bool true]) :=
  Cross_walk (rc_q _) (rc_q _) (rc_q _) (rc_q _) (rc_q _) (rc_q _) (rc_q _) (rc_q _) (rc_q _) (rc_q _) (rc_q _) (rc_q _) (rc_q _) (Isp_q ha) (Isp_q hb) (Isp_q hc) (between_q ha hb) (between_q ha hc)
    (times_q (bq_sub hb.1 ha.1) (by omega) (bq_sub hc.2 ha.2) (by omega)) (times_q (bq_sub hb.2 ha.2) (by omega) (bq_sub hc.1 ha.1) (by omega))
    (Sub_q (bq_mul (bq_sub hb.1 ha.1) (bq_sub hc.2 ha.2)) (by omega) (bq_mul (bq_sub hb.2 ha.2) (bq_sub hc.1 ha.1)) (by omega))
theorem Turn_q : Tl 77 #[vp ax ay, vp bx by', vp cx cy] (.tuple #[.int .i64 (cq (crs ax ay bx by' cx cy) 0), .bool true]) :=
  Turn_walk (rc_q _) (rc_q _) (rc_q _) (rc_q _) (rc_q _) (rc_q _) (rc_q _) (Cross_q ha hb hc) (Sign_q (bq_crs ha hb hc) (by omega))
end
theorem pwhole_q {n : Int} (hn : -9223372036854775808 ≤ n ∧ n ≤ 9223372036854775807) : Tl 32 #[.int .i64 n] (vq (n : Rat)) := by
  have := Of_q (n := n) (d := 1) hn (by decide) (by decide)
  rw [divInt_one] at this
  exact pwhole_walk (rc_q _) hn this
theorem At_q {n m : Int} (hn : -9223372036854775808 ≤ n ∧ n ≤ 9223372036854775807) (hm : -9223372036854775808 ≤ m ∧ m ≤ 9223372036854775807) : Tl 19 #[.int .i64 n, .int .i64 m] (vp (n : Rat) (m : Rat)) :=
  At_walk (rc_q _) (rc_q _) (pwhole_q hn) (pwhole_q hm)
/-- All together. -/
def sumq (q : Nat → Rat) : Nat → Rat
  | 0 => 0
  | k + 1 => sumq q k + q k
theorem bq_sumq {q : Nat → Rat} : ∀ (n : Nat), (∀ k, k < n → Bq 60 (q k)) → Bq (1 + 61 * n) (sumq q n)
  | 0, _ => ⟨by show (0 : Int).natAbs < 2 ^ 1; decide, by show (1 : Int).natAbs < 2 ^ 1; decide⟩
  | k + 1, h => by
    have := bq_add (bq_sumq k fun j hj => h j (by omega)) (h k (by omega))
    exact bq_mono this (by omega)
theorem cat_range {w : World} {base n : Nat} {v : Value} {q : Nat → Rat} (hn : 0 < n) (h : w.ownsRow base 45 66 v n (cat (fun k => fq (q k)) n)) :
    ∃ g c, v = .slice (some ⟨g, 0, none⟩) n c ∧ g < w.heap.size ∧ ∀ k, k < n → w.rangeAt g (0 + k * 66) (fq (q k)) := by
  have hl : ∀ m, (cat (fun k => fq (q k)) m).length = m * 66 := fun m => by
    induction m with
    | zero => rfl
    | succ m ih => show (cat _ m ++ fq (q m)).length = _; rw [List.length_append, ih, (rc_q _).len]; omega
  have hcat : ∀ m k j v, k < m → (fq (q k))[j]? = some v → (cat (fun k => fq (q k)) m)[k * 66 + j]? = some v := fun m => by
    induction m with
    | zero => intro k j v hk; omega
    | succ m ih =>
      intro k j v hk hv
      have hj := (List.getElem?_eq_some_iff.1 hv).1
      rw [(rc_q _).len] at hj
      show (cat _ m ++ fq (q m))[k * 66 + j]? = some v
      by_cases h : k < m
      · rw [List.getElem?_append_left (by rw [hl]; have := Nat.mul_le_mul_right 66 (show k + 1 ≤ m from h); omega)]
        exact ih k j v h hv
      · obtain rfl : k = m := by omega
        rw [List.getElem?_append_right (by rw [hl]; omega), hl, Nat.add_sub_cancel_left]; exact hv
  rcases h.2 with ⟨_, rfl⟩ | ⟨g, cap, cur, rfl, hb, hg, _⟩
  · omega
  · refine ⟨g, cap, rfl, (Array.getElem?_eq_some_iff.1 hg).1, fun k hk j v hv => ?_⟩
    have := h.cells (g := g) rfl _ _ (hcat n k j v hk hv)
    rw [Nat.zero_add]
    rwa [show (⟨g, 0, none⟩ : Addr).add (k * 66 + j) = ⟨g, k * 66 + j, none⟩ by simp [Addr.add]; intro h h'; simp [h, h']] at this
end Go.Proofs.YtoegjibeomhekaaGreat
