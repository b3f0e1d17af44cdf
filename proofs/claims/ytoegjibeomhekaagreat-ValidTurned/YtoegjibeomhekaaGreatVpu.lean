/- Joined of: Vmm Vpu. -/
import Derived.Test.YtoegjibeomhekaaGreatLnh
import Derived.Deep.RegionWith
import Derived.Laws.OwnMore
import Derived.OwnWalk
import Derived.Laws.AppendOwn
/- Package valid: what is read of a drawing. -/
namespace Go.Proofs.YtoegjibeomhekaaGreat
set_option linter.unusedSimpArgs false
set_option linter.unusedVariables false
open Go.RowKit
set_option maxRecDepth 100000
abbrev I3 := Int × Int × Int
theorem vcell {w w' : World} (hb : Below w.heap.size w w') {p : Addr} {v : Value} (h : w.cell? p = some v) : w'.cell? p = some v :=
  (hb.cell (World.block_lt_of_cell? w p h)).trans h
/-- The slice v reads as these threes of numbers, wherever it begins. -/
def RdT (w : World) (v : Value) (xs : List I3) : Prop := (xs = [] ∧ ∃ a c, v = .slice a 0 c) ∨ ∃ g o c, v = .slice (some ⟨g, o, none⟩) xs.length c ∧ xs.length ≤ c ∧ ∀ (i : Nat) p, xs[i]? = some p → w.cell? ⟨g, o + i * 3, none⟩ = some (.int .i64 p.1) ∧ w.cell? ⟨g, o + i * 3 + 1, none⟩ = some (.int .i64 p.2.1) ∧ w.cell? ⟨g, o + i * 3 + 2, none⟩ = some (.int .i64 p.2.2)
theorem RdT.shape {w : World} {v : Value} {xs : List I3} (h : RdT w v xs) : ∃ a c, v = .slice a xs.length c := by
  rcases h with ⟨rfl, a, c, rfl⟩ | ⟨g, o, c, rfl, _⟩
  · exact ⟨_, _, rfl⟩
  · exact ⟨_, _, rfl⟩
theorem RdT.at {w : World} {a : Option Addr} {c : Nat} {xs : List I3} (h : RdT w (.slice a xs.length c) xs) {i : Nat} {p : I3} (hi : xs[i]? = some p) : ∃ g o, a = some ⟨g, o, none⟩ ∧ xs.length ≤ c ∧ w.cell? ⟨g, o + i * 3, none⟩ = some (.int .i64 p.1) ∧ w.cell? ⟨g, o + i * 3 + 1, none⟩ = some (.int .i64 p.2.1) ∧ w.cell? ⟨g, o + i * 3 + 2, none⟩ = some (.int .i64 p.2.2) := by
  rcases h with ⟨rfl, _⟩ | ⟨g, o, c', e, hc', hc⟩
  · simp at hi
  · injection e with e1 _ e3
    subst e3
    exact ⟨g, o, e1, hc', hc i p hi⟩
theorem RdT.below {w w' : World} {v : Value} {xs : List I3} (h : RdT w v xs) (hb : Below w.heap.size w w') : RdT w' v xs :=
  h.imp id fun ⟨g, o, c, e, hc, hh⟩ => ⟨g, o, c, e, hc, fun i p hi => let ⟨h1, h2, h3⟩ := hh i p hi; ⟨vcell hb h1, vcell hb h2, vcell hb h3⟩⟩
theorem RdT.lit {w : World} {g : Nat} {t : TypeId} {xs : List I3} (h : Blk w g (xs.flatMap fun p => [.int .i64 p.1, .int .i64 p.2.1, .int .i64 p.2.2]) t) : RdT w (.slice (some ⟨g, 0, none⟩) xs.length xs.length) xs := by
  refine .inr ⟨g, 0, xs.length, rfl, Nat.le_refl _, fun i p hi => ?_⟩
  have key : ∀ j v, ([.int .i64 p.1, .int .i64 p.2.1, .int .i64 p.2.2] : List Value)[j]? = some v → w.cell? ⟨g, i * 3 + j, none⟩ = some v := fun j v hj => by
    apply h.cell
    have := flat_get 3 (xs.map fun p => [Value.int .i64 p.1, .int .i64 p.2.1, .int .i64 p.2.2]) i _ j v (fun P hP => by obtain ⟨q, _, rfl⟩ := List.mem_map.1 hP; rfl) (by rw [List.getElem?_map, hi]; rfl) hj
    rwa [← List.flatMap_def] at this
  rw [Nat.zero_add]
  exact ⟨key 0 _ rfl, key 1 _ rfl, key 2 _ rfl⟩
/-- A hole's point: its cells, and what it is, if it is any. -/
abbrev Hp := List Value × Option (Rat × Rat)
def HpOk (p : Hp) : Prop := ∃ A B, p.1 = A ++ B ∧ Rc A ∧ Rc B ∧ ((∃ x y, p.2 = some (x, y) ∧ A = fq x ∧ B = fq y ∧ Gd x y ∧ Tl 34 #[vl (A ++ B)] (.bool true)) ∨ (p.2 = none ∧ Tl 34 #[vl (A ++ B)] (.bool false)))
/-- The slice v reads as these points, wherever it begins. -/
def RdP (w : World) (v : Value) (H : List Hp) : Prop := (H = [] ∧ ∃ a c, v = .slice a 0 c) ∨ ∃ g o c, v = .slice (some ⟨g, o, none⟩) H.length c ∧ H.length ≤ c ∧ g < w.heap.size ∧ ∀ (i : Nat) p, H[i]? = some p → w.rangeAt g (o + i * 132) p.1
theorem RdP.shape {w : World} {v : Value} {H : List Hp} (h : RdP w v H) : ∃ a c, v = .slice a H.length c := by
  rcases h with ⟨rfl, a, c, rfl⟩ | ⟨g, o, c, rfl, _⟩
  · exact ⟨_, _, rfl⟩
  · exact ⟨_, _, rfl⟩
theorem RdP.at {w : World} {a : Option Addr} {c : Nat} {H : List Hp} (h : RdP w (.slice a H.length c) H) {i : Nat} {p : Hp} (hi : H[i]? = some p) : ∃ g o, a = some ⟨g, o, none⟩ ∧ H.length ≤ c ∧ w.rangeAt g (o + i * 132) p.1 := by
  rcases h with ⟨rfl, _⟩ | ⟨g, o, c', e, hc', _, hc⟩
  · simp at hi
  · injection e with e1 _ e3
    subst e3
    exact ⟨g, o, e1, hc', hc i p hi⟩
theorem RdP.below {w w' : World} {v : Value} {H : List Hp} (h : RdP w v H) (hb : Below w.heap.size w w') : RdP w' v H :=
  h.imp id fun ⟨g, o, c, e, hc, hg, hh⟩ => ⟨g, o, c, e, hc, Nat.lt_of_lt_of_le hg hb.size, fun i p hi => rng_b (hh i p hi) hg hb⟩
/-- The three slices of a drawing. -/
structure RdV (w : World) (va : Option Addr) (vc : Nat) (sa : Option Addr) (sc : Nat) (ha : Option Addr) (hc : Nat) (V S : List I3) (H : List Hp) : Prop where
  v : RdT w (.slice va V.length vc) V
  s : RdT w (.slice sa S.length sc) S
  h : RdP w (.slice ha H.length hc) H
theorem RdV.below {w w' : World} {va : Option Addr} {vc : Nat} {sa : Option Addr} {sc : Nat} {ha : Option Addr} {hc : Nat} {V S : List I3} {H : List Hp} (h : RdV w va vc sa sc ha hc V S H) (hb : Below w.heap.size w w') : RdV w' va vc sa sc ha hc V S H :=
  ⟨h.v.below hb, h.s.below hb, h.h.below hb⟩
/-- The world behind the making of a row of cells. -/
theorem bnew (w : World) (o : Obj) : Below w.heap.size w (w.alloc o) := (Below.refl _ _).alloc (Nat.le_refl _) _
/-- Numbers that lie between two. -/
def vin (lo hi n : Int) : Bool := decide (lo ≤ n) && decide (n ≤ hi)
theorem vin_iff (lo hi n : Int) : vin lo hi n = true ↔ lo ≤ n ∧ n ≤ hi := by unfold vin; simp
theorem vin_no {lo hi n : Int} (h : vin lo hi n = false) : n < lo ∨ (¬ n < lo ∧ hi < n) := by
  unfold vin at h
  simp only [Bool.and_eq_false_iff, decide_eq_false_iff_not] at h
  omega
set_option maxHeartbeats 2000000 in
theorem vamong (lo hi : Int) (xs : List Int) (g o c : Nat) (w : World) (hl : xs.length ≤ 1000) (hc : ∀ (i : Nat) x, xs[i]? = some x → w.cell? ⟨g, o + i, none⟩ = some (.int .i64 x)) :
    Calls Tryz.prog 25 #[.int .i64 lo, .int .i64 hi, .slice (some ⟨g, o, none⟩) xs.length c] w fun e w' => e = .returned (.bool (xs.all (vin lo hi))) ∧ w' = w := by
  have HC := Lib.hid hc
  clear hc
  go_enter Tryz.func25, Tryz.ntmps25
  go_wp2_with fail
  go_loop [11] (fun j => ∃ i : Nat, i ≤ xs.length ∧ j = .int .i64 (i : Int) ∧ (xs.take i).all (vin lo hi) = true) (fun j => xs.length - (intOf j).toNat)
  case atStart => exact ⟨0, Nat.zero_le _, rfl, rfl⟩
  case round =>
    obtain ⟨i, hi', rfl, ha⟩ := hrel
    by_cases hlt : i < xs.length
    · obtain ⟨x, hx⟩ : ∃ x, xs[i]? = some x := ⟨_, List.getElem?_eq_getElem hlt⟩
      have c1 := HC.out i x hx
      have HX := Lib.hid hx
      have HA := Lib.hid ha
      clear hx ha
      cases hin : vin lo hi x
      · have hno : Hid (xs.all (vin lo hi) = false) := by
          show _ = _
          rw [List.all_eq_false]
          exact ⟨x, List.mem_of_getElem? HX.out, by rw [hin]; simp⟩
        rcases vin_no hin with h | ⟨h', h⟩
        · clear hin
          go_wp2
          go_ret
          exact ⟨by first | rfl | (rw [hno.out]; rfl), rfl⟩
        · clear hin
          go_wp2
          go_ret
          exact ⟨by first | rfl | (rw [hno.out]; rfl), rfl⟩
      · have hin2 := (vin_iff _ _ _).1 hin
        have h1 : ¬ x < lo := by omega
        have h2 : ¬ hi < x := by omega
        have HIN := Lib.hid hin
        clear hin hin2
        go_wp2_with fail
        go_round
        case rel => exact ⟨i + 1, by omega, by go_num, by rw [List.take_add_one, HX.out]; simp [HA.out, HIN.out]⟩
        case measure => simp [intOf]; omega
    · obtain rfl : i = xs.length := by omega
      rw [List.take_length] at ha
      go_wp2
      go_ret
      exact ⟨by first | rfl | (rw [ha]; rfl), rfl⟩
theorem vamong1 (lo hi x : Int) (g : Nat) (w : World) (h : w.cell? ⟨g, 0, none⟩ = some (.int .i64 x)) : Calls Tryz.prog 25 #[.int .i64 lo, .int .i64 hi, .slice (some ⟨g, 0, none⟩) 1 1] w fun e w' => e = .returned (.bool (vin lo hi x)) ∧ w' = w := by
  have := vamong lo hi [x] g 0 1 w (by simp) (by intro i y hy; match i, hy with | 0, hy => (simp at hy; subst hy; exact h) | n + 1, hy => simp at hy)
  simpa using this
theorem vamong2 (lo hi x y : Int) (g : Nat) (w : World) (h : w.cell? ⟨g, 0, none⟩ = some (.int .i64 x)) (k : w.cell? ⟨g, 1, none⟩ = some (.int .i64 y)) : Calls Tryz.prog 25 #[.int .i64 lo, .int .i64 hi, .slice (some ⟨g, 0, none⟩) 2 2] w fun e w' => e = .returned (.bool (vin lo hi x && vin lo hi y)) ∧ w' = w := by
  have := vamong lo hi [x, y] g 0 2 w (by simp) (by intro i z hz; match i, hz with | 0, hz => (simp at hz; subst hz; exact h) | 1, hz => (simp at hz; subst hz; exact k) | n + 2, hz => simp at hz)
  simpa using this
/-- In the world where these numbers have just been laid. -/
theorem vam1n (lo hi x : Int) (w : World) : Calls Tryz.prog 25 #[.int .i64 lo, .int .i64 hi, .slice (some ⟨w.heap.size, 0, none⟩) 1 1] (w.alloc (.cells #[.int .i64 x] 3)) fun e w' => e = .returned (.bool (vin lo hi x)) ∧ w' = w.alloc (.cells #[.int .i64 x] 3) :=
  vamong1 lo hi x _ _ ((Blk.new w [.int .i64 x] 3 rfl).cell rfl)
theorem vam2n (lo hi x y : Int) (w : World) : Calls Tryz.prog 25 #[.int .i64 lo, .int .i64 hi, .slice (some ⟨w.heap.size, 0, none⟩) 2 2] (w.alloc (.cells #[.int .i64 x, .int .i64 y] 3)) fun e w' => e = .returned (.bool (vin lo hi x && vin lo hi y)) ∧ w' = w.alloc (.cells #[.int .i64 x, .int .i64 y] 3) :=
  vamong2 lo hi x y _ _ ((Blk.new w [.int .i64 x, .int .i64 y] 3 rfl).cell rfl) ((Blk.new w [.int .i64 x, .int .i64 y] 3 rfl).cell rfl)
end Go.Proofs.YtoegjibeomhekaaGreat

/- Package valid, as functions. -/
namespace Go.Proofs.YtoegjibeomhekaaGreat
set_option linter.unusedSimpArgs false
set_option linter.unusedVariables false
open Go.RowKit
set_option maxRecDepth 100000
def vMark (p : I3) : Bool := vin 0 1000000 p.2.2
def vEnd (n : Int) (p : I3) : Bool := (vin 0 (n - 1) p.1 && vin 0 (n - 1) p.2.1) && (!decide (p.1 = p.2.1) && vin 0 1000000 p.2.2)
def vCntd (V S : List I3) (H : List Hp) : Bool := vin 1 16 V.length && (decide (S.length ≤ 16) && decide (H.length ≤ 4))
def vNum (V S : List I3) : Bool := V.all vMark && S.all (vEnd V.length)
def vForm (V S : List I3) (H : List Hp) : Bool := vCntd V S H && (vNum V S && !(H.any fun p => !p.2.isSome))
def vIn (p : I3) : Bool := vin 0 64 p.1 && vin 0 64 p.2.1
def vBnd (V : List I3) : Bool := V.all vIn
/-- Whether one of a row stands so to one ahead of it. -/
def earlier {α : Type} (r : α → α → Bool) (d : α) (l : List α) (i : Nat) : Bool := (l.take i).any (r (l.getD i d))
def vSame (p q : I3) : Bool := decide (p.1 = q.1) && decide (p.2.1 = q.2.1)
def i30 : I3 := (0, 0, 0)
def vTwin (V : List I3) : Bool := (List.range V.length).any (earlier vSame i30 V)
/-- How often a vertex is an end. -/
def vCnt (S : List I3) (j : Nat) : Nat := S.countP (fun p => decide (p.1 = (j : Int))) + S.countP (fun p => decide (p.2.1 = (j : Int)))
def vLoop (V S : List I3) : Bool := (List.range V.length).all fun j => vCnt S j == 2
/-- A segment, with where its ends are. -/
abbrev Sd := I3 × I3 × I3
def sdOf (V : List I3) (p : I3) : Sd := (p, V.getD p.1.toNat i30, V.getD p.2.1.toNat i30)
def sd0 : Sd := (i30, i30, i30)
def tnI (f t v : I3) : Int := (t.1 - f.1) * (v.2.1 - f.2.1) - (t.2.1 - f.2.1) * (v.1 - f.1)
def vJoin (s t : Sd) : Bool := decide (s.1.1 = t.1.1) || (decide (s.1.1 = t.1.2.1) || (decide (s.1.2.1 = t.1.1) || decide (s.1.2.1 = t.1.2.1)))
def vLvs (s t : Sd) : Bool := if vJoin s t then decide (tnI s.2.1 s.2.2 t.2.1 ≠ tnI s.2.1 s.2.2 t.2.2) else (decide (0 < tnI s.2.1 s.2.2 t.2.1) && decide (0 < tnI s.2.1 s.2.2 t.2.2)) || (decide (tnI s.2.1 s.2.2 t.2.1 < 0) && decide (tnI s.2.1 s.2.2 t.2.2 < 0))
def vMq (s t : Sd) : Int := mq (s.2.1.1 : Rat) (s.2.1.2.1 : Rat) (s.2.2.1 : Rat) (s.2.2.2.1 : Rat) (t.2.1.1 : Rat) (t.2.1.2.1 : Rat) (t.2.2.1 : Rat) (t.2.2.2.1 : Rat)
def vMay (s t : Sd) : Int := if vJoin s t then 1 else 0
def vXng (s t : Sd) : Bool := !(vLvs s t || vLvs t s) && !decide (vMq s t = vMay s t)
def vCrs (V S : List I3) : Bool := (List.range S.length).any (earlier vXng sd0 (S.map (sdOf V)))
def vWth (p : Hp) : Bool := match p.2 with
  | some (x, y) => (decide (0 < x) && decide (x < 64)) && (decide (0 < y) && decide (y < 64))
  | none => false
def vOn (s : Sd) (p : Hp) : Bool := match p.2 with
  | some (x, y) => onq (s.2.1.1 : Rat) (s.2.1.2.1 : Rat) (s.2.2.1 : Rat) (s.2.2.2.1 : Rat) x y
  | none => false
def vFree (V S : List I3) (H : List Hp) : Bool := H.all vWth && S.all fun p => !(H.any (vOn (sdOf V p)))
def chk (V S : List I3) (H : List Hp) : Int :=
  if vForm V S H = false then 10 else if vBnd V = false then 13 else if vTwin V then 14 else if vLoop V S = false then 15 else if vCrs V S then 16 else if vFree V S H = false then 17 else 0
theorem all_take {α : Type} {f : α → Bool} {l : List α} {i : Nat} {x : α} (hx : l[i]? = some x) (h : (l.take i).all f = true) (hf : f x = true) : (l.take (i + 1)).all f = true := by
  rw [List.take_add_one, hx, List.all_append, h]
  simp [hf]
theorem all_no {α : Type} {f : α → Bool} {l : List α} {i : Nat} {x : α} (hx : l[i]? = some x) (hf : f x = false) : l.all f = false := by
  rw [List.all_eq_false]
  exact ⟨x, List.mem_of_getElem? hx, by rw [hf]; simp⟩
theorem any_take {α : Type} {f : α → Bool} {l : List α} {i : Nat} {x : α} (hx : l[i]? = some x) (h : (l.take i).any f = false) (hf : f x = false) : (l.take (i + 1)).any f = false := by
  rw [List.take_add_one, hx, List.any_append, h]
  simp [hf]
theorem any_yes {α : Type} {f : α → Bool} {l : List α} {i : Nat} {x : α} (hx : l[i]? = some x) (hf : f x = true) : l.any f = true := by
  rw [List.any_eq_true]
  exact ⟨x, List.mem_of_getElem? hx, hf⟩
theorem range_snoc {f : Nat → Bool} {i : Nat} (h : (List.range i).any f = false) (hf : f i = false) : (List.range (i + 1)).any f = false := by
  rw [List.range_succ, List.any_append, h]
  simp [hf]
theorem range_yes {f : Nat → Bool} {n i : Nat} (hi : i < n) (hf : f i = true) : (List.range n).any f = true := by
  rw [List.any_eq_true]
  exact ⟨i, List.mem_range.2 hi, hf⟩
theorem getD_some {α : Type} {l : List α} {i : Nat} {x d : α} (h : l[i]? = some x) : l.getD i d = x := by rw [List.getD_eq_getElem?_getD, h]; rfl
end Go.Proofs.YtoegjibeomhekaaGreat
