/- known: the examples that each statement of the layer asks first. -/
import Derived.Test.YtpalfmgloddhcaaGreatDoorYsa
import Derived.Test.YtpalfmgloddhcaaGreatDoorYpe
import Derived.Test.YtpalfmgloddhcaaGreatDoorYwp
namespace Go.Proofs.YtpalfmgloddhcaaGreatDoor
set_option linter.unusedSimpArgs false
set_option linter.unusedVariables false
open Go.RowKit
set_option maxRecDepth 100000
/-- Words without a mark between two numbers; one half. -/
abbrev P1 (u : List UInt8) : Prop := (u.length ≤ 300 ∧ (47 : UInt8) ∉ u) ∨ u = [49, 47, 50]
def fq1 (u : List UInt8) : Int × Int := if u = [49, 47, 50] then (1, 2) else (wv u, if wok u then 1 else 0)
def ok1 (u : List UInt8) : Bool := u == [49, 47, 50] || wok u
theorem pq1 : Pq fq1 ok1 P1 := by
  intro u hu w
  by_cases h : u = [49, 47, 50]
  · subst h
    have C := fun w => scut_at (l := [49]) [50] (by decide) (by decide) w
    have p1 : wv [49] = 1 := by decide
    have p2 : wv [50] = 2 := by decide
    have o1 : wok [49] = true := by decide
    have o2 : wok [50] = true := by decide
    have W1 := wparse [49] (by decide)
    have W2 := wparse [50] (by decide)
    rw [p1, o1] at W1
    rw [p2, o2] at W2
    exact Parse_walk (n := 1) (d := 2) (by unfold fits; decide) (by unfold fits; decide) ⟨by decide, by unfold Cop; decide⟩ (by decide) C W1 W2 w
  · rcases hu with ⟨hl, hn⟩ | hu
    · have C := fun w => scut_no hn w
      have W := wparse u hl
      have e2 : ok1 u = wok u := by
        unfold ok1
        rw [beq_eq_false_iff_ne.2 h]; rfl
      have e1 : fq1 u = (wv u, if wok u then 1 else 0) := by unfold fq1; rw [if_neg h]
      rw [e2, e1]
      cases hk : wok u
      · rw [hk] at W
        have e3 : wv u = 0 := by unfold wv; rw [hk]; rfl
        rw [e3]
        exact Parse_above C W w
      · rw [hk] at W
        exact Parse_plain C W w
    · exact absurd hu h
def kT1 : List UInt8 := [51, 32, 50, 32, 48, 32, 49, 10, 48, 32, 48, 32, 48, 32, 53, 10, 49, 32, 52, 32, 48, 32, 54, 10, 50, 32, 48, 32, 52, 32, 55, 10, 51, 32, 48, 10, 49, 32, 48, 32, 49, 10, 50, 32, 49, 32, 50, 10, 51, 32, 50, 32, 48, 10, 49, 10, 49, 32, 49, 47, 50, 32, 49, 10]
def kT3 : List UInt8 := [48, 32, 50, 32, 48, 32, 48, 10, 48, 32, 48, 10, 48, 32, 49, 10]
def kD : Dr := ⟨[(0, 0, 5), (4, 0, 6), (0, 4, 7)], [(0, 1, 0), (1, 2, 0), (2, 0, 0)], [((1, 2), (1, 1))]⟩
theorem kp1 : prs fq1 ok1 kT1 = (kD, 0) := by kernel_rfl
theorem kp2 : (prs fq1 ok1 []).2 = 1 := by kernel_rfl
theorem kp3 : (prs fq1 ok1 kT3).2 = 3 := by kernel_rfl
theorem kw1 : ∀ p ∈ lns 1 kT1, ∀ u ∈ p.2, P1 u := by decide
theorem kw3 : ∀ p ∈ lns 1 kT3, ∀ u ∈ p.2, P1 u := by decide
theorem kdok : Dok kD := ⟨by decide, by decide, by decide, fun p hp => by
  simp only [kD, List.mem_cons, List.not_mem_nil, or_false] at hp
  subst hp
  exact ⟨by unfold fits; decide, by unfold fits; decide, by unfold fits; decide, by unfold fits; decide⟩⟩
set_option maxHeartbeats 16000000 in
theorem known7_any (w : World) : Calls Tryz.prog 6 #[] w fun e w' => e = .returned (.bool true) ∧ Below w.heap.size w w' := by
  have H1 := Lib.hid fun w => Parse_any pq1 kT1 w (by decide) (.inl (by decide)) kw1
  have H2 := Lib.hid fun w => Parse_any pq1 [] w (by decide) (.inl (by decide)) (by decide)
  have H3 := Lib.hid fun w => Parse_any pq1 kT3 w (by decide) (.inl (by decide)) kw3
  rw [kp1] at H1
  rw [kp2] at H2
  rw [kp3] at H3
  go_enter Tryz.func6, Tryz.ntmps6
  go_wp2_with fail
  refine (H1.out _).mono ?_
  rintro e w1 ⟨v, s, t, rfl, hD, hb⟩
  obtain ⟨va, vc, sa, sc, ta, tc, rfl, rfl, rfl⟩ := hD.shape
  have f := Blk.new w1 (c3v (.slice none 0 0) (.slice none 0 0) (.slice none 0 0)) 26 rfl
  have B1 := f.row (c3v (.slice va 3 vc) (.slice sa 3 sc) (.slice ta 1 tc))
  have hD1 := Lib.hid ((hD.call ((Below.refl _ _).alloc (Nat.le_refl _) (.cells (c3v (.slice none 0 0) (.slice none 0 0) (.slice none 0 0)).toArray 26))).row f (c3v (.slice va 3 vc) (.slice sa 3 sc) (.slice ta 1 tc)).toArray)
  have hbz := hb.size
  replace hb := below_row (hb.alloc hbz (.cells (c3v (.slice none 0 0) (.slice none 0 0) (.slice none 0 0)).toArray 26)) (g := w1.heap.size) hbz (c3v (.slice va 3 vc) (.slice sa 3 sc) (.slice ta 1 tc)).toArray
  go_wp2_with (first | (with_reducible refine al_blk rfl rfl zeroD ?_) | (with_reducible refine st_blk (vs := c3v (.slice va 3 vc) (.slice sa 3 sc) (.slice ta 1 tc)) rfl rfl rfl rfl f rfl (by kernel_rfl) (c3v_one _ _ _ _ _ _ _ _ _) ?_))
  clear f hD hbz
  generalize (w1.alloc (.cells (c3v (.slice none 0 0) (.slice none 0 0) (.slice none 0 0)).toArray 26)).setRow w1.heap.size (c3v (.slice va 3 vc) (.slice sa 3 sc) (.slice ta 1 tc)).toArray = W at *
  generalize w1.heap.size = p1 at *
  replace hD1 := Lib.hid hD1.out.rd
  refine (H2.out _).mono ?_
  rintro e w2 ⟨v, s, t, rfl, hD, h1⟩
  obtain ⟨va2, vc2, sa2, sc2, ta2, tc2, rfl, rfl, rfl⟩ := hD.shape
  clear hD
  generalize (prs fq1 ok1 []).1.V.length = vn2 at *
  generalize (prs fq1 ok1 []).1.S.length = sn2 at *
  generalize (prs fq1 ok1 []).1.H.length = tn2 at *
  replace B1 := B1.call h1
  replace hD1 := Lib.hid (hD1.out.below h1)
  replace hb := bthen hb h1
  clear h1
  have f := Blk.new w2 (c3v (.slice none 0 0) (.slice none 0 0) (.slice none 0 0)) 26 rfl
  have lb := B1.lt
  have hbz := hb.size
  replace B1 := (B1.old (.cells (c3v (.slice none 0 0) (.slice none 0 0) (.slice none 0 0)).toArray 26)).rowOther (g := w2.heap.size) (c3v (.slice va2 vn2 vc2) (.slice sa2 sn2 sc2) (.slice ta2 tn2 tc2)).toArray (by omega)
  replace hD1 := Lib.hid (hD1.out.below (below_row ((Below.refl _ _).alloc (Nat.le_refl _) (.cells (c3v (.slice none 0 0) (.slice none 0 0) (.slice none 0 0)).toArray 26)) (g := w2.heap.size) (Nat.le_refl _) (c3v (.slice va2 vn2 vc2) (.slice sa2 sn2 sc2) (.slice ta2 tn2 tc2)).toArray))
  replace hb := below_row (hb.alloc hbz (.cells (c3v (.slice none 0 0) (.slice none 0 0) (.slice none 0 0)).toArray 26)) (g := w2.heap.size) hbz (c3v (.slice va2 vn2 vc2) (.slice sa2 sn2 sc2) (.slice ta2 tn2 tc2)).toArray
  go_wp2_with (first | (with_reducible refine al_blk rfl rfl zeroD ?_) | (with_reducible refine st_blk (vs := c3v (.slice va2 vn2 vc2) (.slice sa2 sn2 sc2) (.slice ta2 tn2 tc2)) rfl rfl rfl rfl f rfl (by kernel_rfl) (c3v_one _ _ _ _ _ _ _ _ _) ?_))
  clear f lb hbz
  generalize (w2.alloc (.cells (c3v (.slice none 0 0) (.slice none 0 0) (.slice none 0 0)).toArray 26)).setRow w2.heap.size (c3v (.slice va2 vn2 vc2) (.slice sa2 sn2 sc2) (.slice ta2 tn2 tc2)).toArray = W2 at *
  generalize w2.heap.size = p2 at *
  refine (H3.out _).mono ?_
  rintro e w2 ⟨v, s, t, rfl, hD, h1⟩
  obtain ⟨va3, vc3, sa3, sc3, ta3, tc3, rfl, rfl, rfl⟩ := hD.shape
  clear hD
  generalize (prs fq1 ok1 kT3).1.V.length = vn3 at *
  generalize (prs fq1 ok1 kT3).1.S.length = sn3 at *
  generalize (prs fq1 ok1 kT3).1.H.length = tn3 at *
  replace B1 := B1.call h1
  replace hD1 := Lib.hid (hD1.out.below h1)
  replace hb := bthen hb h1
  clear h1
  have f := Blk.new w2 (c3v (.slice none 0 0) (.slice none 0 0) (.slice none 0 0)) 26 rfl
  have lb := B1.lt
  have hbz := hb.size
  replace B1 := (B1.old (.cells (c3v (.slice none 0 0) (.slice none 0 0) (.slice none 0 0)).toArray 26)).rowOther (g := w2.heap.size) (c3v (.slice va3 vn3 vc3) (.slice sa3 sn3 sc3) (.slice ta3 tn3 tc3)).toArray (by omega)
  replace hD1 := Lib.hid (hD1.out.below (below_row ((Below.refl _ _).alloc (Nat.le_refl _) (.cells (c3v (.slice none 0 0) (.slice none 0 0) (.slice none 0 0)).toArray 26)) (g := w2.heap.size) (Nat.le_refl _) (c3v (.slice va3 vn3 vc3) (.slice sa3 sn3 sc3) (.slice ta3 tn3 tc3)).toArray))
  replace hb := below_row (hb.alloc hbz (.cells (c3v (.slice none 0 0) (.slice none 0 0) (.slice none 0 0)).toArray 26)) (g := w2.heap.size) hbz (c3v (.slice va3 vn3 vc3) (.slice sa3 sn3 sc3) (.slice ta3 tn3 tc3)).toArray
  have hv := hD1.out.V
  have hs := hD1.out.S
  obtain ⟨gv, rfl, v6, v7, v8⟩ : ∃ g, va = some ⟨g, 0, none⟩ ∧ ((w2.alloc (.cells (c3v (.slice none 0 0) (.slice none 0 0) (.slice none 0 0)).toArray 26)).setRow w2.heap.size (c3v (.slice va3 vn3 vc3) (.slice sa3 sn3 sc3) (.slice ta3 tn3 tc3)).toArray).cell? ⟨g, 6, none⟩ = some (.int .i64 0) ∧ ((w2.alloc (.cells (c3v (.slice none 0 0) (.slice none 0 0) (.slice none 0 0)).toArray 26)).setRow w2.heap.size (c3v (.slice va3 vn3 vc3) (.slice sa3 sn3 sc3) (.slice ta3 tn3 tc3)).toArray).cell? ⟨g, 7, none⟩ = some (.int .i64 4) ∧ ((w2.alloc (.cells (c3v (.slice none 0 0) (.slice none 0 0) (.slice none 0 0)).toArray 26)).setRow w2.heap.size (c3v (.slice va3 vn3 vc3) (.slice sa3 sn3 sc3) (.slice ta3 tn3 tc3)).toArray).cell? ⟨g, 8, none⟩ = some (.int .i64 7) := by
    rcases hv with ⟨h, _⟩ | ⟨g, c, e, _, hc⟩
    · cases h
    · exact ⟨g, by injection e, hc 2 _ rfl⟩
  obtain ⟨gs, rfl, s6, s7, s8⟩ : ∃ g, sa = some ⟨g, 0, none⟩ ∧ ((w2.alloc (.cells (c3v (.slice none 0 0) (.slice none 0 0) (.slice none 0 0)).toArray 26)).setRow w2.heap.size (c3v (.slice va3 vn3 vc3) (.slice sa3 sn3 sc3) (.slice ta3 tn3 tc3)).toArray).cell? ⟨g, 6, none⟩ = some (.int .i64 2) ∧ ((w2.alloc (.cells (c3v (.slice none 0 0) (.slice none 0 0) (.slice none 0 0)).toArray 26)).setRow w2.heap.size (c3v (.slice va3 vn3 vc3) (.slice sa3 sn3 sc3) (.slice ta3 tn3 tc3)).toArray).cell? ⟨g, 7, none⟩ = some (.int .i64 0) ∧ ((w2.alloc (.cells (c3v (.slice none 0 0) (.slice none 0 0) (.slice none 0 0)).toArray 26)).setRow w2.heap.size (c3v (.slice va3 vn3 vc3) (.slice sa3 sn3 sc3) (.slice ta3 tn3 tc3)).toArray).cell? ⟨g, 8, none⟩ = some (.int .i64 0) := by
    rcases hs with ⟨h, _⟩ | ⟨g, c, e, _, hc⟩
    · cases h
    · exact ⟨g, by injection e, hc 2 _ rfl⟩
  have c0 := B1.cell (i := 0) (v := .slice (some ⟨gv, 0, none⟩) 3 vc) rfl
  have c1 := B1.cell (i := 1) (v := .slice (some ⟨gs, 0, none⟩) 3 sc) rfl
  have c2 := B1.cell (i := 2) (v := .slice ta 1 tc) rfl
  clear hv hs
  go_wp2_with (first | (with_reducible refine al_blk rfl rfl zeroD ?_) | (with_reducible refine st_blk (vs := c3v (.slice va3 vn3 vc3) (.slice sa3 sn3 sc3) (.slice ta3 tn3 tc3)) rfl rfl rfl rfl f rfl (by kernel_rfl) (c3v_one _ _ _ _ _ _ _ _ _) ?_) | (refine ldPg (by rfl) rfl rfl B1 (part_all _) (wholeD _ _ _) ?_))
  clear f lb hbz v6 v7 v8 s6 s7 s8 c0 c1 c2
  generalize (w2.alloc (.cells (c3v (.slice none 0 0) (.slice none 0 0) (.slice none 0 0)).toArray 26)).setRow w2.heap.size (c3v (.slice va3 vn3 vc3) (.slice sa3 sn3 sc3) (.slice ta3 tn3 tc3)).toArray = W3 at *
  refine (psame_any _ _ _ _ _ _ kD W3 kdok hD1.out hD1.out).mono ?_
  rintro e w4 ⟨rfl, h1⟩
  replace B1 := B1.call h1
  replace hb := bthen hb h1
  clear h1 hD1
  go_wp2_with (first | (refine ldPg (by rfl) rfl rfl B1 (part_all _) (wholeD _ _ _) ?_))
  refine (psame_no (some ⟨gv, 0, none⟩) none 3 0 vc 0 (.slice (some ⟨gs, 0, none⟩) 3 sc) (.slice ta 1 tc) (.slice none 0 0) (.slice none 0 0) rfl rfl rfl rfl w4 (by decide) (by decide) (by decide)).mono ?_
  rintro e w5 ⟨rfl, h1⟩
  replace hb := bthen hb h1
  clear h1 B1
  go_wp2_with fail
  refine (Print_none w5).mono ?_
  rintro e w6 ⟨rfl, h1⟩
  replace hb := bthen hb h1
  clear h1
  go_wp2
  go_ret
  exact ⟨rfl, hb⟩
end Go.Proofs.YtpalfmgloddhcaaGreatDoor
