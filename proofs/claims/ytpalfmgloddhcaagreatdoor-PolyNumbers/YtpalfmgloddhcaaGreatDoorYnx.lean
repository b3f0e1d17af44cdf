/- The reader comes to the next line. -/
import Derived.Test.YtpalfmgloddhcaaGreatDoorYms
namespace Go.Proofs.YtpalfmgloddhcaaGreatDoor
set_option linter.unusedSimpArgs false
set_option linter.unusedVariables false
open Go.RowKit
set_option maxRecDepth 100000
theorem RdO.shape {w : World} {v : Value} {M : List (Nat × List (List UInt8))} (h : RdO w v M) : ∃ a c, v = .slice a M.length c := by
  rcases h with ⟨rfl, a, c, rfl⟩ | ⟨b, o, c, rfl, _⟩
  · exact ⟨a, c, rfl⟩
  · exact ⟨_, _, rfl⟩
set_option maxHeartbeats 4000000 in
theorem next_any {w0 : World} {b : Nat} {r : Rd} {w : World} (h : Rdr w0 b r w) (hl : r.ws.length ≤ 1000000) (hrest : r.fin.bad = true ∨ r.rest ≠ []) (hr : r.rest.length ≤ 1000000) :
    Calls Tryz.prog 63 #[.pointer (some ⟨b, 0, none⟩)] w fun e w' => e = .returned (.tuple #[]) ∧ Rdr w0 b r.next w' ∧ Oth b w w' := by
  have HF := Lib.hid (finish_any h hl)
  clear h
  cases hbad : r.fin.bad
  · rcases e : r.rest with _ | ⟨⟨n, ws⟩, t⟩
    · rcases hrest with h | h
      · rw [hbad] at h; cases h
      · exact absurd e h
    have en : r.next = ⟨n, ws, false, t⟩ := by
      unfold Rd.next
      rw [hbad, e]; rfl
    have er : r.fin.rest = (n, ws) :: t := e
    have EN := Lib.hid en
    rw [e] at hr
    simp only [List.length_cons] at hr
    clear en hrest e
    go_enter Tryz.func63, Tryz.ntmps63
    go_wp2_with fail
    refine (HF.out).mono ?_
    rintro e w1 ⟨rfl, ⟨h1, h2, wv, rv, h3, h4, h5⟩, k2⟩
    rw [er] at h5
    rw [hbad] at h3
    have K2 := Lib.hid k2
    rcases h5 with ⟨h, _⟩ | ⟨g, o, c, rfl, hc, hcell⟩
    · simp at h
    obtain ⟨d0, x, d1, hx⟩ := hcell 0 n ws rfl
    rw [Nat.zero_mul, Nat.add_zero] at d0 d1
    replace d0 := cell_w0 h1 d0
    replace d1 := cell_w0 h1 d1
    obtain ⟨xa, xc, rfl⟩ := hx.shape2
    obtain ⟨wa, wc, rfl⟩ := h4.shape2
    have HX := Lib.hid hx
    have b1 : (1 : Int) ≤ (t.length : Int) + 1 := by omega
    have c0 := h3.cell (i := 0) rfl
    have cw := h3.cell (i := 1) rfl
    have c2 := h3.cell (i := 2) (v := .bool false) rfl
    have c3 := h3.cell (i := 3) rfl
    have f0 := h3.frozen 0
    have f1 := h3.frozen 1
    have f2 := h3.frozen 2
    have f3 := h3.frozen 3
    simp only [List.length_cons] at hc c3
    have HR : Hid (∀ (k : Nat) (y : Option Addr), (y = some ⟨g, o + 2, none⟩ ∨ t = []) → t.length ≤ k → Rdr w0 b ⟨n, ws, false, t⟩ ((((w1.setCell ⟨b, 0, none⟩ (.int .i64 (n : Int))).setCell ⟨b, 1, none⟩ (.slice xa ws.length xc)).setCell ⟨b, 2, none⟩ (.bool false)).setCell ⟨b, 3, none⟩ (.slice y t.length k)).drew) := by
      intro k y hy hk
      refine ⟨((((h1.setCell h2 _).setCell h2 _).setCell h2 _).setCell h2 _).drew, h2, .slice xa ws.length xc, .slice y t.length k, ?_, hx, ?_⟩
      · have := (((h3.set 0 (.int .i64 (n : Int))).set 1 (.slice xa ws.length xc)).set 2 (.bool false)).set 3 (.slice y t.length k)
        exact this
      · rcases hy with rfl | ht
        · refine .inr ⟨g, o + 2, k, rfl, hk, fun i m us hi => ?_⟩
          obtain ⟨e0, z, e1, e2⟩ := hcell (i + 1) m us (by simpa using hi)
          refine ⟨?_, z, ?_, e2⟩
          · rwa [show o + (i + 1) * 2 = o + 2 + i * 2 by omega] at e0
          · rwa [show o + (i + 1) * 2 + 1 = o + 2 + i * 2 + 1 by omega] at e1
        · subst ht; exact .inl ⟨rfl, _, _, rfl⟩
    have HO : Hid (∀ v, Oth b w ((((w1.setCell ⟨b, 0, none⟩ (.int .i64 (n : Int))).setCell ⟨b, 1, none⟩ (.slice xa ws.length xc)).setCell ⟨b, 2, none⟩ (.bool false)).setCell ⟨b, 3, none⟩ v).drew) :=
      fun v => ((((k2.set _ _).set _ _).set _ _).set _ _).then ((Below.refl _ _).drew)
    clear hcell h1 h2 h3 h4 k2 hx
    go_wp2_with fail
    by_cases hc1 : c = 1
    · subst hc1
      have ht : Hid (t = []) := List.eq_nil_of_length_eq_zero (by omega)
      go_region
      go_end0
      refine ⟨rfl, ?_, HO.out _⟩
      rw [EN.out]
      have := HR.out 0 (some ⟨g, o, none⟩) (.inr ht.out) (by rw [ht.out]; exact Nat.le_refl _)
      rw [show t.length = 0 by rw [ht.out]; rfl] at this
      exact this
    · go_region
      go_end0
      refine ⟨rfl, ?_, HO.out _⟩
      rw [EN.out]
      exact HR.out (c - 1) _ (.inl rfl) (by omega)
  · have en : r.next = r.fin := by unfold Rd.next; rw [if_pos hbad]
    rw [en]
    have HB := Lib.hid hbad
    clear hrest en hbad
    go_enter Tryz.func63, Tryz.ntmps63
    go_wp2_with fail
    refine (HF.out).mono ?_
    rintro e w1 ⟨rfl, k1, k2⟩
    obtain ⟨h1, h2, wv, rv, h3, h4, h5⟩ := id k1
    have c2 := h3.cell (i := 2) (v := .bool r.fin.bad) rfl
    rw [HB.out] at c2
    have K1 := Lib.hid k1
    have K2 := Lib.hid k2
    clear h1 h2 h3 h4 h5 k1 k2
    go_wp2
    exact bodyPost_ret (results_none rfl _ _ _) rfl ⟨rfl, K1.out, K2.out⟩
end Go.Proofs.YtpalfmgloddhcaaGreatDoor
