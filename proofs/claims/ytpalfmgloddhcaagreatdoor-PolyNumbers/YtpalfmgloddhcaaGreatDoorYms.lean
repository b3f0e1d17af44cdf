/- The reader of a drawing's text, in memory: what is asked of the line that it is at. -/
import Derived.Test.YtpalfmgloddhcaaGreatDoorYpu
import Derived.Test.YtpalfmgloddhcaaGreatDoorXsm
namespace Go.Proofs.YtpalfmgloddhcaaGreatDoor
set_option linter.unusedSimpArgs false
set_option linter.unusedVariables false
open Go.RowKit
set_option maxRecDepth 100000
/-- The slice v reads as these lines, from some place of its block on. -/
def RdO (w : World) (v : Value) (L : List (Nat × List (List UInt8))) : Prop := (L = [] ∧ ∃ a c, v = .slice a 0 c) ∨ ∃ b o c, v = .slice (some ⟨b, o, none⟩) L.length c ∧ L.length ≤ c ∧ ∀ (i : Nat) n ws, L[i]? = some (n, ws) → w.cell? ⟨b, o + i * 2, none⟩ = some (.int .i64 (n : Int)) ∧ ∃ x, w.cell? ⟨b, o + i * 2 + 1, none⟩ = some x ∧ RdS w x ws
/-- But for block b all that was there is as it was. -/
def Oth (b : Nat) (w w' : World) : Prop := w'.os = w.os ∧ w'.tape = w.tape ∧ w'.output = w.output ∧ w.heap.size ≤ w'.heap.size ∧ ∀ k, k < w.heap.size → k ≠ b → w'.heap[k]? = w.heap[k]?
theorem Oth.refl (b : Nat) (w : World) : Oth b w w := ⟨rfl, rfl, rfl, Nat.le_refl _, fun _ _ _ => rfl⟩
theorem Oth.trans {b : Nat} {x y z : World} (h : Oth b x y) (k : Oth b y z) : Oth b x z :=
  ⟨k.1.trans h.1, k.2.1.trans h.2.1, k.2.2.1.trans h.2.2.1, Nat.le_trans h.2.2.2.1 k.2.2.2.1, fun i hi hb => (k.2.2.2.2 i (Nat.lt_of_lt_of_le hi h.2.2.2.1) hb).trans (h.2.2.2.2 i hi hb)⟩
theorem Oth.of {b : Nat} {w w' : World} (h : Below w.heap.size w w') : Oth b w w' := ⟨h.os, h.tape, h.output, h.size, fun k hk _ => h.block k hk⟩
theorem Oth.then {b : Nat} {x y z : World} (h : Oth b x y) (k : Below y.heap.size y z) : Oth b x z := h.trans (Oth.of k)
theorem Oth.set {b : Nat} {x y : World} (h : Oth b x y) (i : Nat) (v : Value) : Oth b x (y.setCell ⟨b, i, none⟩ v) :=
  h.trans ⟨rfl, rfl, rfl, by simp [World.setCell], fun k hk hb => Below.heap_setCell _ _ _ _ hb⟩
theorem Oth.below {b B : Nat} {w w' : World} (h : Oth b w w') (h1 : B ≤ b) (h2 : B ≤ w.heap.size) : Below B w w' :=
  ⟨h.1, h.2.1, h.2.2.1, h.2.2.2.1, fun k hk => h.2.2.2.2 k (by omega) (by omega)⟩
theorem Oth.size {b : Nat} {w w' : World} (h : Oth b w w') : w.heap.size ≤ w'.heap.size := h.2.2.2.1
theorem Blk.oth {b g : Nat} {w w' : World} {cs : List Value} {t : TypeId} (h : Blk w g cs t) (ho : Oth b w w') (hne : g ≠ b) : Blk w' g cs t := (ho.2.2.2.2 g h.lt hne).trans h
/-- Block b holds this reader; its lines lie in the world w0. -/
def Rdr (w0 : World) (b : Nat) (r : Rd) (w : World) : Prop := Below w0.heap.size w0 w ∧ w0.heap.size ≤ b ∧ ∃ wv rv, Blk w b [.int .i64 (r.n : Int), wv, .bool r.bad, rv] 72 ∧ RdS w0 wv r.ws ∧ RdO w0 rv r.rest
theorem Rdr.call {w0 : World} {b : Nat} {r : Rd} {w w' : World} (h : Rdr w0 b r w) (hb : Below w.heap.size w w') : Rdr w0 b r w' :=
  let ⟨h1, h2, wv, rv, h3, h4, h5⟩ := h; ⟨h1.trans (hb.mono h1.size), h2, wv, rv, h3.call hb, h4, h5⟩
theorem Rdr.lt {w0 : World} {b : Nat} {r : Rd} {w : World} (h : Rdr w0 b r w) : b < w.heap.size := let ⟨_, _, _, _, h3, _⟩ := h; h3.lt
theorem RdS.shape2 {w : World} {v : Value} {M : List (List UInt8)} (h : RdS w v M) : ∃ a c, v = .slice a M.length c := by
  rcases h with ⟨rfl, a, c, rfl⟩ | ⟨b, o, c, rfl, _⟩
  · exact ⟨a, c, rfl⟩
  · exact ⟨_, _, rfl⟩
theorem must_true (r : Rd) : r.must true = r := by cases r; simp [Rd.must]
set_option maxHeartbeats 1000000 in
theorem must_any {w0 : World} {b : Nat} {r : Rd} {w : World} (h : Rdr w0 b r w) (x : Bool) :
    Calls Tryz.prog 106 #[.pointer (some ⟨b, 0, none⟩), .bool x] w fun e w' => e = .returned (.tuple #[]) ∧ Rdr w0 b (r.must x) w' ∧ Oth b w w' := by
  cases x
  · obtain ⟨h1, h2, wv, rv, h3, h4, h5⟩ := h
    have c2 := h3.cell (i := 2) (v := .bool r.bad) rfl
    have f2 := h3.frozen 2
    have H : Hid (Rdr w0 b (r.must false) (w.setCell ⟨b, 2, none⟩ (.bool true))) :=
      ⟨h1.setCell h2 _, h2, wv, rv, by have := h3.set 2 (.bool true); simpa [Rd.must] using this, h4, h5⟩
    clear h1 h2 h3 h4 h5
    go_enter Tryz.func106, Tryz.ntmps106
    go_wp2
    go_end0
    exact ⟨rfl, H.out, (Oth.refl _ _).set _ _⟩
  · rw [must_true]
    have H := Lib.hid h
    clear h
    go_enter Tryz.func106, Tryz.ntmps106
    go_wp2
    go_end0
    exact ⟨rfl, H.out, Oth.refl _ _⟩
theorem cell_w0 {w0 w : World} (h : Below w0.heap.size w0 w) {p : Addr} {v : Value} (hc : w0.cell? p = some v) : w.cell? p = some v := cell_below h hc
theorem word_nil {r : Rd} (h : r.ws = []) : r.hd = [] ∧ r.word = r.must false := by
  unfold Rd.hd Rd.word Rd.must; rw [h]; simp
theorem word_cons {r : Rd} {u : List UInt8} {t : List (List UInt8)} (h : r.ws = u :: t) : r.hd = u ∧ r.word = ⟨r.n, t, r.bad, r.rest⟩ := by
  unfold Rd.hd Rd.word; rw [h]; simp
set_option maxHeartbeats 2000000 in
theorem word_any {w0 : World} {b : Nat} {r : Rd} {w : World} (h : Rdr w0 b r w) (hl : r.ws.length ≤ 1000000) :
    Calls Tryz.prog 108 #[.pointer (some ⟨b, 0, none⟩)] w fun e w' => e = .returned (.string (tx r.hd)) ∧ Rdr w0 b r.word w' ∧ Oth b w w' := by
  obtain ⟨h1, h2, wv, rv, h3, h4, h5⟩ := h
  have c1 := h3.cell (i := 1) (v := wv) rfl
  have c2 := h3.cell (i := 2) (v := .bool r.bad) rfl
  have f1 := h3.frozen 1
  have f2 := h3.frozen 2
  rcases e : r.ws with _ | ⟨u, t⟩
  · obtain ⟨e1, e2⟩ := word_nil e
    rw [e1, e2]
    obtain ⟨xa, xc, rfl⟩ := h4.shape2
    rw [e] at h4 c1
    have H : Hid (Rdr w0 b (r.must false) (w.setCell ⟨b, 2, none⟩ (.bool true))) :=
      ⟨h1.setCell h2 _, h2, _, rv, by have := h3.set 2 (.bool true); simpa [Rd.must] using this, by rw [show (r.must false).ws = r.ws from rfl, e] ; exact .inl ⟨rfl, _, _, rfl⟩, h5⟩
    clear h1 h2 h3 h4 h5 e e1 e2 hl
    go_enter Tryz.func108, Tryz.ntmps108
    go_wp2
    go_ret
    exact ⟨rfl, H.out, (Oth.refl _ _).set _ _⟩
  · obtain ⟨e1, e2⟩ := word_cons e
    rw [e1, e2]
    rw [e] at h4 hl
    rcases h4 with ⟨h, _⟩ | ⟨g, o, c, rfl, hc, hcell⟩
    · simp at h
    have d0 := cell_w0 h1 (hcell 0 u rfl)
    rw [Nat.add_zero] at d0
    simp only [List.length_cons] at hl hc c1
    have HR : ∀ (k : Nat) (x : Option Addr), (x = some ⟨g, o + 1, none⟩ ∨ t = []) → t.length ≤ k → Hid (Rdr w0 b ⟨r.n, t, r.bad, r.rest⟩ (w.setCell ⟨b, 1, none⟩ (.slice x t.length k))) := by
      intro k x hx hk
      refine ⟨h1.setCell h2 _, h2, .slice x t.length k, rv, by have := h3.set 1 (.slice x t.length k); simpa using this, ?_, h5⟩
      rcases hx with rfl | ht
      · refine .inr ⟨g, o + 1, k, rfl, hk, fun j y hj => ?_⟩
        have := hcell (j + 1) y (by simpa using hj)
        rwa [show o + (j + 1) = o + 1 + j by omega] at this
      · subst ht; exact .inl ⟨rfl, _, _, rfl⟩
    by_cases hc1 : c = 1
    · obtain rfl : t = [] := List.eq_nil_of_length_eq_zero (by omega)
      have HR1 := fun x => HR 0 x (.inr rfl) (Nat.le_refl _)
      have HR' : Hid (∀ x, Hid (Rdr w0 b ⟨r.n, [], r.bad, r.rest⟩ (w.setCell ⟨b, 1, none⟩ (.slice x 0 0)))) := HR1
      subst hc1
      clear HR1 HR h1 h2 h3 h5 e e1 e2 hcell
      go_enter Tryz.func108, Tryz.ntmps108
      go_wp2
      go_ret
      exact ⟨rfl, (HR'.out _).out, (Oth.refl _ _).set _ _⟩
    · have HR1 := HR (c - 1) _ (.inl rfl) (by omega)
      clear HR h1 h2 h3 h5 e e1 e2 hcell
      go_enter Tryz.func108, Tryz.ntmps108
      go_wp2
      go_ret
      exact ⟨rfl, HR1.out, (Oth.refl _ _).set _ _⟩
set_option maxHeartbeats 2000000 in
theorem finish_any {w0 : World} {b : Nat} {r : Rd} {w : World} (h : Rdr w0 b r w) (hl : r.ws.length ≤ 1000000) :
    Calls Tryz.prog 75 #[.pointer (some ⟨b, 0, none⟩)] w fun e w' => e = .returned (.tuple #[]) ∧ Rdr w0 b r.fin w' ∧ Oth b w w' := by
  have HM := Lib.hid (must_any h r.ws.isEmpty)
  obtain ⟨h1, h2, wv, rv, h3, h4, h5⟩ := h
  have c1 := h3.cell (i := 1) (v := wv) rfl
  obtain ⟨xa, xc, rfl⟩ := h4.shape2
  have g : ((r.ws.length : Int) == 0) = r.ws.isEmpty := by cases r.ws <;> simp; omega
  clear h1 h2 h3 h4 h5
  go_enter Tryz.func75, Tryz.ntmps75
  go_wp2_with fail
  refine (HM.out).mono ?_
  rintro e w1 ⟨rfl, k1, k2⟩
  go_wp2
  go_end0
  exact ⟨rfl, k1, k2⟩
theorem word_len (r : Rd) : r.word.ws.length ≤ r.ws.length := by unfold Rd.word; simp
theorem skip_snoc : ∀ (k : Nat) (r : Rd), Rd.skip (k + 1) r = (Rd.skip k r).word
  | 0, _ => rfl
  | k + 1, r => by rw [Rd.skip, skip_snoc k r.word]; rfl
theorem skip_len : ∀ (k : Nat) (r : Rd), (Rd.skip k r).ws.length ≤ r.ws.length
  | 0, _ => Nat.le_refl _
  | k + 1, r => Nat.le_trans (skip_len k r.word) (word_len r)
set_option maxHeartbeats 2000000 in
theorem skip_any {w0 : World} {b : Nat} (n : Nat) (hn : n ≤ 1000) {r : Rd} {w : World} (h : Rdr w0 b r w) (hl : r.ws.length ≤ 1000000) :
    Calls Tryz.prog 68 #[.pointer (some ⟨b, 0, none⟩), .int .i64 (n : Int)] w fun e w' => e = .returned (.tuple #[]) ∧ Rdr w0 b (Rd.skip n r) w' ∧ Oth b w w' := by
  have H := Lib.hid h
  clear h
  go_enter Tryz.func68, Tryz.ntmps68
  go_wp2_with fail
  go_loopw [5] (fun j wr => ∃ k : Nat, k ≤ n ∧ j = .int .i64 (k : Int) ∧ Rdr w0 b (Rd.skip k r) wr ∧ Oth b w wr) (fun j _ => n - (intOf j).toNat)
  case atStart => exact ⟨0, Nat.zero_le _, rfl, H.out, Oth.refl _ _⟩
  case round =>
    obtain ⟨k, hk, rfl, h1, h2⟩ := hrel
    have H2 := Lib.hid h2
    by_cases hlt : k < n
    · have HW := Lib.hid (word_any h1 (Nat.le_trans (skip_len k r) hl))
      clear h1 h2
      go_wp2_with fail
      refine (HW.out).mono ?_
      rintro e w1 ⟨rfl, k1, k2⟩
      have K1 := Lib.hid k1
      have K2 := Lib.hid k2
      clear k1 k2
      go_wp2_with fail
      go_roundw
      case rel => exact ⟨k + 1, by omega, by go_num, by rw [skip_snoc]; exact K1.out, H2.out.trans K2.out⟩
      case measure => simp [intOf]; omega
    · obtain rfl : k = n := by omega
      clear h2
      have H1 := Lib.hid h1
      clear h1
      go_wp2_with fail
      go_end0
      exact ⟨rfl, H1.out, H2.out⟩
set_option maxHeartbeats 2000000 in
theorem number_any {w0 : World} {b : Nat} {r : Rd} {w : World} (h : Rdr w0 b r w) (hl : r.ws.length ≤ 1000000) (hu : r.hd.length ≤ 1000000) :
    Calls Tryz.prog 67 #[.pointer (some ⟨b, 0, none⟩)] w fun e w' => e = .returned (.int .i64 r.num) ∧ Rdr w0 b r.number w' ∧ Oth b w w' := by
  have HW := Lib.hid (word_any h hl)
  have HI := Lib.hid fun w => intA_eq r.hd ▸ Int_any r.hd w hu
  clear h
  go_enter Tryz.func67, Tryz.ntmps67
  go_wp2_with fail
  refine (HW.out).mono ?_
  rintro e w1 ⟨rfl, k1, k2⟩
  have HM := Lib.hid (must_any k1 (intOk r.hd))
  clear k1
  go_wp2_with fail
  refine (HI.out _).mono ?_
  rintro e w2 ⟨rfl, rfl⟩
  go_wp2_with fail
  refine (HM.out).mono ?_
  rintro e w2 ⟨rfl, k3, k4⟩
  have K2 := Lib.hid (k2.trans k4)
  clear k2 k4
  go_wp2
  go_ret
  exact ⟨rfl, k3, K2.out⟩
set_option maxHeartbeats 2000000 in
theorem among_any {w0 : World} {b : Nat} {r : Rd} {w : World} (h : Rdr w0 b r w) (hl : r.ws.length ≤ 1000000) (hu : r.hd.length ≤ 1000000) (lo hi : Int) :
    Calls Tryz.prog 64 #[.pointer (some ⟨b, 0, none⟩), .int .i64 lo, .int .i64 hi] w fun e w' => e = .returned (.int .i64 r.num) ∧ Rdr w0 b (r.among lo hi) w' ∧ Oth b w w' := by
  have HN := Lib.hid (number_any h hl hu)
  clear h
  obtain ⟨n, hn⟩ : ∃ n, r.num = n := ⟨_, rfl⟩
  have e1 : r.among lo hi = r.number.must (decide (lo ≤ n) && decide (n ≤ hi)) := by rw [← hn]; rfl
  have E1 := Lib.hid e1
  rw [hn] at HN ⊢
  clear e1
  have HNN := Lib.hid hn
  clear hn
  by_cases g1 : lo ≤ n
  · by_cases g2 : n ≤ hi
    · have X1 : Hid ((decide (lo ≤ n) && decide (n ≤ hi)) = true) := by
        show _ = _
        simp [g1, g2]
      go_enter Tryz.func64, Tryz.ntmps64
      go_wp2_with fail
      refine (HN.out).mono ?_
      rintro e w1 ⟨rfl, k1, k2⟩
      have HM := Lib.hid (must_any k1 (true))
      clear k1
      go_wp2_with fail
      refine (HM.out).mono ?_
      rintro e w2 ⟨rfl, k3, k4⟩
      have K2 := Lib.hid (k2.trans k4)
      have K3 := Lib.hid k3
      clear k2 k3 k4
      go_wp2
      go_ret
      exact ⟨rfl, by rw [E1.out, X1.out]; exact K3.out, K2.out⟩
    · have X1 : Hid ((decide (lo ≤ n) && decide (n ≤ hi)) = false) := by
        show _ = _
        simp [g1, g2]
      have g3 : (decide (n ≤ hi)) = false := by simp [g2]
      go_enter Tryz.func64, Tryz.ntmps64
      go_wp2_with fail
      refine (HN.out).mono ?_
      rintro e w1 ⟨rfl, k1, k2⟩
      have HM := Lib.hid (must_any k1 (false))
      clear k1
      go_wp2_with fail
      refine (HM.out).mono ?_
      rintro e w2 ⟨rfl, k3, k4⟩
      have K2 := Lib.hid (k2.trans k4)
      have K3 := Lib.hid k3
      clear k2 k3 k4
      go_wp2
      go_ret
      exact ⟨rfl, by rw [E1.out, X1.out]; exact K3.out, K2.out⟩
  · have X1 : Hid ((decide (lo ≤ n) && decide (n ≤ hi)) = false) := by
      show _ = _
      simp [g1]
    go_enter Tryz.func64, Tryz.ntmps64
    go_wp2_with fail
    refine (HN.out).mono ?_
    rintro e w1 ⟨rfl, k1, k2⟩
    have HM := Lib.hid (must_any k1 (false))
    clear k1
    go_wp2_with fail
    refine (HM.out).mono ?_
    rintro e w2 ⟨rfl, k3, k4⟩
    have K2 := Lib.hid (k2.trans k4)
    have K3 := Lib.hid k3
    clear k2 k3 k4
    go_wp2
    go_ret
    exact ⟨rfl, by rw [E1.out, X1.out]; exact K3.out, K2.out⟩
set_option maxHeartbeats 2000000 in
theorem mark_any {w0 : World} {b : Nat} {r : Rd} {w : World} (h : Rdr w0 b r w) (hl : r.ws.length ≤ 1000000) (hu : r.hd.length ≤ 1000000) (told : Int) :
    Calls Tryz.prog 69 #[.pointer (some ⟨b, 0, none⟩), .int .i64 told] w fun e w' => e = .returned (.int .i64 (r.markN told)) ∧ Rdr w0 b (r.mark told) w' ∧ Oth b w w' := by
  by_cases h0 : told = 0
  · have g : (told == 0) = true := by rw [h0]; rfl
    rw [show r.markN told = 0 from if_pos h0, show r.mark told = r from if_pos h0]
    have H := Lib.hid h
    clear h h0
    go_enter Tryz.func69, Tryz.ntmps69
    go_wp2
    go_ret
    exact ⟨rfl, H.out, Oth.refl _ _⟩
  · have g : (told == 0) = false := by rw [beq_eq_false_iff_ne]; exact h0
    rw [show r.markN told = r.num from if_neg h0, show r.mark told = r.number from if_neg h0]
    have HN := Lib.hid (number_any h hl hu)
    clear h h0
    go_enter Tryz.func69, Tryz.ntmps69
    go_wp2_with fail
    refine (HN.out).mono ?_
    rintro e w1 ⟨rfl, k1, k2⟩
    go_wp2
    go_ret
    exact ⟨rfl, k1, k2⟩
end Go.Proofs.YtpalfmgloddhcaaGreatDoor
