/- same: two rows of lines that are alike. -/
import Derived.Test.YtoahkpfngemhcaaXln
import Derived.BigQuiet
import Derived.Deep.QuietTactic
namespace Go.Proofs.Ytoahkpfngemhcaa
set_option linter.unusedSimpArgs false
set_option linter.unusedVariables false
open Go.RowKit
set_option maxRecDepth 100000
/-- The slice v reads as these texts. -/
def RdS (w : World) (v : Value) (ws : List (List UInt8)) : Prop := (ws = [] ∧ ∃ a c, v = .slice a 0 c) ∨ ∃ b o c, v = .slice (some ⟨b, o, none⟩) ws.length c ∧ ws.length ≤ c ∧ ∀ (j : Nat) u, ws[j]? = some u → w.cell? ⟨b, o + j, none⟩ = some (.string (tx u))
/-- The slice v reads as these lines. -/
def RdL (w : World) (v : Value) (L : List (Nat × List (List UInt8))) : Prop := (L = [] ∧ ∃ a c, v = .slice a 0 c) ∨ ∃ b c, v = .slice (some ⟨b, 0, none⟩) L.length c ∧ L.length ≤ c ∧ ∀ (i : Nat) n ws, L[i]? = some (n, ws) → w.cell? ⟨b, i * 2, none⟩ = some (.int .i64 (n : Int)) ∧ ∃ x, w.cell? ⟨b, i * 2 + 1, none⟩ = some x ∧ RdS w x ws
theorem cell_below {w w' : World} (hb : Below w.heap.size w w') {p : Addr} {v : Value} (h : w.cell? p = some v) : w'.cell? p = some v :=
  (hb.cell (World.block_lt_of_cell? w p h)).trans h
theorem RdS.below {w w' : World} {v : Value} {ws : List (List UInt8)} (h : RdS w v ws) (hb : Below w.heap.size w w') : RdS w' v ws :=
  h.imp id fun ⟨b, o, c, e, hc, hh⟩ => ⟨b, o, c, e, hc, fun j u hu => cell_below hb (hh j u hu)⟩
theorem RdL.below {w w' : World} {v : Value} {L : List (Nat × List (List UInt8))} (h : RdL w v L) (hb : Below w.heap.size w w') : RdL w' v L :=
  h.imp id fun ⟨b, c, e, hc, hh⟩ => ⟨b, c, e, hc, fun i n ws hi =>
    let ⟨h1, x, h2, h3⟩ := hh i n ws hi; ⟨cell_below hb h1, x, cell_below hb h2, h3.below hb⟩⟩
set_option maxHeartbeats 4000000 in
theorem same_any (va vb : Value) (L : List (Nat × List (List UInt8))) (w : World) (hl : L.length ≤ 1000000) (hws : ∀ p ∈ L, p.2.length ≤ 1000000) (ha : RdL w va L) (hb : RdL w vb L) :
    Calls Try.prog 11 #[va, vb] w fun e w' => e = .returned (.bool true) ∧ Below w.heap.size w w' := by
  rcases ha with ⟨rfl, aa, ac, rfl⟩ | ⟨ab, ac, rfl, hac, ha⟩
  · obtain ⟨ba, bc, rfl⟩ : ∃ ba bc, vb = .slice ba 0 bc := by
      rcases hb with ⟨_, ba, bc, rfl⟩ | ⟨ba, bc, rfl, _⟩
      · exact ⟨_, _, rfl⟩
      · exact ⟨_, _, rfl⟩
    clear hb hws hl
    go_enter Try.func11, Try.ntmps11
    go_wp2_with fail
    refine wp_loop_rounds 1 ?_
    rw [rounds_succ]
    go_wp2_with fail
    go_ret
    exact ⟨rfl, Below.refl _ _⟩
  · rcases hb with ⟨rfl, ba, bc, rfl⟩ | ⟨bb', bc, rfl, hbc, hb⟩
    · clear ha hws hl
      go_enter Try.func11, Try.ntmps11
      go_wp2_with fail
      refine wp_loop_rounds 1 ?_
      rw [rounds_succ]
      go_wp2_with fail
      go_ret
      exact ⟨rfl, Below.refl _ _⟩
    · have HA := Lib.hid ha
      have HB := Lib.hid hb
      have HS := Lib.hid hws
      clear ha hb hws
      go_enter Try.func11, Try.ntmps11
      go_wp2_with fail
      go_loopw [5] (fun j wr => ∃ i : Nat, i ≤ L.length ∧ j = .int .i64 (i : Int) ∧ Below w.heap.size w wr) (fun j _ => L.length - (intOf j).toNat)
      case atStart => exact ⟨0, Nat.zero_le _, rfl, Below.refl _ _⟩
      case round =>
        obtain ⟨i, hi, rfl, hb⟩ := hrel
        by_cases hlt : i < L.length
        · obtain ⟨n, ws, hL, hmem⟩ : ∃ n ws, L[i]? = some (n, ws) ∧ ws.length ≤ 1000000 := ⟨(L[i]'hlt).1, (L[i]'hlt).2, by rw [List.getElem?_eq_getElem hlt], HS.out _ (List.getElem_mem hlt)⟩
          obtain ⟨p1, x, p2, px⟩ := HA.out i n ws hL
          obtain ⟨q1, y, q2, qy⟩ := HB.out i n ws hL
          have P2 := Lib.hid p2
          have Q2 := Lib.hid q2
          replace p1 := cell_below hb p1
          replace p2 := cell_below hb p2
          replace q1 := cell_below hb q1
          replace q2 := cell_below hb q2
          have PX := Lib.hid px
          have QY := Lib.hid qy
          obtain ⟨xa, xc, rfl⟩ : ∃ a c, x = .slice a ws.length c := by
            rcases px with ⟨rfl, a, c, rfl⟩ | ⟨b, o, c, rfl, _⟩
            · exact ⟨_, _, rfl⟩
            · exact ⟨_, _, rfl⟩
          obtain ⟨ya, yc, rfl⟩ : ∃ a c, y = .slice a ws.length c := by
            rcases qy with ⟨rfl, a, c, rfl⟩ | ⟨b, o, c, rfl, _⟩
            · exact ⟨_, _, rfl⟩
            · exact ⟨_, _, rfl⟩
          clear px qy hL
          go_wp2_with fail
          go_quiet (fail)
          go_wp2_with fail
          replace hb := below_drewN hb nq
          clear p1 p2 q1 q2
          go_loopw [6] (fun j wx => ∃ k : Nat, k ≤ ws.length ∧ j = .int .i64 (k : Int) ∧ Below w.heap.size w wx) (fun j _ => ws.length - (intOf j).toNat)
          case atStart => exact ⟨0, Nat.zero_le _, rfl, hb⟩
          case round =>
            obtain ⟨k, hk, rfl, hbx⟩ := hrel
            have p2 := cell_below hbx P2.out
            have q2 := cell_below hbx Q2.out
            by_cases hkl : k < ws.length
            · obtain ⟨u, hu⟩ : ∃ u, ws[k]? = some u := ⟨_, List.getElem?_eq_getElem hkl⟩
              obtain ⟨b1, o1, h1, e1⟩ : ∃ b o, xa = some ⟨b, o, none⟩ ∧ w.cell? ⟨b, o + k, none⟩ = some (.string (tx u)) := by
                rcases PX.out with ⟨rfl, _⟩ | ⟨b, o, c, e, _, hc⟩
                · simp at hkl
                · exact ⟨b, o, by injection e, hc k u hu⟩
              obtain ⟨b2, o2, h2, e2⟩ : ∃ b o, ya = some ⟨b, o, none⟩ ∧ w.cell? ⟨b, o + k, none⟩ = some (.string (tx u)) := by
                rcases QY.out with ⟨rfl, _⟩ | ⟨b, o, c, e, _, hc⟩
                · simp at hkl
                · exact ⟨b, o, by injection e, hc k u hu⟩
              subst h1
              subst h2
              replace e1 := cell_below hbx e1
              replace e2 := cell_below hbx e2
              clear hu
              go_wp2_with fail
              go_quiet (fail)
              go_wp2_with fail
              go_roundw
              case rel => exact ⟨k + 1, by omega, by go_num, below_drewN hbx _⟩
              case measure => simp [intOf]; omega
            · go_wp2_with fail
              go_roundw
              case rel => exact ⟨i + 1, by omega, by go_num, hbx⟩
              case measure => simp [intOf]; omega
        · go_wp2_with fail
          go_ret
          exact ⟨rfl, hb⟩
theorem RdS.of_owns {w : World} {B : Nat} {v : Value} {ws : List (List UInt8)} (h : w.ownsRow B 9 1 v ws.length (strs ws)) : RdS w v ws := by
  rcases h.2 with ⟨rfl, h0⟩ | ⟨g, cap, cur, rfl, _, _, hcap, _⟩
  · exact .inl ⟨List.eq_nil_of_length_eq_zero h0, _, _, rfl⟩
  · refine .inr ⟨g, 0, cap, rfl, hcap, fun j u hu => ?_⟩
    have := h.cells (g := g) rfl j (.string (tx u)) (by simp [strs, hu])
    rw [Nat.zero_add]
    rw [show (⟨g, j, none⟩ : Addr) = (⟨g, 0, none⟩ : Addr).add j by cases j <;> simp [Addr.add]]
    exact this
theorem Lws.get {w : World} {B : Nat} : ∀ {L : List (Nat × List (List UInt8))} {cs : List Value}, Lws w B L cs → ∀ (i : Nat) n ws, L[i]? = some (n, ws) → cs[i * 2]? = some (.int .i64 (n : Int)) ∧ ∃ x, cs[i * 2 + 1]? = some x ∧ w.ownsRow B 9 1 x ws.length (strs ws)
  | [], _, _, _, _, _, h => by simp at h
  | (m, us) :: t, _, ⟨x, r, e, ho, _⟩, 0, n, ws, h => by
    simp at h
    obtain ⟨rfl, rfl⟩ := h
    subst e
    exact ⟨rfl, x, rfl, ho⟩
  | (m, us) :: t, _, ⟨x, r, e, _, ht⟩, i + 1, n, ws, h => by
    subst e
    rw [show (i + 1) * 2 = i * 2 + 1 + 1 by omega]
    simp only [List.getElem?_cons_succ] at h ⊢
    exact Lws.get ht i n ws h
theorem Lnv.rd {w : World} {B : Nat} {v : Value} {L : List (Nat × List (List UInt8))} (h : Lnv w B v L) : RdL w v L := by
  obtain ⟨cs, h1, h2⟩ := h
  rcases h1.2 with ⟨rfl, h0⟩ | ⟨g, cap, cur, rfl, _, _, hcap, _⟩
  · exact .inl ⟨List.eq_nil_of_length_eq_zero h0, _, _, rfl⟩
  · refine .inr ⟨g, cap, rfl, hcap, fun i n ws hi => ?_⟩
    obtain ⟨k1, x, k2, k3⟩ := Lws.get h2 i n ws hi
    have e : ∀ j, (⟨g, j, none⟩ : Addr) = (⟨g, 0, none⟩ : Addr).add j := fun j => by cases j <;> simp [Addr.add]
    exact ⟨by rw [e]; exact h1.cells (g := g) rfl _ _ k1, x, by rw [e]; exact h1.cells (g := g) rfl _ _ k2, RdS.of_owns k3⟩
end Go.Proofs.Ytoahkpfngemhcaa
