/- known: the examples that each statement of the layer asks first. -/
import Derived.Test.YtoahkpfngemhcaaXln
import Derived.Test.YtoahkpfngemhcaaXin
namespace Go.Proofs.Ytoahkpfngemhcaa
set_option linter.unusedSimpArgs false
set_option linter.unusedVariables false
open Go.RowKit
set_option maxRecDepth 100000
theorem owns_cells {w : World} {B n size : Nat} {e : TypeId} {v : Value} {xs : List Value} (h : w.ownsRow B e size v n xs) (hn : n ≠ 0) : ∃ g cap, v = .slice (some ⟨g, 0, none⟩) n cap ∧ n ≤ cap ∧ B ≤ g ∧ g < w.heap.size ∧ ∀ (j : Nat) u, xs[j]? = some u → w.cell? ⟨g, j, none⟩ = some u := by
  rcases h.2 with ⟨_, rfl⟩ | ⟨g, cap, cur, rfl, hb, hc, hcap, _⟩
  · exact absurd rfl hn
  · refine ⟨g, cap, rfl, hcap, hb, (Array.getElem?_eq_some_iff.1 hc).1, fun j u hj => ?_⟩
    have := h.cells (g := g) rfl j u hj
    rw [show (⟨g, j, none⟩ : Addr) = (⟨g, 0, none⟩ : Addr).add j by
      cases j <;> simp [Addr.add]]
    exact this
set_option maxHeartbeats 2000000 in
theorem known6_any (w : World) : Calls Try.prog 7 #[] w fun e w' => e = .returned (.bool true) ∧ Below w.heap.size w w' := by
  have HL := Lib.hid (Lines_any [35, 32, 120, 10, 32, 49, 32, 50, 32, 35, 32, 121, 10, 10, 51] w (by decide))
  have e1 : lns 1 [35, 32, 120, 10, 32, 49, 32, 50, 32, 35, 32, 121, 10, 10, 51] = [(2, [[49], [50]]), (4, [[51]])] := by decide
  have i1 : intA [45, 49, 50] = .tuple #[.int .i64 (-12), .bool true] := by rfl
  have i2 : intA [48, 49, 50] = .tuple #[.int .i64 0, .bool false] := by rfl
  have HI1 := Lib.hid fun w => i1 ▸ Int_any [45, 49, 50] w (by decide)
  have HI2 := Lib.hid fun w => i2 ▸ Int_any [48, 49, 50] w (by decide)
  rw [e1] at HL
  clear e1 i1 i2
  go_enter Try.func7, Try.ntmps7
  go_wp2_with fail
  refine (HL.out).mono ?_
  rintro e w1 ⟨v, rfl, ⟨cs, h1, x1, r1, rfl, k1, x2, r2, rfl, k2, rfl⟩, hb⟩
  obtain ⟨g, cap, rfl, hcap, _, _, hc⟩ := owns_cells h1 (by decide)
  have c0 := hc 0 _ rfl
  have c1 := hc 1 _ rfl
  have c2 := hc 2 _ rfl
  obtain ⟨g1, cap1, rfl, hcap1, _, _, hd⟩ := owns_cells k1 (by decide)
  have d1 := hd 1 _ rfl
  have t1 : (tx [50]).toList = [50] := tx_toList _
  clear HL h1 hc k1 k2 hd
  go_wp2_with fail
  refine (HI1.out _).mono ?_
  rintro e w2 ⟨rfl, rfl⟩
  go_wp2_with fail
  refine (HI2.out _).mono ?_
  rintro e w2 ⟨rfl, rfl⟩
  go_wp2
  go_ret
  exact ⟨rfl, hb⟩
end Go.Proofs.Ytoahkpfngemhcaa
