/- Joined of: Rpl Rpr Rar Rcm. -/
import Derived.Test.YtpalfmgloddhcaaGreatDoorRss
import Derived.Deep.DeepCutAuto
/- Package ratio: plus. -/
namespace Go.Proofs.YtpalfmgloddhcaaGreatDoor
set_option linter.unusedSimpArgs false
set_option linter.unusedVariables false
open Go.RowKit
set_option maxRecDepth 100000
theorem Blk.ne {w : World} {b b' : Nat} {cs cs' : List Value} {t t' : TypeId} (h : Blk w b cs t) (h' : Blk w b' cs' t') (hl : cs.length ≠ cs'.length) : b ≠ b' := by
  rintro rfl
  unfold Blk at h h'
  rw [h] at h'
  simp at h'
  rw [h'.1] at hl
  exact hl rfl
theorem wr_ne (z : Int) (s : Bool) (N : Nat) (t : Bool) (M : Nat) : (mk z).length ≠ (rr s N t M).length := by rw [mk_length, rr_length]; decide
theorem sz_ediv {k : Nat} {x g : Int} (hx : Sz k x) (hd : g ∣ x) : Sz k (x / g) := by
  rw [← Int.tdiv_eq_ediv_of_dvd hd]; exact sz_tdiv g hx
end Go.Proofs.YtpalfmgloddhcaaGreatDoor

/- Package ratio: product, upended. -/
namespace Go.Proofs.YtpalfmgloddhcaaGreatDoor
set_option linter.unusedSimpArgs false
set_option linter.unusedVariables false
open Go.RowKit
set_option maxRecDepth 100000
/-- Whatever the world: the call answers v, and nothing that was there has turned. -/
def Tl (f : Nat) (args : Array Value) (v : Value) : Prop := ∀ w, Calls Tryz.prog f args w fun e w' => e = .returned v ∧ Below w.heap.size w w'
/-- The value of a number, of a fraction. -/
def vw (x : Int) : Value := .agg (mk x).toArray
def vf (n d : Int) : Value := .agg (fr n d).toArray
end Go.Proofs.YtpalfmgloddhcaaGreatDoor

/- Package ratio: Cmp, Add, Sub, Mul, Div, of safe fractions. -/
namespace Go.Proofs.YtpalfmgloddhcaaGreatDoor
set_option linter.unusedSimpArgs false
set_option linter.unusedVariables false
open Go.RowKit
set_option maxRecDepth 100000
/-- Which is the greater. -/
def cm (x y : Int) : Int := if x < y then -1 else if y < x then 1 else 0
end Go.Proofs.YtpalfmgloddhcaaGreatDoor

/- Package ratio: Cmp, Floor, lowest, New, Of. -/
namespace Go.Proofs.YtpalfmgloddhcaaGreatDoor
set_option linter.unusedSimpArgs false
set_option linter.unusedVariables false
open Go.RowKit
set_option maxRecDepth 100000
theorem sf_neg {n d : Int} (h : Sf n d) : Sf (-n) d := ⟨⟨h.1.1, by have := h.1.2; unfold Cop at *; rw [Int.neg_gcd]; exact this⟩, sz_neg h.2.1, h.2.2⟩
end Go.Proofs.YtpalfmgloddhcaaGreatDoor
