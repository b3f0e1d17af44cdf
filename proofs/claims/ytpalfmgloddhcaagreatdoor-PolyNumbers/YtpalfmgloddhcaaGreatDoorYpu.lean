/- The reader of a drawing's text, as a function of its lines. -/
import Derived.Test.YtpalfmgloddhcaaGreatDoorXln
import Derived.Test.YtpalfmgloddhcaaGreatDoorXin
namespace Go.Proofs.YtpalfmgloddhcaaGreatDoor
set_option linter.unusedSimpArgs false
set_option linter.unusedVariables false
open Go.RowKit
set_option maxRecDepth 100000
/-- A reader: the line it is at (its number, the words left, whether it is wrong), the lines behind. -/
structure Rd where
  n : Nat
  ws : List (List UInt8)
  bad : Bool
  rest : List (Nat × List (List UInt8))
def intN (u : List UInt8) : Int := if intOk u then intV u else 0
theorem intA_eq (u : List UInt8) : intA u = .tuple #[.int .i64 (intN u), .bool (intOk u)] := by
  unfold intA intN
  cases h : intOk u <;> simp
theorem intN_in (u : List UInt8) : -1000000000 < intN u ∧ intN u < 1000000000 := by
  unfold intN
  split
  · rename_i h
    unfold intOk at h
    unfold intV
    split at h
    · simp only [Bool.and_eq_true] at h
      have := numv_ok h.1
      rename_i h2
      rw [if_pos h2]; omega
    · have := numv_ok h
      rename_i h2
      rw [if_neg h2]; omega
  · decide
def Rd.must (r : Rd) (b : Bool) : Rd := ⟨r.n, r.ws, r.bad || !b, r.rest⟩
def Rd.fin (r : Rd) : Rd := r.must r.ws.isEmpty
def Rd.hd (r : Rd) : List UInt8 := r.ws.headD []
def Rd.word (r : Rd) : Rd := ⟨r.n, r.ws.tail, r.bad || r.ws.isEmpty, r.rest⟩
def Rd.skip : Nat → Rd → Rd
  | 0, r => r
  | k + 1, r => Rd.skip k r.word
def Rd.num (r : Rd) : Int := intN r.hd
def Rd.number (r : Rd) : Rd := r.word.must (intOk r.hd)
def Rd.among (r : Rd) (lo hi : Int) : Rd := r.number.must (decide (lo ≤ r.num) && decide (r.num ≤ hi))
def Rd.markN (r : Rd) (told : Int) : Int := if told = 0 then 0 else r.num
def Rd.mark (r : Rd) (told : Int) : Rd := if told = 0 then r else r.number
def Rd.frac (ok : List UInt8 → Bool) (r : Rd) : Rd := r.word.must (ok r.hd)
def Rd.next (r : Rd) : Rd := if r.fin.bad then r.fin else match r.rest with
  | [] => r.fin
  | l :: t => ⟨l.1, l.2, false, t⟩
/-- So many lines, each with its number ahead of one item; the number of the first. -/
def lst {α : Type} (val : Rd → α) (st : Rd → Rd) : Nat → Nat → Int → List α → Rd → List α × Int × Rd
  | 0, _, f, acc, r => (acc, f, r)
  | k + 1, i, f, acc, r => if r.bad then (acc, f, r) else
    lst val st k (i + 1) (if i = 0 then r.next.num else f) (acc ++ [val ((r.next.among i (i + 1)).must (decide (r.next.num = (if i = 0 then r.next.num else f) + i)))])
      (st ((r.next.among i (i + 1)).must (decide (r.next.num = (if i = 0 then r.next.num else f) + i))))
/-- A vertex: X, Y, words, a mark. -/
def vVal (at_ : Nat) (m : Int) (r : Rd) : Int × Int × Int := (r.num, r.number.num, (Rd.skip at_ r.number.number).markN m)
def vSt (at_ : Nat) (m : Int) (r : Rd) : Rd := (Rd.skip at_ r.number.number).mark m
def sVal (lo hi m : Int) (r : Rd) : Int × Int × Int := (r.num - lo, (r.among lo hi).num - lo, ((r.among lo hi).among lo hi).markN m)
def sSt (lo hi m : Int) (r : Rd) : Rd := ((r.among lo hi).among lo hi).mark m
def hVal (fq : List UInt8 → Int × Int) (ok : List UInt8 → Bool) (r : Rd) : (Int × Int) × (Int × Int) := (fq r.hd, fq (r.frac ok).hd)
def hSt (ok : List UInt8 → Bool) (r : Rd) : Rd := (r.frac ok).frac ok
/-- N 2 K M and what follows. -/
def vAll (r : Rd) : List (Int × Int × Int) × Int × Rd :=
  let r1 := r.next
  let r2 := r1.among 0 1000
  let r3 := r2.among 2 2
  let r4 := r3.among 0 2
  let r5 := r4.among 0 1
  lst (vVal r3.num.toNat r4.num) (vSt r3.num.toNat r4.num) r1.num.toNat 0 0 [] r5
def sAll (lo hi : Int) (r : Rd) : List (Int × Int × Int) × Int × Rd :=
  let r1 := r.next
  let r2 := r1.among 0 1000
  let r3 := r2.among 0 1
  lst (sVal lo hi r2.num) (sSt lo hi r2.num) r1.num.toNat 0 0 [] r3
def hAll (fq : List UInt8 → Int × Int) (ok : List UInt8 → Bool) (r : Rd) : List ((Int × Int) × (Int × Int)) × Int × Rd :=
  let r1 := r.next
  let r2 := r1.among 0 1000
  lst (hVal fq ok) (hSt ok) r1.num.toNat 0 0 [] r2
/-- What a drawing's text writes: vertices, segments, holes; where it ends. -/
structure Dr where
  V : List (Int × Int × Int)
  S : List (Int × Int × Int)
  H : List ((Int × Int) × (Int × Int))
def drw (fq : List UInt8 → Int × Int) (ok : List UInt8 → Bool) (r : Rd) : Dr × Rd :=
  let a := vAll r
  let b := sAll a.2.1 (a.2.1 + a.1.length - 1) a.2.2
  let c := hAll fq ok b.2.2
  (⟨a.1, b.1, c.1⟩, c.2.2.next.fin)
/-- How many lines a text has, those without a word too. -/
def cnt (l : List UInt8) : Nat := l.count 10 + if l = [] ∨ l.getLast? = some 10 then 0 else 1
def rd0 (l : List UInt8) : Rd := ⟨0, [], false, lns 1 l ++ [(cnt l + 1, [])]⟩
end Go.Proofs.YtpalfmgloddhcaaGreatDoor
