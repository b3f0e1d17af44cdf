/-
  No cell of these rows narrows 'for every input' (looked for: loops, veiled, ifaces, maps, wideKeys, modest, calm, conditions, laid).
  DERIVED. THE GIVEN ROWS OF THIS SEAT. 3 by the template 'for every input the law returns true; each argument reads behind the call as it read before'; 0 by the template 'total and deterministic' (their statements: YtoegjibeomhekaaGreatTotals.lean).
  GIVEN WITH THE SEED: the statements are not yours to turn. If you find one false, say at which input.
  Laid BY PROGRAM, IN A SANDBOX (cutbox-rows.mjs): the forced cells as the released guide's own fill.sh prints them over the translation f65b1f2f82f1bd4f… (all of the seat's roots in one cut). By AI agents, Wed Nov 11 2026. No macro, syntax, notation, axiom, sorry.
-/
import Derived.Test.YtoegjibeomhekaaGreatChecked
import GoSem.Claim
import GoSem.ClaimJoined
import GoSem.ClaimMapViews
import Derived.JoinedTies
import Derived.KernelRfl
namespace Go.Proofs.YtoegjibeomhekaaGreat
/- THE CELL 'sum', in the pinned program and in every row, IS THE sha256 OF THE DUMP (.gsa) THAT YtoegjibeomhekaaGreatProg.lean LOADS. Nothing in Lean hashes anything: it is a label: what it is worth is what the hold of that sum in a sandbox is worth. -/
noncomputable def Tryz.pinned : Pinned := { name := "ytoegjibeomhekaagreat", sum := "f65b1f2f82f1bd4f10ad35393339669c1bf0e09b86c1095fd7af1ef3bbcc4f6c", checked := Tryz.checked }
namespace Rows
def none {H : Type} : Left H := { results := [], args := [] }

/-- 'parquetlaw9.ValidTurned': WHATEVER THE INPUT: true; the input reads as it did. -/
def validTurnedSpec : ChangeSpec := { name := "validTurned", fn := fun _ => fun
  | [d1, d2, d3] => { results := [.lit (.bool true)], args := [d1, d2, d3] }
  | _ => none }
def validTurnedRow : OpenClaim := { program := "ytoegjibeomhekaagreat", sum := "f65b1f2f82f1bd4f10ad35393339669c1bf0e09b86c1095fd7af1ef3bbcc4f6c", func := "parquet/parquetlaw9.ValidTurned", spec := "validTurned", unfollowed := true, recurses := true, apart := false }
def ValidTurnedSaid : Prop := validTurnedRow.holds Tryz.pinned (OpenSpec.ofChange validTurnedSpec)

/-- ITS FALSE NEIGHBOUR: 'it returns false'. Refute it at one input. -/
def validTurnedWrong : ChangeSpec := { name := "validTurned", fn := fun _ => fun
  | [d1, d2, d3] => { results := [.lit (.bool false)], args := [d1, d2, d3] }
  | _ => none }
def ValidTurnedWrongFalsely : Prop := validTurnedRow.holds Tryz.pinned (OpenSpec.ofChange validTurnedWrong)

/-- 'parquetlaw9.ValidSquares': WHATEVER THE INPUT: true; the input reads as it did. -/
def validSquaresSpec : ChangeSpec := { name := "validSquares", fn := fun _ => fun
  | [d1, d2, d3, d4, d5, d6] => { results := [.lit (.bool true)], args := [d1, d2, d3, d4, d5, d6] }
  | _ => none }
def validSquaresRow : OpenClaim := { program := "ytoegjibeomhekaagreat", sum := "f65b1f2f82f1bd4f10ad35393339669c1bf0e09b86c1095fd7af1ef3bbcc4f6c", func := "parquet/parquetlaw9.ValidSquares", spec := "validSquares", unfollowed := true, recurses := true, apart := false }
def ValidSquaresSaid : Prop := validSquaresRow.holds Tryz.pinned (OpenSpec.ofChange validSquaresSpec)

/-- ITS FALSE NEIGHBOUR: 'it returns false'. Refute it at one input. -/
def validSquaresWrong : ChangeSpec := { name := "validSquares", fn := fun _ => fun
  | [d1, d2, d3, d4, d5, d6] => { results := [.lit (.bool false)], args := [d1, d2, d3, d4, d5, d6] }
  | _ => none }
def ValidSquaresWrongFalsely : Prop := validSquaresRow.holds Tryz.pinned (OpenSpec.ofChange validSquaresWrong)

/-- 'parquetlaw9.ValidSpoils': WHATEVER THE INPUT: true; the input reads as it did. -/
def validSpoilsSpec : ChangeSpec := { name := "validSpoils", fn := fun _ => fun
  | [d1, d2, d3, d4] => { results := [.lit (.bool true)], args := [d1, d2, d3, d4] }
  | _ => none }
def validSpoilsRow : OpenClaim := { program := "ytoegjibeomhekaagreat", sum := "f65b1f2f82f1bd4f10ad35393339669c1bf0e09b86c1095fd7af1ef3bbcc4f6c", func := "parquet/parquetlaw9.ValidSpoils", spec := "validSpoils", unfollowed := true, recurses := true, apart := false }
def ValidSpoilsSaid : Prop := validSpoilsRow.holds Tryz.pinned (OpenSpec.ofChange validSpoilsSpec)

/-- ITS FALSE NEIGHBOUR: 'it returns false'. Refute it at one input. -/
def validSpoilsWrong : ChangeSpec := { name := "validSpoils", fn := fun _ => fun
  | [d1, d2, d3, d4] => { results := [.lit (.bool false)], args := [d1, d2, d3, d4] }
  | _ => none }
def ValidSpoilsWrongFalsely : Prop := validSpoilsRow.holds Tryz.pinned (OpenSpec.ofChange validSpoilsWrong)

/- THE SECOND FORM. 'bulk': how many values and letters a reading holds, each counted each time it is reached (what is shared counts as often as it is met; a slice's spare places count too). A statement '..UptoSaid' is the law's where the arguments, and the package variables that the reading takes, are together of bulk at most 1048576: NARROWER than '..Said'. Prove '..Said' where nothing that the law and all that it calls make is longer than what came in: it says more and counts as full. Else prove '..UptoSaid'. A law counts once. -/
mutual
def uptoBulk {H : Type} : DataW H → Nat
  | .lit (.string bytes) => bytes.length + 1
  | .lit _ => 1
  | .nil => 1
  | .ptr d => uptoBulk d + 1
  | .slice elems spare => uptoBulkAll elems + uptoBulkAll spare + 1
  | .agg parts => uptoBulkAll parts + 1
  | .iface _ d => uptoBulk d + 1
  | .map entries => uptoBulkEntries entries + 1
  | .held _ => 1
def uptoBulkAll {H : Type} : List (DataW H) → Nat
  | [] => 0
  | d :: r => uptoBulk d + uptoBulkAll r
def uptoBulkEntries {H : Type} : List (Lit × DataW H) → Nat
  | [] => 0
  | x :: r => uptoBulkEntry x + uptoBulkEntries r
def uptoBulkEntry {H : Type} : Lit × DataW H → Nat
  | (.string bytes, d) => bytes.length + uptoBulk d + 1
  | (_, d) => uptoBulk d + 1
 end
def uptoSmall : (H : Type) → List (DataW H) → Bool := fun _ ds => decide (uptoBulkAll ds ≤ 1048576)
def OpenSpec.upto (s : _root_.Go.ChangeSpec) : _root_.Go.OpenSpec := { _root_.Go.OpenSpec.ofChange s with cond := some uptoSmall }

/-- 'parquetlaw9.ValidTurned', WHERE WHAT IT READS IS OF BULK AT MOST 1048576: true; the input reads as it did. -/
def validTurnedUptoRow : OpenClaim := { program := "ytoegjibeomhekaagreat", sum := "f65b1f2f82f1bd4f10ad35393339669c1bf0e09b86c1095fd7af1ef3bbcc4f6c", func := "parquet/parquetlaw9.ValidTurned", spec := "validTurned", unfollowed := true, recurses := true, apart := false, narrowed := true }
def ValidTurnedUptoSaid : Prop := validTurnedUptoRow.holds Tryz.pinned (OpenSpec.upto validTurnedSpec)

/-- 'parquetlaw9.ValidSquares', WHERE WHAT IT READS IS OF BULK AT MOST 1048576: true; the input reads as it did. -/
def validSquaresUptoRow : OpenClaim := { program := "ytoegjibeomhekaagreat", sum := "f65b1f2f82f1bd4f10ad35393339669c1bf0e09b86c1095fd7af1ef3bbcc4f6c", func := "parquet/parquetlaw9.ValidSquares", spec := "validSquares", unfollowed := true, recurses := true, apart := false, narrowed := true }
def ValidSquaresUptoSaid : Prop := validSquaresUptoRow.holds Tryz.pinned (OpenSpec.upto validSquaresSpec)

/-- 'parquetlaw9.ValidSpoils', WHERE WHAT IT READS IS OF BULK AT MOST 1048576: true; the input reads as it did. -/
def validSpoilsUptoRow : OpenClaim := { program := "ytoegjibeomhekaagreat", sum := "f65b1f2f82f1bd4f10ad35393339669c1bf0e09b86c1095fd7af1ef3bbcc4f6c", func := "parquet/parquetlaw9.ValidSpoils", spec := "validSpoils", unfollowed := true, recurses := true, apart := false, narrowed := true }
def ValidSpoilsUptoSaid : Prop := validSpoilsUptoRow.holds Tryz.pinned (OpenSpec.upto validSpoilsSpec)

end Rows
end Go.Proofs.YtoegjibeomhekaaGreat
