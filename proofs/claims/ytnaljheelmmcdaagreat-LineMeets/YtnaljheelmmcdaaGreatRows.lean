/-
  No cell of these rows narrows 'for every input' (looked for: loops, veiled, ifaces, maps, wideKeys, modest, calm, conditions, laid).
  DERIVED. THE GIVEN ROWS OF THIS SEAT. 4 by the template 'for every input the law returns true; each argument reads behind the call as it read before'; 0 by the template 'total and deterministic' (their statements: YtnaljheelmmcdaaGreatTotals.lean).
  GIVEN WITH THE SEED: the statements are not yours to turn. If you find one false, say at which input.
  Laid BY PROGRAM, IN A SANDBOX (cutbox-rows.mjs): the forced cells as the released guide's own fill.sh prints them over the translation 222b02382790d5f5… (all of the seat's roots in one cut). By AI agents, Wed Nov 11 2026. No macro, syntax, notation, axiom, sorry.
-/
import Derived.Test.YtnaljheelmmcdaaGreatChecked
import GoSem.Claim
import GoSem.ClaimJoined
import GoSem.ClaimMapViews
import Derived.JoinedTies
import Derived.KernelRfl
namespace Go.Proofs.YtnaljheelmmcdaaGreat
/- THE CELL 'sum', in the pinned program and in every row, IS THE sha256 OF THE DUMP (.gsa) THAT YtnaljheelmmcdaaGreatProg.lean LOADS. Nothing in Lean hashes anything: it is a label: what it is worth is what the hold of that sum in a sandbox is worth. -/
noncomputable def Tryz.pinned : Pinned := { name := "ytnaljheelmmcdaagreat", sum := "222b02382790d5f5cfa9403f3716e9babb4cfe16c6bcdd2ae08d07e193f3a7fb", checked := Tryz.checked }
namespace Rows
def none {H : Type} : Left H := { results := [], args := [] }

/-- 'parquetlaw4.LineGrid': WHATEVER THE INPUT: true; the input reads as it did. -/
def lineGridSpec : ChangeSpec := { name := "lineGrid", fn := fun _ => fun
  | [d1, d2, d3, d4, d5, d6, d7, d8] => { results := [.lit (.bool true)], args := [d1, d2, d3, d4, d5, d6, d7, d8] }
  | _ => none }
def lineGridRow : OpenClaim := { program := "ytnaljheelmmcdaagreat", sum := "222b02382790d5f5cfa9403f3716e9babb4cfe16c6bcdd2ae08d07e193f3a7fb", func := "parquet/parquetlaw4.LineGrid", spec := "lineGrid", apart := false }
def LineGridSaid : Prop := lineGridRow.holds Tryz.pinned (OpenSpec.ofChange lineGridSpec)

/-- ITS FALSE NEIGHBOUR: 'it returns false'. Refute it at one input. -/
def lineGridWrong : ChangeSpec := { name := "lineGrid", fn := fun _ => fun
  | [d1, d2, d3, d4, d5, d6, d7, d8] => { results := [.lit (.bool false)], args := [d1, d2, d3, d4, d5, d6, d7, d8] }
  | _ => none }
def LineGridWrongFalsely : Prop := lineGridRow.holds Tryz.pinned (OpenSpec.ofChange lineGridWrong)

/-- 'parquetlaw4.LineMeets': WHATEVER THE INPUT: true; the input reads as it did. -/
def lineMeetsSpec : ChangeSpec := { name := "lineMeets", fn := fun _ => fun
  | [d1, d2, d3, d4] => { results := [.lit (.bool true)], args := [d1, d2, d3, d4] }
  | _ => none }
def lineMeetsRow : OpenClaim := { program := "ytnaljheelmmcdaagreat", sum := "222b02382790d5f5cfa9403f3716e9babb4cfe16c6bcdd2ae08d07e193f3a7fb", func := "parquet/parquetlaw4.LineMeets", spec := "lineMeets", apart := false }
def LineMeetsSaid : Prop := lineMeetsRow.holds Tryz.pinned (OpenSpec.ofChange lineMeetsSpec)

/-- ITS FALSE NEIGHBOUR: 'it returns false'. Refute it at one input. -/
def lineMeetsWrong : ChangeSpec := { name := "lineMeets", fn := fun _ => fun
  | [d1, d2, d3, d4] => { results := [.lit (.bool false)], args := [d1, d2, d3, d4] }
  | _ => none }
def LineMeetsWrongFalsely : Prop := lineMeetsRow.holds Tryz.pinned (OpenSpec.ofChange lineMeetsWrong)

/-- 'parquetlaw4.LineParts': WHATEVER THE INPUT: true; the input reads as it did. -/
def linePartsSpec : ChangeSpec := { name := "lineParts", fn := fun _ => fun
  | [d1, d2, d3, d4, d5, d6, d7] => { results := [.lit (.bool true)], args := [d1, d2, d3, d4, d5, d6, d7] }
  | _ => none }
def linePartsRow : OpenClaim := { program := "ytnaljheelmmcdaagreat", sum := "222b02382790d5f5cfa9403f3716e9babb4cfe16c6bcdd2ae08d07e193f3a7fb", func := "parquet/parquetlaw4.LineParts", spec := "lineParts", apart := false }
def LinePartsSaid : Prop := linePartsRow.holds Tryz.pinned (OpenSpec.ofChange linePartsSpec)

/-- ITS FALSE NEIGHBOUR: 'it returns false'. Refute it at one input. -/
def linePartsWrong : ChangeSpec := { name := "lineParts", fn := fun _ => fun
  | [d1, d2, d3, d4, d5, d6, d7] => { results := [.lit (.bool false)], args := [d1, d2, d3, d4, d5, d6, d7] }
  | _ => none }
def LinePartsWrongFalsely : Prop := linePartsRow.holds Tryz.pinned (OpenSpec.ofChange linePartsWrong)

/-- 'parquetlaw4.LineHeights': WHATEVER THE INPUT: true; the input reads as it did. -/
def lineHeightsSpec : ChangeSpec := { name := "lineHeights", fn := fun _ => fun
  | [d1, d2, d3, d4, d5, d6] => { results := [.lit (.bool true)], args := [d1, d2, d3, d4, d5, d6] }
  | _ => none }
def lineHeightsRow : OpenClaim := { program := "ytnaljheelmmcdaagreat", sum := "222b02382790d5f5cfa9403f3716e9babb4cfe16c6bcdd2ae08d07e193f3a7fb", func := "parquet/parquetlaw4.LineHeights", spec := "lineHeights", apart := false }
def LineHeightsSaid : Prop := lineHeightsRow.holds Tryz.pinned (OpenSpec.ofChange lineHeightsSpec)

/-- ITS FALSE NEIGHBOUR: 'it returns false'. Refute it at one input. -/
def lineHeightsWrong : ChangeSpec := { name := "lineHeights", fn := fun _ => fun
  | [d1, d2, d3, d4, d5, d6] => { results := [.lit (.bool false)], args := [d1, d2, d3, d4, d5, d6] }
  | _ => none }
def LineHeightsWrongFalsely : Prop := lineHeightsRow.holds Tryz.pinned (OpenSpec.ofChange lineHeightsWrong)

/- THE SECOND FORM. 'bulk': how many values and letters a reading holds, each counted each time it is reached (what is shared counts as often as it is met; a slice's spare places count too). A statement '..UptoSaid' is the law's where the arguments, and the package variables that the reading takes, are together of bulk at most 1048576: NARROWER than '..Said'. Prove '..Said' where nothing that the law and all that it calls make is longer than what came in: it says more and counts as full. Else prove '..UptoSaid'. A law counts once. -/
mutual
def uptoBulk {H : Type} : DataW H → Nat
  | .lit (.string bytes) => bytes.length + 1
  | .lit _ => 1
  | .nil => 1
  | .ptr d => uptoBulk d + 1
  | .slice elems spare => uptoBulkAll elems + uptoBulkAll spare + 1
  | .agg parts => uptoBulkAll parts + 1
  | .iface _ d => uptoBulk d + 1
  | .map entries => uptoBulkEntries entries + 1
  | .held _ => 1
def uptoBulkAll {H : Type} : List (DataW H) → Nat
  | [] => 0
  | d :: r => uptoBulk d + uptoBulkAll r
def uptoBulkEntries {H : Type} : List (Lit × DataW H) → Nat
  | [] => 0
  | x :: r => uptoBulkEntry x + uptoBulkEntries r
def uptoBulkEntry {H : Type} : Lit × DataW H → Nat
  | (.string bytes, d) => bytes.length + uptoBulk d + 1
  | (_, d) => uptoBulk d + 1
 end
def uptoSmall : (H : Type) → List (DataW H) → Bool := fun _ ds => decide (uptoBulkAll ds ≤ 1048576)
def OpenSpec.upto (s : _root_.Go.ChangeSpec) : _root_.Go.OpenSpec := { _root_.Go.OpenSpec.ofChange s with cond := some uptoSmall }

/-- 'parquetlaw4.LineGrid', WHERE WHAT IT READS IS OF BULK AT MOST 1048576: true; the input reads as it did. -/
def lineGridUptoRow : OpenClaim := { program := "ytnaljheelmmcdaagreat", sum := "222b02382790d5f5cfa9403f3716e9babb4cfe16c6bcdd2ae08d07e193f3a7fb", func := "parquet/parquetlaw4.LineGrid", spec := "lineGrid", apart := false, narrowed := true }
def LineGridUptoSaid : Prop := lineGridUptoRow.holds Tryz.pinned (OpenSpec.upto lineGridSpec)

/-- 'parquetlaw4.LineMeets', WHERE WHAT IT READS IS OF BULK AT MOST 1048576: true; the input reads as it did. -/
def lineMeetsUptoRow : OpenClaim := { program := "ytnaljheelmmcdaagreat", sum := "222b02382790d5f5cfa9403f3716e9babb4cfe16c6bcdd2ae08d07e193f3a7fb", func := "parquet/parquetlaw4.LineMeets", spec := "lineMeets", apart := false, narrowed := true }
def LineMeetsUptoSaid : Prop := lineMeetsUptoRow.holds Tryz.pinned (OpenSpec.upto lineMeetsSpec)

/-- 'parquetlaw4.LineParts', WHERE WHAT IT READS IS OF BULK AT MOST 1048576: true; the input reads as it did. -/
def linePartsUptoRow : OpenClaim := { program := "ytnaljheelmmcdaagreat", sum := "222b02382790d5f5cfa9403f3716e9babb4cfe16c6bcdd2ae08d07e193f3a7fb", func := "parquet/parquetlaw4.LineParts", spec := "lineParts", apart := false, narrowed := true }
def LinePartsUptoSaid : Prop := linePartsUptoRow.holds Tryz.pinned (OpenSpec.upto linePartsSpec)

/-- 'parquetlaw4.LineHeights', WHERE WHAT IT READS IS OF BULK AT MOST 1048576: true; the input reads as it did. -/
def lineHeightsUptoRow : OpenClaim := { program := "ytnaljheelmmcdaagreat", sum := "222b02382790d5f5cfa9403f3716e9babb4cfe16c6bcdd2ae08d07e193f3a7fb", func := "parquet/parquetlaw4.LineHeights", spec := "lineHeights", apart := false, narrowed := true }
def LineHeightsUptoSaid : Prop := lineHeightsUptoRow.holds Tryz.pinned (OpenSpec.upto lineHeightsSpec)

end Rows
end Go.Proofs.YtnaljheelmmcdaaGreat
