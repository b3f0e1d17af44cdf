/-
  No cell of these rows narrows 'for every input' (looked for: loops, veiled, ifaces, maps, wideKeys, modest, calm, conditions, laid).
  DERIVED. THE GIVEN ROWS OF THIS SEAT. 4 by the template 'for every input the law returns true; each argument reads behind the call as it read before'; 0 by the template 'total and deterministic' (their statements: YtoahkpfngemhcaaTotals.lean).
  GIVEN WITH THE SEED: the statements are not yours to turn. If you find one false, say at which input.
  Laid BY PROGRAM, IN A SANDBOX (cutbox-rows.mjs): the forced cells as the released guide's own fill.sh prints them over the translation 7b2bae7c0af0fa19… (all of the seat's roots in one cut). By AI agents, Wed Nov 11 2026. No macro, syntax, notation, axiom, sorry.
-/
import Derived.Test.YtoahkpfngemhcaaChecked
import GoSem.Claim
import GoSem.ClaimJoined
import GoSem.ClaimMapViews
import Derived.JoinedTies
import Derived.KernelRfl
namespace Go.Proofs.Ytoahkpfngemhcaa
/- THE CELL 'sum', in the pinned program and in every row, IS THE sha256 OF THE DUMP (.gsa) THAT YtoahkpfngemhcaaProg.lean LOADS. Nothing in Lean hashes anything: it is a label: what it is worth is what the hold of that sum in a sandbox is worth. -/
noncomputable def Try.pinned : Pinned := { name := "ytoahkpfngemhcaa", sum := "7b2bae7c0af0fa19982dcd27af9de6c211d27eeb52ad83c9158d8b0273c612dc", checked := Try.checked }
namespace Rows
def none {H : Type} : Left H := { results := [], args := [] }

/-- 'parquetlaw6.LexTells': WHATEVER THE INPUT: true; the input reads as it did. -/
def lexTellsSpec : ChangeSpec := { name := "lexTells", fn := fun _ => fun
  | [d1, d2] => { results := [.lit (.bool true)], args := [d1, d2] }
  | _ => none }
def lexTellsRow : OpenClaim := { program := "ytoahkpfngemhcaa", sum := "7b2bae7c0af0fa19982dcd27af9de6c211d27eeb52ad83c9158d8b0273c612dc", func := "parquet/parquetlaw6.LexTells", spec := "lexTells", apart := false }
def LexTellsSaid : Prop := lexTellsRow.holds Try.pinned (OpenSpec.ofChange lexTellsSpec)

/-- ITS FALSE NEIGHBOUR: 'it returns false'. Refute it at one input. -/
def lexTellsWrong : ChangeSpec := { name := "lexTells", fn := fun _ => fun
  | [d1, d2] => { results := [.lit (.bool false)], args := [d1, d2] }
  | _ => none }
def LexTellsWrongFalsely : Prop := lexTellsRow.holds Try.pinned (OpenSpec.ofChange lexTellsWrong)

/-- 'parquetlaw6.LexWords': WHATEVER THE INPUT: true; the input reads as it did. -/
def lexWordsSpec : ChangeSpec := { name := "lexWords", fn := fun _ => fun
  | [d1, d2, d3] => { results := [.lit (.bool true)], args := [d1, d2, d3] }
  | _ => none }
def lexWordsRow : OpenClaim := { program := "ytoahkpfngemhcaa", sum := "7b2bae7c0af0fa19982dcd27af9de6c211d27eeb52ad83c9158d8b0273c612dc", func := "parquet/parquetlaw6.LexWords", spec := "lexWords", apart := false }
def LexWordsSaid : Prop := lexWordsRow.holds Try.pinned (OpenSpec.ofChange lexWordsSpec)

/-- ITS FALSE NEIGHBOUR: 'it returns false'. Refute it at one input. -/
def lexWordsWrong : ChangeSpec := { name := "lexWords", fn := fun _ => fun
  | [d1, d2, d3] => { results := [.lit (.bool false)], args := [d1, d2, d3] }
  | _ => none }
def LexWordsWrongFalsely : Prop := lexWordsRow.holds Try.pinned (OpenSpec.ofChange lexWordsWrong)

/-- 'parquetlaw6.LexInts': WHATEVER THE INPUT: true; the input reads as it did. -/
def lexIntsSpec : ChangeSpec := { name := "lexInts", fn := fun _ => fun
  | [d] => { results := [.lit (.bool true)], args := [d] }
  | _ => none }
def lexIntsRow : OpenClaim := { program := "ytoahkpfngemhcaa", sum := "7b2bae7c0af0fa19982dcd27af9de6c211d27eeb52ad83c9158d8b0273c612dc", func := "parquet/parquetlaw6.LexInts", spec := "lexInts", recurses := true, apart := false }
def LexIntsSaid : Prop := lexIntsRow.holds Try.pinned (OpenSpec.ofChange lexIntsSpec)

/-- ITS FALSE NEIGHBOUR: 'it returns false'. Refute it at one input. -/
def lexIntsWrong : ChangeSpec := { name := "lexInts", fn := fun _ => fun
  | [d] => { results := [.lit (.bool false)], args := [d] }
  | _ => none }
def LexIntsWrongFalsely : Prop := lexIntsRow.holds Try.pinned (OpenSpec.ofChange lexIntsWrong)

/-- 'parquetlaw6.LexEmpty': WHATEVER THE INPUT: true; the input reads as it did. -/
def lexEmptySpec : ChangeSpec := { name := "lexEmpty", fn := fun _ => fun
  | [d1, d2] => { results := [.lit (.bool true)], args := [d1, d2] }
  | _ => none }
def lexEmptyRow : OpenClaim := { program := "ytoahkpfngemhcaa", sum := "7b2bae7c0af0fa19982dcd27af9de6c211d27eeb52ad83c9158d8b0273c612dc", func := "parquet/parquetlaw6.LexEmpty", spec := "lexEmpty", apart := false }
def LexEmptySaid : Prop := lexEmptyRow.holds Try.pinned (OpenSpec.ofChange lexEmptySpec)

/-- ITS FALSE NEIGHBOUR: 'it returns false'. Refute it at one input. -/
def lexEmptyWrong : ChangeSpec := { name := "lexEmpty", fn := fun _ => fun
  | [d1, d2] => { results := [.lit (.bool false)], args := [d1, d2] }
  | _ => none }
def LexEmptyWrongFalsely : Prop := lexEmptyRow.holds Try.pinned (OpenSpec.ofChange lexEmptyWrong)

/- THE SECOND FORM. 'bulk': how many values and letters a reading holds, each counted each time it is reached (what is shared counts as often as it is met; a slice's spare places count too). A statement '..UptoSaid' is the law's where the arguments, and the package variables that the reading takes, are together of bulk at most 1048576: NARROWER than '..Said'. Prove '..Said' where nothing that the law and all that it calls make is longer than what came in: it says more and counts as full. Else prove '..UptoSaid'. A law counts once. -/
mutual
def uptoBulk {H : Type} : DataW H → Nat
  | .lit (.string bytes) => bytes.length + 1
  | .lit _ => 1
  | .nil => 1
  | .ptr d => uptoBulk d + 1
  | .slice elems spare => uptoBulkAll elems + uptoBulkAll spare + 1
  | .agg parts => uptoBulkAll parts + 1
  | .iface _ d => uptoBulk d + 1
  | .map entries => uptoBulkEntries entries + 1
  | .held _ => 1
def uptoBulkAll {H : Type} : List (DataW H) → Nat
  | [] => 0
  | d :: r => uptoBulk d + uptoBulkAll r
def uptoBulkEntries {H : Type} : List (Lit × DataW H) → Nat
  | [] => 0
  | x :: r => uptoBulkEntry x + uptoBulkEntries r
def uptoBulkEntry {H : Type} : Lit × DataW H → Nat
  | (.string bytes, d) => bytes.length + uptoBulk d + 1
  | (_, d) => uptoBulk d + 1
 end
def uptoSmall : (H : Type) → List (DataW H) → Bool := fun _ ds => decide (uptoBulkAll ds ≤ 1048576)
def OpenSpec.upto (s : _root_.Go.ChangeSpec) : _root_.Go.OpenSpec := { _root_.Go.OpenSpec.ofChange s with cond := some uptoSmall }

/-- 'parquetlaw6.LexTells', WHERE WHAT IT READS IS OF BULK AT MOST 1048576: true; the input reads as it did. -/
def lexTellsUptoRow : OpenClaim := { program := "ytoahkpfngemhcaa", sum := "7b2bae7c0af0fa19982dcd27af9de6c211d27eeb52ad83c9158d8b0273c612dc", func := "parquet/parquetlaw6.LexTells", spec := "lexTells", apart := false, narrowed := true }
def LexTellsUptoSaid : Prop := lexTellsUptoRow.holds Try.pinned (OpenSpec.upto lexTellsSpec)

/-- 'parquetlaw6.LexWords', WHERE WHAT IT READS IS OF BULK AT MOST 1048576: true; the input reads as it did. -/
def lexWordsUptoRow : OpenClaim := { program := "ytoahkpfngemhcaa", sum := "7b2bae7c0af0fa19982dcd27af9de6c211d27eeb52ad83c9158d8b0273c612dc", func := "parquet/parquetlaw6.LexWords", spec := "lexWords", apart := false, narrowed := true }
def LexWordsUptoSaid : Prop := lexWordsUptoRow.holds Try.pinned (OpenSpec.upto lexWordsSpec)

/-- 'parquetlaw6.LexInts', WHERE WHAT IT READS IS OF BULK AT MOST 1048576: true; the input reads as it did. -/
def lexIntsUptoRow : OpenClaim := { program := "ytoahkpfngemhcaa", sum := "7b2bae7c0af0fa19982dcd27af9de6c211d27eeb52ad83c9158d8b0273c612dc", func := "parquet/parquetlaw6.LexInts", spec := "lexInts", recurses := true, apart := false, narrowed := true }
def LexIntsUptoSaid : Prop := lexIntsUptoRow.holds Try.pinned (OpenSpec.upto lexIntsSpec)

/-- 'parquetlaw6.LexEmpty', WHERE WHAT IT READS IS OF BULK AT MOST 1048576: true; the input reads as it did. -/
def lexEmptyUptoRow : OpenClaim := { program := "ytoahkpfngemhcaa", sum := "7b2bae7c0af0fa19982dcd27af9de6c211d27eeb52ad83c9158d8b0273c612dc", func := "parquet/parquetlaw6.LexEmpty", spec := "lexEmpty", apart := false, narrowed := true }
def LexEmptyUptoSaid : Prop := lexEmptyUptoRow.holds Try.pinned (OpenSpec.upto lexEmptySpec)

end Rows
end Go.Proofs.Ytoahkpfngemhcaa
