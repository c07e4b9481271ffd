/-
  No cell of these rows narrows 'for every input' (looked for: loops, veiled, ifaces, maps, wideKeys, modest, calm, conditions, laid).
  DERIVED. THE GIVEN ROWS OF THIS SEAT. 9 by the template 'for every input the law returns true; each argument reads behind the call as it read before'; 0 by the template 'total and deterministic' (their statements: YthamjkccljhhcabTotals.lean).
  GIVEN WITH THE SEED: the statements are not yours to turn. If you find one false, say at which input.
  Laid BY PROGRAM, IN A SANDBOX (cutbox-rows.mjs): the forced cells as the released guide's own fill.sh prints them over the translation 358be88051dd38d3… (all of the seat's roots in one cut). By AI agents, Wed Nov 11 2026. No macro, syntax, notation, axiom, sorry.
-/
import Derived.Test.YthamjkccljhhcabChecked
import GoSem.Claim
import GoSem.ClaimJoined
import GoSem.ClaimMapViews
import Derived.JoinedTies
import Derived.KernelRfl
namespace Go.Proofs.Ythamjkccljhhcab
/- THE CELL 'sum', in the pinned program and in every row, IS THE sha256 OF THE DUMP (.gsa) THAT YthamjkccljhhcabProg.lean LOADS. Nothing in Lean hashes anything: it is a label: what it is worth is what the hold of that sum in a sandbox is worth. -/
noncomputable def Try.pinned : Pinned := { name := "ythamjkccljhhcab", sum := "358be88051dd38d33e5f66437197c5e966b5f1a90037d8cb7c694451d28ace4d", checked := Try.checked }
namespace Rows
def none {H : Type} : Left H := { results := [], args := [] }

/-- 'patchbaylaw06.MemActs': WHATEVER THE INPUT: true; the input reads as it did. -/
def memActsSpec : ChangeSpec := { name := "memActs", fn := fun _ => fun
  | [d1, d2, d3] => { results := [.lit (.bool true)], args := [d1, d2, d3] }
  | _ => none }
def memActsRow : OpenClaim := { program := "ythamjkccljhhcab", sum := "358be88051dd38d33e5f66437197c5e966b5f1a90037d8cb7c694451d28ace4d", func := "patchbay/patchbaylaw06.MemActs", spec := "memActs", apart := false }
def MemActsSaid : Prop := memActsRow.holds Try.pinned (OpenSpec.ofChange memActsSpec)

/-- ITS FALSE NEIGHBOUR: 'it returns false'. Refute it at one input. -/
def memActsWrong : ChangeSpec := { name := "memActs", fn := fun _ => fun
  | [d1, d2, d3] => { results := [.lit (.bool false)], args := [d1, d2, d3] }
  | _ => none }
def MemActsWrongFalsely : Prop := memActsRow.holds Try.pinned (OpenSpec.ofChange memActsWrong)

/-- 'patchbaylaw06.MemNews': WHATEVER THE INPUT: true; the input reads as it did. -/
def memNewsSpec : ChangeSpec := { name := "memNews", fn := fun _ => fun
  | [d1, d2, d3] => { results := [.lit (.bool true)], args := [d1, d2, d3] }
  | _ => none }
def memNewsRow : OpenClaim := { program := "ythamjkccljhhcab", sum := "358be88051dd38d33e5f66437197c5e966b5f1a90037d8cb7c694451d28ace4d", func := "patchbay/patchbaylaw06.MemNews", spec := "memNews", apart := false }
def MemNewsSaid : Prop := memNewsRow.holds Try.pinned (OpenSpec.ofChange memNewsSpec)

/-- ITS FALSE NEIGHBOUR: 'it returns false'. Refute it at one input. -/
def memNewsWrong : ChangeSpec := { name := "memNews", fn := fun _ => fun
  | [d1, d2, d3] => { results := [.lit (.bool false)], args := [d1, d2, d3] }
  | _ => none }
def MemNewsWrongFalsely : Prop := memNewsRow.holds Try.pinned (OpenSpec.ofChange memNewsWrong)

/-- 'patchbaylaw06.MemLocks': WHATEVER THE INPUT: true; the input reads as it did. -/
def memLocksSpec : ChangeSpec := { name := "memLocks", fn := fun _ => fun
  | [d1, d2] => { results := [.lit (.bool true)], args := [d1, d2] }
  | _ => none }
def memLocksRow : OpenClaim := { program := "ythamjkccljhhcab", sum := "358be88051dd38d33e5f66437197c5e966b5f1a90037d8cb7c694451d28ace4d", func := "patchbay/patchbaylaw06.MemLocks", spec := "memLocks", apart := false }
def MemLocksSaid : Prop := memLocksRow.holds Try.pinned (OpenSpec.ofChange memLocksSpec)

/-- ITS FALSE NEIGHBOUR: 'it returns false'. Refute it at one input. -/
def memLocksWrong : ChangeSpec := { name := "memLocks", fn := fun _ => fun
  | [d1, d2] => { results := [.lit (.bool false)], args := [d1, d2] }
  | _ => none }
def MemLocksWrongFalsely : Prop := memLocksRow.holds Try.pinned (OpenSpec.ofChange memLocksWrong)

/-- 'patchbaylaw06.MemApart': WHATEVER THE INPUT: true; the input reads as it did. -/
def memApartSpec : ChangeSpec := { name := "memApart", fn := fun _ => fun
  | [d1, d2] => { results := [.lit (.bool true)], args := [d1, d2] }
  | _ => none }
def memApartRow : OpenClaim := { program := "ythamjkccljhhcab", sum := "358be88051dd38d33e5f66437197c5e966b5f1a90037d8cb7c694451d28ace4d", func := "patchbay/patchbaylaw06.MemApart", spec := "memApart", apart := false }
def MemApartSaid : Prop := memApartRow.holds Try.pinned (OpenSpec.ofChange memApartSpec)

/-- ITS FALSE NEIGHBOUR: 'it returns false'. Refute it at one input. -/
def memApartWrong : ChangeSpec := { name := "memApart", fn := fun _ => fun
  | [d1, d2] => { results := [.lit (.bool false)], args := [d1, d2] }
  | _ => none }
def MemApartWrongFalsely : Prop := memApartRow.holds Try.pinned (OpenSpec.ofChange memApartWrong)

/-- 'patchbaylaw07.TurnWhos': WHATEVER THE INPUT: true; the input reads as it did. -/
def turnWhosSpec : ChangeSpec := { name := "turnWhos", fn := fun _ => fun
  | [d1, d2, d3] => { results := [.lit (.bool true)], args := [d1, d2, d3] }
  | _ => none }
def turnWhosRow : OpenClaim := { program := "ythamjkccljhhcab", sum := "358be88051dd38d33e5f66437197c5e966b5f1a90037d8cb7c694451d28ace4d", func := "patchbay/patchbaylaw07.TurnWhos", spec := "turnWhos", unfollowed := true, recurses := true, apart := false }
def TurnWhosSaid : Prop := turnWhosRow.holds Try.pinned (OpenSpec.ofChange turnWhosSpec)

/-- ITS FALSE NEIGHBOUR: 'it returns false'. Refute it at one input. -/
def turnWhosWrong : ChangeSpec := { name := "turnWhos", fn := fun _ => fun
  | [d1, d2, d3] => { results := [.lit (.bool false)], args := [d1, d2, d3] }
  | _ => none }
def TurnWhosWrongFalsely : Prop := turnWhosRow.holds Try.pinned (OpenSpec.ofChange turnWhosWrong)

/-- 'patchbaylaw07.TurnLists': WHATEVER THE INPUT: true; the input reads as it did. -/
def turnListsSpec : ChangeSpec := { name := "turnLists", fn := fun _ => fun
  | [d1, d2, d3] => { results := [.lit (.bool true)], args := [d1, d2, d3] }
  | _ => none }
def turnListsRow : OpenClaim := { program := "ythamjkccljhhcab", sum := "358be88051dd38d33e5f66437197c5e966b5f1a90037d8cb7c694451d28ace4d", func := "patchbay/patchbaylaw07.TurnLists", spec := "turnLists", unfollowed := true, recurses := true, apart := false }
def TurnListsSaid : Prop := turnListsRow.holds Try.pinned (OpenSpec.ofChange turnListsSpec)

/-- ITS FALSE NEIGHBOUR: 'it returns false'. Refute it at one input. -/
def turnListsWrong : ChangeSpec := { name := "turnLists", fn := fun _ => fun
  | [d1, d2, d3] => { results := [.lit (.bool false)], args := [d1, d2, d3] }
  | _ => none }
def TurnListsWrongFalsely : Prop := turnListsRow.holds Try.pinned (OpenSpec.ofChange turnListsWrong)

/-- 'patchbaylaw07.TurnBursts': WHATEVER THE INPUT: true; the input reads as it did. -/
def turnBurstsSpec : ChangeSpec := { name := "turnBursts", fn := fun _ => fun
  | [d1, d2, d3] => { results := [.lit (.bool true)], args := [d1, d2, d3] }
  | _ => none }
def turnBurstsRow : OpenClaim := { program := "ythamjkccljhhcab", sum := "358be88051dd38d33e5f66437197c5e966b5f1a90037d8cb7c694451d28ace4d", func := "patchbay/patchbaylaw07.TurnBursts", spec := "turnBursts", unfollowed := true, recurses := true, apart := false }
def TurnBurstsSaid : Prop := turnBurstsRow.holds Try.pinned (OpenSpec.ofChange turnBurstsSpec)

/-- ITS FALSE NEIGHBOUR: 'it returns false'. Refute it at one input. -/
def turnBurstsWrong : ChangeSpec := { name := "turnBursts", fn := fun _ => fun
  | [d1, d2, d3] => { results := [.lit (.bool false)], args := [d1, d2, d3] }
  | _ => none }
def TurnBurstsWrongFalsely : Prop := turnBurstsRow.holds Try.pinned (OpenSpec.ofChange turnBurstsWrong)

/-- 'patchbaylaw07.TurnCounts': WHATEVER THE INPUT: true; the input reads as it did. -/
def turnCountsSpec : ChangeSpec := { name := "turnCounts", fn := fun _ => fun
  | [d1, d2] => { results := [.lit (.bool true)], args := [d1, d2] }
  | _ => none }
def turnCountsRow : OpenClaim := { program := "ythamjkccljhhcab", sum := "358be88051dd38d33e5f66437197c5e966b5f1a90037d8cb7c694451d28ace4d", func := "patchbay/patchbaylaw07.TurnCounts", spec := "turnCounts", unfollowed := true, recurses := true, apart := false }
def TurnCountsSaid : Prop := turnCountsRow.holds Try.pinned (OpenSpec.ofChange turnCountsSpec)

/-- ITS FALSE NEIGHBOUR: 'it returns false'. Refute it at one input. -/
def turnCountsWrong : ChangeSpec := { name := "turnCounts", fn := fun _ => fun
  | [d1, d2] => { results := [.lit (.bool false)], args := [d1, d2] }
  | _ => none }
def TurnCountsWrongFalsely : Prop := turnCountsRow.holds Try.pinned (OpenSpec.ofChange turnCountsWrong)

/-- 'patchbaylaw07.TurnFair': WHATEVER THE INPUT: true; the input reads as it did. -/
def turnFairSpec : ChangeSpec := { name := "turnFair", fn := fun _ => fun
  | [d1, d2, d3] => { results := [.lit (.bool true)], args := [d1, d2, d3] }
  | _ => none }
def turnFairRow : OpenClaim := { program := "ythamjkccljhhcab", sum := "358be88051dd38d33e5f66437197c5e966b5f1a90037d8cb7c694451d28ace4d", func := "patchbay/patchbaylaw07.TurnFair", spec := "turnFair", unfollowed := true, recurses := true, apart := false }
def TurnFairSaid : Prop := turnFairRow.holds Try.pinned (OpenSpec.ofChange turnFairSpec)

/-- ITS FALSE NEIGHBOUR: 'it returns false'. Refute it at one input. -/
def turnFairWrong : ChangeSpec := { name := "turnFair", fn := fun _ => fun
  | [d1, d2, d3] => { results := [.lit (.bool false)], args := [d1, d2, d3] }
  | _ => none }
def TurnFairWrongFalsely : Prop := turnFairRow.holds Try.pinned (OpenSpec.ofChange turnFairWrong)

/- THE SECOND FORM. 'bulk': how many values and letters a reading holds, each counted each time it is reached (what is shared counts as often as it is met; a slice's spare places count too). A statement '..UptoSaid' is the law's where the arguments, and the package variables that the reading takes, are together of bulk at most 1048576: NARROWER than '..Said'. Prove '..Said' where nothing that the law and all that it calls make is longer than what came in: it says more and counts as full. Else prove '..UptoSaid'. A law counts once. -/
mutual
def uptoBulk {H : Type} : DataW H → Nat
  | .lit (.string bytes) => bytes.length + 1
  | .lit _ => 1
  | .nil => 1
  | .ptr d => uptoBulk d + 1
  | .slice elems spare => uptoBulkAll elems + uptoBulkAll spare + 1
  | .agg parts => uptoBulkAll parts + 1
  | .iface _ d => uptoBulk d + 1
  | .map entries => uptoBulkEntries entries + 1
  | .held _ => 1
def uptoBulkAll {H : Type} : List (DataW H) → Nat
  | [] => 0
  | d :: r => uptoBulk d + uptoBulkAll r
def uptoBulkEntries {H : Type} : List (Lit × DataW H) → Nat
  | [] => 0
  | x :: r => uptoBulkEntry x + uptoBulkEntries r
def uptoBulkEntry {H : Type} : Lit × DataW H → Nat
  | (.string bytes, d) => bytes.length + uptoBulk d + 1
  | (_, d) => uptoBulk d + 1
 end
def uptoSmall : (H : Type) → List (DataW H) → Bool := fun _ ds => decide (uptoBulkAll ds ≤ 1048576)
def OpenSpec.upto (s : _root_.Go.ChangeSpec) : _root_.Go.OpenSpec := { _root_.Go.OpenSpec.ofChange s with cond := some uptoSmall }

/-- 'patchbaylaw06.MemActs', WHERE WHAT IT READS IS OF BULK AT MOST 1048576: true; the input reads as it did. -/
def memActsUptoRow : OpenClaim := { program := "ythamjkccljhhcab", sum := "358be88051dd38d33e5f66437197c5e966b5f1a90037d8cb7c694451d28ace4d", func := "patchbay/patchbaylaw06.MemActs", spec := "memActs", apart := false, narrowed := true }
def MemActsUptoSaid : Prop := memActsUptoRow.holds Try.pinned (OpenSpec.upto memActsSpec)

/-- 'patchbaylaw06.MemNews', WHERE WHAT IT READS IS OF BULK AT MOST 1048576: true; the input reads as it did. -/
def memNewsUptoRow : OpenClaim := { program := "ythamjkccljhhcab", sum := "358be88051dd38d33e5f66437197c5e966b5f1a90037d8cb7c694451d28ace4d", func := "patchbay/patchbaylaw06.MemNews", spec := "memNews", apart := false, narrowed := true }
def MemNewsUptoSaid : Prop := memNewsUptoRow.holds Try.pinned (OpenSpec.upto memNewsSpec)

/-- 'patchbaylaw06.MemLocks', WHERE WHAT IT READS IS OF BULK AT MOST 1048576: true; the input reads as it did. -/
def memLocksUptoRow : OpenClaim := { program := "ythamjkccljhhcab", sum := "358be88051dd38d33e5f66437197c5e966b5f1a90037d8cb7c694451d28ace4d", func := "patchbay/patchbaylaw06.MemLocks", spec := "memLocks", apart := false, narrowed := true }
def MemLocksUptoSaid : Prop := memLocksUptoRow.holds Try.pinned (OpenSpec.upto memLocksSpec)

/-- 'patchbaylaw06.MemApart', WHERE WHAT IT READS IS OF BULK AT MOST 1048576: true; the input reads as it did. -/
def memApartUptoRow : OpenClaim := { program := "ythamjkccljhhcab", sum := "358be88051dd38d33e5f66437197c5e966b5f1a90037d8cb7c694451d28ace4d", func := "patchbay/patchbaylaw06.MemApart", spec := "memApart", apart := false, narrowed := true }
def MemApartUptoSaid : Prop := memApartUptoRow.holds Try.pinned (OpenSpec.upto memApartSpec)

/-- 'patchbaylaw07.TurnWhos', WHERE WHAT IT READS IS OF BULK AT MOST 1048576: true; the input reads as it did. -/
def turnWhosUptoRow : OpenClaim := { program := "ythamjkccljhhcab", sum := "358be88051dd38d33e5f66437197c5e966b5f1a90037d8cb7c694451d28ace4d", func := "patchbay/patchbaylaw07.TurnWhos", spec := "turnWhos", unfollowed := true, recurses := true, apart := false, narrowed := true }
def TurnWhosUptoSaid : Prop := turnWhosUptoRow.holds Try.pinned (OpenSpec.upto turnWhosSpec)

/-- 'patchbaylaw07.TurnLists', WHERE WHAT IT READS IS OF BULK AT MOST 1048576: true; the input reads as it did. -/
def turnListsUptoRow : OpenClaim := { program := "ythamjkccljhhcab", sum := "358be88051dd38d33e5f66437197c5e966b5f1a90037d8cb7c694451d28ace4d", func := "patchbay/patchbaylaw07.TurnLists", spec := "turnLists", unfollowed := true, recurses := true, apart := false, narrowed := true }
def TurnListsUptoSaid : Prop := turnListsUptoRow.holds Try.pinned (OpenSpec.upto turnListsSpec)

/-- 'patchbaylaw07.TurnBursts', WHERE WHAT IT READS IS OF BULK AT MOST 1048576: true; the input reads as it did. -/
def turnBurstsUptoRow : OpenClaim := { program := "ythamjkccljhhcab", sum := "358be88051dd38d33e5f66437197c5e966b5f1a90037d8cb7c694451d28ace4d", func := "patchbay/patchbaylaw07.TurnBursts", spec := "turnBursts", unfollowed := true, recurses := true, apart := false, narrowed := true }
def TurnBurstsUptoSaid : Prop := turnBurstsUptoRow.holds Try.pinned (OpenSpec.upto turnBurstsSpec)

/-- 'patchbaylaw07.TurnCounts', WHERE WHAT IT READS IS OF BULK AT MOST 1048576: true; the input reads as it did. -/
def turnCountsUptoRow : OpenClaim := { program := "ythamjkccljhhcab", sum := "358be88051dd38d33e5f66437197c5e966b5f1a90037d8cb7c694451d28ace4d", func := "patchbay/patchbaylaw07.TurnCounts", spec := "turnCounts", unfollowed := true, recurses := true, apart := false, narrowed := true }
def TurnCountsUptoSaid : Prop := turnCountsUptoRow.holds Try.pinned (OpenSpec.upto turnCountsSpec)

/-- 'patchbaylaw07.TurnFair', WHERE WHAT IT READS IS OF BULK AT MOST 1048576: true; the input reads as it did. -/
def turnFairUptoRow : OpenClaim := { program := "ythamjkccljhhcab", sum := "358be88051dd38d33e5f66437197c5e966b5f1a90037d8cb7c694451d28ace4d", func := "patchbay/patchbaylaw07.TurnFair", spec := "turnFair", unfollowed := true, recurses := true, apart := false, narrowed := true }
def TurnFairUptoSaid : Prop := turnFairUptoRow.holds Try.pinned (OpenSpec.upto turnFairSpec)

end Rows
end Go.Proofs.Ythamjkccljhhcab
