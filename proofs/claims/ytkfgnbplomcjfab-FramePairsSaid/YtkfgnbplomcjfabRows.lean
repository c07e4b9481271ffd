/-
  No cell of these rows narrows 'for every input' (looked for: loops, veiled, ifaces, maps, wideKeys, modest, calm, conditions, laid).
  DERIVED. THE GIVEN ROWS OF THIS SEAT. 7 by the template 'for every input the law returns true; each argument reads behind the call as it read before'; 0 by the template 'total and deterministic' (their statements: YtkfgnbplomcjfabTotals.lean).
  GIVEN WITH THE SEED: the statements are not yours to turn. If you find one false, say at which input.
  Laid BY PROGRAM, IN A SANDBOX (cutbox-rows.mjs): the forced cells as the released guide's own fill.sh prints them over the translation 09e6e6af00bb0980… (all of the seat's roots in one cut). By AI agents, Wed Nov 11 2026. No macro, syntax, notation, axiom, sorry.
-/
import Derived.Test.YtkfgnbplomcjfabChecked
import GoSem.Claim
import GoSem.ClaimJoined
import GoSem.ClaimMapViews
import Derived.JoinedTies
import Derived.KernelRfl
namespace Go.Proofs.Ytkfgnbplomcjfab
/- THE CELL 'sum', in the pinned program and in every row, IS THE sha256 OF THE DUMP (.gsa) THAT YtkfgnbplomcjfabProg.lean LOADS. Nothing in Lean hashes anything: it is a label: what it is worth is what the hold of that sum in a sandbox is worth. -/
noncomputable def Try.pinned : Pinned := { name := "ytkfgnbplomcjfab", sum := "09e6e6af00bb0980f0ed412e3982e50236230a8b52b5e3e3b17bd544d44c4033", checked := Try.checked }
namespace Rows
def none {H : Type} : Left H := { results := [], args := [] }

/-- 'patchbaylaw02.FramePairs': WHATEVER THE INPUT: true; the input reads as it did. -/
def framePairsSpec : ChangeSpec := { name := "framePairs", fn := fun _ => fun
  | [d1, d2] => { results := [.lit (.bool true)], args := [d1, d2] }
  | _ => none }
def framePairsRow : OpenClaim := { program := "ytkfgnbplomcjfab", sum := "09e6e6af00bb0980f0ed412e3982e50236230a8b52b5e3e3b17bd544d44c4033", func := "patchbay/patchbaylaw02.FramePairs", spec := "framePairs", apart := false }
def FramePairsSaid : Prop := framePairsRow.holds Try.pinned (OpenSpec.ofChange framePairsSpec)

/-- ITS FALSE NEIGHBOUR: 'it returns false'. Refute it at one input. -/
def framePairsWrong : ChangeSpec := { name := "framePairs", fn := fun _ => fun
  | [d1, d2] => { results := [.lit (.bool false)], args := [d1, d2] }
  | _ => none }
def FramePairsWrongFalsely : Prop := framePairsRow.holds Try.pinned (OpenSpec.ofChange framePairsWrong)

/-- 'patchbaylaw03.VlanSets': WHATEVER THE INPUT: true; the input reads as it did. -/
def vlanSetsSpec : ChangeSpec := { name := "vlanSets", fn := fun _ => fun
  | [d1, d2, d3] => { results := [.lit (.bool true)], args := [d1, d2, d3] }
  | _ => none }
def vlanSetsRow : OpenClaim := { program := "ytkfgnbplomcjfab", sum := "09e6e6af00bb0980f0ed412e3982e50236230a8b52b5e3e3b17bd544d44c4033", func := "patchbay/patchbaylaw03.VlanSets", spec := "vlanSets", apart := false }
def VlanSetsSaid : Prop := vlanSetsRow.holds Try.pinned (OpenSpec.ofChange vlanSetsSpec)

/-- ITS FALSE NEIGHBOUR: 'it returns false'. Refute it at one input. -/
def vlanSetsWrong : ChangeSpec := { name := "vlanSets", fn := fun _ => fun
  | [d1, d2, d3] => { results := [.lit (.bool false)], args := [d1, d2, d3] }
  | _ => none }
def VlanSetsWrongFalsely : Prop := vlanSetsRow.holds Try.pinned (OpenSpec.ofChange vlanSetsWrong)

/-- 'patchbaylaw03.VlanChecks': WHATEVER THE INPUT: true; the input reads as it did. -/
def vlanChecksSpec : ChangeSpec := { name := "vlanChecks", fn := fun _ => fun
  | [d1, d2, d3] => { results := [.lit (.bool true)], args := [d1, d2, d3] }
  | _ => none }
def vlanChecksRow : OpenClaim := { program := "ytkfgnbplomcjfab", sum := "09e6e6af00bb0980f0ed412e3982e50236230a8b52b5e3e3b17bd544d44c4033", func := "patchbay/patchbaylaw03.VlanChecks", spec := "vlanChecks", apart := false }
def VlanChecksSaid : Prop := vlanChecksRow.holds Try.pinned (OpenSpec.ofChange vlanChecksSpec)

/-- ITS FALSE NEIGHBOUR: 'it returns false'. Refute it at one input. -/
def vlanChecksWrong : ChangeSpec := { name := "vlanChecks", fn := fun _ => fun
  | [d1, d2, d3] => { results := [.lit (.bool false)], args := [d1, d2, d3] }
  | _ => none }
def VlanChecksWrongFalsely : Prop := vlanChecksRow.holds Try.pinned (OpenSpec.ofChange vlanChecksWrong)

/-- 'patchbaylaw03.VlanClasses': WHATEVER THE INPUT: true; the input reads as it did. -/
def vlanClassesSpec : ChangeSpec := { name := "vlanClasses", fn := fun _ => fun
  | [d1, d2] => { results := [.lit (.bool true)], args := [d1, d2] }
  | _ => none }
def vlanClassesRow : OpenClaim := { program := "ytkfgnbplomcjfab", sum := "09e6e6af00bb0980f0ed412e3982e50236230a8b52b5e3e3b17bd544d44c4033", func := "patchbay/patchbaylaw03.VlanClasses", spec := "vlanClasses", apart := false }
def VlanClassesSaid : Prop := vlanClassesRow.holds Try.pinned (OpenSpec.ofChange vlanClassesSpec)

/-- ITS FALSE NEIGHBOUR: 'it returns false'. Refute it at one input. -/
def vlanClassesWrong : ChangeSpec := { name := "vlanClasses", fn := fun _ => fun
  | [d1, d2] => { results := [.lit (.bool false)], args := [d1, d2] }
  | _ => none }
def VlanClassesWrongFalsely : Prop := vlanClassesRow.holds Try.pinned (OpenSpec.ofChange vlanClassesWrong)

/-- 'patchbaylaw03.VlanPorts': WHATEVER THE INPUT: true; the input reads as it did. -/
def vlanPortsSpec : ChangeSpec := { name := "vlanPorts", fn := fun _ => fun
  | [d1, d2, d3] => { results := [.lit (.bool true)], args := [d1, d2, d3] }
  | _ => none }
def vlanPortsRow : OpenClaim := { program := "ytkfgnbplomcjfab", sum := "09e6e6af00bb0980f0ed412e3982e50236230a8b52b5e3e3b17bd544d44c4033", func := "patchbay/patchbaylaw03.VlanPorts", spec := "vlanPorts", apart := false }
def VlanPortsSaid : Prop := vlanPortsRow.holds Try.pinned (OpenSpec.ofChange vlanPortsSpec)

/-- ITS FALSE NEIGHBOUR: 'it returns false'. Refute it at one input. -/
def vlanPortsWrong : ChangeSpec := { name := "vlanPorts", fn := fun _ => fun
  | [d1, d2, d3] => { results := [.lit (.bool false)], args := [d1, d2, d3] }
  | _ => none }
def VlanPortsWrongFalsely : Prop := vlanPortsRow.holds Try.pinned (OpenSpec.ofChange vlanPortsWrong)

/-- 'patchbaylaw03.VlanAccepts': WHATEVER THE INPUT: true; the input reads as it did. -/
def vlanAcceptsSpec : ChangeSpec := { name := "vlanAccepts", fn := fun _ => fun
  | [d1, d2] => { results := [.lit (.bool true)], args := [d1, d2] }
  | _ => none }
def vlanAcceptsRow : OpenClaim := { program := "ytkfgnbplomcjfab", sum := "09e6e6af00bb0980f0ed412e3982e50236230a8b52b5e3e3b17bd544d44c4033", func := "patchbay/patchbaylaw03.VlanAccepts", spec := "vlanAccepts", apart := false }
def VlanAcceptsSaid : Prop := vlanAcceptsRow.holds Try.pinned (OpenSpec.ofChange vlanAcceptsSpec)

/-- ITS FALSE NEIGHBOUR: 'it returns false'. Refute it at one input. -/
def vlanAcceptsWrong : ChangeSpec := { name := "vlanAccepts", fn := fun _ => fun
  | [d1, d2] => { results := [.lit (.bool false)], args := [d1, d2] }
  | _ => none }
def VlanAcceptsWrongFalsely : Prop := vlanAcceptsRow.holds Try.pinned (OpenSpec.ofChange vlanAcceptsWrong)

/-- 'patchbaylaw03.VlanSpreads': WHATEVER THE INPUT: true; the input reads as it did. -/
def vlanSpreadsSpec : ChangeSpec := { name := "vlanSpreads", fn := fun _ => fun
  | [d1, d2, d3] => { results := [.lit (.bool true)], args := [d1, d2, d3] }
  | _ => none }
def vlanSpreadsRow : OpenClaim := { program := "ytkfgnbplomcjfab", sum := "09e6e6af00bb0980f0ed412e3982e50236230a8b52b5e3e3b17bd544d44c4033", func := "patchbay/patchbaylaw03.VlanSpreads", spec := "vlanSpreads", apart := false }
def VlanSpreadsSaid : Prop := vlanSpreadsRow.holds Try.pinned (OpenSpec.ofChange vlanSpreadsSpec)

/-- ITS FALSE NEIGHBOUR: 'it returns false'. Refute it at one input. -/
def vlanSpreadsWrong : ChangeSpec := { name := "vlanSpreads", fn := fun _ => fun
  | [d1, d2, d3] => { results := [.lit (.bool false)], args := [d1, d2, d3] }
  | _ => none }
def VlanSpreadsWrongFalsely : Prop := vlanSpreadsRow.holds Try.pinned (OpenSpec.ofChange vlanSpreadsWrong)

/- THE SECOND FORM. 'bulk': how many values and letters a reading holds, each counted each time it is reached (what is shared counts as often as it is met; a slice's spare places count too). A statement '..UptoSaid' is the law's where the arguments, and the package variables that the reading takes, are together of bulk at most 1048576: NARROWER than '..Said'. Prove '..Said' where nothing that the law and all that it calls make is longer than what came in: it says more and counts as full. Else prove '..UptoSaid'. A law counts once. -/
mutual
def uptoBulk {H : Type} : DataW H → Nat
  | .lit (.string bytes) => bytes.length + 1
  | .lit _ => 1
  | .nil => 1
  | .ptr d => uptoBulk d + 1
  | .slice elems spare => uptoBulkAll elems + uptoBulkAll spare + 1
  | .agg parts => uptoBulkAll parts + 1
  | .iface _ d => uptoBulk d + 1
  | .map entries => uptoBulkEntries entries + 1
  | .held _ => 1
def uptoBulkAll {H : Type} : List (DataW H) → Nat
  | [] => 0
  | d :: r => uptoBulk d + uptoBulkAll r
def uptoBulkEntries {H : Type} : List (Lit × DataW H) → Nat
  | [] => 0
  | x :: r => uptoBulkEntry x + uptoBulkEntries r
def uptoBulkEntry {H : Type} : Lit × DataW H → Nat
  | (.string bytes, d) => bytes.length + uptoBulk d + 1
  | (_, d) => uptoBulk d + 1
 end
def uptoSmall : (H : Type) → List (DataW H) → Bool := fun _ ds => decide (uptoBulkAll ds ≤ 1048576)
def OpenSpec.upto (s : _root_.Go.ChangeSpec) : _root_.Go.OpenSpec := { _root_.Go.OpenSpec.ofChange s with cond := some uptoSmall }

/-- 'patchbaylaw02.FramePairs', WHERE WHAT IT READS IS OF BULK AT MOST 1048576: true; the input reads as it did. -/
def framePairsUptoRow : OpenClaim := { program := "ytkfgnbplomcjfab", sum := "09e6e6af00bb0980f0ed412e3982e50236230a8b52b5e3e3b17bd544d44c4033", func := "patchbay/patchbaylaw02.FramePairs", spec := "framePairs", apart := false, narrowed := true }
def FramePairsUptoSaid : Prop := framePairsUptoRow.holds Try.pinned (OpenSpec.upto framePairsSpec)

/-- 'patchbaylaw03.VlanSets', WHERE WHAT IT READS IS OF BULK AT MOST 1048576: true; the input reads as it did. -/
def vlanSetsUptoRow : OpenClaim := { program := "ytkfgnbplomcjfab", sum := "09e6e6af00bb0980f0ed412e3982e50236230a8b52b5e3e3b17bd544d44c4033", func := "patchbay/patchbaylaw03.VlanSets", spec := "vlanSets", apart := false, narrowed := true }
def VlanSetsUptoSaid : Prop := vlanSetsUptoRow.holds Try.pinned (OpenSpec.upto vlanSetsSpec)

/-- 'patchbaylaw03.VlanChecks', WHERE WHAT IT READS IS OF BULK AT MOST 1048576: true; the input reads as it did. -/
def vlanChecksUptoRow : OpenClaim := { program := "ytkfgnbplomcjfab", sum := "09e6e6af00bb0980f0ed412e3982e50236230a8b52b5e3e3b17bd544d44c4033", func := "patchbay/patchbaylaw03.VlanChecks", spec := "vlanChecks", apart := false, narrowed := true }
def VlanChecksUptoSaid : Prop := vlanChecksUptoRow.holds Try.pinned (OpenSpec.upto vlanChecksSpec)

/-- 'patchbaylaw03.VlanClasses', WHERE WHAT IT READS IS OF BULK AT MOST 1048576: true; the input reads as it did. -/
def vlanClassesUptoRow : OpenClaim := { program := "ytkfgnbplomcjfab", sum := "09e6e6af00bb0980f0ed412e3982e50236230a8b52b5e3e3b17bd544d44c4033", func := "patchbay/patchbaylaw03.VlanClasses", spec := "vlanClasses", apart := false, narrowed := true }
def VlanClassesUptoSaid : Prop := vlanClassesUptoRow.holds Try.pinned (OpenSpec.upto vlanClassesSpec)

/-- 'patchbaylaw03.VlanPorts', WHERE WHAT IT READS IS OF BULK AT MOST 1048576: true; the input reads as it did. -/
def vlanPortsUptoRow : OpenClaim := { program := "ytkfgnbplomcjfab", sum := "09e6e6af00bb0980f0ed412e3982e50236230a8b52b5e3e3b17bd544d44c4033", func := "patchbay/patchbaylaw03.VlanPorts", spec := "vlanPorts", apart := false, narrowed := true }
def VlanPortsUptoSaid : Prop := vlanPortsUptoRow.holds Try.pinned (OpenSpec.upto vlanPortsSpec)

/-- 'patchbaylaw03.VlanAccepts', WHERE WHAT IT READS IS OF BULK AT MOST 1048576: true; the input reads as it did. -/
def vlanAcceptsUptoRow : OpenClaim := { program := "ytkfgnbplomcjfab", sum := "09e6e6af00bb0980f0ed412e3982e50236230a8b52b5e3e3b17bd544d44c4033", func := "patchbay/patchbaylaw03.VlanAccepts", spec := "vlanAccepts", apart := false, narrowed := true }
def VlanAcceptsUptoSaid : Prop := vlanAcceptsUptoRow.holds Try.pinned (OpenSpec.upto vlanAcceptsSpec)

/-- 'patchbaylaw03.VlanSpreads', WHERE WHAT IT READS IS OF BULK AT MOST 1048576: true; the input reads as it did. -/
def vlanSpreadsUptoRow : OpenClaim := { program := "ytkfgnbplomcjfab", sum := "09e6e6af00bb0980f0ed412e3982e50236230a8b52b5e3e3b17bd544d44c4033", func := "patchbay/patchbaylaw03.VlanSpreads", spec := "vlanSpreads", apart := false, narrowed := true }
def VlanSpreadsUptoSaid : Prop := vlanSpreadsUptoRow.holds Try.pinned (OpenSpec.upto vlanSpreadsSpec)

end Rows
end Go.Proofs.Ytkfgnbplomcjfab
