/-
  No cell of these rows narrows 'for every input' (looked for: loops, veiled, ifaces, maps, wideKeys, modest, calm, conditions, laid).
  DERIVED. THE GIVEN ROWS OF THIS SEAT. 12 by the template 'for every input the law returns true; each argument reads behind the call as it read before'; 0 by the template 'total and deterministic' (their statements: YtiafegkjamhneaaTotals.lean).
  GIVEN WITH THE SEED: the statements are not yours to turn. If you find one false, say at which input.
  Laid BY PROGRAM, IN A SANDBOX (cutbox-rows.mjs): the forced cells as the released guide's own fill.sh prints them over the translation 70669195ad37120a… (all of the seat's roots in one cut). By AI agents, Wed Nov 11 2026. No macro, syntax, notation, axiom, sorry.
-/
import Derived.Test.YtiafegkjamhneaaChecked
import GoSem.Claim
import GoSem.ClaimJoined
import GoSem.ClaimMapViews
import Derived.JoinedTies
import Derived.KernelRfl
namespace Go.Proofs.Ytiafegkjamhneaa
/- THE CELL 'sum', in the pinned program and in every row, IS THE sha256 OF THE DUMP (.gsa) THAT YtiafegkjamhneaaProg.lean LOADS. Nothing in Lean hashes anything: it is a label: what it is worth is what the hold of that sum in a sandbox is worth. -/
noncomputable def Try.pinned : Pinned := { name := "ytiafegkjamhneaa", sum := "70669195ad37120a40d12a8f99726d02c96d576663ba95528420e18e82031e1e", checked := Try.checked }
namespace Rows
def none {H : Type} : Left H := { results := [], args := [] }

/-- 'patchbaylaw02.FrameParses': WHATEVER THE INPUT: true; the input reads as it did. -/
def frameParsesSpec : ChangeSpec := { name := "frameParses", fn := fun _ => fun
  | [d] => { results := [.lit (.bool true)], args := [d] }
  | _ => none }
def frameParsesRow : OpenClaim := { program := "ytiafegkjamhneaa", sum := "70669195ad37120a40d12a8f99726d02c96d576663ba95528420e18e82031e1e", func := "patchbay/patchbaylaw02.FrameParses", spec := "frameParses", apart := false }
def FrameParsesSaid : Prop := frameParsesRow.holds Try.pinned (OpenSpec.ofChange frameParsesSpec)

/-- ITS FALSE NEIGHBOUR: 'it returns false'. Refute it at one input. -/
def frameParsesWrong : ChangeSpec := { name := "frameParses", fn := fun _ => fun
  | [d] => { results := [.lit (.bool false)], args := [d] }
  | _ => none }
def FrameParsesWrongFalsely : Prop := frameParsesRow.holds Try.pinned (OpenSpec.ofChange frameParsesWrong)

/-- 'patchbaylaw02.FrameWrites': WHATEVER THE INPUT: true; the input reads as it did. -/
def frameWritesSpec : ChangeSpec := { name := "frameWrites", fn := fun _ => fun
  | [d] => { results := [.lit (.bool true)], args := [d] }
  | _ => none }
def frameWritesRow : OpenClaim := { program := "ytiafegkjamhneaa", sum := "70669195ad37120a40d12a8f99726d02c96d576663ba95528420e18e82031e1e", func := "patchbay/patchbaylaw02.FrameWrites", spec := "frameWrites", apart := false }
def FrameWritesSaid : Prop := frameWritesRow.holds Try.pinned (OpenSpec.ofChange frameWritesSpec)

/-- ITS FALSE NEIGHBOUR: 'it returns false'. Refute it at one input. -/
def frameWritesWrong : ChangeSpec := { name := "frameWrites", fn := fun _ => fun
  | [d] => { results := [.lit (.bool false)], args := [d] }
  | _ => none }
def FrameWritesWrongFalsely : Prop := frameWritesRow.holds Try.pinned (OpenSpec.ofChange frameWritesWrong)

/-- 'patchbaylaw02.FrameTags': WHATEVER THE INPUT: true; the input reads as it did. -/
def frameTagsSpec : ChangeSpec := { name := "frameTags", fn := fun _ => fun
  | [d] => { results := [.lit (.bool true)], args := [d] }
  | _ => none }
def frameTagsRow : OpenClaim := { program := "ytiafegkjamhneaa", sum := "70669195ad37120a40d12a8f99726d02c96d576663ba95528420e18e82031e1e", func := "patchbay/patchbaylaw02.FrameTags", spec := "frameTags", apart := false }
def FrameTagsSaid : Prop := frameTagsRow.holds Try.pinned (OpenSpec.ofChange frameTagsSpec)

/-- ITS FALSE NEIGHBOUR: 'it returns false'. Refute it at one input. -/
def frameTagsWrong : ChangeSpec := { name := "frameTags", fn := fun _ => fun
  | [d] => { results := [.lit (.bool false)], args := [d] }
  | _ => none }
def FrameTagsWrongFalsely : Prop := frameTagsRow.holds Try.pinned (OpenSpec.ofChange frameTagsWrong)

/-- 'patchbaylaw02.FrameBack': WHATEVER THE INPUT: true; the input reads as it did. -/
def frameBackSpec : ChangeSpec := { name := "frameBack", fn := fun _ => fun
  | [d1, d2, d3] => { results := [.lit (.bool true)], args := [d1, d2, d3] }
  | _ => none }
def frameBackRow : OpenClaim := { program := "ytiafegkjamhneaa", sum := "70669195ad37120a40d12a8f99726d02c96d576663ba95528420e18e82031e1e", func := "patchbay/patchbaylaw02.FrameBack", spec := "frameBack", apart := false }
def FrameBackSaid : Prop := frameBackRow.holds Try.pinned (OpenSpec.ofChange frameBackSpec)

/-- ITS FALSE NEIGHBOUR: 'it returns false'. Refute it at one input. -/
def frameBackWrong : ChangeSpec := { name := "frameBack", fn := fun _ => fun
  | [d1, d2, d3] => { results := [.lit (.bool false)], args := [d1, d2, d3] }
  | _ => none }
def FrameBackWrongFalsely : Prop := frameBackRow.holds Try.pinned (OpenSpec.ofChange frameBackWrong)

/-- 'patchbaylaw02.FrameTypes': WHATEVER THE INPUT: true; the input reads as it did. -/
def frameTypesSpec : ChangeSpec := { name := "frameTypes", fn := fun _ => fun
  | [d1, d2] => { results := [.lit (.bool true)], args := [d1, d2] }
  | _ => none }
def frameTypesRow : OpenClaim := { program := "ytiafegkjamhneaa", sum := "70669195ad37120a40d12a8f99726d02c96d576663ba95528420e18e82031e1e", func := "patchbay/patchbaylaw02.FrameTypes", spec := "frameTypes", apart := false }
def FrameTypesSaid : Prop := frameTypesRow.holds Try.pinned (OpenSpec.ofChange frameTypesSpec)

/-- ITS FALSE NEIGHBOUR: 'it returns false'. Refute it at one input. -/
def frameTypesWrong : ChangeSpec := { name := "frameTypes", fn := fun _ => fun
  | [d1, d2] => { results := [.lit (.bool false)], args := [d1, d2] }
  | _ => none }
def FrameTypesWrongFalsely : Prop := frameTypesRow.holds Try.pinned (OpenSpec.ofChange frameTypesWrong)

/-- 'patchbaylaw02.FrameOuts': WHATEVER THE INPUT: true; the input reads as it did. -/
def frameOutsSpec : ChangeSpec := { name := "frameOuts", fn := fun _ => fun
  | [d1, d2, d3] => { results := [.lit (.bool true)], args := [d1, d2, d3] }
  | _ => none }
def frameOutsRow : OpenClaim := { program := "ytiafegkjamhneaa", sum := "70669195ad37120a40d12a8f99726d02c96d576663ba95528420e18e82031e1e", func := "patchbay/patchbaylaw02.FrameOuts", spec := "frameOuts", apart := false }
def FrameOutsSaid : Prop := frameOutsRow.holds Try.pinned (OpenSpec.ofChange frameOutsSpec)

/-- ITS FALSE NEIGHBOUR: 'it returns false'. Refute it at one input. -/
def frameOutsWrong : ChangeSpec := { name := "frameOuts", fn := fun _ => fun
  | [d1, d2, d3] => { results := [.lit (.bool false)], args := [d1, d2, d3] }
  | _ => none }
def FrameOutsWrongFalsely : Prop := frameOutsRow.holds Try.pinned (OpenSpec.ofChange frameOutsWrong)

/-- 'patchbaylaw03.VlanSpreads': WHATEVER THE INPUT: true; the input reads as it did. -/
def vlanSpreadsSpec : ChangeSpec := { name := "vlanSpreads", fn := fun _ => fun
  | [d1, d2, d3] => { results := [.lit (.bool true)], args := [d1, d2, d3] }
  | _ => none }
def vlanSpreadsRow : OpenClaim := { program := "ytiafegkjamhneaa", sum := "70669195ad37120a40d12a8f99726d02c96d576663ba95528420e18e82031e1e", func := "patchbay/patchbaylaw03.VlanSpreads", spec := "vlanSpreads", apart := false }
def VlanSpreadsSaid : Prop := vlanSpreadsRow.holds Try.pinned (OpenSpec.ofChange vlanSpreadsSpec)

/-- ITS FALSE NEIGHBOUR: 'it returns false'. Refute it at one input. -/
def vlanSpreadsWrong : ChangeSpec := { name := "vlanSpreads", fn := fun _ => fun
  | [d1, d2, d3] => { results := [.lit (.bool false)], args := [d1, d2, d3] }
  | _ => none }
def VlanSpreadsWrongFalsely : Prop := vlanSpreadsRow.holds Try.pinned (OpenSpec.ofChange vlanSpreadsWrong)

/-- 'patchbaylaw03.VlanClasses': WHATEVER THE INPUT: true; the input reads as it did. -/
def vlanClassesSpec : ChangeSpec := { name := "vlanClasses", fn := fun _ => fun
  | [d1, d2] => { results := [.lit (.bool true)], args := [d1, d2] }
  | _ => none }
def vlanClassesRow : OpenClaim := { program := "ytiafegkjamhneaa", sum := "70669195ad37120a40d12a8f99726d02c96d576663ba95528420e18e82031e1e", func := "patchbay/patchbaylaw03.VlanClasses", spec := "vlanClasses", apart := false }
def VlanClassesSaid : Prop := vlanClassesRow.holds Try.pinned (OpenSpec.ofChange vlanClassesSpec)

/-- ITS FALSE NEIGHBOUR: 'it returns false'. Refute it at one input. -/
def vlanClassesWrong : ChangeSpec := { name := "vlanClasses", fn := fun _ => fun
  | [d1, d2] => { results := [.lit (.bool false)], args := [d1, d2] }
  | _ => none }
def VlanClassesWrongFalsely : Prop := vlanClassesRow.holds Try.pinned (OpenSpec.ofChange vlanClassesWrong)

/-- 'patchbaylaw03.VlanAccepts': WHATEVER THE INPUT: true; the input reads as it did. -/
def vlanAcceptsSpec : ChangeSpec := { name := "vlanAccepts", fn := fun _ => fun
  | [d1, d2] => { results := [.lit (.bool true)], args := [d1, d2] }
  | _ => none }
def vlanAcceptsRow : OpenClaim := { program := "ytiafegkjamhneaa", sum := "70669195ad37120a40d12a8f99726d02c96d576663ba95528420e18e82031e1e", func := "patchbay/patchbaylaw03.VlanAccepts", spec := "vlanAccepts", apart := false }
def VlanAcceptsSaid : Prop := vlanAcceptsRow.holds Try.pinned (OpenSpec.ofChange vlanAcceptsSpec)

/-- ITS FALSE NEIGHBOUR: 'it returns false'. Refute it at one input. -/
def vlanAcceptsWrong : ChangeSpec := { name := "vlanAccepts", fn := fun _ => fun
  | [d1, d2] => { results := [.lit (.bool false)], args := [d1, d2] }
  | _ => none }
def VlanAcceptsWrongFalsely : Prop := vlanAcceptsRow.holds Try.pinned (OpenSpec.ofChange vlanAcceptsWrong)

/-- 'patchbaylaw03.VlanPorts': WHATEVER THE INPUT: true; the input reads as it did. -/
def vlanPortsSpec : ChangeSpec := { name := "vlanPorts", fn := fun _ => fun
  | [d1, d2, d3] => { results := [.lit (.bool true)], args := [d1, d2, d3] }
  | _ => none }
def vlanPortsRow : OpenClaim := { program := "ytiafegkjamhneaa", sum := "70669195ad37120a40d12a8f99726d02c96d576663ba95528420e18e82031e1e", func := "patchbay/patchbaylaw03.VlanPorts", spec := "vlanPorts", apart := false }
def VlanPortsSaid : Prop := vlanPortsRow.holds Try.pinned (OpenSpec.ofChange vlanPortsSpec)

/-- ITS FALSE NEIGHBOUR: 'it returns false'. Refute it at one input. -/
def vlanPortsWrong : ChangeSpec := { name := "vlanPorts", fn := fun _ => fun
  | [d1, d2, d3] => { results := [.lit (.bool false)], args := [d1, d2, d3] }
  | _ => none }
def VlanPortsWrongFalsely : Prop := vlanPortsRow.holds Try.pinned (OpenSpec.ofChange vlanPortsWrong)

/-- 'patchbaylaw03.VlanSets': WHATEVER THE INPUT: true; the input reads as it did. -/
def vlanSetsSpec : ChangeSpec := { name := "vlanSets", fn := fun _ => fun
  | [d1, d2, d3] => { results := [.lit (.bool true)], args := [d1, d2, d3] }
  | _ => none }
def vlanSetsRow : OpenClaim := { program := "ytiafegkjamhneaa", sum := "70669195ad37120a40d12a8f99726d02c96d576663ba95528420e18e82031e1e", func := "patchbay/patchbaylaw03.VlanSets", spec := "vlanSets", apart := false }
def VlanSetsSaid : Prop := vlanSetsRow.holds Try.pinned (OpenSpec.ofChange vlanSetsSpec)

/-- ITS FALSE NEIGHBOUR: 'it returns false'. Refute it at one input. -/
def vlanSetsWrong : ChangeSpec := { name := "vlanSets", fn := fun _ => fun
  | [d1, d2, d3] => { results := [.lit (.bool false)], args := [d1, d2, d3] }
  | _ => none }
def VlanSetsWrongFalsely : Prop := vlanSetsRow.holds Try.pinned (OpenSpec.ofChange vlanSetsWrong)

/-- 'patchbaylaw03.VlanChecks': WHATEVER THE INPUT: true; the input reads as it did. -/
def vlanChecksSpec : ChangeSpec := { name := "vlanChecks", fn := fun _ => fun
  | [d1, d2, d3] => { results := [.lit (.bool true)], args := [d1, d2, d3] }
  | _ => none }
def vlanChecksRow : OpenClaim := { program := "ytiafegkjamhneaa", sum := "70669195ad37120a40d12a8f99726d02c96d576663ba95528420e18e82031e1e", func := "patchbay/patchbaylaw03.VlanChecks", spec := "vlanChecks", apart := false }
def VlanChecksSaid : Prop := vlanChecksRow.holds Try.pinned (OpenSpec.ofChange vlanChecksSpec)

/-- ITS FALSE NEIGHBOUR: 'it returns false'. Refute it at one input. -/
def vlanChecksWrong : ChangeSpec := { name := "vlanChecks", fn := fun _ => fun
  | [d1, d2, d3] => { results := [.lit (.bool false)], args := [d1, d2, d3] }
  | _ => none }
def VlanChecksWrongFalsely : Prop := vlanChecksRow.holds Try.pinned (OpenSpec.ofChange vlanChecksWrong)

/- THE SECOND FORM. 'bulk': how many values and letters a reading holds, each counted each time it is reached (what is shared counts as often as it is met; a slice's spare places count too). A statement '..UptoSaid' is the law's where the arguments, and the package variables that the reading takes, are together of bulk at most 1048576: NARROWER than '..Said'. Prove '..Said' where nothing that the law and all that it calls make is longer than what came in: it says more and counts as full. Else prove '..UptoSaid'. A law counts once. -/
mutual
def uptoBulk {H : Type} : DataW H → Nat
  | .lit (.string bytes) => bytes.length + 1
  | .lit _ => 1
  | .nil => 1
  | .ptr d => uptoBulk d + 1
  | .slice elems spare => uptoBulkAll elems + uptoBulkAll spare + 1
  | .agg parts => uptoBulkAll parts + 1
  | .iface _ d => uptoBulk d + 1
  | .map entries => uptoBulkEntries entries + 1
  | .held _ => 1
def uptoBulkAll {H : Type} : List (DataW H) → Nat
  | [] => 0
  | d :: r => uptoBulk d + uptoBulkAll r
def uptoBulkEntries {H : Type} : List (Lit × DataW H) → Nat
  | [] => 0
  | x :: r => uptoBulkEntry x + uptoBulkEntries r
def uptoBulkEntry {H : Type} : Lit × DataW H → Nat
  | (.string bytes, d) => bytes.length + uptoBulk d + 1
  | (_, d) => uptoBulk d + 1
 end
def uptoSmall : (H : Type) → List (DataW H) → Bool := fun _ ds => decide (uptoBulkAll ds ≤ 1048576)
def OpenSpec.upto (s : _root_.Go.ChangeSpec) : _root_.Go.OpenSpec := { _root_.Go.OpenSpec.ofChange s with cond := some uptoSmall }

/-- 'patchbaylaw02.FrameParses', WHERE WHAT IT READS IS OF BULK AT MOST 1048576: true; the input reads as it did. -/
def frameParsesUptoRow : OpenClaim := { program := "ytiafegkjamhneaa", sum := "70669195ad37120a40d12a8f99726d02c96d576663ba95528420e18e82031e1e", func := "patchbay/patchbaylaw02.FrameParses", spec := "frameParses", apart := false, narrowed := true }
def FrameParsesUptoSaid : Prop := frameParsesUptoRow.holds Try.pinned (OpenSpec.upto frameParsesSpec)

/-- 'patchbaylaw02.FrameWrites', WHERE WHAT IT READS IS OF BULK AT MOST 1048576: true; the input reads as it did. -/
def frameWritesUptoRow : OpenClaim := { program := "ytiafegkjamhneaa", sum := "70669195ad37120a40d12a8f99726d02c96d576663ba95528420e18e82031e1e", func := "patchbay/patchbaylaw02.FrameWrites", spec := "frameWrites", apart := false, narrowed := true }
def FrameWritesUptoSaid : Prop := frameWritesUptoRow.holds Try.pinned (OpenSpec.upto frameWritesSpec)

/-- 'patchbaylaw02.FrameTags', WHERE WHAT IT READS IS OF BULK AT MOST 1048576: true; the input reads as it did. -/
def frameTagsUptoRow : OpenClaim := { program := "ytiafegkjamhneaa", sum := "70669195ad37120a40d12a8f99726d02c96d576663ba95528420e18e82031e1e", func := "patchbay/patchbaylaw02.FrameTags", spec := "frameTags", apart := false, narrowed := true }
def FrameTagsUptoSaid : Prop := frameTagsUptoRow.holds Try.pinned (OpenSpec.upto frameTagsSpec)

/-- 'patchbaylaw02.FrameBack', WHERE WHAT IT READS IS OF BULK AT MOST 1048576: true; the input reads as it did. -/
def frameBackUptoRow : OpenClaim := { program := "ytiafegkjamhneaa", sum := "70669195ad37120a40d12a8f99726d02c96d576663ba95528420e18e82031e1e", func := "patchbay/patchbaylaw02.FrameBack", spec := "frameBack", apart := false, narrowed := true }
def FrameBackUptoSaid : Prop := frameBackUptoRow.holds Try.pinned (OpenSpec.upto frameBackSpec)

/-- 'patchbaylaw02.FrameTypes', WHERE WHAT IT READS IS OF BULK AT MOST 1048576: true; the input reads as it did. -/
def frameTypesUptoRow : OpenClaim := { program := "ytiafegkjamhneaa", sum := "70669195ad37120a40d12a8f99726d02c96d576663ba95528420e18e82031e1e", func := "patchbay/patchbaylaw02.FrameTypes", spec := "frameTypes", apart := false, narrowed := true }
def FrameTypesUptoSaid : Prop := frameTypesUptoRow.holds Try.pinned (OpenSpec.upto frameTypesSpec)

/-- 'patchbaylaw02.FrameOuts', WHERE WHAT IT READS IS OF BULK AT MOST 1048576: true; the input reads as it did. -/
def frameOutsUptoRow : OpenClaim := { program := "ytiafegkjamhneaa", sum := "70669195ad37120a40d12a8f99726d02c96d576663ba95528420e18e82031e1e", func := "patchbay/patchbaylaw02.FrameOuts", spec := "frameOuts", apart := false, narrowed := true }
def FrameOutsUptoSaid : Prop := frameOutsUptoRow.holds Try.pinned (OpenSpec.upto frameOutsSpec)

/-- 'patchbaylaw03.VlanSpreads', WHERE WHAT IT READS IS OF BULK AT MOST 1048576: true; the input reads as it did. -/
def vlanSpreadsUptoRow : OpenClaim := { program := "ytiafegkjamhneaa", sum := "70669195ad37120a40d12a8f99726d02c96d576663ba95528420e18e82031e1e", func := "patchbay/patchbaylaw03.VlanSpreads", spec := "vlanSpreads", apart := false, narrowed := true }
def VlanSpreadsUptoSaid : Prop := vlanSpreadsUptoRow.holds Try.pinned (OpenSpec.upto vlanSpreadsSpec)

/-- 'patchbaylaw03.VlanClasses', WHERE WHAT IT READS IS OF BULK AT MOST 1048576: true; the input reads as it did. -/
def vlanClassesUptoRow : OpenClaim := { program := "ytiafegkjamhneaa", sum := "70669195ad37120a40d12a8f99726d02c96d576663ba95528420e18e82031e1e", func := "patchbay/patchbaylaw03.VlanClasses", spec := "vlanClasses", apart := false, narrowed := true }
def VlanClassesUptoSaid : Prop := vlanClassesUptoRow.holds Try.pinned (OpenSpec.upto vlanClassesSpec)

/-- 'patchbaylaw03.VlanAccepts', WHERE WHAT IT READS IS OF BULK AT MOST 1048576: true; the input reads as it did. -/
def vlanAcceptsUptoRow : OpenClaim := { program := "ytiafegkjamhneaa", sum := "70669195ad37120a40d12a8f99726d02c96d576663ba95528420e18e82031e1e", func := "patchbay/patchbaylaw03.VlanAccepts", spec := "vlanAccepts", apart := false, narrowed := true }
def VlanAcceptsUptoSaid : Prop := vlanAcceptsUptoRow.holds Try.pinned (OpenSpec.upto vlanAcceptsSpec)

/-- 'patchbaylaw03.VlanPorts', WHERE WHAT IT READS IS OF BULK AT MOST 1048576: true; the input reads as it did. -/
def vlanPortsUptoRow : OpenClaim := { program := "ytiafegkjamhneaa", sum := "70669195ad37120a40d12a8f99726d02c96d576663ba95528420e18e82031e1e", func := "patchbay/patchbaylaw03.VlanPorts", spec := "vlanPorts", apart := false, narrowed := true }
def VlanPortsUptoSaid : Prop := vlanPortsUptoRow.holds Try.pinned (OpenSpec.upto vlanPortsSpec)

/-- 'patchbaylaw03.VlanSets', WHERE WHAT IT READS IS OF BULK AT MOST 1048576: true; the input reads as it did. -/
def vlanSetsUptoRow : OpenClaim := { program := "ytiafegkjamhneaa", sum := "70669195ad37120a40d12a8f99726d02c96d576663ba95528420e18e82031e1e", func := "patchbay/patchbaylaw03.VlanSets", spec := "vlanSets", apart := false, narrowed := true }
def VlanSetsUptoSaid : Prop := vlanSetsUptoRow.holds Try.pinned (OpenSpec.upto vlanSetsSpec)

/-- 'patchbaylaw03.VlanChecks', WHERE WHAT IT READS IS OF BULK AT MOST 1048576: true; the input reads as it did. -/
def vlanChecksUptoRow : OpenClaim := { program := "ytiafegkjamhneaa", sum := "70669195ad37120a40d12a8f99726d02c96d576663ba95528420e18e82031e1e", func := "patchbay/patchbaylaw03.VlanChecks", spec := "vlanChecks", apart := false, narrowed := true }
def VlanChecksUptoSaid : Prop := vlanChecksUptoRow.holds Try.pinned (OpenSpec.upto vlanChecksSpec)

end Rows
end Go.Proofs.Ytiafegkjamhneaa
