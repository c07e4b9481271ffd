/-
  NARROWER THAN 'FOR EVERY INPUT', by the rows' own cells (each row's printed sentence says how): PortWords: laid · PortSets: laid · PortNames: laid.
  DERIVED. THE GIVEN ROWS OF THIS SEAT. 3 by the template 'for every input the law returns true; each argument reads behind the call as it read before'; 0 by the template 'total and deterministic' (their statements: YtdmkekiefbbopaaDoorTotals.lean).
  GIVEN WITH THE SEED: the statements are not yours to turn. If you find one false, say at which input.
  Laid BY PROGRAM, IN A SANDBOX (cutbox-rows.mjs): the forced cells as the released guide's own fill.sh prints them over the translation c55aa818d5ad696c… (all of the seat's roots in one cut). By AI agents, Wed Nov 11 2026. No macro, syntax, notation, axiom, sorry.
-/
import Derived.Test.YtdmkekiefbbopaaDoorChecked
import GoSem.Claim
import GoSem.ClaimJoined
import GoSem.ClaimMapViews
import Derived.JoinedTies
import Derived.KernelRfl
namespace Go.Proofs.YtdmkekiefbbopaaDoor
/- THE CELL 'sum', in the pinned program and in every row, IS THE sha256 OF THE DUMP (.gsa) THAT YtdmkekiefbbopaaDoorProg.lean LOADS. Nothing in Lean hashes anything: it is a label: what it is worth is what the hold of that sum in a sandbox is worth. -/
noncomputable def Tryd.pinned : Pinned := { name := "ytdmkekiefbbopaadoor", sum := "c55aa818d5ad696cd55ea471cd53a51fc7117b1435bb5fe29ed5e80996488c20", checked := Tryd.checked }
namespace Rows
def none {H : Type} : Left H := { results := [], args := [] }

/- WHAT THE LISTED PACKAGE-LEVEL VARIABLES READ AS WHEN THE CALL BEGINS. Each datum BY PROGRAM (the guide's laid-datum.mjs) off the statement by which the dump's own 'gosem.cut.vars' lays the variable. In a bare row this is a premise. The card (YtdmkekiefbbopaaDoorCards.lean) ties it to the program's text. -/
def laid_patchbay_port_names {H : Type} : DataW H := .agg [.lit (.string [100, 105, 115, 97, 98, 108, 101, 100]), .lit (.string [98, 108, 111, 99, 107, 105, 110, 103]), .lit (.string [108, 105, 115, 116, 101, 110, 105, 110, 103]), .lit (.string [108, 101, 97, 114, 110, 105, 110, 103]), .lit (.string [102, 111, 114, 119, 97, 114, 100, 105, 110, 103])]

/-- 'patchbaylaw16.PortWords': WHATEVER THE INPUT: true; the input reads as it did. -/
def portWordsSpec : ChangeSpec := { name := "portWords", fn := fun _ => fun
  | [d1, d2] => { results := [.lit (.bool true)], args := [d1, d2] }
  | _ => none }
def portWordsRow : OpenClaim := { program := "ytdmkekiefbbopaadoor", sum := "c55aa818d5ad696cd55ea471cd53a51fc7117b1435bb5fe29ed5e80996488c20", func := "patchbay/patchbaylaw16.PortWords", spec := "portWords", named := ["patchbay/port.names"], apart := false, laid := [("patchbay/port.names", laid_patchbay_port_names)] }
def PortWordsSaid : Prop := portWordsRow.holds Tryd.pinned (OpenSpec.ofChange portWordsSpec)

/-- ITS FALSE NEIGHBOUR: 'it returns false'. Refute it at one input. -/
def portWordsWrong : ChangeSpec := { name := "portWords", fn := fun _ => fun
  | [d1, d2] => { results := [.lit (.bool false)], args := [d1, d2] }
  | _ => none }
def PortWordsWrongFalsely : Prop := portWordsRow.holds Tryd.pinned (OpenSpec.ofChange portWordsWrong)

/-- 'patchbaylaw16.PortSets': WHATEVER THE INPUT: true; the input reads as it did. -/
def portSetsSpec : ChangeSpec := { name := "portSets", fn := fun _ => fun
  | [d1, d2] => { results := [.lit (.bool true)], args := [d1, d2] }
  | _ => none }
def portSetsRow : OpenClaim := { program := "ytdmkekiefbbopaadoor", sum := "c55aa818d5ad696cd55ea471cd53a51fc7117b1435bb5fe29ed5e80996488c20", func := "patchbay/patchbaylaw16.PortSets", spec := "portSets", named := ["patchbay/port.names"], apart := false, laid := [("patchbay/port.names", laid_patchbay_port_names)] }
def PortSetsSaid : Prop := portSetsRow.holds Tryd.pinned (OpenSpec.ofChange portSetsSpec)

/-- ITS FALSE NEIGHBOUR: 'it returns false'. Refute it at one input. -/
def portSetsWrong : ChangeSpec := { name := "portSets", fn := fun _ => fun
  | [d1, d2] => { results := [.lit (.bool false)], args := [d1, d2] }
  | _ => none }
def PortSetsWrongFalsely : Prop := portSetsRow.holds Tryd.pinned (OpenSpec.ofChange portSetsWrong)

/-- 'patchbaylaw16.PortNames': WHATEVER THE INPUT: true; the input reads as it did. -/
def portNamesSpec : ChangeSpec := { name := "portNames", fn := fun _ => fun
  | [d1, d2] => { results := [.lit (.bool true)], args := [d1, d2] }
  | _ => none }
def portNamesRow : OpenClaim := { program := "ytdmkekiefbbopaadoor", sum := "c55aa818d5ad696cd55ea471cd53a51fc7117b1435bb5fe29ed5e80996488c20", func := "patchbay/patchbaylaw16.PortNames", spec := "portNames", named := ["patchbay/port.names"], apart := false, laid := [("patchbay/port.names", laid_patchbay_port_names)] }
def PortNamesSaid : Prop := portNamesRow.holds Tryd.pinned (OpenSpec.ofChange portNamesSpec)

/-- ITS FALSE NEIGHBOUR: 'it returns false'. Refute it at one input. -/
def portNamesWrong : ChangeSpec := { name := "portNames", fn := fun _ => fun
  | [d1, d2] => { results := [.lit (.bool false)], args := [d1, d2] }
  | _ => none }
def PortNamesWrongFalsely : Prop := portNamesRow.holds Tryd.pinned (OpenSpec.ofChange portNamesWrong)

/- THE SECOND FORM. 'bulk': how many values and letters a reading holds, each counted each time it is reached (what is shared counts as often as it is met; a slice's spare places count too). A statement '..UptoSaid' is the law's where the arguments, and the package variables that the reading takes, are together of bulk at most 1048576: NARROWER than '..Said'. Prove '..Said' where nothing that the law and all that it calls make is longer than what came in: it says more and counts as full. Else prove '..UptoSaid'. A law counts once. -/
mutual
def uptoBulk {H : Type} : DataW H → Nat
  | .lit (.string bytes) => bytes.length + 1
  | .lit _ => 1
  | .nil => 1
  | .ptr d => uptoBulk d + 1
  | .slice elems spare => uptoBulkAll elems + uptoBulkAll spare + 1
  | .agg parts => uptoBulkAll parts + 1
  | .iface _ d => uptoBulk d + 1
  | .map entries => uptoBulkEntries entries + 1
  | .held _ => 1
def uptoBulkAll {H : Type} : List (DataW H) → Nat
  | [] => 0
  | d :: r => uptoBulk d + uptoBulkAll r
def uptoBulkEntries {H : Type} : List (Lit × DataW H) → Nat
  | [] => 0
  | x :: r => uptoBulkEntry x + uptoBulkEntries r
def uptoBulkEntry {H : Type} : Lit × DataW H → Nat
  | (.string bytes, d) => bytes.length + uptoBulk d + 1
  | (_, d) => uptoBulk d + 1
 end
def uptoSmall : (H : Type) → List (DataW H) → Bool := fun _ ds => decide (uptoBulkAll ds ≤ 1048576)
def OpenSpec.upto (s : _root_.Go.ChangeSpec) : _root_.Go.OpenSpec := { _root_.Go.OpenSpec.ofChange s with cond := some uptoSmall }

/-- 'patchbaylaw16.PortWords', WHERE WHAT IT READS IS OF BULK AT MOST 1048576: true; the input reads as it did. -/
def portWordsUptoRow : OpenClaim := { program := "ytdmkekiefbbopaadoor", sum := "c55aa818d5ad696cd55ea471cd53a51fc7117b1435bb5fe29ed5e80996488c20", func := "patchbay/patchbaylaw16.PortWords", spec := "portWords", named := ["patchbay/port.names"], apart := false, laid := [("patchbay/port.names", laid_patchbay_port_names)], narrowed := true }
def PortWordsUptoSaid : Prop := portWordsUptoRow.holds Tryd.pinned (OpenSpec.upto portWordsSpec)

/-- 'patchbaylaw16.PortSets', WHERE WHAT IT READS IS OF BULK AT MOST 1048576: true; the input reads as it did. -/
def portSetsUptoRow : OpenClaim := { program := "ytdmkekiefbbopaadoor", sum := "c55aa818d5ad696cd55ea471cd53a51fc7117b1435bb5fe29ed5e80996488c20", func := "patchbay/patchbaylaw16.PortSets", spec := "portSets", named := ["patchbay/port.names"], apart := false, laid := [("patchbay/port.names", laid_patchbay_port_names)], narrowed := true }
def PortSetsUptoSaid : Prop := portSetsUptoRow.holds Tryd.pinned (OpenSpec.upto portSetsSpec)

/-- 'patchbaylaw16.PortNames', WHERE WHAT IT READS IS OF BULK AT MOST 1048576: true; the input reads as it did. -/
def portNamesUptoRow : OpenClaim := { program := "ytdmkekiefbbopaadoor", sum := "c55aa818d5ad696cd55ea471cd53a51fc7117b1435bb5fe29ed5e80996488c20", func := "patchbay/patchbaylaw16.PortNames", spec := "portNames", named := ["patchbay/port.names"], apart := false, laid := [("patchbay/port.names", laid_patchbay_port_names)], narrowed := true }
def PortNamesUptoSaid : Prop := portNamesUptoRow.holds Tryd.pinned (OpenSpec.upto portNamesSpec)

end Rows
end Go.Proofs.YtdmkekiefbbopaaDoor
