/-
  No cell of these rows narrows 'for every input' (looked for: loops, veiled, ifaces, maps, wideKeys, modest, calm, conditions, laid).
  DERIVED. THE GIVEN ROWS OF THIS SEAT. 3 by the template 'for every input the law returns true; each argument reads behind the call as it read before'; 0 by the template 'total and deterministic' (their statements: YthloabdfkakehaaTotals.lean).
  GIVEN WITH THE SEED: the statements are not yours to turn. If you find one false, say at which input.
  Laid BY PROGRAM, IN A SANDBOX (cutbox-rows.mjs): the forced cells as the released guide's own fill.sh prints them over the translation b3cdcede82b0d673… (all of the seat's roots in one cut). By AI agents, Wed Nov 11 2026. No macro, syntax, notation, axiom, sorry.
-/
import Derived.Test.YthloabdfkakehaaChecked
import GoSem.Claim
import GoSem.ClaimJoined
import GoSem.ClaimMapViews
import Derived.JoinedTies
import Derived.KernelRfl
namespace Go.Proofs.Ythloabdfkakehaa
/- THE CELL 'sum', in the pinned program and in every row, IS THE sha256 OF THE DUMP (.gsa) THAT YthloabdfkakehaaProg.lean LOADS. Nothing in Lean hashes anything: it is a label: what it is worth is what the hold of that sum in a sandbox is worth. -/
noncomputable def Try.pinned : Pinned := { name := "ythloabdfkakehaa", sum := "b3cdcede82b0d6736223714e70baf191867550f03f43e41d9cfa0e587c7f71ed", checked := Try.checked }
namespace Rows
def none {H : Type} : Left H := { results := [], args := [] }

/-- 'patchbaylaw12.FdbNews': WHATEVER THE INPUT: true; the input reads as it did. -/
def fdbNewsSpec : ChangeSpec := { name := "fdbNews", fn := fun _ => fun
  | [d1, d2, d3] => { results := [.lit (.bool true)], args := [d1, d2, d3] }
  | _ => none }
def fdbNewsRow : OpenClaim := { program := "ythloabdfkakehaa", sum := "b3cdcede82b0d6736223714e70baf191867550f03f43e41d9cfa0e587c7f71ed", func := "patchbay/patchbaylaw12.FdbNews", spec := "fdbNews", unfollowed := true, recurses := true, apart := false }
def FdbNewsSaid : Prop := fdbNewsRow.holds Try.pinned (OpenSpec.ofChange fdbNewsSpec)

/-- ITS FALSE NEIGHBOUR: 'it returns false'. Refute it at one input. -/
def fdbNewsWrong : ChangeSpec := { name := "fdbNews", fn := fun _ => fun
  | [d1, d2, d3] => { results := [.lit (.bool false)], args := [d1, d2, d3] }
  | _ => none }
def FdbNewsWrongFalsely : Prop := fdbNewsRow.holds Try.pinned (OpenSpec.ofChange fdbNewsWrong)

/-- 'patchbaylaw12.FdbLocks': WHATEVER THE INPUT: true; the input reads as it did. -/
def fdbLocksSpec : ChangeSpec := { name := "fdbLocks", fn := fun _ => fun
  | [d1, d2, d3] => { results := [.lit (.bool true)], args := [d1, d2, d3] }
  | _ => none }
def fdbLocksRow : OpenClaim := { program := "ythloabdfkakehaa", sum := "b3cdcede82b0d6736223714e70baf191867550f03f43e41d9cfa0e587c7f71ed", func := "patchbay/patchbaylaw12.FdbLocks", spec := "fdbLocks", unfollowed := true, recurses := true, apart := false }
def FdbLocksSaid : Prop := fdbLocksRow.holds Try.pinned (OpenSpec.ofChange fdbLocksSpec)

/-- ITS FALSE NEIGHBOUR: 'it returns false'. Refute it at one input. -/
def fdbLocksWrong : ChangeSpec := { name := "fdbLocks", fn := fun _ => fun
  | [d1, d2, d3] => { results := [.lit (.bool false)], args := [d1, d2, d3] }
  | _ => none }
def FdbLocksWrongFalsely : Prop := fdbLocksRow.holds Try.pinned (OpenSpec.ofChange fdbLocksWrong)

/-- 'patchbaylaw13.AgerNews': WHATEVER THE INPUT: true; the input reads as it did. -/
def agerNewsSpec : ChangeSpec := { name := "agerNews", fn := fun _ => fun
  | [d1, d2] => { results := [.lit (.bool true)], args := [d1, d2] }
  | _ => none }
def agerNewsRow : OpenClaim := { program := "ythloabdfkakehaa", sum := "b3cdcede82b0d6736223714e70baf191867550f03f43e41d9cfa0e587c7f71ed", func := "patchbay/patchbaylaw13.AgerNews", spec := "agerNews", unfollowed := true, recurses := true, apart := false }
def AgerNewsSaid : Prop := agerNewsRow.holds Try.pinned (OpenSpec.ofChange agerNewsSpec)

/-- ITS FALSE NEIGHBOUR: 'it returns false'. Refute it at one input. -/
def agerNewsWrong : ChangeSpec := { name := "agerNews", fn := fun _ => fun
  | [d1, d2] => { results := [.lit (.bool false)], args := [d1, d2] }
  | _ => none }
def AgerNewsWrongFalsely : Prop := agerNewsRow.holds Try.pinned (OpenSpec.ofChange agerNewsWrong)

/- THE SECOND FORM. 'bulk': how many values and letters a reading holds, each counted each time it is reached (what is shared counts as often as it is met; a slice's spare places count too). A statement '..UptoSaid' is the law's where the arguments, and the package variables that the reading takes, are together of bulk at most 1048576: NARROWER than '..Said'. Prove '..Said' where nothing that the law and all that it calls make is longer than what came in: it says more and counts as full. Else prove '..UptoSaid'. A law counts once. -/
mutual
def uptoBulk {H : Type} : DataW H → Nat
  | .lit (.string bytes) => bytes.length + 1
  | .lit _ => 1
  | .nil => 1
  | .ptr d => uptoBulk d + 1
  | .slice elems spare => uptoBulkAll elems + uptoBulkAll spare + 1
  | .agg parts => uptoBulkAll parts + 1
  | .iface _ d => uptoBulk d + 1
  | .map entries => uptoBulkEntries entries + 1
  | .held _ => 1
def uptoBulkAll {H : Type} : List (DataW H) → Nat
  | [] => 0
  | d :: r => uptoBulk d + uptoBulkAll r
def uptoBulkEntries {H : Type} : List (Lit × DataW H) → Nat
  | [] => 0
  | x :: r => uptoBulkEntry x + uptoBulkEntries r
def uptoBulkEntry {H : Type} : Lit × DataW H → Nat
  | (.string bytes, d) => bytes.length + uptoBulk d + 1
  | (_, d) => uptoBulk d + 1
 end
def uptoSmall : (H : Type) → List (DataW H) → Bool := fun _ ds => decide (uptoBulkAll ds ≤ 1048576)
def OpenSpec.upto (s : _root_.Go.ChangeSpec) : _root_.Go.OpenSpec := { _root_.Go.OpenSpec.ofChange s with cond := some uptoSmall }

/-- 'patchbaylaw12.FdbNews', WHERE WHAT IT READS IS OF BULK AT MOST 1048576: true; the input reads as it did. -/
def fdbNewsUptoRow : OpenClaim := { program := "ythloabdfkakehaa", sum := "b3cdcede82b0d6736223714e70baf191867550f03f43e41d9cfa0e587c7f71ed", func := "patchbay/patchbaylaw12.FdbNews", spec := "fdbNews", unfollowed := true, recurses := true, apart := false, narrowed := true }
def FdbNewsUptoSaid : Prop := fdbNewsUptoRow.holds Try.pinned (OpenSpec.upto fdbNewsSpec)

/-- 'patchbaylaw12.FdbLocks', WHERE WHAT IT READS IS OF BULK AT MOST 1048576: true; the input reads as it did. -/
def fdbLocksUptoRow : OpenClaim := { program := "ythloabdfkakehaa", sum := "b3cdcede82b0d6736223714e70baf191867550f03f43e41d9cfa0e587c7f71ed", func := "patchbay/patchbaylaw12.FdbLocks", spec := "fdbLocks", unfollowed := true, recurses := true, apart := false, narrowed := true }
def FdbLocksUptoSaid : Prop := fdbLocksUptoRow.holds Try.pinned (OpenSpec.upto fdbLocksSpec)

/-- 'patchbaylaw13.AgerNews', WHERE WHAT IT READS IS OF BULK AT MOST 1048576: true; the input reads as it did. -/
def agerNewsUptoRow : OpenClaim := { program := "ythloabdfkakehaa", sum := "b3cdcede82b0d6736223714e70baf191867550f03f43e41d9cfa0e587c7f71ed", func := "patchbay/patchbaylaw13.AgerNews", spec := "agerNews", unfollowed := true, recurses := true, apart := false, narrowed := true }
def AgerNewsUptoSaid : Prop := agerNewsUptoRow.holds Try.pinned (OpenSpec.upto agerNewsSpec)

end Rows
end Go.Proofs.Ythloabdfkakehaa
