/-
  No cell of these rows narrows 'for every input' (looked for: loops, veiled, ifaces, maps, wideKeys, modest, calm, conditions, laid).
  DERIVED. THE GIVEN ROWS OF THIS SEAT. 7 by the template 'for every input the law returns true; each argument reads behind the call as it read before'; 0 by the template 'total and deterministic' (their statements: YthloabdfkakehaaGreatTotals.lean).
  GIVEN WITH THE SEED: the statements are not yours to turn. If you find one false, say at which input.
  Laid BY PROGRAM, IN A SANDBOX (cutbox-rows.mjs): the forced cells as the released guide's own fill.sh prints them over the translation f787fa7718137705… (all of the seat's roots in one cut). By AI agents, Wed Nov 11 2026. No macro, syntax, notation, axiom, sorry.
-/
import Derived.Test.YthloabdfkakehaaGreatChecked
import GoSem.Claim
import GoSem.ClaimJoined
import GoSem.ClaimMapViews
import Derived.JoinedTies
import Derived.KernelRfl
namespace Go.Proofs.YthloabdfkakehaaGreat
/- THE CELL 'sum', in the pinned program and in every row, IS THE sha256 OF THE DUMP (.gsa) THAT YthloabdfkakehaaGreatProg.lean LOADS. Nothing in Lean hashes anything: it is a label: what it is worth is what the hold of that sum in a sandbox is worth. -/
noncomputable def Tryz.pinned : Pinned := { name := "ythloabdfkakehaagreat", sum := "f787fa771813770549c2509d7d133848f2ec235635a5e4d2ffe36d512bdf57fb", checked := Tryz.checked }
namespace Rows
def none {H : Type} : Left H := { results := [], args := [] }

/-- 'patchbaylaw12.FdbTurns': WHATEVER THE INPUT: true; the input reads as it did. -/
def fdbTurnsSpec : ChangeSpec := { name := "fdbTurns", fn := fun _ => fun
  | [d1, d2, d3] => { results := [.lit (.bool true)], args := [d1, d2, d3] }
  | _ => none }
def fdbTurnsRow : OpenClaim := { program := "ythloabdfkakehaagreat", sum := "f787fa771813770549c2509d7d133848f2ec235635a5e4d2ffe36d512bdf57fb", func := "patchbay/patchbaylaw12.FdbTurns", spec := "fdbTurns", unfollowed := true, recurses := true, apart := false }
def FdbTurnsSaid : Prop := fdbTurnsRow.holds Tryz.pinned (OpenSpec.ofChange fdbTurnsSpec)

/-- ITS FALSE NEIGHBOUR: 'it returns false'. Refute it at one input. -/
def fdbTurnsWrong : ChangeSpec := { name := "fdbTurns", fn := fun _ => fun
  | [d1, d2, d3] => { results := [.lit (.bool false)], args := [d1, d2, d3] }
  | _ => none }
def FdbTurnsWrongFalsely : Prop := fdbTurnsRow.holds Tryz.pinned (OpenSpec.ofChange fdbTurnsWrong)

/-- 'patchbaylaw12.FdbEach': WHATEVER THE INPUT: true; the input reads as it did. -/
def fdbEachSpec : ChangeSpec := { name := "fdbEach", fn := fun _ => fun
  | [d1, d2, d3] => { results := [.lit (.bool true)], args := [d1, d2, d3] }
  | _ => none }
def fdbEachRow : OpenClaim := { program := "ythloabdfkakehaagreat", sum := "f787fa771813770549c2509d7d133848f2ec235635a5e4d2ffe36d512bdf57fb", func := "patchbay/patchbaylaw12.FdbEach", spec := "fdbEach", unfollowed := true, recurses := true, apart := false }
def FdbEachSaid : Prop := fdbEachRow.holds Tryz.pinned (OpenSpec.ofChange fdbEachSpec)

/-- ITS FALSE NEIGHBOUR: 'it returns false'. Refute it at one input. -/
def fdbEachWrong : ChangeSpec := { name := "fdbEach", fn := fun _ => fun
  | [d1, d2, d3] => { results := [.lit (.bool false)], args := [d1, d2, d3] }
  | _ => none }
def FdbEachWrongFalsely : Prop := fdbEachRow.holds Tryz.pinned (OpenSpec.ofChange fdbEachWrong)

/-- 'patchbaylaw12.FdbAlone': WHATEVER THE INPUT: true; the input reads as it did. -/
def fdbAloneSpec : ChangeSpec := { name := "fdbAlone", fn := fun _ => fun
  | [d1, d2] => { results := [.lit (.bool true)], args := [d1, d2] }
  | _ => none }
def fdbAloneRow : OpenClaim := { program := "ythloabdfkakehaagreat", sum := "f787fa771813770549c2509d7d133848f2ec235635a5e4d2ffe36d512bdf57fb", func := "patchbay/patchbaylaw12.FdbAlone", spec := "fdbAlone", unfollowed := true, recurses := true, apart := false }
def FdbAloneSaid : Prop := fdbAloneRow.holds Tryz.pinned (OpenSpec.ofChange fdbAloneSpec)

/-- ITS FALSE NEIGHBOUR: 'it returns false'. Refute it at one input. -/
def fdbAloneWrong : ChangeSpec := { name := "fdbAlone", fn := fun _ => fun
  | [d1, d2] => { results := [.lit (.bool false)], args := [d1, d2] }
  | _ => none }
def FdbAloneWrongFalsely : Prop := fdbAloneRow.holds Tryz.pinned (OpenSpec.ofChange fdbAloneWrong)

/-- 'patchbaylaw12.FdbStill': WHATEVER THE INPUT: true; the input reads as it did. -/
def fdbStillSpec : ChangeSpec := { name := "fdbStill", fn := fun _ => fun
  | [d1, d2, d3] => { results := [.lit (.bool true)], args := [d1, d2, d3] }
  | _ => none }
def fdbStillRow : OpenClaim := { program := "ythloabdfkakehaagreat", sum := "f787fa771813770549c2509d7d133848f2ec235635a5e4d2ffe36d512bdf57fb", func := "patchbay/patchbaylaw12.FdbStill", spec := "fdbStill", unfollowed := true, recurses := true, apart := false }
def FdbStillSaid : Prop := fdbStillRow.holds Tryz.pinned (OpenSpec.ofChange fdbStillSpec)

/-- ITS FALSE NEIGHBOUR: 'it returns false'. Refute it at one input. -/
def fdbStillWrong : ChangeSpec := { name := "fdbStill", fn := fun _ => fun
  | [d1, d2, d3] => { results := [.lit (.bool false)], args := [d1, d2, d3] }
  | _ => none }
def FdbStillWrongFalsely : Prop := fdbStillRow.holds Tryz.pinned (OpenSpec.ofChange fdbStillWrong)

/-- 'patchbaylaw12.FdbFree': WHATEVER THE INPUT: true; the input reads as it did. -/
def fdbFreeSpec : ChangeSpec := { name := "fdbFree", fn := fun _ => fun
  | [d1, d2, d3] => { results := [.lit (.bool true)], args := [d1, d2, d3] }
  | _ => none }
def fdbFreeRow : OpenClaim := { program := "ythloabdfkakehaagreat", sum := "f787fa771813770549c2509d7d133848f2ec235635a5e4d2ffe36d512bdf57fb", func := "patchbay/patchbaylaw12.FdbFree", spec := "fdbFree", unfollowed := true, recurses := true, apart := false }
def FdbFreeSaid : Prop := fdbFreeRow.holds Tryz.pinned (OpenSpec.ofChange fdbFreeSpec)

/-- ITS FALSE NEIGHBOUR: 'it returns false'. Refute it at one input. -/
def fdbFreeWrong : ChangeSpec := { name := "fdbFree", fn := fun _ => fun
  | [d1, d2, d3] => { results := [.lit (.bool false)], args := [d1, d2, d3] }
  | _ => none }
def FdbFreeWrongFalsely : Prop := fdbFreeRow.holds Tryz.pinned (OpenSpec.ofChange fdbFreeWrong)

/-- 'patchbaylaw12.FdbWaits': WHATEVER THE INPUT: true; the input reads as it did. -/
def fdbWaitsSpec : ChangeSpec := { name := "fdbWaits", fn := fun _ => fun
  | [d1, d2, d3] => { results := [.lit (.bool true)], args := [d1, d2, d3] }
  | _ => none }
def fdbWaitsRow : OpenClaim := { program := "ythloabdfkakehaagreat", sum := "f787fa771813770549c2509d7d133848f2ec235635a5e4d2ffe36d512bdf57fb", func := "patchbay/patchbaylaw12.FdbWaits", spec := "fdbWaits", unfollowed := true, recurses := true, apart := false }
def FdbWaitsSaid : Prop := fdbWaitsRow.holds Tryz.pinned (OpenSpec.ofChange fdbWaitsSpec)

/-- ITS FALSE NEIGHBOUR: 'it returns false'. Refute it at one input. -/
def fdbWaitsWrong : ChangeSpec := { name := "fdbWaits", fn := fun _ => fun
  | [d1, d2, d3] => { results := [.lit (.bool false)], args := [d1, d2, d3] }
  | _ => none }
def FdbWaitsWrongFalsely : Prop := fdbWaitsRow.holds Tryz.pinned (OpenSpec.ofChange fdbWaitsWrong)

/-- 'patchbaylaw13.AgerTurns': WHATEVER THE INPUT: true; the input reads as it did. -/
def agerTurnsSpec : ChangeSpec := { name := "agerTurns", fn := fun _ => fun
  | [d1, d2, d3] => { results := [.lit (.bool true)], args := [d1, d2, d3] }
  | _ => none }
def agerTurnsRow : OpenClaim := { program := "ythloabdfkakehaagreat", sum := "f787fa771813770549c2509d7d133848f2ec235635a5e4d2ffe36d512bdf57fb", func := "patchbay/patchbaylaw13.AgerTurns", spec := "agerTurns", unfollowed := true, recurses := true, apart := false }
def AgerTurnsSaid : Prop := agerTurnsRow.holds Tryz.pinned (OpenSpec.ofChange agerTurnsSpec)

/-- ITS FALSE NEIGHBOUR: 'it returns false'. Refute it at one input. -/
def agerTurnsWrong : ChangeSpec := { name := "agerTurns", fn := fun _ => fun
  | [d1, d2, d3] => { results := [.lit (.bool false)], args := [d1, d2, d3] }
  | _ => none }
def AgerTurnsWrongFalsely : Prop := agerTurnsRow.holds Tryz.pinned (OpenSpec.ofChange agerTurnsWrong)

/- THE SECOND FORM. 'bulk': how many values and letters a reading holds, each counted each time it is reached (what is shared counts as often as it is met; a slice's spare places count too). A statement '..UptoSaid' is the law's where the arguments, and the package variables that the reading takes, are together of bulk at most 1048576: NARROWER than '..Said'. Prove '..Said' where nothing that the law and all that it calls make is longer than what came in: it says more and counts as full. Else prove '..UptoSaid'. A law counts once. -/
mutual
def uptoBulk {H : Type} : DataW H → Nat
  | .lit (.string bytes) => bytes.length + 1
  | .lit _ => 1
  | .nil => 1
  | .ptr d => uptoBulk d + 1
  | .slice elems spare => uptoBulkAll elems + uptoBulkAll spare + 1
  | .agg parts => uptoBulkAll parts + 1
  | .iface _ d => uptoBulk d + 1
  | .map entries => uptoBulkEntries entries + 1
  | .held _ => 1
def uptoBulkAll {H : Type} : List (DataW H) → Nat
  | [] => 0
  | d :: r => uptoBulk d + uptoBulkAll r
def uptoBulkEntries {H : Type} : List (Lit × DataW H) → Nat
  | [] => 0
  | x :: r => uptoBulkEntry x + uptoBulkEntries r
def uptoBulkEntry {H : Type} : Lit × DataW H → Nat
  | (.string bytes, d) => bytes.length + uptoBulk d + 1
  | (_, d) => uptoBulk d + 1
 end
def uptoSmall : (H : Type) → List (DataW H) → Bool := fun _ ds => decide (uptoBulkAll ds ≤ 1048576)
def OpenSpec.upto (s : _root_.Go.ChangeSpec) : _root_.Go.OpenSpec := { _root_.Go.OpenSpec.ofChange s with cond := some uptoSmall }

/-- 'patchbaylaw12.FdbTurns', WHERE WHAT IT READS IS OF BULK AT MOST 1048576: true; the input reads as it did. -/
def fdbTurnsUptoRow : OpenClaim := { program := "ythloabdfkakehaagreat", sum := "f787fa771813770549c2509d7d133848f2ec235635a5e4d2ffe36d512bdf57fb", func := "patchbay/patchbaylaw12.FdbTurns", spec := "fdbTurns", unfollowed := true, recurses := true, apart := false, narrowed := true }
def FdbTurnsUptoSaid : Prop := fdbTurnsUptoRow.holds Tryz.pinned (OpenSpec.upto fdbTurnsSpec)

/-- 'patchbaylaw12.FdbEach', WHERE WHAT IT READS IS OF BULK AT MOST 1048576: true; the input reads as it did. -/
def fdbEachUptoRow : OpenClaim := { program := "ythloabdfkakehaagreat", sum := "f787fa771813770549c2509d7d133848f2ec235635a5e4d2ffe36d512bdf57fb", func := "patchbay/patchbaylaw12.FdbEach", spec := "fdbEach", unfollowed := true, recurses := true, apart := false, narrowed := true }
def FdbEachUptoSaid : Prop := fdbEachUptoRow.holds Tryz.pinned (OpenSpec.upto fdbEachSpec)

/-- 'patchbaylaw12.FdbAlone', WHERE WHAT IT READS IS OF BULK AT MOST 1048576: true; the input reads as it did. -/
def fdbAloneUptoRow : OpenClaim := { program := "ythloabdfkakehaagreat", sum := "f787fa771813770549c2509d7d133848f2ec235635a5e4d2ffe36d512bdf57fb", func := "patchbay/patchbaylaw12.FdbAlone", spec := "fdbAlone", unfollowed := true, recurses := true, apart := false, narrowed := true }
def FdbAloneUptoSaid : Prop := fdbAloneUptoRow.holds Tryz.pinned (OpenSpec.upto fdbAloneSpec)

/-- 'patchbaylaw12.FdbStill', WHERE WHAT IT READS IS OF BULK AT MOST 1048576: true; the input reads as it did. -/
def fdbStillUptoRow : OpenClaim := { program := "ythloabdfkakehaagreat", sum := "f787fa771813770549c2509d7d133848f2ec235635a5e4d2ffe36d512bdf57fb", func := "patchbay/patchbaylaw12.FdbStill", spec := "fdbStill", unfollowed := true, recurses := true, apart := false, narrowed := true }
def FdbStillUptoSaid : Prop := fdbStillUptoRow.holds Tryz.pinned (OpenSpec.upto fdbStillSpec)

/-- 'patchbaylaw12.FdbFree', WHERE WHAT IT READS IS OF BULK AT MOST 1048576: true; the input reads as it did. -/
def fdbFreeUptoRow : OpenClaim := { program := "ythloabdfkakehaagreat", sum := "f787fa771813770549c2509d7d133848f2ec235635a5e4d2ffe36d512bdf57fb", func := "patchbay/patchbaylaw12.FdbFree", spec := "fdbFree", unfollowed := true, recurses := true, apart := false, narrowed := true }
def FdbFreeUptoSaid : Prop := fdbFreeUptoRow.holds Tryz.pinned (OpenSpec.upto fdbFreeSpec)

/-- 'patchbaylaw12.FdbWaits', WHERE WHAT IT READS IS OF BULK AT MOST 1048576: true; the input reads as it did. -/
def fdbWaitsUptoRow : OpenClaim := { program := "ythloabdfkakehaagreat", sum := "f787fa771813770549c2509d7d133848f2ec235635a5e4d2ffe36d512bdf57fb", func := "patchbay/patchbaylaw12.FdbWaits", spec := "fdbWaits", unfollowed := true, recurses := true, apart := false, narrowed := true }
def FdbWaitsUptoSaid : Prop := fdbWaitsUptoRow.holds Tryz.pinned (OpenSpec.upto fdbWaitsSpec)

/-- 'patchbaylaw13.AgerTurns', WHERE WHAT IT READS IS OF BULK AT MOST 1048576: true; the input reads as it did. -/
def agerTurnsUptoRow : OpenClaim := { program := "ythloabdfkakehaagreat", sum := "f787fa771813770549c2509d7d133848f2ec235635a5e4d2ffe36d512bdf57fb", func := "patchbay/patchbaylaw13.AgerTurns", spec := "agerTurns", unfollowed := true, recurses := true, apart := false, narrowed := true }
def AgerTurnsUptoSaid : Prop := agerTurnsUptoRow.holds Tryz.pinned (OpenSpec.upto agerTurnsSpec)

end Rows
end Go.Proofs.YthloabdfkakehaaGreat
