/-
  The program's own Out, all ways together. No statement is proved here.
-/
import Derived.Test.YthamjkccljhhcaaFrameGbp
import Derived.Test.YthamjkccljhhcaaFrameGbt
import Derived.Test.YthamjkccljhhcaaFrameGhp
import Derived.Test.YthamjkccljhhcaaFrameGht
namespace Go.Proofs.Ythamjkccljhhcaa
open Go.RowKit

theorem frame_Out {l : List Nat} (hl : ∀ x ∈ l, x < 256) {v : Value} {w : World} {B : Nat} (hv : Sl w B 1 v l.length (bv l)) (hB : B ≤ w.heap.size) (tagged : Bool) (vid : Int) :
    Calls Try.prog 26 #[v, .bool tagged, .int .i64 vid] w (OutsTo l tagged vid w) := by
  by_cases he : errN l = 0
  · cases tagged with
    | false =>
      cases ht : tagB l with
      | false => exact frame_Out_bare_plain hl hv hB vid he ht
      | true => exact frame_Out_had_plain hl hv hB vid he ht
    | true =>
      by_cases hvid : vid < 1 ∨ 4094 < vid
      · exact frame_Out_vid hl hv vid he hvid
      · obtain ⟨k, rfl⟩ := Int.eq_ofNat_of_zero_le (show 0 ≤ vid by omega)
        cases ht : tagB l with
        | false => exact frame_Out_bare_tag hl hv hB k (by omega) (by omega) he ht
        | true => exact frame_Out_had_tag hl hv hB k (by omega) (by omega) he ht
  · exact frame_Out_bad hl hv tagged vid he
end Go.Proofs.Ythamjkccljhhcaa
