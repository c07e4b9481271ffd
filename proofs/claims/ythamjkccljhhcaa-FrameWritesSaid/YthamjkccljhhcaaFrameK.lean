/-
  The document's Out, all ways together. No statement is proved here.
-/
import Derived.Test.YthamjkccljhhcaaFrameJbp
import Derived.Test.YthamjkccljhhcaaFrameJbt
import Derived.Test.YthamjkccljhhcaaFrameJhp
import Derived.Test.YthamjkccljhhcaaFrameJht
namespace Go.Proofs.Ythamjkccljhhcaa
open Go.RowKit

theorem ref_Out {l : List Nat} (hl : ∀ x ∈ l, x < 256) {v : Value} {w : World} {B : Nat} (hv : Sl w B 1 v l.length (bv l)) (hB : B ≤ w.heap.size) (tagged : Bool) (vid : Int) :
    Calls Try.prog 27 #[v, .bool tagged, .int .i64 vid] w (OutsTo l tagged vid w) := by
  by_cases he : errN l = 0
  · cases tagged with
    | false =>
      cases ht : tagB l with
      | false => exact ref_Out_bare_plain hl hv hB vid he ht
      | true => exact ref_Out_had_plain hl hv hB vid he ht
    | true =>
      by_cases hvid : vid < 1 ∨ 4094 < vid
      · exact ref_Out_vid hl hv hB vid he hvid
      · obtain ⟨k, rfl⟩ := Int.eq_ofNat_of_zero_le (show 0 ≤ vid by omega)
        cases ht : tagB l with
        | false => exact ref_Out_bare_tag hl hv hB k (by omega) (by omega) he ht
        | true => exact ref_Out_had_tag hl hv hB k (by omega) (by omega) he ht
  · exact ref_Out_bad hl hv hB tagged vid he
end Go.Proofs.Ythamjkccljhhcaa
