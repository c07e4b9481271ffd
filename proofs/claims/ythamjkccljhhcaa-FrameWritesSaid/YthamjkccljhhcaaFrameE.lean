/-
  The document's Parse of a frame, all ways together. No statement is proved here.
-/
import Derived.Test.YthamjkccljhhcaaFrameDGp
import Derived.Test.YthamjkccljhhcaaFrameDFp
import Derived.Test.YthamjkccljhhcaaFrameDLp
import Derived.Test.YthamjkccljhhcaaFrameDGt
import Derived.Test.YthamjkccljhhcaaFrameDFt
import Derived.Test.YthamjkccljhhcaaFrameDLt
namespace Go.Proofs.Ythamjkccljhhcaa
open Go.RowKit

set_option maxHeartbeats 1000000 in
theorem ref_Parse_short {l : List Nat} {v : Value} {w : World} {B : Nat} (hv : Sl w B 1 v l.length (bv l)) (h60 : l.length < 60) :
    Calls Try.prog 16 #[v] w (ParsesTo l w) := by
  have he := errN_short h60
  have hp : parR l = Fr.zero := by unfold parR; rw [if_neg (by omega)]
  have HE := Lib.hid he
  have HP := Lib.hid hp
  obtain ⟨A, cap, rfl, hcap, hmx⟩ := hv.form
  clear he hp hv
  go_enter Try.func16, Try.ntmps16
  go_wp2
  refine bodyPost_ret (v := .tuple #[.agg #[.int .u64 0, .int .u64 0, .bool false, .int .u16 0, .int .u16 0, .slice none 0 0], .int .i64 2]) (by simp [results, Try.results16, go_sem]) rfl ⟨.slice none 0 0, ?_, ?_, ?_⟩
  · rw [HP.out, HE.out]; rfl
  · rw [HP.out]; exact World.ownsRow_nil _ _ _ _
  · (repeat' (first | (with_reducible exact Below.refl _ _) | (with_reducible assumption) | (with_reducible refine Below.setCell ?_ ?_ _) | (with_reducible refine Below.alloc ?_ ?_ _) | (with_reducible refine below_drewN ?_ _) | (with_reducible refine Below.drew ?_) | go_size))

theorem ref_Parse {l : List Nat} (hl : ∀ x ∈ l, x < 256) {v : Value} {w : World} {B : Nat} (hv : Sl w B 1 v l.length (bv l)) (hB : B ≤ w.heap.size) :
    Calls Try.prog 16 #[v] w (ParsesTo l w) := by
  by_cases h60 : l.length < 60
  · exact ref_Parse_short hv h60
  · have h60' : 60 ≤ l.length := by omega
    cases ht : tagB l with
    | false =>
      by_cases hlong : 1514 < l.length
      · exact ref_Parse_long_plain hl hv hB ht h60' hlong
      · cases hm : meetsB (num2 l 12) (l.length - 14) with
        | false => exact ref_Parse_form_plain hl hv hB ht h60' (by omega) hm
        | true => exact ref_Parse_good_plain hl hv hB ht h60' (by omega) hm
    | true =>
      by_cases hlong : 1518 < l.length
      · exact ref_Parse_long_tag hl hv hB ht h60' hlong
      · cases hm : meetsB (num2 l 16) (l.length - 18) with
        | false => exact ref_Parse_form_tag hl hv hB ht h60' (by omega) hm
        | true => exact ref_Parse_good_tag hl hv hB ht h60' (by omega) hm
end Go.Proofs.Ythamjkccljhhcaa
