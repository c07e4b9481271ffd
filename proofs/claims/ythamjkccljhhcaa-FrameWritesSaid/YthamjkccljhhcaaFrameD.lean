/-
  The document's Parse of a frame: it tells what 'parR' and 'errN' say. No statement is proved here.
-/
import Derived.Test.YthamjkccljhhcaaFrameC
import Derived.Deep.RegionHeld3
namespace Go.Proofs.Ythamjkccljhhcaa
open Go.RowKit

theorem errN_short {l : List Nat} (h : l.length < 60) : errN l = 2 := by unfold errN; rw [if_pos h]
theorem errN_long {l : List Nat} (h : 60 ≤ l.length) (h2 : 1500 + headN l < l.length) : errN l = 3 := by unfold errN; rw [if_neg (by omega), if_pos h2]
theorem errN_form {l : List Nat} (h : 60 ≤ l.length) (h2 : l.length ≤ 1500 + headN l) (h3 : meetsB (num2 l (headN l - 2)) (l.length - headN l) = false) : errN l = 4 := by
  unfold errN; rw [if_neg (by omega), if_neg (by omega), h3]; rfl
theorem errN_good {l : List Nat} (h : 60 ≤ l.length) (h2 : l.length ≤ 1500 + headN l) (h3 : meetsB (num2 l (headN l - 2)) (l.length - headN l) = true) : errN l = 0 := by
  unfold errN; rw [if_neg (by omega), if_neg (by omega), h3]; rfl
theorem headN_plain {l : List Nat} (h : tagB l = false) : headN l = 14 := by unfold headN; rw [h]; rfl
theorem headN_tag {l : List Nat} (h : tagB l = true) : headN l = 18 := by unfold headN; rw [h]; rfl

end Go.Proofs.Ythamjkccljhhcaa
