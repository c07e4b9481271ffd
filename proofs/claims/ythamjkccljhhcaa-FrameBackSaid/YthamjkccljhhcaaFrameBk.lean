/-
  What Out answers of a frame's bytes, and of bytes that have got a tag. No statement is proved here.
-/
import Derived.Test.YthamjkccljhhcaaPlainBack
import Derived.Test.YthamjkccljhhcaaFrameH
namespace Go.Proofs.Ythamjkccljhhcaa
open Go.RowKit

theorem tciN_lt {l : List Nat} (hl : ∀ x ∈ l, x < 256) : tciN l < 65536 := by
  unfold tciN
  split
  · exact num2_lt hl 14
  · omega
def newT (l : List Nat) (v : Nat) : Nat := tciN l / 4096 * 4096 + v
theorem newT_lt {l : List Nat} (hl : ∀ x ∈ l, x < 256) {v : Nat} (hv : v ≤ 4094) : newT l v < 65536 := by
  have := tciN_lt hl
  unfold newT
  omega
theorem outs_tag {l : List Nat} (h : errN l = 0) {v : Nat} (h1 : 1 ≤ v) (h2 : v ≤ 4094) : oErr l true (v : Int) = 0 ∧ outR l true (v : Int) = tagged l (newT l v) := by
  have ho : oErr l true (v : Int) = 0 := oErr_tag h (by omega) (by omega)
  refine ⟨ho, ?_⟩
  obtain ⟨h60, _⟩ := at_len h
  have hc := at_cases l
  have hlen := tagged_len h (newT l v)
  unfold outR
  rw [if_pos ho]
  show padL (tagged l (newT l v)) = _
  exact padL_eq _ _ rfl (by omega)
theorem outs_bare {l : List Nat} (h : errN l = 0) : oErr l false 0 = 0 ∧ outR l false 0 = padL (l.take 12 ++ l.drop (atN l)) := by
  have ho : oErr l false 0 = 0 := oErr_plain h 0
  refine ⟨ho, ?_⟩
  unfold outR
  rw [if_pos ho]
  unfold oBytes
  simp [atN]
theorem tagged_lt {l : List Nat} (hl : ∀ x ∈ l, x < 256) {k : Nat} (hk : k < 65536) : ∀ x ∈ tagged l k, x < 256 := by
  intro x hx
  unfold tagged by2 at hx
  simp only [List.mem_append, List.mem_cons, List.not_mem_nil, or_false] at hx
  rcases hx with (hx | (hx | hx) | hx | hx) | hx
  · exact hl x (List.mem_of_mem_take hx)
  · omega
  · omega
  · omega
  · omega
  · exact hl x (List.mem_of_mem_drop hx)
theorem tciN_tagged {l : List Nat} (h : errN l = 0) (k : Nat) : tciN (tagged l k) = k := by
  obtain ⟨_, h2, h3⟩ := tagged_tells h k
  unfold tciN
  rw [h2, h3]; rfl
theorem atN_tagged {l : List Nat} (h : errN l = 0) (k : Nat) : atN (tagged l k) = 16 := by
  obtain ⟨_, h2, _⟩ := tagged_tells h k
  unfold atN
  rw [h2]; rfl
/-- Two tags, one behind the other: the last one, and the first one's priority. -/
theorem tagged_again {l : List Nat} (h : errN l = 0) {v w : Nat} (hv : v ≤ 4094) : tagged (tagged l (newT l v)) (newT (tagged l (newT l v)) w) = tagged l (newT l w) := by
  have e : newT (tagged l (newT l v)) w = newT l w := by
    show tciN (tagged l (newT l v)) / 4096 * 4096 + w = _
    rw [tciN_tagged h]
    unfold newT
    omega
  rw [e]
  unfold tagged
  rw [show (l.take 12 ++ ([129, 0] ++ by2 (newT l v)) ++ l.drop (atN l)) = tagged l (newT l v) from rfl, atN_tagged h, tagged_take h, tagged_drop h]
/-- A tag, and none again. -/
theorem tagged_back {l : List Nat} (h : errN l = 0) (k : Nat) : outR (tagged l k) false 0 = padL (l.take 12 ++ l.drop (atN l)) := by
  obtain ⟨h1, _, _⟩ := tagged_tells h k
  rw [(outs_bare h1).2, atN_tagged h, tagged_take h, tagged_drop h]
end Go.Proofs.Ythamjkccljhhcaa
