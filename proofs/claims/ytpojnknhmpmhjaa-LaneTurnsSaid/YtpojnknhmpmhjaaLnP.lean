/-
  Some put and one takes: what stands behind each round. No statement is proved here.
-/
import Derived.Test.YtpojnknhmpmhjaaLnO
import Derived.Test.YtpojnknhmpmhjaaOpenLl
set_option linter.unusedVariables false
namespace Go.Proofs.Ytpojnknhmpmhjaa
open Go.RowKit

theorem stActsP : ST Try.prog 50 36 (.pointer none) 1 8 := ST.mk Try.underlying50 (by kernel_rfl) rfl (by omega) (by omega)
theorem stIntsP : ST Try.prog 49 3 (.int .i64 0) 1 8 := ST.mk Try.underlying49 (by kernel_rfl) rfl (by omega) (by omega)
theorem U64Rows.fn {w : World} {v : Value} (h : U64Rows w v) : ∃ (A : Option Addr) (n cap : Nat) (L : Nat → Nat → Int) (N : Nat → Nat), v = .slice A n cap ∧ n ≤ cap ∧ cap ≤ maxLen ∧ ∀ i, i < n → ∃ b off u, A = some ⟨b, off, none⟩ ∧ b < w.heap.size ∧ w.cell? ⟨b, off + i, none⟩ = some u ∧ U64Row w u (L i) (N i) := by
  obtain ⟨A, n, cap, hv, h1, h2, h3⟩ := h
  have key : ∀ i, ∃ (l : Nat → Int) (k : Nat), i < n → ∃ b off u, A = some ⟨b, off, none⟩ ∧ b < w.heap.size ∧ w.cell? ⟨b, off + i, none⟩ = some u ∧ U64Row w u l k := fun i => by
    by_cases hi : i < n
    · obtain ⟨b, off, e, hb, hc⟩ := h3 (by omega)
      obtain ⟨u, l, k, hu, hr⟩ := hc i hi
      exact ⟨l, k, fun _ => ⟨b, off, u, e, hb, hu, hr⟩⟩
    · exact ⟨fun _ => 0, 0, fun h => absurd h hi⟩
  refine ⟨A, n, cap, fun i => Classical.choose (key i), fun i => Classical.choose (Classical.choose_spec (key i)), hv, h1, h2, fun i hi => ?_⟩
  exact Classical.choose_spec (Classical.choose_spec (key i)) hi
/-- The four rows, made. -/
def fourW (w : World) (n : Nat) : World :=
  (((w.alloc (.cells (mkC (.int .i64 0) 1 n) 3)).alloc (.cells (mkC (.pointer none) 1 n) 36)).alloc (.cells (mkC (.slice none 0 0) 1 n) 23)).alloc (.cells (mkC (.slice none 0 0) 1 n) 23)
theorem fourW_size (w : World) (n : Nat) : (fourW w n).heap.size = w.heap.size + 4 := by unfold fourW; simp
theorem fourW_below (w : World) (n : Nat) : Below w.heap.size w (fourW w n) := by
  unfold fourW
  exact ((((Below.refl _ _).alloc (Nat.le_refl _) _).alloc (by simp) _).alloc (by simp; omega) _).alloc (by simp; omega) _
theorem fourW_rows (w : World) (n : Nat) : RoL (fourW w n) w.heap.size n (fun _ => 0) (fun _ => none) (fun _ => .slice none 0 0) (fun _ => []) := by
  refine ⟨?_, ?_, ?_, ?_, fun i hi => World.ownsRow_nil _ _ _ _, fun i j k _ _ _ e => (by cases e)⟩
  · unfold fourW
    exact (((rowIs_mk (z := .int .i64 0) (by rfl) rfl).alloc _).alloc _).alloc _
  · unfold fourW
    exact ((rowIs_mk (z := .pointer none) (by rfl) (by simp)).alloc _).alloc _
  · unfold fourW
    exact (rowIs_mk (z := .slice none 0 0) (by rfl) (by simp)).alloc _
  · unfold fourW
    exact rowIs_mk (z := .slice none 0 0) (by rfl) (by simp)
/-- What stands behind each round: L tells the lists. -/
structure LtI (W wr : World) (wb b lb g cap n : Nat) (v : Value) (rbs : Nat → Nat) (r i ip st : Nat) (at_ : Nat → Nat) (nb : Nat → Option Nat) (qv : Nat → Value) (ql : Nat → List Int) (G : Nat → RgS) (c : Nat) (m : MemS) (p t : Nat → Nat) (q : Nat → List Int) (pa : Nat → AcS) (T : Option TkN) (L : Nat → Nat → Int) (N : Nat → Nat) : Prop where
  ln : LnS W wr wb b lb g cap n v rbs G c m p t q nb pa T
  ro : RoL wr r n at_ nb qv ql
  sum : ∀ k, k < n → ql k = ql (n + k) ++ q k
  num : ∀ k x, k < n → nb k = some x → (pa k).num = L k (at_ k) ∧ at_ k < N k
  pn : ∀ k, p k + (if (nb k).isSome then 1 else 0) ≤ ip
  tm : m.t ≤ 10 + (i : Int)
  t0 : 0 ≤ m.t
  high : lb < r
  steps : ∀ x, T = some x → st + 1 ≤ 4 * x.j + x.a.stage
  len : ∀ k, k < n → (ql k).length ≤ p k
theorem LtI.len2 {W wr : World} {wb b lb g cap n : Nat} {v : Value} {rbs : Nat → Nat} {r i ip st : Nat} {at_ : Nat → Nat} {nb : Nat → Option Nat} {qv : Nat → Value} {ql : Nat → List Int} {G : Nat → RgS} {c : Nat} {m : MemS} {p t : Nat → Nat} {q : Nat → List Int} {pa : Nat → AcS} {T : Option TkN} {L : Nat → Nat → Int} {N : Nat → Nat} (h : LtI W wr wb b lb g cap n v rbs r i ip st at_ nb qv ql G c m p t q pa T L N) {k : Nat} (hk : k < n) : (ql k).length ≤ ip ∧ (ql (n + k)).length ≤ ip := by
  have h1 := h.len k hk
  have h2 := h.pn k
  have h3 := h.sum k hk
  have h4 : (ql k).length = (ql (n + k)).length + (q k).length := by rw [h3, List.length_append]
  constructor <;> (split at h2 <;> omega)
end Go.Proofs.Ytpojnknhmpmhjaa
