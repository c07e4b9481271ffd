/-
  A gauge in a block of its own; one Take of a gauge whose room is a whole number. No statement is proved here.
-/
import Derived.Test.YtdgjgddobjhekaaGaugeX
import Derived.Test.YtdgjgddobjhekaaGaugeT
set_option linter.unusedVariables false
namespace Go.Proofs.Ytdgjgddobjhekaa
open Go.RowKit

/-- A gauge stands in the block g. -/
def GAt (w : World) (g lv mo x t : Nat) : Prop :=
  g < w.heap.size ∧ w.cell? ⟨g, 0, none⟩ = some (.float .f64 lv) ∧ w.cell? ⟨g, 1, none⟩ = some (.float .f64 mo) ∧ w.cell? ⟨g, 2, none⟩ = some (.float .f64 x) ∧ w.cell? ⟨g, 3, none⟩ = some (.int .u32 (t : Int)) ∧ ∀ o, w.frozen? ⟨g, o, none⟩ = false
theorem GAt.below {w w' : World} {g lv mo x t B : Nat} (h : GAt w g lv mo x t) (hb : Below B w w') (hB : g < B) : GAt w' g lv mo x t := by
  obtain ⟨h0, h1, h2, h3, h4, h5⟩ := h
  have hz := hb.size
  exact ⟨by omega, (hb.cell (p := ⟨g, 0, none⟩) hB).trans h1, (hb.cell (p := ⟨g, 1, none⟩) hB).trans h2, (hb.cell (p := ⟨g, 2, none⟩) hB).trans h3, (hb.cell (p := ⟨g, 3, none⟩) hB).trans h4, fun o => (hb.frozen (p := ⟨g, o, none⟩) hB).trans (h5 o)⟩
theorem GAt.call {w w' : World} {g lv mo x t : Nat} (h : GAt w g lv mo x t) (hb : Below w.heap.size w w') : GAt w' g lv mo x t := h.below hb h.1
theorem GAt.alloc {w : World} {g lv mo x t : Nat} (h : GAt w g lv mo x t) (o : Obj) : GAt (w.alloc o) g lv mo x t := h.call ((Below.refl _ _).alloc (Nat.le_refl _) o)
theorem GAt.new {w : World} {lv mo x t : Nat} {T : TypeId} : GAt (w.alloc (.cells #[.float .f64 lv, .float .f64 mo, .float .f64 x, .int .u32 (t : Int)] T)) w.heap.size lv mo x t :=
  ⟨by simp, by simp [go_sem], by simp [go_sem], by simp [go_sem], by simp [go_sem], fun o => by simp [go_sem]⟩
/-- Stored to, cell by cell. -/
def setG (w : World) (g lv mo x t : Nat) : World := (((w.setCell ⟨g, 0, none⟩ (.float .f64 lv)).setCell ⟨g, 1, none⟩ (.float .f64 mo)).setCell ⟨g, 2, none⟩ (.float .f64 x)).setCell ⟨g, 3, none⟩ (.int .u32 (t : Int))
theorem setG_size (w : World) (g lv mo x t : Nat) : (setG w g lv mo x t).heap.size = w.heap.size := by simp [setG]
theorem setG_below {B g : Nat} {a w : World} (h : Below B a w) (hB : B ≤ g) (lv mo x t : Nat) : Below B a (setG w g lv mo x t) := (((h.setCell hB _).setCell hB _).setCell hB _).setCell hB _
theorem GAt.set {w : World} {g lv mo x t : Nat} (h : GAt w g lv mo x t) (lv' mo' x' t' : Nat) : GAt (setG w g lv' mo' x' t') g lv' mo' x' t' := by
  obtain ⟨h0, h1, h2, h3, h4, h5⟩ := h
  refine ⟨by rw [setG_size]; exact h0, ?_, ?_, ?_, ?_, fun o => ?_⟩ <;> simp [setG, go_sem, h1, h2, h3, h4, h5]
def vG (lv mo x t : Nat) : Value := .agg #[.float .f64 lv, .float .f64 mo, .float .f64 x, .int .u32 (t : Int)]
theorem take_whole {lv mo x t now N : Nat} (hl : lv < 18446744073709551616) (ho : openW lv = false) (h1 : t < 4294967296) (h2 : now < 4294967296) (hr : roomW lv mo x (ageN now t) = fN (N + 1)) (hN : N + 1 < 65536) (w : World) :
    Calls Try.prog 27 #[.agg #[.float .f64 lv, .float .f64 mo, .float .f64 x, .int .u32 (t : Int)], .int .u32 (now : Int)] w (Says (.tuple #[.agg #[.float .f64 lv, .float .f64 mo, .float .f64 (fN N), .int .u32 (now : Int)], .bool true]) w) := by
  have hs := sub_whole (a := N + 1) (b := 1) (by omega) (by omega)
  rw [fN_one, Nat.add_sub_cancel] at hs
  exact gauge_Take_yes lv mo x t now hl h1 h2 ho hr (by rw [geB_whole (by omega)]; simp) hs w
theorem take_nought {lv mo x t now : Nat} (hl : lv < 18446744073709551616) (ho : openW lv = false) (h1 : t < 4294967296) (h2 : now < 4294967296) (hr : roomW lv mo x (ageN now t) = fN 0) (w : World) :
    Calls Try.prog 27 #[.agg #[.float .f64 lv, .float .f64 mo, .float .f64 x, .int .u32 (t : Int)], .int .u32 (now : Int)] w (Says (.tuple #[.agg #[.float .f64 lv, .float .f64 mo, .float .f64 (fN 0), .int .u32 (now : Int)], .bool false]) w) :=
  gauge_Take_no lv mo x t now hl h1 h2 ho hr (by rw [geB_whole (by omega)]; rfl) w
theorem age_self (n : Nat) : ageN n n = 0 := by unfold ageN distN; simp
theorem age_small {n : Nat} (h : n < 2147483648) : ageN n 0 = n := by
  unfold ageN distN
  rw [show (n + 4294967296 - 0) % 4294967296 = n by omega, if_pos h]
theorem fN_u64 (k : Nat) : fN k < 18446744073709551616 := by
  have h : decide (fN k < 2 ^ 64) = true := floatOfInt_wf .f64 (k : Int)
  have := of_decide_eq_true h
  omega
end Go.Proofs.Ytdgjgddobjhekaa
