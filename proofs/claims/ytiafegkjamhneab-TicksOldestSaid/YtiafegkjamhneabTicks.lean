/-
  Contracts of layer 4's functions, the program's own and the document's: each answers what a plain function of natural numbers says, and turns nothing that was there. No statement is proved here.
-/
import Derived.Test.YtiafegkjamhneabKit
set_option linter.unusedVariables false
namespace Go.Proofs.Ytiafegkjamhneab
open Go.RowKit

/-- How long ago; so much later; too long ago; how long entries live. -/
def distN (now t : Nat) : Nat := (now + 4294967296 - t) % 4294967296
def ageN (now t : Nat) : Nat := if distN now t < 2147483648 then distN now t else 0
def addN (t by_ : Nat) : Nat := (t + by_) % 4294967296
def oldB (now t lim : Nat) : Bool := decide (lim < ageN now t)
def limN (n s : Nat) (c : Bool) : Nat := if c = true ∧ s < n then s else n
theorem distN_lt (now t : Nat) : distN now t < 4294967296 := Nat.mod_lt _ (by omega)
theorem ageN_lt (now t : Nat) : ageN now t < 2147483648 := by unfold ageN; split <;> omega
theorem ageN_in {now t : Nat} (h : distN now t < 2147483648) : ageN now t = distN now t := if_pos h
theorem ageN_out {now t : Nat} (h : ¬ distN now t < 2147483648) : ageN now t = 0 := if_neg h
theorem addN_lt (t b : Nat) : addN t b < 4294967296 := Nat.mod_lt _ (by omega)
theorem wrap_dist {now t : Nat} (h : now < 4294967296) (ht : t < 4294967296) : IntKind.u32.wrap ((now : Int) - (t : Int)) = ((distN now t : Nat) : Int) := by
  rw [IntKind.wrap_u32]; unfold distN; omega
theorem wrap_add (t b : Nat) : IntKind.u32.wrap ((t : Int) + (b : Int)) = ((addN t b : Nat) : Int) := by
  rw [IntKind.wrap_u32]; unfold addN; omega

set_option maxHeartbeats 400000 in
theorem ticks_Add (t b : Nat) (ht : t < 4294967296) (hb : b < 4294967296) (w : World) :
    Calls Try.prog 14 #[.int .u32 (t : Int), .int .u32 (b : Int)] w fun e w' => e = .returned (.int .u32 (addN t b : Nat)) ∧ w = w' := by
  have hw := wrap_add t b
  generalize addN t b = x at *
  go_enter Try.func14, Try.ntmps14
  go_wp2
  go_ret
  exact ⟨rfl, rfl⟩
set_option maxHeartbeats 400000 in
theorem ref4_Add (t b : Nat) (ht : t < 4294967296) (hb : b < 4294967296) (w : World) :
    Calls Try.prog 15 #[.int .u32 (t : Int), .int .u32 (b : Int)] w fun e w' => e = .returned (.int .u32 (addN t b : Nat)) ∧ w = w' := by
  have hx : addN t b < 4294967296 := addN_lt t b
  have hw : ((t : Int) + (b : Int)) % 4294967296 = (addN t b : Int) := by unfold addN; omega
  generalize addN t b = x at *
  have hv : IntKind.u32.wrap (x : Int) = (x : Int) := IntWalk.u32_in _ (by omega)
  go_enter Try.func15, Try.ntmps15
  go_wp2
  go_ret
  exact ⟨rfl, rfl⟩

set_option maxHeartbeats 400000 in
theorem ticks_Age (now t : Nat) (hn : now < 4294967296) (ht : t < 4294967296) (w : World) :
    Calls Try.prog 16 #[.int .u32 (now : Int), .int .u32 (t : Int)] w fun e w' => e = .returned (.int .u32 (ageN now t : Nat)) ∧ w = w' := by
  obtain ⟨x, hd⟩ : ∃ x, distN now t = x := ⟨_, rfl⟩
  have hw := wrap_dist hn ht
  have hx := distN_lt now t
  have hi := @ageN_in now t
  have ho := @ageN_out now t
  rw [hd] at hw hx hi ho
  clear hd
  by_cases h : ¬ 2147483648 ≤ (x : Int)
  · rw [hi (by omega)]
    have hx' : ¬ 4294967296 ≤ (x : Int) := by omega
    clear hi ho hx
    go_enter Try.func16, Try.ntmps16
    go_wp2
    go_ret
    exact ⟨rfl, rfl⟩
  · rw [ho (by omega)]
    have hx' : ¬ 4294967296 ≤ (x : Int) := by omega
    replace h := Decidable.not_not.1 h
    clear hi ho hx
    go_enter Try.func16, Try.ntmps16
    go_wp2
    go_ret
    exact ⟨rfl, rfl⟩
set_option maxHeartbeats 400000 in
theorem ref4_Age (now t : Nat) (hn : now < 4294967296) (ht : t < 4294967296) (w : World) :
    Calls Try.prog 17 #[.int .u32 (now : Int), .int .u32 (t : Int)] w fun e w' => e = .returned (.int .u32 (ageN now t : Nat)) ∧ w = w' := by
  obtain ⟨x, hd⟩ : ∃ x, distN now t = x := ⟨_, rfl⟩
  have hw : ((now : Int) + 4294967296 - (t : Int)) % 4294967296 = (distN now t : Int) := by unfold distN; omega
  have hx := distN_lt now t
  have hi := @ageN_in now t
  have ho := @ageN_out now t
  rw [hd] at hw hx hi ho
  clear hd
  by_cases h : ¬ 2147483648 ≤ (x : Int)
  · rw [hi (by omega)]
    have hx' : ¬ 4294967296 ≤ (x : Int) := by omega
    clear hi ho hx
    have hv : IntKind.u32.wrap (x : Int) = (x : Int) := IntWalk.u32_in _ (by omega)
    go_enter Try.func17, Try.ntmps17
    go_wp2
    go_ret
    exact ⟨rfl, rfl⟩
  · rw [ho (by omega)]
    have hx' : ¬ 4294967296 ≤ (x : Int) := by omega
    replace h := Decidable.not_not.1 h
    clear hi ho hx
    go_enter Try.func17, Try.ntmps17
    go_wp2
    go_ret
    exact ⟨rfl, rfl⟩
set_option maxHeartbeats 400000 in
theorem ticks_Old (now t lim : Nat) (hn : now < 4294967296) (ht : t < 4294967296) (w : World) :
    Calls Try.prog 18 #[.int .u32 (now : Int), .int .u32 (t : Int), .int .u32 (lim : Int)] w fun e w' => e = .returned (.bool (oldB now t lim)) ∧ w = w' := by
  have hA := Lib.hid fun W => ticks_Age now t hn ht W
  unfold oldB
  generalize ageN now t = x at *
  go_enter Try.func18, Try.ntmps18
  go_wp2_with fail
  refine (hA.out _).mono ?_
  rintro e w1 ⟨rfl, rfl⟩
  go_wp2
  go_ret
  exact ⟨ret_bool (by simp), rfl⟩
set_option maxHeartbeats 400000 in
theorem ref4_Old (now t lim : Nat) (hn : now < 4294967296) (ht : t < 4294967296) (w : World) :
    Calls Try.prog 19 #[.int .u32 (now : Int), .int .u32 (t : Int), .int .u32 (lim : Int)] w fun e w' => e = .returned (.bool (oldB now t lim)) ∧ w = w' := by
  have hA := Lib.hid fun W => ref4_Age now t hn ht W
  unfold oldB
  generalize ageN now t = x at *
  go_enter Try.func19, Try.ntmps19
  go_wp2_with fail
  refine (hA.out _).mono ?_
  rintro e w1 ⟨rfl, rfl⟩
  go_wp2
  go_ret
  exact ⟨ret_bool (by simp), rfl⟩
set_option maxHeartbeats 400000 in
theorem ticks_Limit (n s : Nat) (c : Bool) (w : World) :
    Calls Try.prog 20 #[.int .u32 (n : Int), .int .u32 (s : Int), .bool c] w fun e w' => e = .returned (.int .u32 (limN n s c : Nat)) ∧ w = w' := by
  have h1 : c = false → limN n s c = n := fun h => by unfold limN; rw [if_neg (by simp [h])]
  have h2 : c = true → s < n → limN n s c = s := fun h h' => by unfold limN; rw [if_pos ⟨h, h'⟩]
  have h3 : c = true → ¬ s < n → limN n s c = n := fun h h' => by unfold limN; rw [if_neg (by simp [h'])]
  generalize limN n s c = m at *
  rcases (show c = false ∨ (c = true ∧ s < n) ∨ (c = true ∧ ¬ s < n) by cases c <;> simp <;> omega) with h | ⟨h, h'⟩ | ⟨h, h'⟩
  · rw [h1 h]
    clear h1 h2 h3
    subst h
    go_enter Try.func20, Try.ntmps20
    go_wp2
    go_ret
    exact ⟨rfl, rfl⟩
  · rw [h2 h h']
    clear h1 h2 h3
    subst h
    go_enter Try.func20, Try.ntmps20
    go_wp2
    all_goals go_ret
    all_goals first | exact ⟨rfl, rfl⟩ | (exfalso; omega)
  · rw [h3 h h']
    clear h1 h2 h3
    subst h
    go_enter Try.func20, Try.ntmps20
    go_wp2
    all_goals go_ret
    all_goals first | exact ⟨rfl, rfl⟩ | (exfalso; omega)
set_option maxHeartbeats 400000 in
theorem ref4_Limit (n s : Nat) (c : Bool) (w : World) :
    Calls Try.prog 21 #[.int .u32 (n : Int), .int .u32 (s : Int), .bool c] w fun e w' => e = .returned (.int .u32 (limN n s c : Nat)) ∧ w = w' := by
  have h1 : c = false → limN n s c = n := fun h => by unfold limN; rw [if_neg (by simp [h])]
  have h2 : c = true → s < n → limN n s c = s := fun h h' => by unfold limN; rw [if_pos ⟨h, h'⟩]
  have h3 : c = true → ¬ s < n → limN n s c = n := fun h h' => by unfold limN; rw [if_neg (by simp [h'])]
  generalize limN n s c = m at *
  rcases (show c = false ∨ (c = true ∧ s < n) ∨ (c = true ∧ ¬ s < n) by cases c <;> simp <;> omega) with h | ⟨h, h'⟩ | ⟨h, h'⟩
  · rw [h1 h]
    clear h1 h2 h3
    subst h
    go_enter Try.func21, Try.ntmps21
    go_wp2
    go_ret
    exact ⟨rfl, rfl⟩
  · rw [h2 h h']
    clear h1 h2 h3
    subst h
    go_enter Try.func21, Try.ntmps21
    go_wp2
    all_goals go_ret
    all_goals first | exact ⟨rfl, rfl⟩ | (exfalso; omega)
  · rw [h3 h h']
    clear h1 h2 h3
    subst h
    go_enter Try.func21, Try.ntmps21
    go_wp2
    all_goals go_ret
    all_goals first | exact ⟨rfl, rfl⟩ | (exfalso; omega)
end Go.Proofs.Ytiafegkjamhneab
