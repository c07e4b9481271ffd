/-
  Contracts of layer 4's functions, the program's own and the document's: each answers what a plain function of natural numbers says, and turns nothing that was there. No statement is proved here.
-/
import Derived.Test.YtdiigibldkjhoaaKit
set_option linter.unusedVariables false
namespace Go.Proofs.Ytdiigibldkjhoaa
open Go.RowKit

/-- How long ago; so much later; too long ago; how long entries live. -/
def distN (now t : Nat) : Nat := (now + 4294967296 - t) % 4294967296
def ageN (now t : Nat) : Nat := if distN now t < 2147483648 then distN now t else 0
def addN (t by_ : Nat) : Nat := (t + by_) % 4294967296
def oldB (now t lim : Nat) : Bool := decide (lim < ageN now t)
def limN (n s : Nat) (c : Bool) : Nat := if c = true ∧ s < n then s else n
theorem distN_lt (now t : Nat) : distN now t < 4294967296 := Nat.mod_lt _ (by omega)
theorem ageN_lt (now t : Nat) : ageN now t < 2147483648 := by unfold ageN; split <;> omega
theorem ageN_in {now t : Nat} (h : distN now t < 2147483648) : ageN now t = distN now t := if_pos h
theorem ageN_out {now t : Nat} (h : ¬ distN now t < 2147483648) : ageN now t = 0 := if_neg h
theorem addN_lt (t b : Nat) : addN t b < 4294967296 := Nat.mod_lt _ (by omega)
theorem wrap_dist {now t : Nat} (h : now < 4294967296) (ht : t < 4294967296) : IntKind.u32.wrap ((now : Int) - (t : Int)) = ((distN now t : Nat) : Int) := by
  rw [IntKind.wrap_u32]; unfold distN; omega
theorem wrap_add (t b : Nat) : IntKind.u32.wrap ((t : Int) + (b : Int)) = ((addN t b : Nat) : Int) := by
  rw [IntKind.wrap_u32]; unfold addN; omega

set_option maxHeartbeats 400000 in
theorem ticks_Age (now t : Nat) (hn : now < 4294967296) (ht : t < 4294967296) (w : World) :
    Calls Try.prog 121 #[.int .u32 (now : Int), .int .u32 (t : Int)] w fun e w' => e = .returned (.int .u32 (ageN now t : Nat)) ∧ w = w' := by
  obtain ⟨x, hd⟩ : ∃ x, distN now t = x := ⟨_, rfl⟩
  have hw := wrap_dist hn ht
  have hx := distN_lt now t
  have hi := @ageN_in now t
  have ho := @ageN_out now t
  rw [hd] at hw hx hi ho
  clear hd
  by_cases h : ¬ 2147483648 ≤ (x : Int)
  · rw [hi (by omega)]
    have hx' : ¬ 4294967296 ≤ (x : Int) := by omega
    clear hi ho hx
    go_enter Try.func121, Try.ntmps121
    go_wp2
    go_ret
    exact ⟨rfl, rfl⟩
  · rw [ho (by omega)]
    have hx' : ¬ 4294967296 ≤ (x : Int) := by omega
    replace h := Decidable.not_not.1 h
    clear hi ho hx
    go_enter Try.func121, Try.ntmps121
    go_wp2
    go_ret
    exact ⟨rfl, rfl⟩
set_option maxHeartbeats 400000 in
theorem ticks_Old (now t lim : Nat) (hn : now < 4294967296) (ht : t < 4294967296) (w : World) :
    Calls Try.prog 107 #[.int .u32 (now : Int), .int .u32 (t : Int), .int .u32 (lim : Int)] w fun e w' => e = .returned (.bool (oldB now t lim)) ∧ w = w' := by
  have hA := Lib.hid fun W => ticks_Age now t hn ht W
  unfold oldB
  generalize ageN now t = x at *
  go_enter Try.func107, Try.ntmps107
  go_wp2_with fail
  refine (hA.out _).mono ?_
  rintro e w1 ⟨rfl, rfl⟩
  go_wp2
  go_ret
  exact ⟨ret_bool (by simp), rfl⟩
end Go.Proofs.Ytdiigibldkjhoaa
