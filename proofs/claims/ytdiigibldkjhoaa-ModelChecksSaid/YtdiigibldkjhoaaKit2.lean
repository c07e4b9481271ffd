/-
  Callees that turn nothing, or draw alone, in a region that draws. No statement is proved here.
-/
import Derived.Test.YtdiigibldkjhoaaKit
namespace Go.Proofs.Ytdiigibldkjhoaa
open Go.RowKit

/-- In a region that draws: a callee that turns nothing, or draws alone, whatever was drawn ahead of it. -/
theorem still0 {P : Program} {f : FuncId} {args : Array Value} {v : Value} (h : ∀ W, Calls P f args W fun e w' => e = .returned v ∧ W = w') (w : World) (n : Nat) :
    Calls P f args (w.drewN n) fun e w' => e = .returned v ∧ ∃ m, w' = w.drewN m := (h _).mono fun _ _ hh => ⟨hh.1, n, hh.2.symm⟩
theorem still1 {P : Program} {f : FuncId} {args : Array Value} {v : Value} (h : ∀ W, Calls P f args W fun e w' => e = .returned v ∧ W = w') (w : World) (a n : Nat) :
    Calls P f args (w.drewN (a + n)) fun e w' => e = .returned v ∧ ∃ m, w' = w.drewN (a + m) := (h _).mono fun _ _ hh => ⟨hh.1, n, hh.2.symm⟩
theorem drawn0 {P : Program} {f : FuncId} {args : Array Value} {v : Value} (h : ∀ W, Calls P f args W (Quiet v W)) (w : World) (n : Nat) :
    Calls P f args (w.drewN n) fun e w' => e = .returned v ∧ ∃ m, w' = w.drewN m := (h _).mono fun _ _ ⟨h1, m, h2⟩ => ⟨h1, n + m, by rw [h2, World.drewN_drewN]⟩
theorem drawn1 {P : Program} {f : FuncId} {args : Array Value} {v : Value} (h : ∀ W, Calls P f args W (Quiet v W)) (w : World) (a n : Nat) :
    Calls P f args (w.drewN (a + n)) fun e w' => e = .returned v ∧ ∃ m, w' = w.drewN (a + m) := (h _).mono fun _ _ ⟨h1, m, h2⟩ => ⟨h1, n + m, by rw [h2, World.drewN_drewN, Nat.add_assoc]⟩
end Go.Proofs.Ytdiigibldkjhoaa
