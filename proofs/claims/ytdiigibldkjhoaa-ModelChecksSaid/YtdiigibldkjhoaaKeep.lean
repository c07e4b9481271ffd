/-
  Cells of one block, and of two, that stay where the block does. No statement is proved here.
-/
import Derived.Test.YtdiigibldkjhoaaKit
namespace Go.Proofs.Ytdiigibldkjhoaa
open Go.RowKit

theorem kp1 {w w' : World} {b o0 : Nat} {v0 : Value} (h : w.cell? ⟨b, o0, none⟩ = some v0) (hk : ∀ p : Addr, p.block = b → w'.cell? p = w.cell? p) :
    w'.cell? ⟨b, o0, none⟩ = some v0 :=
  (hk _ rfl).trans h
theorem kp2 {w w' : World} {b o0 o1 : Nat} {v0 v1 : Value} (h : w.cell? ⟨b, o0, none⟩ = some v0 ∧ w.cell? ⟨b, o1, none⟩ = some v1) (hk : ∀ p : Addr, p.block = b → w'.cell? p = w.cell? p) :
    w'.cell? ⟨b, o0, none⟩ = some v0 ∧ w'.cell? ⟨b, o1, none⟩ = some v1 :=
  ⟨(hk _ rfl).trans h.1, (hk _ rfl).trans h.2⟩
theorem kp3 {w w' : World} {b o0 o1 o2 : Nat} {v0 v1 v2 : Value} (h : w.cell? ⟨b, o0, none⟩ = some v0 ∧ w.cell? ⟨b, o1, none⟩ = some v1 ∧ w.cell? ⟨b, o2, none⟩ = some v2) (hk : ∀ p : Addr, p.block = b → w'.cell? p = w.cell? p) :
    w'.cell? ⟨b, o0, none⟩ = some v0 ∧ w'.cell? ⟨b, o1, none⟩ = some v1 ∧ w'.cell? ⟨b, o2, none⟩ = some v2 :=
  ⟨(hk _ rfl).trans h.1, (hk _ rfl).trans h.2.1, (hk _ rfl).trans h.2.2⟩
theorem kp4 {w w' : World} {b o0 o1 o2 o3 : Nat} {v0 v1 v2 v3 : Value} (h : w.cell? ⟨b, o0, none⟩ = some v0 ∧ w.cell? ⟨b, o1, none⟩ = some v1 ∧ w.cell? ⟨b, o2, none⟩ = some v2 ∧ w.cell? ⟨b, o3, none⟩ = some v3) (hk : ∀ p : Addr, p.block = b → w'.cell? p = w.cell? p) :
    w'.cell? ⟨b, o0, none⟩ = some v0 ∧ w'.cell? ⟨b, o1, none⟩ = some v1 ∧ w'.cell? ⟨b, o2, none⟩ = some v2 ∧ w'.cell? ⟨b, o3, none⟩ = some v3 :=
  ⟨(hk _ rfl).trans h.1, (hk _ rfl).trans h.2.1, (hk _ rfl).trans h.2.2.1, (hk _ rfl).trans h.2.2.2⟩
theorem kp5 {w w' : World} {b o0 o1 o2 o3 o4 : Nat} {v0 v1 v2 v3 v4 : Value} (h : w.cell? ⟨b, o0, none⟩ = some v0 ∧ w.cell? ⟨b, o1, none⟩ = some v1 ∧ w.cell? ⟨b, o2, none⟩ = some v2 ∧ w.cell? ⟨b, o3, none⟩ = some v3 ∧ w.cell? ⟨b, o4, none⟩ = some v4) (hk : ∀ p : Addr, p.block = b → w'.cell? p = w.cell? p) :
    w'.cell? ⟨b, o0, none⟩ = some v0 ∧ w'.cell? ⟨b, o1, none⟩ = some v1 ∧ w'.cell? ⟨b, o2, none⟩ = some v2 ∧ w'.cell? ⟨b, o3, none⟩ = some v3 ∧ w'.cell? ⟨b, o4, none⟩ = some v4 :=
  ⟨(hk _ rfl).trans h.1, (hk _ rfl).trans h.2.1, (hk _ rfl).trans h.2.2.1, (hk _ rfl).trans h.2.2.2.1, (hk _ rfl).trans h.2.2.2.2⟩
theorem kp6 {w w' : World} {b o0 o1 o2 o3 o4 o5 : Nat} {v0 v1 v2 v3 v4 v5 : Value} (h : w.cell? ⟨b, o0, none⟩ = some v0 ∧ w.cell? ⟨b, o1, none⟩ = some v1 ∧ w.cell? ⟨b, o2, none⟩ = some v2 ∧ w.cell? ⟨b, o3, none⟩ = some v3 ∧ w.cell? ⟨b, o4, none⟩ = some v4 ∧ w.cell? ⟨b, o5, none⟩ = some v5) (hk : ∀ p : Addr, p.block = b → w'.cell? p = w.cell? p) :
    w'.cell? ⟨b, o0, none⟩ = some v0 ∧ w'.cell? ⟨b, o1, none⟩ = some v1 ∧ w'.cell? ⟨b, o2, none⟩ = some v2 ∧ w'.cell? ⟨b, o3, none⟩ = some v3 ∧ w'.cell? ⟨b, o4, none⟩ = some v4 ∧ w'.cell? ⟨b, o5, none⟩ = some v5 :=
  ⟨(hk _ rfl).trans h.1, (hk _ rfl).trans h.2.1, (hk _ rfl).trans h.2.2.1, (hk _ rfl).trans h.2.2.2.1, (hk _ rfl).trans h.2.2.2.2.1, (hk _ rfl).trans h.2.2.2.2.2⟩
theorem kp7 {w w' : World} {b o0 o1 o2 o3 o4 o5 o6 : Nat} {v0 v1 v2 v3 v4 v5 v6 : Value} (h : w.cell? ⟨b, o0, none⟩ = some v0 ∧ w.cell? ⟨b, o1, none⟩ = some v1 ∧ w.cell? ⟨b, o2, none⟩ = some v2 ∧ w.cell? ⟨b, o3, none⟩ = some v3 ∧ w.cell? ⟨b, o4, none⟩ = some v4 ∧ w.cell? ⟨b, o5, none⟩ = some v5 ∧ w.cell? ⟨b, o6, none⟩ = some v6) (hk : ∀ p : Addr, p.block = b → w'.cell? p = w.cell? p) :
    w'.cell? ⟨b, o0, none⟩ = some v0 ∧ w'.cell? ⟨b, o1, none⟩ = some v1 ∧ w'.cell? ⟨b, o2, none⟩ = some v2 ∧ w'.cell? ⟨b, o3, none⟩ = some v3 ∧ w'.cell? ⟨b, o4, none⟩ = some v4 ∧ w'.cell? ⟨b, o5, none⟩ = some v5 ∧ w'.cell? ⟨b, o6, none⟩ = some v6 :=
  ⟨(hk _ rfl).trans h.1, (hk _ rfl).trans h.2.1, (hk _ rfl).trans h.2.2.1, (hk _ rfl).trans h.2.2.2.1, (hk _ rfl).trans h.2.2.2.2.1, (hk _ rfl).trans h.2.2.2.2.2.1, (hk _ rfl).trans h.2.2.2.2.2.2⟩
theorem kp8 {w w' : World} {b o0 o1 o2 o3 o4 o5 o6 o7 : Nat} {v0 v1 v2 v3 v4 v5 v6 v7 : Value} (h : w.cell? ⟨b, o0, none⟩ = some v0 ∧ w.cell? ⟨b, o1, none⟩ = some v1 ∧ w.cell? ⟨b, o2, none⟩ = some v2 ∧ w.cell? ⟨b, o3, none⟩ = some v3 ∧ w.cell? ⟨b, o4, none⟩ = some v4 ∧ w.cell? ⟨b, o5, none⟩ = some v5 ∧ w.cell? ⟨b, o6, none⟩ = some v6 ∧ w.cell? ⟨b, o7, none⟩ = some v7) (hk : ∀ p : Addr, p.block = b → w'.cell? p = w.cell? p) :
    w'.cell? ⟨b, o0, none⟩ = some v0 ∧ w'.cell? ⟨b, o1, none⟩ = some v1 ∧ w'.cell? ⟨b, o2, none⟩ = some v2 ∧ w'.cell? ⟨b, o3, none⟩ = some v3 ∧ w'.cell? ⟨b, o4, none⟩ = some v4 ∧ w'.cell? ⟨b, o5, none⟩ = some v5 ∧ w'.cell? ⟨b, o6, none⟩ = some v6 ∧ w'.cell? ⟨b, o7, none⟩ = some v7 :=
  ⟨(hk _ rfl).trans h.1, (hk _ rfl).trans h.2.1, (hk _ rfl).trans h.2.2.1, (hk _ rfl).trans h.2.2.2.1, (hk _ rfl).trans h.2.2.2.2.1, (hk _ rfl).trans h.2.2.2.2.2.1, (hk _ rfl).trans h.2.2.2.2.2.2.1, (hk _ rfl).trans h.2.2.2.2.2.2.2⟩
end Go.Proofs.Ytdiigibldkjhoaa
