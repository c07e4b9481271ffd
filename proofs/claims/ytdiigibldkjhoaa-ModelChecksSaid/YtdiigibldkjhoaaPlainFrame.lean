/-
  Plain arithmetic of layer 2: what a frame's bytes tell, and a frame's bytes. Nothing of the program is named here. No statement is proved here.
-/
import Derived.Test.YtdiigibldkjhoaaPlain
namespace Go.Proofs.Ytdiigibldkjhoaa

/-- Two bytes as a number. -/
def num2 (l : List Nat) (i : Nat) : Nat := l.getD i 0 * 256 + l.getD (i + 1) 0
theorem getD_lt {l : List Nat} (h : ∀ x ∈ l, x < 256) (k : Nat) : l.getD k 0 < 256 := by
  rw [List.getD_eq_getElem?_getD]
  rcases Nat.lt_or_ge k l.length with hk | hk
  · rw [List.getElem?_eq_getElem hk]; exact h _ (List.getElem_mem hk)
  · rw [List.getElem?_eq_none hk]; simp
theorem num2_lt {l : List Nat} (h : ∀ x ∈ l, x < 256) (i : Nat) : num2 l i < 65536 := by
  have := getD_lt h i
  have := getD_lt h (i + 1)
  unfold num2
  omega
theorem getD_drop (l : List Nat) (k i : Nat) : (l.drop k).getD i 0 = l.getD (k + i) 0 := by
  simp [List.getD_eq_getElem?_getD, List.getElem?_drop]
theorem num2_drop (l : List Nat) (k i : Nat) : num2 (l.drop k) i = num2 l (k + i) := by
  unfold num2
  rw [getD_drop, getD_drop, Nat.add_assoc]
theorem mem_drop {l : List Nat} (h : ∀ x ∈ l, x < 256) (k : Nat) : ∀ x ∈ l.drop k, x < 256 := fun x hx => h x (List.mem_of_mem_drop hx)
theorem mem_take {l : List Nat} (h : ∀ x ∈ l, x < 256) (k : Nat) : ∀ x ∈ l.take k, x < 256 := fun x hx => h x (List.mem_of_mem_take hx)

/-- Is there a tag? May a Type stand before so many bytes? -/
def tagB (l : List Nat) : Bool := decide (num2 l 12 = 33024)
theorem tagB_iff {l : List Nat} (h : ∀ x ∈ l, x < 256) : tagB l = true ↔ l.getD 12 0 = 129 ∧ l.getD 13 0 = 0 := by
  have h1 := getD_lt h 12
  have h2 := getD_lt h 13
  unfold tagB num2
  rw [decide_eq_true_eq]
  show l.getD 12 0 * 256 + l.getD 13 0 = 33024 ↔ _
  omega
def meetsB (k n : Nat) : Bool := decide ((k ≤ 1500 ∧ k ≤ n) ∨ 1536 ≤ k)

/-- A frame; what bytes tell; the error. -/
structure Fr where
  dst : Nat
  src : Nat
  tagged : Bool
  tci : Nat
  typ : Nat
  load : List Nat
def Fr.zero : Fr := ⟨0, 0, false, 0, 0, []⟩
def headN (l : List Nat) : Nat := if tagB l then 18 else 14
def errN (l : List Nat) : Nat :=
  if l.length < 60 then 2 else if 1500 + headN l < l.length then 3 else if meetsB (num2 l (headN l - 2)) (l.length - headN l) then 0 else 4
/-- The first k bytes' number. -/
def ofk (l : List Nat) : Nat → Nat
  | 0 => 0
  | k + 1 => ofk l k * 256 + l.getD k 0
def parF (l : List Nat) : Fr := ⟨ofk l 6, ofk (l.drop 6) 6, tagB l, if tagB l then num2 l 14 else 0, num2 l (headN l - 2), l.drop (headN l)⟩
def parR (l : List Nat) : Fr := if errN l = 0 then parF l else Fr.zero
theorem errN_ok {l : List Nat} (h : errN l = 0) : 60 ≤ l.length ∧ l.length ≤ 1500 + headN l ∧ meetsB (num2 l (headN l - 2)) (l.length - headN l) = true := by
  unfold errN at h
  split at h
  · omega
  · split at h
    · omega
    · split at h
      · exact ⟨by omega, by omega, by assumption⟩
      · omega

/-- A frame's bytes. -/
def padL (l : List Nat) : List Nat := l ++ List.replicate (60 - l.length) 0
def by2 (n : Nat) : List Nat := [n / 256, n % 256]
def wErr (f : Fr) : Nat :=
  if ¬ (f.dst < 281474976710656 ∧ f.src < 281474976710656) then 1 else if f.tagged = false ∧ (f.tci ≠ 0 ∨ f.typ = 33024) then 1 else if 1500 < f.load.length then 3 else if meetsB f.typ f.load.length then 0 else 4
def wBytes (f : Fr) : List Nat := padL (mb f.dst ++ mb f.src ++ (if f.tagged then [129, 0] ++ by2 f.tci else []) ++ by2 f.typ ++ f.load)
/-- The bytes with another tag, or without one. -/
def oErr (l : List Nat) (tagged : Bool) (vid : Int) : Nat := if errN l ≠ 0 then errN l else if tagged = true ∧ (vid < 1 ∨ 4094 < vid) then 6 else 0
def oBytes (l : List Nat) (tagged : Bool) (vid : Nat) : List Nat :=
  padL (l.take 12 ++ (if tagged then [129, 0] ++ by2 ((if tagB l then num2 l 14 else 0) / 4096 * 4096 + vid) else []) ++ l.drop (if tagB l then 16 else 12))
end Go.Proofs.Ytdiigibldkjhoaa
