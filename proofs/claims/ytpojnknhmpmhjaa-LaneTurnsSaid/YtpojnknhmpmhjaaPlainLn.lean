/-
  Many rings in one memory: what a step of one leaves the others. No statement is proved here.
-/
import Derived.Test.YtpojnknhmpmhjaaRgI
set_option linter.unusedVariables false
namespace Go.Proofs.Ytpojnknhmpmhjaa

def withM (g : RgS) (m : MemS) : RgS := { g with m := m }
theorem putR_far {g : RgS} {k x : Nat} {v : Int} (h : x ≠ k) : (putR g k v).m.c x = g.m.c x := by
  show (if x = k then _ else _) = _
  rw [if_neg h]; rfl
theorem placeN_in {g : RgS} (hf : Fits g) (c : Int) : g.ba + 2 ≤ placeN g c ∧ placeN g c < g.ba + 2 + g.sz := by
  unfold placeN
  have := Nat.mod_lt (dif c g.st).toNat (show 0 < g.sz from hf.one)
  omega
/-- A step turns no cell of others. -/
theorem stepR_far {g : RgS} {a : AcS} (hf : Fits g) (x : Nat) (hx : x < g.ba ∨ g.ba + 2 + g.sz ≤ x) : (stepR g a).1.m.c x = g.m.c x := by
  obtain ⟨pt, sg, cn, nm, ok, mk⟩ := a
  have h1 := hf.one
  have hp := placeN_in hf cn
  match sg with
  | 0 => rfl
  | 1 => rfl
  | 2 =>
    simp only [stepR]
    split
    · rfl
    · cases pt <;> rfl
  | 3 =>
    simp only [stepR]
    split
    · exact putR_far (by omega)
    · rfl
  | n + 4 =>
    cases pt
    · exact putR_far (g := g) (k := g.ba + 1) (by omega)
    · exact putR_far (g := g) (k := g.ba) (by omega)
theorem iterR_far (n : Nat) : ∀ {g : RgS} {a : AcS}, Fits g → 1 ≤ a.stage → a.stage ≤ 4 → ∀ (x : Nat), (x < g.ba ∨ g.ba + 2 + g.sz ≤ x) → (iterR n (g, a)).1.m.c x = g.m.c x := by
  induction n with
  | zero => intro g a _ _ _ x _; rfl
  | succ n ih =>
    intro g a hf h1 h4 x hx
    have st := stayR g a h1 h4
    have hf' : Fits (stepR g a).1 := ⟨by rw [st.ba, st.sz, st.C]; exact hf.cells, by rw [st.C]; exact hf.mem, by rw [st.sz]; exact hf.one, by rw [st.sz]; exact hf.most⟩
    have e0 := stepR_far (a := a) hf x hx
    show (iterR n (stepR g a)).1.m.c x = _
    rcases st.more with h0 | h0
    · rw [iterR_over n _ h0]; exact e0
    · have := ih (g := (stepR g a).1) (a := (stepR g a).2) hf' (by omega) st.most x (by rw [st.ba, st.sz]; exact hx)
      rw [← e0]; exact this
theorem Fits.withM {g : RgS} {m' : MemS} (h : Fits g) (hC : m'.C = g.m.C) : Fits (withM g m') :=
  ⟨by show _ ≤ m'.C; rw [hC]; exact h.cells, by show m'.C ≤ _; rw [hC]; exact h.mem, h.one, h.most⟩
theorem RngQ.withM {g : RgS} {p t : Nat} {q : List Int} {m' : MemS} (h : RngQ g p t q) (hC : m'.C = g.m.C) (hc : ∀ x, g.ba ≤ x → x < g.ba + 2 + g.sz → m'.c x = g.m.c x) : RngQ (withM g m') p t q := by
  have h1 := h.fits.one
  refine ⟨h.fits.withM hC, h.st0, h.st1, ?_, ?_, h.tp, h.len, h.room, h.few, fun i hi => ?_⟩
  · show m'.c g.ba = _
    rw [hc _ (Nat.le_refl _) (by omega)]; exact h.cp
  · show m'.c (g.ba + 1) = _
    rw [hc _ (by omega) (by omega)]; exact h.ct
  · show m'.c (g.ba + 2 + (t + i) % g.sz) = _
    rw [hc _ (by omega) (by have := Nat.mod_lt (t + i) (show 0 < g.sz from h1); omega)]; exact h.num i hi
theorem PopK.withM {g : RgS} {p t : Nat} {a : AcS} {m' : MemS} (hf : Fits g) (h : PopK g p t a) (hc : ∀ x, g.ba ≤ x → x < g.ba + 2 + g.sz → m'.c x = g.m.c x) : PopK (withM g m') p t a := by
  obtain ⟨o1, o2, o3, o4, o5, o6, o7, o8⟩ := h
  refine ⟨o1, o2, o3, o4, o5, o6, o7, fun hh => ?_⟩
  show m'.c (g.ba + 2 + t % g.sz) = _
  rw [hc _ (by omega) (by have := Nat.mod_lt t (show 0 < g.sz from hf.one); omega)]; exact o8 hh
theorem PushK.withM {g : RgS} {p t : Nat} {a : AcS} {m' : MemS} (hf : Fits g) (h : PushK g p t a) (hc : ∀ x, g.ba ≤ x → x < g.ba + 2 + g.sz → m'.c x = g.m.c x) : PushK (withM g m') p t a := by
  obtain ⟨o1, o2, o3, o4, o5, o6, o7, o8⟩ := h
  refine ⟨o1, o2, o3, o4, o5, o6, o7, fun hh => ?_⟩
  show m'.c (g.ba + 2 + p % g.sz) = _
  rw [hc _ (by omega) (by have := Nat.mod_lt p (show 0 < g.sz from hf.one); omega)]; exact o8 hh
/-- One place of a function turned. -/
def upd {α : Type} (f : Nat → α) (k : Nat) (x : α) : Nat → α := fun i => if i = k then x else f i
@[simp] theorem upd_same {α : Type} (f : Nat → α) (k : Nat) (x : α) : upd f k x k = x := if_pos rfl
theorem upd_other {α : Type} (f : Nat → α) {k i : Nat} (h : i ≠ k) (x : α) : upd f k x i = f i := if_neg h
/-- Ring k goes on; the others have the same memory then. -/
def updG (G : Nat → RgS) (k : Nat) (g : RgS) : Nat → RgS := fun i => if i = k then g else withM (G i) g.m
theorem updG_same (G : Nat → RgS) (k : Nat) (g : RgS) : updG G k g k = g := if_pos rfl
theorem updG_other (G : Nat → RgS) {k i : Nat} (h : i ≠ k) (g : RgS) : updG G k g i = withM (G i) g.m := if_neg h
/-- Rings of one memory, apart; each is its queue, with so many put and taken. -/
structure RgsQ (n : Nat) (G : Nat → RgS) (m : MemS) (p t : Nat → Nat) (q : Nat → List Int) : Prop where
  mem : ∀ i, i < n → (G i).m = m
  apart : ∀ i j, i < n → j < n → i ≠ j → (G i).ba + 2 + (G i).sz ≤ (G j).ba ∨ (G j).ba + 2 + (G j).sz ≤ (G i).ba
  que : ∀ i, i < n → RngQ (G i) (p i) (t i) (q i)
/-- What a ring keeps when it goes on, as far as the others ask. -/
structure Kept (g g' : RgS) : Prop where
  ba : g'.ba = g.ba
  sz : g'.sz = g.sz
  C : g'.m.C = g.m.C
  far : ∀ x, (x < g.ba ∨ g.ba + 2 + g.sz ≤ x) → g'.m.c x = g.m.c x
theorem kept_step {g : RgS} {a : AcS} (hf : Fits g) (h1 : 1 ≤ a.stage) (h4 : a.stage ≤ 4) : Kept g (stepR g a).1 :=
  have st := stayR g a h1 h4
  ⟨st.ba, st.sz, st.C, fun x hx => stepR_far hf x hx⟩
theorem kept_refl (g : RgS) (pu po : Bool) : Kept g { g with pu := pu, po := po } := ⟨rfl, rfl, rfl, fun _ _ => rfl⟩
theorem Kept.trans {a b c : RgS} (h : Kept a b) (k : Kept b c) : Kept a c :=
  ⟨k.ba.trans h.ba, k.sz.trans h.sz, k.C.trans h.C, fun x hx => (k.far x (by rw [h.ba, h.sz]; exact hx)).trans (h.far x hx)⟩
theorem RgsQ.others {n : Nat} {G : Nat → RgS} {m : MemS} {p t : Nat → Nat} {q : Nat → List Int} (h : RgsQ n G m p t q) {k : Nat} (hk : k < n) {g' : RgS} (hg : Kept (G k) g') :
    ∀ i, i < n → i ≠ k → g'.m.C = (G i).m.C ∧ ∀ x, (G i).ba ≤ x → x < (G i).ba + 2 + (G i).sz → g'.m.c x = (G i).m.c x := by
  intro i hi hik
  have e1 := h.mem i hi
  have e2 := h.mem k hk
  refine ⟨by rw [hg.C, e1, e2], fun x h1 h2 => ?_⟩
  rw [hg.far x (by have := h.apart i k hi hk hik; omega), e1, e2]
theorem RgsQ.go {n : Nat} {G : Nat → RgS} {m : MemS} {p t : Nat → Nat} {q : Nat → List Int} (h : RgsQ n G m p t q) {k : Nat} (hk : k < n) {g' : RgS} {p' t' : Nat} {q' : List Int} (hg : Kept (G k) g') (hq : RngQ g' p' t' q') :
    RgsQ n (updG G k g') g'.m (upd p k p') (upd t k t') (upd q k q') := by
  have key : ∀ i, (updG G k g' i).ba = (G i).ba ∧ (updG G k g' i).sz = (G i).sz := fun i => by
    by_cases hik : i = k
    · subst hik; rw [updG_same]; exact ⟨hg.ba, hg.sz⟩
    · rw [updG_other G hik]; exact ⟨rfl, rfl⟩
  refine ⟨fun i hi => ?_, fun i j hi hj hij => ?_, fun i hi => ?_⟩
  · by_cases hik : i = k
    · subst hik; rw [updG_same]
    · rw [updG_other G hik]; rfl
  · rw [(key i).1, (key i).2, (key j).1, (key j).2]; exact h.apart i j hi hj hij
  · by_cases hik : i = k
    · subst hik; rw [updG_same, upd_same, upd_same, upd_same]; exact hq
    · rw [updG_other G hik, upd_other _ hik, upd_other _ hik, upd_other _ hik]
      exact (h.que i hi).withM (h.others hk hg i hi hik).1 (h.others hk hg i hi hik).2
end Go.Proofs.Ytpojnknhmpmhjaa
