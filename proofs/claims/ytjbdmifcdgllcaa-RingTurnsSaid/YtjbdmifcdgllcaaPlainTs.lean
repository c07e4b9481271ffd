/-
  One puts, one takes, by whatever turns: what is known behind each step. No statement is proved here.
-/
import Derived.Test.YtjbdmifcdgllcaaPlainTn
import Derived.Test.YtjbdmifcdgllcaaPlainLn
import Derived.Test.YtjbdmifcdgllcaaRgU
set_option linter.unusedVariables false
namespace Go.Proofs.Ytjbdmifcdgllcaa

/-- Is the one who puts (0), or takes (1), at it? What its act knows. -/
def busyR (g : RgS) (z : Nat) : Bool := if z = 0 then g.pu else g.po
def WayR (g : RgS) (p t : Nat) (z : Nat) (a : AcS) : Prop := if z = 0 then PushK g p t a else PopK g p t a
/-- What became of the i-th act. -/
def fateR (l : List Int) (ac : Nat → AcS) (pt : Nat → Int) (i : Nat) : Fate := ⟨decide (0 ≤ pt i), l.getD (pt i).toNat 0, (ac i).ok, (ac i).num⟩
structure TurnP (n : Nat) (l : List Int) (N : Nat) (ac : Nat → AcS) (pt fr : Nat → Int) (g : RgS) (p t : Nat) (q : List Int) (at_ : Nat) (nwf stf : Nat → Int) (R : List Nat) : Prop where
  rq : RngQ g p t q
  sz : g.sz = n
  way : ∀ z, z < 2 → (nwf z = -1 ∧ busyR g z = false) ∨ ∃ i : Nat, i < N ∧ nwf z = (i : Int) ∧ busyR g z = true ∧ WayR g p t z (ac i) ∧ (z = 0 → 0 ≤ pt i ∧ (ac i).num = l.getD (pt i).toNat 0) ∧ (z = 1 → pt i = -1) ∧ ((ac i).stage : Int) = stf z + 1
  over : ∀ i : Nat, i < N → (i : Int) ≠ nwf 0 → (i : Int) ≠ nwf 1 → (ac i).stage = 0 ∧ 0 < (ac i).mark
  fr0 : ∀ i, i < N → 0 ≤ fr i ∧ fr i ≤ g.m.t
  mkt : ∀ i, i < N → (ac i).mark ≤ g.m.t
  ptn : ∀ i, i < N → pt i = -1 ∨ (0 ≤ pt i ∧ pt i < (at_ : Int))
  atl : at_ ≤ l.length
  asc : Asc (fun i => (ac i).mark) R
  mem : ∀ i, i ∈ R ↔ i < N ∧ 0 < (ac i).mark
  pl : Played n (fateR l ac pt) R [] q
  pN : p ≤ N
  pN1 : g.pu = true → p + 1 ≤ N
  t0 : 0 ≤ g.m.t
section
variable {n : Nat} {l : List Int} {N : Nat} {ac : Nat → AcS} {pt fr : Nat → Int} {g : RgS} {p t : Nat} {q : List Int} {at_ : Nat} {nwf stf : Nat → Int} {R : List Nat}
theorem TurnP.none0 (h : TurnP n l N ac pt fr g p t q at_ nwf stf R) {z : Nat} (hz : z < 2) (hn : nwf z = -1) : busyR g z = false := by
  rcases h.way z hz with ⟨_, h2⟩ | ⟨i, _, e, _⟩
  · exact h2
  · omega
/-- A new act begins. -/
theorem TurnP.new (h : TurnP n l N ac pt fr g p t q at_ nwf stf R) {z : Nat} (hz : z < 2) (hn : nwf z = -1) {a : AcS} {P : Int} {at' : Nat} {g' : RgS} (hg : g' = (if z = 0 then { g with pu := true } else { g with po := true }))
    (ha : a = ⟨decide (z = 0), 1, 0, a.num, false, 0⟩) (hP : (z = 0 → P = (at_ : Int) ∧ at' = at_ + 1 ∧ at_ < l.length ∧ a.num = l.getD at_ 0) ∧ (z = 1 → P = -1 ∧ at' = at_)) :
    TurnP n l (N + 1) (upd ac N a) (upd pt N P) (upd fr N g.m.t) g' p t q at' (upd nwf z (N : Int)) (upd stf z 0) R := by
  have hq : RngQ g' p t q := by rw [hg]; split; exact h.rq.pu true; exact h.rq.po true
  have hm : g'.m = g.m := by rw [hg]; split <;> rfl
  have hsz : g'.sz = g.sz := by rw [hg]; split <;> rfl
  have hst : g'.st = g.st := by rw [hg]; split <;> rfl
  have hba : g'.ba = g.ba := by rw [hg]; split <;> rfl
  have hway : ∀ (y : Nat) (b : AcS), WayR g p t y b → WayR g' p t y b := fun y b hw => by
    unfold WayR at *
    have e : g'.m = g.m ∧ g'.sz = g.sz ∧ g'.st = g.st ∧ g'.ba = g.ba := ⟨hm, hsz, hst, hba⟩
    split at hw
    · rename_i e0
      rw [if_pos e0]
      obtain ⟨o1, o2, o3, o4, o5, o6, o7, o8⟩ := hw
      exact ⟨o1, o2, o3, o4, o5, by rw [hst]; exact o6, by rw [hsz]; exact o7, by rw [hm, hsz, hba]; exact o8⟩
    · rename_i e0
      rw [if_neg e0]
      obtain ⟨o1, o2, o3, o4, o5, o6, o7, o8⟩ := hw
      exact ⟨o1, o2, o3, o4, o5, by rw [hst]; exact o6, o7, by rw [hm, hsz, hba]; exact o8⟩
  have hmk0 : a.mark = 0 := by rw [ha]
  have hNR : N ∉ R := fun e => by have := ((h.mem N).1 e).1; omega
  have hRN : ∀ a ∈ R, a ≠ N := fun a ha e => hNR (by rw [← e]; exact ha)
  have hat : at_ ≤ at' ∧ at' ≤ l.length := by
    have : z = 0 ∨ z = 1 := by omega
    rcases this with e | e
    · have := hP.1 e; omega
    · have := hP.2 e; have := h.atl; omega
  refine ⟨hq, hsz.trans h.sz, fun y hy => ?_, fun i hi e0 e1 => ?_, fun i hi => ?_, fun i hi => ?_, fun i hi => ?_, hat.2, ?_, fun i => ?_, ?_, ?_, ?_, ?_⟩
  · by_cases e : y = z
    · subst e
      refine .inr ⟨N, by omega, upd_same _ _ _, ?_, ?_, fun e => ?_, fun e => ?_, ?_⟩
      · unfold busyR
        have : y = 0 ∨ y = 1 := by omega
        rcases this with e | e <;> subst e <;> rw [hg] <;> rfl
      · rw [upd_same]
        unfold WayR
        have : y = 0 ∨ y = 1 := by omega
        rcases this with e | e <;> subst e
        · rw [if_pos rfl, ha]; exact pushK0 _ _ _ _
        · rw [if_neg (by omega), ha]
          exact ⟨rfl, by simp, by simp, rfl, rfl, fun h => by simp at h, fun h => by simp at h, fun h => by simp at h⟩
      · rw [upd_same, upd_same]
        obtain ⟨e1, e2, e3, e4⟩ := hP.1 e
        rw [e1]
        exact ⟨by omega, by rw [Int.toNat_natCast]; exact e4⟩
      · rw [upd_same]; exact (hP.2 e).1
      · rw [upd_same, upd_same, ha]; rfl
    · rw [upd_other _ e]
      have hb : busyR g' y = busyR g y := by
        unfold busyR
        have : (z = 0 ∧ y = 1) ∨ (z = 1 ∧ y = 0) := by omega
        rcases this with ⟨e1, e2⟩ | ⟨e1, e2⟩ <;> subst e1 e2 <;> rw [hg] <;> rfl
      rcases h.way y hy with ⟨w1, w2⟩ | ⟨i, w1, w2, w3, w4, w5, w6, w7⟩
      · exact .inl ⟨w1, hb.trans w2⟩
      · refine .inr ⟨i, by omega, w2, hb.trans w3, ?_, ?_, ?_, ?_⟩
        · rw [upd_other _ (by omega)]; exact hway _ _ w4
        · rw [upd_other _ (by omega), upd_other _ (by omega)]; exact w5
        · rw [upd_other _ (by omega)]; exact w6
        · rw [upd_other _ (by omega), upd_other _ e]; exact w7
  · have hiN : i ≠ N := fun e => by
      subst e
      have : z = 0 ∨ z = 1 := by omega
      rcases this with e | e <;> subst e
      · rw [upd_same] at e0; exact e0 rfl
      · rw [upd_same] at e1; exact e1 rfl
    rw [upd_other _ hiN]
    have : z = 0 ∨ z = 1 := by omega
    refine h.over i (by omega) ?_ ?_
    · rcases this with e | e <;> subst e
      · rw [hn]; omega
      · rw [upd_other _ (by omega)] at e0; exact e0
    · rcases this with e | e <;> subst e
      · rw [upd_other _ (by omega)] at e1; exact e1
      · rw [hn]; omega
  · rw [hm]
    by_cases e : i = N
    · subst e; rw [upd_same]; exact ⟨h.t0, Int.le_refl _⟩
    · rw [upd_other _ e]; exact h.fr0 i (by omega)
  · rw [hm]
    by_cases e : i = N
    · subst e; rw [upd_same, hmk0]; exact h.t0
    · rw [upd_other _ e]; exact h.mkt i (by omega)
  · by_cases e : i = N
    · subst e
      rw [upd_same]
      have : z = 0 ∨ z = 1 := by omega
      rcases this with e | e
      · have := hP.1 e; exact .inr (by omega)
      · exact .inl (hP.2 e).1
    · rw [upd_other _ e]
      rcases h.ptn i (by omega) with e | e
      · exact .inl e
      · exact .inr (by omega)
  · exact h.asc.congr fun x hx => by show (upd ac N a x).mark = _; rw [upd_other _ (hRN x hx)]
  · rw [h.mem i]
    by_cases e : i = N
    · subst e; rw [upd_same, hmk0]; omega
    · rw [upd_other _ e]; constructor <;> intro hh <;> exact ⟨by omega, hh.2⟩
  · refine h.pl.congr fun j hj => ?_
    have := hRN j hj
    unfold fateR
    rw [upd_other _ this, upd_other _ this]
  · have := h.pN; omega
  · intro hpu
    have := h.pN
    have : z = 0 ∨ z = 1 := by omega
    rcases this with e | e
    · omega
    · subst e; rw [hg] at hpu; have := h.pN1 hpu; omega
  · rw [hm]; exact h.t0
/-- The act under way goes on, and isn't over. -/
theorem TurnP.on (h : TurnP n l N ac pt fr g p t q at_ nwf stf R) {z i : Nat} (hz : z < 2) (hi : i < N) (hn : nwf z = (i : Int)) {g' : RgS} {a' : AcS} (hs1 : 1 ≤ (ac i).stage) (hs4 : (ac i).stage ≤ 4) (hs' : a'.stage = (ac i).stage + 1) (hm' : a'.mark = 0) (hnum : z = 0 → a'.num = (ac i).num)
    (ht : g'.m.t = g.m.t + 1) (hgz : g'.sz = g.sz) (hq : RngQ g' p t q) (hbz : busyR g' 0 = busyR g 0 ∧ busyR g' 1 = busyR g 1) (hw : WayR g' p t z a') (ho : ∀ y b, y < 2 → y ≠ z → WayR g p t y b → WayR g' p t y b) :
    TurnP n l N (upd ac i a') pt fr g' p t q at_ nwf (upd stf z (stf z + 1)) R := by
  have hst : ((ac i).stage : Int) = stf z + 1 ∧ (ac i).mark = 0 ∧ (z = 0 → 0 ≤ pt i ∧ (ac i).num = l.getD (pt i).toNat 0) ∧ (z = 1 → pt i = -1) := by
    rcases h.way z hz with ⟨w1, _⟩ | ⟨i', w1, w2, w3, w4, w5, w6, w7⟩
    · omega
    · have e : i' = i := by omega
      subst e
      refine ⟨w7, ?_, w5, w6⟩
      unfold WayR at w4
      split at w4
      · exact w4.2.2.2.1
      · exact w4.2.2.2.1
  have hiR : i ∉ R := fun e => by have := ((h.mem i).1 e).2; omega
  have hRi : ∀ a ∈ R, a ≠ i := fun a ha e => hiR (by rw [← e]; exact ha)
  have hoth : ∀ y, y < 2 → y ≠ z → ∀ j : Nat, j < N → nwf y = (j : Int) → j ≠ i := fun y hy hyz j hj hj2 e => by
    subst e
    -- one act is of one of them alone
    have k1 : WayR g p t z (ac j) := by
      rcases h.way z hz with ⟨w1, _⟩ | ⟨i', w1, w2, w3, w4, _⟩
      · omega
      · have e : i' = j := by omega
        subst e; exact w4
    have k2 : WayR g p t y (ac j) := by
      rcases h.way y hy with ⟨w1, _⟩ | ⟨i', w1, w2, w3, w4, _⟩
      · omega
      · have e : i' = j := by omega
        subst e; exact w4
    unfold WayR at k1 k2
    have : (z = 0 ∧ y = 1) ∨ (z = 1 ∧ y = 0) := by omega
    rcases this with ⟨e1, e2⟩ | ⟨e1, e2⟩ <;> subst e1 e2
    · rw [if_pos rfl] at k1; rw [if_neg (by omega)] at k2
      have := k1.1; rw [k2.1] at this; cases this
    · rw [if_neg (by omega)] at k1; rw [if_pos rfl] at k2
      have := k1.1; rw [k2.1] at this; cases this
  refine ⟨hq, hgz.trans h.sz, fun y hy => ?_, fun j hj e0 e1 => ?_, fun j hj => ?_, fun j hj => ?_, h.ptn, h.atl, ?_, fun j => ?_, ?_, h.pN, fun hpu => h.pN1 (by have := hbz.1; unfold busyR at this; simp only [if_true] at this; rw [← this]; exact hpu), ?_⟩
  · have hb : busyR g' y = busyR g y := by
      have : y = 0 ∨ y = 1 := by omega
      rcases this with e | e <;> subst e
      · exact hbz.1
      · exact hbz.2
    rcases h.way y hy with ⟨w1, w2⟩ | ⟨j, w1, w2, w3, w4, w5, w6, w7⟩
    · exact .inl ⟨w1, hb.trans w2⟩
    · refine .inr ⟨j, w1, w2, hb.trans w3, ?_⟩
      by_cases e : y = z
      · subst e
        have ej : j = i := by omega
        subst ej
        rw [upd_same, upd_same]
        refine ⟨hw, fun e => ⟨(w5 e).1, (hnum e).trans (w5 e).2⟩, w6, ?_⟩
        rw [hs']; omega
      · have hji := hoth y hy e j w1 w2
        rw [upd_other _ hji, upd_other _ e]
        exact ⟨ho y _ hy e w4, w5, w6, w7⟩
  · have hji : j ≠ i := fun e => by
      subst e
      have : z = 0 ∨ z = 1 := by omega
      rcases this with e | e <;> subst e
      · exact e0 hn.symm
      · exact e1 hn.symm
    rw [upd_other _ hji]; exact h.over j hj e0 e1
  · have := h.fr0 j hj; omega
  · by_cases e : j = i
    · subst e; rw [upd_same, hm', ht]; have := h.t0; omega
    · rw [upd_other _ e]; have := h.mkt j hj; omega
  · exact h.asc.congr fun x hx => by show (upd ac i a' x).mark = _; rw [upd_other _ (hRi x hx)]
  · rw [h.mem j]
    by_cases e : j = i
    · subst e; rw [upd_same, hm', hst.2.1]
    · rw [upd_other _ e]
  · refine h.pl.congr fun j hj => ?_
    have := hRi j hj
    unfold fateR
    rw [upd_other _ this]
  · rw [ht]; have := h.t0; omega
/-- The act under way is over. -/
theorem TurnP.done (h : TurnP n l N ac pt fr g p t q at_ nwf stf R) {z i : Nat} (hz : z < 2) (hi : i < N) (hn : nwf z = (i : Int)) {g' : RgS} {a' : AcS} {p' t' : Nat} {q' : List Int} (hs' : a'.stage = 0) (hm' : a'.mark = g'.m.t)
    (ht : g'.m.t = g.m.t + 1) (hgz : g'.sz = g.sz) (hq : RngQ g' p' t' q') (hbz : busyR g' z = false) (hbo : ∀ y, y < 2 → y ≠ z → busyR g' y = busyR g y) (ho : ∀ y b, y < 2 → y ≠ z → WayR g p t y b → WayR g' p' t' y b)
    (hp : p' ≤ N) (hp1 : g'.pu = true → p' + 1 ≤ N) (hfate : qTold n q (fateR l (upd ac i a') pt i) ∧ q' = qNext n q (fateR l (upd ac i a') pt i)) :
    TurnP n l N (upd ac i a') pt fr g' p' t' q' at_ (upd nwf z (-1)) (upd stf z (stf z + 1)) (R ++ [i]) := by
  have hmk0 : (ac i).mark = 0 := by
    rcases h.way z hz with ⟨w1, _⟩ | ⟨i', w1, w2, w3, w4, w5, w6, w7⟩
    · omega
    · have e : i' = i := by omega
      subst e
      unfold WayR at w4
      split at w4
      · exact w4.2.2.2.1
      · exact w4.2.2.2.1
  have hiR : i ∉ R := fun e => by have := ((h.mem i).1 e).2; omega
  have hRi : ∀ a ∈ R, a ≠ i := fun a ha e => hiR (by rw [← e]; exact ha)
  have hoth : ∀ y, y < 2 → y ≠ z → ∀ j : Nat, j < N → nwf y = (j : Int) → j ≠ i := fun y hy hyz j hj hj2 e => by
    subst e
    have k1 : WayR g p t z (ac j) := by
      rcases h.way z hz with ⟨w1, _⟩ | ⟨i', w1, w2, w3, w4, _⟩
      · omega
      · have e : i' = j := by omega
        subst e; exact w4
    have k2 : WayR g p t y (ac j) := by
      rcases h.way y hy with ⟨w1, _⟩ | ⟨i', w1, w2, w3, w4, _⟩
      · omega
      · have e : i' = j := by omega
        subst e; exact w4
    unfold WayR at k1 k2
    have : (z = 0 ∧ y = 1) ∨ (z = 1 ∧ y = 0) := by omega
    rcases this with ⟨e1, e2⟩ | ⟨e1, e2⟩ <;> subst e1 e2
    · rw [if_pos rfl] at k1; rw [if_neg (by omega)] at k2
      have := k1.1; rw [k2.1] at this; cases this
    · rw [if_neg (by omega)] at k1; rw [if_pos rfl] at k2
      have := k1.1; rw [k2.1] at this; cases this
  have ht0 := h.t0
  refine ⟨hq, hgz.trans h.sz, fun y hy => ?_, fun j hj e0 e1 => ?_, fun j hj => ?_, fun j hj => ?_, h.ptn, h.atl, ?_, fun j => ?_, ?_, hp, hp1, ?_⟩
  · by_cases e : y = z
    · subst e; exact .inl ⟨upd_same _ _ _, hbz⟩
    · rw [upd_other _ e, upd_other _ e]
      rcases h.way y hy with ⟨w1, w2⟩ | ⟨j, w1, w2, w3, w4, w5, w6, w7⟩
      · exact .inl ⟨w1, (hbo y hy e).trans w2⟩
      · have hji := hoth y hy e j w1 w2
        refine .inr ⟨j, w1, w2, (hbo y hy e).trans w3, ?_⟩
        rw [upd_other _ hji]
        exact ⟨ho y _ hy e w4, w5, w6, w7⟩
  · by_cases e : j = i
    · subst e; rw [upd_same]; exact ⟨hs', by rw [hm', ht]; omega⟩
    · rw [upd_other _ e]
      have : z = 0 ∨ z = 1 := by omega
      refine h.over j hj ?_ ?_
      · rcases this with e' | e' <;> subst e'
        · rw [hn]; omega
        · rw [upd_other _ (by omega)] at e0; exact e0
      · rcases this with e' | e' <;> subst e'
        · rw [upd_other _ (by omega)] at e1; exact e1
        · rw [hn]; omega
  · have := h.fr0 j hj; omega
  · by_cases e : j = i
    · subst e; rw [upd_same, hm']; exact Int.le_refl _
    · rw [upd_other _ e]; have := h.mkt j hj; omega
  · refine Asc.snoc (h.asc.congr fun x hx => by show (upd ac i a' x).mark = _; rw [upd_other _ (hRi x hx)]) fun a ha => ?_
    show (upd ac i a' a).mark < (upd ac i a' i).mark
    rw [upd_same, upd_other _ (hRi a ha), hm', ht]
    have := h.mkt a ((h.mem a).1 ha).1
    omega
  · rw [List.mem_append, h.mem j, List.mem_singleton]
    by_cases e : j = i
    · subst e; rw [upd_same, hm', ht]; constructor
      · intro _; exact ⟨hi, by omega⟩
      · intro _; exact .inr rfl
    · rw [upd_other _ e]; constructor
      · rintro (hh | hh)
        · exact hh
        · exact absurd hh e
      · exact fun hh => .inl hh
  · have := (h.pl.congr (F' := fateR l (upd ac i a') pt) fun j hj => by
      have := hRi j hj
      unfold fateR
      rw [upd_other _ this]).snoc hfate.1
    rw [hfate.2]
    exact this
  · rw [ht]; omega
/-- What becomes of a step, whoever makes it. -/
theorem TurnP.step (h : TurnP n l N ac pt fr g p t q at_ nwf stf R) {z i : Nat} (hz : z < 2) (hi : i < N) (hn : nwf z = (i : Int)) (hN : N ≤ 100000) : 1 ≤ (ac i).stage ∧ (ac i).stage ≤ 4 ∧
    (((stepR g (ac i)).2.stage ≠ 0 ∧ TurnP n l N (upd ac i (stepR g (ac i)).2) pt fr (stepR g (ac i)).1 p t q at_ nwf (upd stf z (stf z + 1)) R) ∨
     ((stepR g (ac i)).2.stage = 0 ∧ (stepR g (ac i)).2.mark = g.m.t + 1 ∧ ∃ p' t' q', TurnP n l N (upd ac i (stepR g (ac i)).2) pt fr (stepR g (ac i)).1 p' t' q' at_ (upd nwf z (-1)) (upd stf z (stf z + 1)) (R ++ [i]))) := by
  obtain ⟨hw, hb, hpt⟩ : WayR g p t z (ac i) ∧ busyR g z = true ∧ ((z = 0 → 0 ≤ pt i ∧ (ac i).num = l.getD (pt i).toNat 0) ∧ (z = 1 → pt i = -1)) := by
    rcases h.way z hz with ⟨w1, _⟩ | ⟨i', w1, w2, w3, w4, w5, w6, w7⟩
    · omega
    · have e : i' = i := by omega
      subst e; exact ⟨w4, w3, w5, w6⟩
  have hpN : p ≤ N := h.pN
  have hz01 : z = 0 ∨ z = 1 := by omega
  rcases hz01 with e | e <;> subst e
  · have hk : PushK g p t (ac i) := hw
    -- one that is under way was not put yet
    have hpN1 : p + 1 ≤ N := h.pN1 hb
    obtain ⟨hps, hnum, hpo⟩ := push_step h.rq hk (by omega)
    have st := stayR g (ac i) hk.2.1 hk.2.2.1
    refine ⟨hk.2.1, hk.2.2.1, ?_⟩
    have hsz := h.sz
    cases hps with
    | on hq' hk' hp' =>
      have h0 : (stepR g (ac i)).2.stage ≠ 0 := by have := hk'.2.1; omega
      refine .inl ⟨h0, h.on (by omega) hi hn hk.2.1 hk.2.2.1 (st.more.resolve_left h0) hk'.2.2.2.1 (fun _ => hnum) st.t st.sz hq' ⟨hp', hpo⟩ hk' fun y b hy hyz hwy => ?_⟩
      have e : y = 1 := by omega
      subst e
      exact (PopK.push_step (b := b) h.rq hk (by omega) hwy).1
    | did hq' hs ho hm hlt hp' =>
      refine .inr ⟨hs, by rw [hm, st.t], p + 1, t, _, h.done (by omega) hi hn hs hm st.t st.sz hq' hp' (fun y hy hyz => ?_) (fun y b hy hyz hwy => ?_) hpN1 (fun e => by rw [hp'] at e; cases e) ⟨?_, ?_⟩⟩
      · have e : y = 1 := by omega
        subst e; exact hpo
      · have e : y = 1 := by omega
        subst e
        exact (PopK.push_step (b := b) h.rq hk (by omega) hwy).2
      · unfold qTold fateR
        have e0 : decide (0 ≤ pt i) = true := decide_eq_true (hpt.1 rfl).1
        simp only [e0, if_true, upd_same]
        rw [← hsz]
        exact ⟨by rw [ho, decide_eq_true hlt], fun _ => by rw [hnum]; exact (hpt.1 rfl).2⟩
      · unfold qNext fateR
        have e0 : decide (0 ≤ pt i) = true := decide_eq_true (hpt.1 rfl).1
        simp only [e0, if_true]
        rw [← hsz, if_pos hlt, (hpt.1 rfl).2]
    | full hq' hs ho hm hlt hp' =>
      refine .inr ⟨hs, by rw [hm, st.t], p, t, q, h.done (by omega) hi hn hs hm st.t st.sz hq' hp' (fun y hy hyz => ?_) (fun y b hy hyz hwy => ?_) hpN (fun e => by rw [hp'] at e; cases e) ⟨?_, ?_⟩⟩
      · have e : y = 1 := by omega
        subst e; exact hpo
      · have e : y = 1 := by omega
        subst e
        exact (PopK.push_step (b := b) h.rq hk (by omega) hwy).1
      · unfold qTold fateR
        have e0 : decide (0 ≤ pt i) = true := decide_eq_true (hpt.1 rfl).1
        simp only [e0, if_true, upd_same]
        rw [← hsz]
        exact ⟨by rw [ho, decide_eq_false (by omega)], fun hh => by rw [ho] at hh; cases hh⟩
      · unfold qNext fateR
        have e0 : decide (0 ≤ pt i) = true := decide_eq_true (hpt.1 rfl).1
        simp only [e0, if_true]
        rw [← hsz, if_neg (by omega)]
  · have hk : PopK g p t (ac i) := hw
    obtain ⟨hps, hpu⟩ := pop_step h.rq hk
    have st := stayR g (ac i) hk.2.1 hk.2.2.1
    refine ⟨hk.2.1, hk.2.2.1, ?_⟩
    have hp1 : pt i = -1 := hpt.2 rfl
    have e0 : decide (0 ≤ pt i) = false := decide_eq_false (by omega)
    cases hps with
    | on hq' hk' hp' =>
      have h0 : (stepR g (ac i)).2.stage ≠ 0 := by have := hk'.2.1; omega
      refine .inl ⟨h0, h.on (by omega) hi hn hk.2.1 hk.2.2.1 (st.more.resolve_left h0) hk'.2.2.2.1 (fun e => absurd e (by omega)) st.t st.sz hq' ⟨hpu, hp'⟩ hk' fun y b hy hyz hwy => ?_⟩
      have e : y = 0 := by omega
      subst e
      exact (PushK.pop_step (b := b) h.rq hk hwy).1
    | did x r e hq' hs ho hn' hm hp' =>
      refine .inr ⟨hs, by rw [hm, st.t], p, t + 1, r, h.done (by omega) hi hn hs hm st.t st.sz hq' hp' (fun y hy hyz => ?_) (fun y b hy hyz hwy => ?_) hpN (fun e => h.pN1 (by rw [← hpu]; exact e)) ⟨?_, ?_⟩⟩
      · have e : y = 0 := by omega
        subst e; exact hpu
      · have e : y = 0 := by omega
        subst e
        exact (PushK.pop_step (b := b) h.rq hk hwy).2
      · unfold qTold fateR
        simp only [e0, Bool.false_eq_true, if_false, upd_same]
        rw [e]
        exact ⟨by rw [ho]; rfl, fun _ => hn'⟩
      · unfold qNext fateR
        simp only [e0, Bool.false_eq_true, if_false]
        rw [e]; rfl
    | none e hq' hs ho hm hp' =>
      refine .inr ⟨hs, by rw [hm, st.t], p, t, q, h.done (by omega) hi hn hs hm st.t st.sz hq' hp' (fun y hy hyz => ?_) (fun y b hy hyz hwy => ?_) hpN (fun e => h.pN1 (by rw [← hpu]; exact e)) ⟨?_, ?_⟩⟩
      · have e : y = 0 := by omega
        subst e; exact hpu
      · have e : y = 0 := by omega
        subst e
        exact (PushK.pop_step (b := b) h.rq hk hwy).1
      · unfold qTold fateR
        simp only [e0, Bool.false_eq_true, if_false, upd_same]
        rw [e]
        exact ⟨by rw [ho]; rfl, fun hh => by rw [ho] at hh; cases hh⟩
      · unfold qNext fateR
        simp only [e0, Bool.false_eq_true, if_false]
        rw [e]; rfl
end
end Go.Proofs.Ytjbdmifcdgllcaa
