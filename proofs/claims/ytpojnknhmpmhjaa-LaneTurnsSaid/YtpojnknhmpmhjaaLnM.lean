/-
  A putting, step by step, while others put and one takes. No statement is proved here.
-/
import Derived.Test.YtpojnknhmpmhjaaLnL
set_option linter.unusedVariables false
namespace Go.Proofs.Ytpojnknhmpmhjaa
open Go.RowKit

theorem PopK.pu' {g : RgS} {p t : Nat} {a : AcS} (h : PopK g p t a) (z : Bool) : PopK { g with pu := z } p t a := h
/-- What a step of a putting, at ring k, leaves to the others. -/
structure AliveP (n k : Nat) (G G' : Nat → RgS) (m m' : MemS) (p p' t : Nat → Nat) : Prop where
  sz : ∀ i, i < n → (G' i).sz = (G i).sz
  pu : ∀ i, i < n → i ≠ k → (G' i).pu = (G i).pu
  po : ∀ i, i < n → (G' i).po = (G i).po
  tm : m'.t = m.t + 1
  know : ∀ i, i < n → i ≠ k → ∀ aa, PushK (G i) (p i) (t i) aa → PushK (G' i) (p' i) (t i) aa
  pop : ∀ i, i < n → ∀ aa, PopK (G i) (p i) (t i) aa → PopK (G' i) (p' i) (t i) aa
theorem pl_step {wr : World} {wb lo b lb g cap n c k pk : Nat} {v : Value} {rbs : Nat → Nat} {G : Nat → RgS} {tk : Bool} {m : MemS} {p t : Nat → Nat} {q : Nat → List Int} {a : AcS} (h : WAt wr wb lo b lb g cap n v rbs G c tk) (hq : RgsQ n G m p t q) (hk : k < n) (ha : ActAt wr (rbs k) pk a) (hp : PushK (G k) (p k) (t k) a) (hpk : lb < pk) (hf : p k + 1 ≤ 1000000) (htm : m.t ≤ 4611686018427380000) :
    Calls Try.prog 28 #[.pointer (some ⟨pk, 0, none⟩)] wr fun e w' => ∃ G' m' a' p' q', e = .returned (.bool (decide (a'.stage = 0))) ∧ WAt w' wb lo b lb g cap n v rbs G' c tk ∧ ActAt w' (rbs k) pk a' ∧ RgsQ n G' m' p' t q' ∧ AliveP n k G G' m m' p p' t ∧ Tch (RingD lo (rbs k) pk) wr w' ∧
      ((a'.stage ≠ 0 ∧ PushK (G' k) (p' k) (t k) a' ∧ (G' k).pu = (G k).pu ∧ p' = p ∧ q' = q ∧ a'.num = a.num) ∨ (a'.stage = 0 ∧ a'.ok = true ∧ (G' k).pu = false ∧ q' = upd q k (q k ++ [a.num]) ∧ p' = upd p k (p k + 1)) ∨ (a'.stage = 0 ∧ a'.ok = false ∧ (G' k).pu = false ∧ p' = p ∧ q' = q)) ∧ (a'.stage = 0 ∨ a'.stage = a.stage + 1) := by
  have hmk := hq.mem k hk
  have hrk := h.rings.ring k hk
  have hlo := h.lo3
  have hgk := h.gt k hk
  have hrl := h.lane.rlt k hk
  have hgl := h.lane.glt
  have hs1 := hp.2.1
  have hs4 := hp.2.2.1
  obtain ⟨hps, hnum, hpo⟩ := push_step (hq.que k hk) hp hf
  have st := stayR (G k) a hs1 hs4
  have hkept := kept_step (a := a) (hq.que k hk).fits hs1 hs4
  have hCo := fun i hi hik => (hq.others hk hkept i hi hik).1
  refine (act_Step hrk ha (by omega) (by omega) (by rw [hmk]; omega) hs4).mono ?_
  rintro e w' ⟨rfl, hr', ha', ht'⟩
  have hrg : RgsAt w' lo b n rbs (updG G k (stepR (G k) a).1) := h.rings.go hk hr' hCo ht' fun i hi hik hd => by
    have h1 := (h.rings.ring i hi).out
    have h2 := h.lane.rlt i hi
    rcases hd with hd | hd | hd
    · omega
    · exact hik (h.rings.inj i k hi hk hd)
    · omega
  have hl' : LaneAt w' lb g n cap rbs c tk := h.lane.tch ht' (fun hd => by
    rcases hd with hd | hd | hd <;> omega) (fun hd => by
    rcases hd with hd | hd | hd <;> omega)
  have hw' := h.goL hl' hrg ht' (fun x hd => by
    rcases hd with hd | hd | hd
    · exact .inl hd
    · exact .inr (.inl ⟨k, hk, hd⟩)
    · exact .inr (.inr (by omega)))
  have htt : (stepR (G k) a).1.m.t = m.t + 1 := by rw [st.t, hmk]
  have hszG : ∀ i, i < n → (updG G k (stepR (G k) a).1 i).sz = (G i).sz := fun i hi => by
    by_cases e : i = k
    · subst e; rw [updG_same, st.sz]
    · rw [updG_other _ e]; rfl
  have hpuG : ∀ i, i < n → i ≠ k → (updG G k (stepR (G k) a).1 i).pu = (G i).pu := fun i hi e => by rw [updG_other _ e]; rfl
  have hpoG : ∀ i, i < n → (updG G k (stepR (G k) a).1 i).po = (G i).po := fun i hi => by
    by_cases e : i = k
    · subst e; rw [updG_same, hpo]
    · rw [updG_other _ e]; rfl
  have hkn : ∀ i, i < n → i ≠ k → ∀ aa, PushK (G i) (p i) (t i) aa → PushK (updG G k (stepR (G k) a).1 i) (p i) (t i) aa := fun i hi e aa hp2 => by
    rw [updG_other _ e]
    exact hp2.withM (hq.que i hi).fits (hq.others hk hkept i hi e).2
  have hpn : ∀ i, i < n → i ≠ k → ∀ aa, PopK (G i) (p i) (t i) aa → PopK (updG G k (stepR (G k) a).1 i) (p i) (t i) aa := fun i hi e aa hp2 => by
    rw [updG_other _ e]
    exact hp2.withM (hq.que i hi).fits (hq.others hk hkept i hi e).2
  have hpk2 : ∀ aa, PopK (G k) (p k) (t k) aa → PopK (stepR (G k) a).1 (p k) (t k) aa ∧ PopK (stepR (G k) a).1 (p k + 1) (t k) aa := fun aa ho => PopK.push_step (hq.que k hk) hp hf ho
  have hal0 : AliveP n k G (updG G k (stepR (G k) a).1) m (stepR (G k) a).1.m p p t := ⟨hszG, hpuG, hpoG, htt, hkn, fun i hi aa ho => by
    by_cases e : i = k
    · subst e; rw [updG_same]; exact (hpk2 aa ho).1
    · exact hpn i hi e aa ho⟩
  have hal1 : AliveP n k G (updG G k (stepR (G k) a).1) m (stepR (G k) a).1.m p (upd p k (p k + 1)) t := ⟨hszG, hpuG, hpoG, htt, fun i hi e aa hp2 => by rw [upd_other _ e]; exact hkn i hi e aa hp2, fun i hi aa ho => by
    by_cases e : i = k
    · subst e; rw [updG_same, upd_same]; exact (hpk2 aa ho).2
    · rw [upd_other _ e]; exact hpn i hi e aa ho⟩
  cases hps with
  | on hq' hk' hp' =>
    have hqq := hq.go hk hkept hq'
    rw [upd_self, upd_self, upd_self] at hqq
    have hs' := hk'.2.1
    exact ⟨_, _, _, p, q, rfl, hw', ha', hqq, hal0, ht', .inl ⟨by omega, by rw [updG_same]; exact hk', by rw [updG_same]; exact hp', rfl, rfl, hnum⟩, st.more⟩
  | did hq' hs' ho' _ _ hp' =>
    have hqq := hq.go hk hkept hq'
    rw [upd_self] at hqq
    exact ⟨_, _, _, upd p k (p k + 1), upd q k (q k ++ [a.num]), rfl, hw', ha', hqq, hal1, ht', .inr (.inl ⟨hs', ho', by rw [updG_same]; exact hp', rfl, rfl⟩), st.more⟩
  | full hq' hs' ho' _ _ hp' =>
    have hqq := hq.go hk hkept hq'
    rw [upd_self, upd_self, upd_self] at hqq
    exact ⟨_, _, _, p, q, rfl, hw', ha', hqq, hal0, ht', .inr (.inr ⟨hs', ho', by rw [updG_same]; exact hp', rfl, rfl⟩), st.more⟩
end Go.Proofs.Ytpojnknhmpmhjaa
