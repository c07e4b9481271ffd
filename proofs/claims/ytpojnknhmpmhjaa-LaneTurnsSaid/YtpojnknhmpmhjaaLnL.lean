/-
  A taking, step by step, while others put. No statement is proved here.
-/
import Derived.Test.YtpojnknhmpmhjaaLnH
set_option linter.unusedVariables false
namespace Go.Proofs.Ytpojnknhmpmhjaa
open Go.RowKit

/-- A taking is under way; what the rings ahead hold isn't said. -/
structure TkL (wr : World) (wb lo b lb g cap n : Nat) (v : Value) (rbs : Nat → Nat) (c : Nat) (p t : Nat → Nat) (q : Nat → List Int) (ab j : Nat) (G : Nat → RgS) (m : MemS) (pb : Nat) (a : AcS) : Prop where
  at_ : WAt wr wb lo b lb g cap n v rbs G c true
  act : LActAt wr ab (some ⟨lb, 0, none⟩) (some ⟨pb, 0, none⟩) ((c + j) % n) j
  ract : ActAt wr (rbs ((c + j) % n)) pb a
  que : RgsQ n G m p t q
  know : PopK (G ((c + j) % n)) (p ((c + j) % n)) (t ((c + j) % n)) a
  jn : j < n
  po : ∀ i, i < n → i ≠ (c + j) % n → (G i).po = false
  lab : lb < ab
  lpb : lb < pb
  ne : ab ≠ pb
def TkE (lo n lb : Nat) (rbs : Nat → Nat) (ab pb x : Nat) : Prop := TkD lo n lb rbs x ∨ x = ab ∨ x = pb
/-- What a step of a taking leaves to those who put. -/
structure AliveL (n : Nat) (G G' : Nat → RgS) (m m' : MemS) (p t t' : Nat → Nat) : Prop where
  sz : ∀ i, i < n → (G' i).sz = (G i).sz
  pu : ∀ i, i < n → (G' i).pu = (G i).pu
  tm : m'.t = m.t + 1
  know : ∀ i, i < n → ∀ aa, PushK (G i) (p i) (t i) aa → PushK (G' i) (p i) (t' i) aa
theorem PushK.po {g : RgS} {p t : Nat} {a : AcS} (h : PushK g p t a) (z : Bool) : PushK { g with po := z } p t a := h
/-- It is over. -/
structure TakenL (w' : World) (wb lo b lb g cap n : Nat) (v : Value) (rbs : Nat → Nat) (G0 : Nat → RgS) (c : Nat) (m0 : MemS) (p t : Nat → Nat) (q : Nat → List Int) (ab pb kk jj : Nat) (a' : AcS) (G' : Nat → RgS) (m' : MemS) (t' : Nat → Nat) (q' : Nat → List Int) (c' : Nat) : Prop where
  at_ : WAt w' wb lo b lb g cap n v rbs G' c' false
  act : LActAt w' ab none (some ⟨pb, 0, none⟩) kk jj
  ract : ActAt w' (rbs kk) pb a'
  que : RgsQ n G' m' p t' q'
  kn : kk < n
  po : ∀ i, i < n → (G' i).po = false
  res : (∃ x r, q kk = x :: r ∧ a'.ok = true ∧ a'.num = x ∧ t' = upd t kk (t kk + 1) ∧ q' = upd q kk r) ∨ (a'.ok = false ∧ t' = t ∧ q' = q)
theorem tl_step {wr : World} {wb lo b lb g cap n : Nat} {v : Value} {rbs : Nat → Nat} {G : Nat → RgS} {c : Nat} {m : MemS} {p t : Nat → Nat} {q : Nat → List Int} {ab j : Nat} {pb : Nat} {a : AcS} (h : TkL wr wb lo b lb g cap n v rbs c p t q ab j G m pb a) (hm0 : m.t ≤ 4611686018427380000) :
    Calls Try.prog 44 #[.pointer (some ⟨ab, 0, none⟩)] wr fun e w' =>
      (e = .returned (.bool false) ∧ ∃ j' G' m' pb' a', TkL w' wb lo b lb g cap n v rbs c p t q ab j' G' m' pb' a' ∧ 4 * j + a.stage + 1 ≤ 4 * j' + a'.stage ∧ AliveL n G G' m m' p t t ∧ (pb' = pb ∨ wr.heap.size ≤ pb') ∧ Tch (TkE lo n lb rbs ab pb) wr w') ∨
      (e = .returned (.bool true) ∧ ∃ kk jj a' G' m' t' q' c', TakenL w' wb lo b lb g cap n v rbs G c m p t q ab pb kk jj a' G' m' t' q' c' ∧ AliveL n G G' m m' p t t' ∧ Tch (TkE lo n lb rbs ab pb) wr w') := by
  obtain ⟨k, hk⟩ : ∃ k, k = (c + j) % n := ⟨_, rfl⟩
  have hjn := h.jn
  have hone := h.at_.lane.one
  have hfew := h.at_.lane.few
  have hkn : k < n := by rw [hk]; exact Nat.mod_lt _ (by omega)
  have hact := h.act
  have hract := h.ract
  have hknow := h.know
  have hpoo := h.po
  rw [← hk] at hact hract hknow hpoo
  have hrk := h.at_.rings.ring k hkn
  have hmk := h.que.mem k hkn
  have hfit := (h.que.que k hkn).fits
  have hs1 : 1 ≤ a.stage := hknow.2.1
  have hs4 : a.stage ≤ 4 := hknow.2.2.1
  obtain ⟨hps, hpu⟩ := pop_step (h.que.que k hkn) hknow
  have st := stayR (G k) a hs1 hs4
  have hkept := kept_step (a := a) hfit hs1 hs4
  have hbt : (G k).m.t ≤ 4611686018427387900 := by rw [hmk]; omega
  have hCo := fun i hi hik => (h.que.others hkn hkept i hi hik).1
  have hlab := h.lab
  have hlpb := h.lpb
  have hne := h.ne
  have hrlt := h.at_.lane.rlt
  have hgl := h.at_.lane.glt
  have hdd : ∀ i, i < n → i ≠ k → ∀ y, y ≠ rbs k → True := fun _ _ _ _ _ => trivial
  -- rings when only k went on
  have hrings : ∀ w', RingAt w' lo b (rbs k) (stepR (G k) a).1 → ∀ D : Nat → Prop, Tch D wr w' → (∀ x, D x → RingD lo (rbs k) pb x ∨ lb ≤ x) → RgsAt w' lo b n rbs (updG G k (stepR (G k) a).1) := fun w' hr' D ht hD =>
    h.at_.rings.go hkn hr' hCo ht fun i hi hik hd => by
      have h1 := (h.at_.rings.ring i hi).out
      have h2 := hrlt i hi
      rcases hD _ hd with hd | hd
      · rcases hd with hd | hd | hd
        · omega
        · exact hik (h.at_.rings.inj i k hi hkn hd)
        · omega
      · omega
  have htch : ∀ w' (D : Nat → Prop), Tch D wr w' → (∀ x, D x → TkD lo n lb rbs x ∨ x = ab ∨ x = pb) → Tch (TkE lo n lb rbs ab pb) wr w' := fun w' D ht hD => ht.mono fun x _ hx => hD x hx
  have hTR : ∀ x, RingD lo (rbs k) pb x → TkD lo n lb rbs x ∨ x = ab ∨ x = pb := fun x hd => by
    rcases hd with hd | hd | hd
    · exact .inl (.inl hd)
    · exact .inl (.inr (.inl ⟨k, hkn, hd⟩))
    · exact .inr (.inr hd)
  have hWD : ∀ x, RingD lo (rbs k) pb x → (lo ≤ x ∧ x < lo + 3) ∨ (∃ i, i < n ∧ x = rbs i) ∨ lb ≤ x := fun x hd => by
    rcases hd with hd | hd | hd
    · exact .inl hd
    · exact .inr (.inl ⟨k, hkn, hd⟩)
    · exact .inr (.inr (by omega))
  have hszG : ∀ i, i < n → (updG G k (stepR (G k) a).1 i).sz = (G i).sz := fun i hi => by
    by_cases e : i = k
    · subst e; rw [updG_same, st.sz]
    · rw [updG_other _ e]; rfl
  have hpuG : ∀ i, i < n → (updG G k (stepR (G k) a).1 i).pu = (G i).pu := fun i hi => by
    by_cases e : i = k
    · subst e; rw [updG_same, hpu]
    · rw [updG_other _ e]; rfl
  have hpoG : ∀ i, i < n → i ≠ k → (updG G k (stepR (G k) a).1 i).po = false := fun i hi e => by
    rw [updG_other _ e]; exact hpoo i hi e
  have htt : (stepR (G k) a).1.m.t = m.t + 1 := by rw [st.t, hmk]
  have hko : ∀ i, i < n → i ≠ k → ∀ aa, PushK (G i) (p i) (t i) aa → PushK (updG G k (stepR (G k) a).1 i) (p i) (t i) aa := fun i hi e aa hp => by
    rw [updG_other _ e]
    exact hp.withM (h.que.que i hi).fits (h.que.others hkn hkept i hi e).2
  have hk0 : ∀ aa, PushK (G k) (p k) (t k) aa → PushK (stepR (G k) a).1 (p k) (t k) aa ∧ PushK (stepR (G k) a).1 (p k) (t k + 1) aa := fun aa hp => PushK.pop_step (h.que.que k hkn) hknow hp
  have hknw : ∀ i, i < n → ∀ aa, PushK (G i) (p i) (t i) aa → PushK (updG G k (stepR (G k) a).1 i) (p i) (t i) aa := fun i hi aa hp => by
    by_cases e : i = k
    · subst e; rw [updG_same]; exact (hk0 aa hp).1
    · exact hko i hi e aa hp
  have hknw1 : ∀ i, i < n → ∀ aa, PushK (G i) (p i) (t i) aa → PushK (updG G k (stepR (G k) a).1 i) (p i) (upd t k (t k + 1) i) aa := fun i hi aa hp => by
    by_cases e : i = k
    · subst e; rw [updG_same, upd_same]; exact (hk0 aa hp).2
    · rw [upd_other _ e]; exact hko i hi e aa hp
  by_cases h0 : (stepR (G k) a).2.stage = 0
  · have hnk : ¬ PopK (stepR (G k) a).1 (p k) (t k) (stepR (G k) a).2 := fun hp => by have := hp.2.1; omega
    cases hok : (stepR (G k) a).2.ok
    · -- in vain
      have hnone : q k = [] ∧ RngQ (stepR (G k) a).1 (p k) (t k) (q k) ∧ (stepR (G k) a).2.mark = (stepR (G k) a).1.m.t ∧ (stepR (G k) a).1.po = false := by
        cases hps with
        | on _ hp _ => exact absurd hp hnk
        | did _ _ _ _ _ ho _ _ _ => rw [ho] at hok; cases hok
        | none e hq' _ _ hmk' hpo' => exact ⟨e, hq', hmk', hpo'⟩
      obtain ⟨hq0, hq1, hmark, hpo1⟩ := hnone
      have hqq := h.que.go hkn hkept hq1
      rw [upd_self, upd_self, upd_self] at hqq
      have hqe : q ((c + j) % n) = [] := by rw [← hk]; exact hq0
      by_cases hj : j + 1 = n
      · refine (lact_Step_none h.at_.lane hact hrk hract hlab hlpb hne hkn hjn hbt hs4 h0 hok hj).mono fun e w' hh => ?_
        obtain ⟨he, hr', ha', hl', hla', ht'⟩ := hh
        have hrg := hrings w' hr' _ ht' fun x hd => by
          rcases hd with hd | hd | hd
          · exact .inl hd
          · exact .inr (by omega)
          · exact .inr (by omega)
        refine .inr ⟨he, k, j + 1, (stepR (G k) a).2, updG G k (stepR (G k) a).1, (stepR (G k) a).1.m, t, q, c, ⟨h.at_.goL hl' hrg ht' fun x hd => ?_, hla', ha', hqq, hkn, fun i hi => ?_, .inr ⟨hok, rfl, rfl⟩⟩, ⟨hszG, hpuG, htt, hknw⟩, htch w' _ ht' fun x hd => ?_⟩
        · rcases hd with hd | hd | hd
          · exact hWD x hd
          · exact .inr (.inr (by omega))
          · exact .inr (.inr (by omega))
        · by_cases e : i = k
          · subst e; rw [updG_same]; exact hpo1
          · exact hpoG i hi e
        · rcases hd with hd | hd | hd
          · exact hTR x hd
          · exact .inl (.inr (.inr hd))
          · exact .inr (.inl hd)
      · have hK : (k + 1) % n = (c + (j + 1)) % n := by rw [hk, Nat.mod_add_mod]; rfl
        have hKn : (c + (j + 1)) % n < n := Nat.mod_lt _ (by omega)
        have hKk : (c + (j + 1)) % n ≠ k := by
          rw [hk]
          exact (mod_ne (a := c + j) (b := c + (j + 1)) (n := n) (by omega) (by omega)).symm
        have hrr : rbs ((k + 1) % n) ≠ rbs k := by
          rw [hK]
          exact fun e => hKk (h.at_.rings.inj _ _ hKn hkn e)
        refine (lact_Step_next h.at_.lane hact hrk hract hlab hlpb hne hkn hjn hbt hs4 h0 hok (by omega) (Gn := updG G k (stepR (G k) a).1 ((c + (j + 1)) % n)) (fun w' hr' ht' => ?_) (hpoG _ hKn hKk) hrr).mono fun e w' hh => ?_
        · have := (hrings w' hr' _ ht' fun x hd => .inl hd).ring _ hKn
          rw [hK]; exact this
        · rw [hK] at hh hrr
          obtain ⟨he, pb', hpb', hr1, hrK, haK, hl', hla', ht'⟩ := hh
          obtain ⟨K, hKK⟩ : ∃ K, K = (c + (j + 1)) % n := ⟨_, rfl⟩
          rw [← hKK] at hrK haK hla' ht' hKn hKk hrr
          have hGm : (updG G k (stepR (G k) a).1 K).m = (stepR (G k) a).1.m := by rw [updG_other _ hKk]; rfl
          have hrg := rgs_two h.at_.rings hkn hr1 hrK hGm hKk hCo ht' fun i hi e1 e2 hd => by
            have h1 := (h.at_.rings.ring i hi).out
            have h2 := hrlt i hi
            rcases hd with hd | hd | hd
            · rcases hd with hd | hd | hd
              · omega
              · exact e1 (h.at_.rings.inj i k hi hkn hd)
              · omega
            · exact e2 (h.at_.rings.inj i K hi hKn hd)
            · omega
          have hqK := hqq.go hKn (g' := { updG G k (stepR (G k) a).1 K with po := true }) (kept_refl _ _ _) ((hqq.que K hKn).po true)
          rw [upd_self, upd_self, upd_self] at hqK
          have hlb' := hl'.lt
          refine .inl ⟨he, j + 1, updG (updG G k (stepR (G k) a).1) K { updG G k (stepR (G k) a).1 K with po := true }, (stepR (G k) a).1.m, pb', ⟨false, 1, 0, 0, false, 0⟩, ⟨h.at_.goL hl' hrg ht' fun x hd => ?_, ?_, ?_, ?_, ?_, by omega, fun i hi hik => ?_, hlab, ?_, ?_⟩, ?_, ⟨fun i hi => ?_, fun i hi => ?_, htt, fun i hi aa hp => ?_⟩, .inr (by omega), htch w' _ ht' fun x hd => ?_⟩
          · rcases hd with hd | hd | hd
            · exact hWD x hd
            · exact .inr (.inl ⟨K, hKn, hd⟩)
            · exact .inr (.inr (by omega))
          · rw [← hKK]; exact hla'
          · rw [← hKK]; exact haK
          · rw [← hGm]; exact hqK
          · rw [← hKK, updG_same]; exact popK0 _ _ _
          · rw [← hKK] at hik
            rw [updG_other _ hik]
            by_cases e : i = k
            · subst e; rw [updG_same]; exact hpo1
            · exact hpoG i hi e
          · have := h.at_.lane.lt; omega
          · have := hact.lt; omega
          · show 4 * j + a.stage + 1 ≤ 4 * (j + 1) + 1
            omega
          · by_cases e : i = K
            · subst e; rw [updG_same]; exact hszG i hi
            · rw [updG_other _ e]; exact hszG i hi
          · by_cases e : i = K
            · subst e; rw [updG_same]; exact hpuG i hi
            · rw [updG_other _ e]; exact hpuG i hi
          · by_cases e : i = K
            · subst e; rw [updG_same]; exact (hknw i hi aa hp).po true
            · rw [updG_other _ e]
              have := hknw i hi aa hp
              have h1 : (updG G k (stepR (G k) a).1 i).m = (updG G k (stepR (G k) a).1 K).m := by
                rw [hqq.mem i hi, hqq.mem K hKn]
              show PushK (withM (updG G k (stepR (G k) a).1 i) (updG G k (stepR (G k) a).1 K).m) (p i) (t i) aa
              rw [← h1]
              exact this
          · rcases hd with hd | hd | hd
            · exact hTR x hd
            · exact .inl (.inr (.inl ⟨K, hKn, hd⟩))
            · exact .inr (.inl hd)
    · -- taken
      have hdid : ∃ x r, q k = x :: r ∧ RngQ (stepR (G k) a).1 (p k) (t k + 1) r ∧ (stepR (G k) a).2.num = x ∧ (stepR (G k) a).2.mark = (stepR (G k) a).1.m.t ∧ (stepR (G k) a).1.po = false := by
        cases hps with
        | on _ hp _ => exact absurd hp hnk
        | did x r e hq' _ _ hn' hm' hp' => exact ⟨x, r, e, hq', hn', hm', hp'⟩
        | none _ _ _ ho _ _ => rw [ho] at hok; cases hok
      obtain ⟨x, r, hqx, hq1, hnum, hmark, hpo1⟩ := hdid
      have hqq := h.que.go hkn hkept hq1
      rw [upd_self] at hqq
      refine (lact_Step_got h.at_.lane hact hrk hract hlab hlpb hne hkn hjn hbt hs4 h0 hok).mono fun e w' hh => ?_
      obtain ⟨he, hr', ha', hl', hla', ht'⟩ := hh
      have hrg := hrings w' hr' _ ht' fun x hd => by
        rcases hd with hd | hd | hd
        · exact .inl hd
        · exact .inr (by omega)
        · exact .inr (by omega)
      refine .inr ⟨he, k, j, (stepR (G k) a).2, updG G k (stepR (G k) a).1, (stepR (G k) a).1.m, upd t k (t k + 1), upd q k r, (k + 1) % n, ⟨h.at_.goL hl' hrg ht' fun x hd => ?_, hla', ha', hqq, hkn, fun i hi => ?_, .inl ⟨x, r, hqx, hok, hnum, rfl, rfl⟩⟩, ⟨hszG, hpuG, htt, hknw1⟩, htch w' _ ht' fun x hd => ?_⟩
      · rcases hd with hd | hd | hd
        · exact hWD x hd
        · exact .inr (.inr (by omega))
        · exact .inr (.inr (by omega))
      · by_cases e : i = k
        · subst e; rw [updG_same]; exact hpo1
        · exact hpoG i hi e
      · rcases hd with hd | hd | hd
        · exact hTR x hd
        · exact .inl (.inr (.inr hd))
        · exact .inr (.inl hd)
  · -- it goes on
    have hon : RngQ (stepR (G k) a).1 (p k) (t k) (q k) ∧ PopK (stepR (G k) a).1 (p k) (t k) (stepR (G k) a).2 := by
      cases hps with
      | on hq' hp _ => exact ⟨hq', hp⟩
      | did _ _ _ _ hs _ _ _ _ => exact absurd hs h0
      | none _ _ hs _ _ _ => exact absurd hs h0
    have hqq := h.que.go hkn hkept hon.1
    rw [upd_self, upd_self, upd_self] at hqq
    have hst : (stepR (G k) a).2.stage = a.stage + 1 := by
      rcases st.more with e | e
      · exact absurd e h0
      · exact e
    refine (lact_Step_on h.at_.lane hact hrk hract hlab hlpb hne hkn hjn hbt hs4 h0).mono fun e w' hh => ?_
    obtain ⟨he, hr', ha', hl', hla', ht'⟩ := hh
    refine .inl ⟨he, j, updG G k (stepR (G k) a).1, (stepR (G k) a).1.m, pb, (stepR (G k) a).2, ⟨h.at_.goL hl' (hrings w' hr' _ ht' fun x hd => .inl hd) ht' hWD, hk ▸ hla', hk ▸ ha', hqq, ?_, hjn, fun i hi hik => ?_, hlab, hlpb, hne⟩, by omega, ⟨hszG, hpuG, htt, hknw⟩, .inl rfl, htch w' _ ht' hTR⟩
    · rw [← hk, updG_same]; exact hon.2
    · rw [← hk] at hik; exact hpoG i hi hik
end Go.Proofs.Ytpojnknhmpmhjaa
