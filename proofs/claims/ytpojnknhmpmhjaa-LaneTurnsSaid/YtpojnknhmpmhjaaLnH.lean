/-
  A taking from a lane's rings, alone, step by step. No statement is proved here.
-/
import Derived.Test.YtpojnknhmpmhjaaLnG
set_option linter.unusedVariables false
namespace Go.Proofs.Ytpojnknhmpmhjaa
open Go.RowKit

theorem upd_self {α : Type} (f : Nat → α) (k : Nat) : upd f k (f k) = f := funext fun j => by unfold upd; split <;> simp_all
theorem rgs_two {w w' : World} {lo b n : Nat} {rbs : Nat → Nat} {G : Nat → RgS} {D : Nat → Prop} (h : RgsAt w lo b n rbs G) {k K : Nat} (hk : k < n) {g1 gK : RgS} (hr1 : RingAt w' lo b (rbs k) g1) (hrK : RingAt w' lo b (rbs K) gK) (hm : gK.m = g1.m) (hkK : K ≠ k) (hC : ∀ i, i < n → i ≠ k → g1.m.C = (G i).m.C)
    (ht : Tch D w w') (hd : ∀ i, i < n → i ≠ k → i ≠ K → ¬ D (rbs i)) : RgsAt w' lo b n rbs (updG (updG G k g1) K gK) := by
  refine ⟨fun i hi => ?_, h.inj⟩
  by_cases e1 : i = K
  · subst e1; rw [updG_same]; exact hrK
  · rw [updG_other _ e1]
    by_cases e2 : i = k
    · subst e2; rw [updG_same, hm]; exact hr1
    · rw [updG_other _ e2]
      have hi' := h.ring i hi
      exact ⟨by show MemAt w' _ lo b gK.m; exact hrK.mem, rowIs_tch hi'.row ht (hd i hi e2 e1), hi'.out, (hi'.fits.withM (hC i hi e2)).withM (by rw [hm]; rfl)⟩
theorem WAt.goL {w w' : World} {wb lo b lb g cap n c c' : Nat} {v : Value} {rbs : Nat → Nat} {G G' : Nat → RgS} {tk tk' : Bool} (h : WAt w wb lo b lb g cap n v rbs G c tk) (hl : LaneAt w' lb g n cap rbs c' tk') (hr : RgsAt w' lo b n rbs G')
    {D : Nat → Prop} (ht : Tch D w w') (hD : ∀ x, D x → (lo ≤ x ∧ x < lo + 3) ∨ (∃ i, i < n ∧ x = rbs i) ∨ lb ≤ x) : WAt w' wb lo b lb g cap n v rbs G' c' tk' := by
  have hlo := h.lo3
  have hgl := h.lane.glt
  have h0 := h.lane.one
  have hg0 := h.gt 0 (by omega)
  have hr0 := h.lane.rlt 0 (by omega)
  refine ⟨rowIs_tch h.row ht fun hd => ?_, own_tch h.own ht (fun j hj hd => ?_), hl, hr, h.lo3, h.gt, h.ne, h.vlt⟩
  · rcases hD _ hd with e | ⟨i, hi, e⟩ | e
    · omega
    · have := h.gt i hi; omega
    · omega
  · have := (h.own.lt j hj).1
    have hv := h.vlt j hj
    rcases hD _ hd with e | ⟨i, hi, e⟩ | e
    · omega
    · exact h.ne i hi (e ▸ hj)
    · omega
/-- What of the world a taking may turn. -/
def TkD (lo n lb : Nat) (rbs : Nat → Nat) (x : Nat) : Prop := (lo ≤ x ∧ x < lo + 3) ∨ (∃ i, i < n ∧ x = rbs i) ∨ x = lb
/-- A taking is under way: it looks at the j-th ring from the cursor on; all ahead were empty. -/
structure Tk (w wr : World) (wb lo b lb g cap n : Nat) (v : Value) (rbs : Nat → Nat) (G0 : Nat → RgS) (c : Nat) (m0 : MemS) (p t : Nat → Nat) (q : Nat → List Int) (ab j : Nat) (G : Nat → RgS) (m : MemS) (pb : Nat) (a : AcS) : Prop where
  at_ : WAt wr wb lo b lb g cap n v rbs G c true
  act : LActAt wr ab (some ⟨lb, 0, none⟩) (some ⟨pb, 0, none⟩) ((c + j) % n) j
  ract : ActAt wr (rbs ((c + j) % n)) pb a
  que : RgsQ n G m p t q
  know : PopK (G ((c + j) % n)) (p ((c + j) % n)) (t ((c + j) % n)) a
  jn : j < n
  emp : ∀ i, i < j → q ((c + i) % n) = []
  sz : ∀ i, i < n → (G i).sz = (G0 i).sz
  pu : ∀ i, i < n → (G i).pu = (G0 i).pu
  po : ∀ i, i < n → i ≠ (c + j) % n → (G i).po = false
  tm : m.t + 1 ≤ m0.t + 4 * (j : Int) + (a.stage : Int)
  tm0 : m0.t ≤ m.t
  lab : lb < ab
  lpb : lb < pb
  new : w.heap.size ≤ ab ∧ w.heap.size ≤ pb
  ne : ab ≠ pb
  tch : Tch (TkD lo n lb rbs) w wr
/-- It is over. -/
structure Taken (w w' : World) (wb lo b lb g cap n : Nat) (v : Value) (rbs : Nat → Nat) (G0 : Nat → RgS) (c : Nat) (m0 : MemS) (p t : Nat → Nat) (q : Nat → List Int) (ab pb kk jj : Nat) (a' : AcS) (G' : Nat → RgS) (m' : MemS) (t' : Nat → Nat) (q' : Nat → List Int) (c' : Nat) : Prop where
  at_ : WAt w' wb lo b lb g cap n v rbs G' c' false
  act : LActAt w' ab none (some ⟨pb, 0, none⟩) kk jj
  ract : ActAt w' (rbs kk) pb a'
  que : RgsQ n G' m' p t' q'
  sz : ∀ i, i < n → (G' i).sz = (G0 i).sz
  pu : ∀ i, i < n → (G' i).pu = (G0 i).pu
  po : ∀ i, i < n → (G' i).po = false
  mark : a'.mark = m'.t
  tm : m0.t < m'.t ∧ m'.t ≤ m0.t + 4 * (n : Int)
  lab : lb < ab ∧ lb < pb
  tch : Tch (TkD lo n lb rbs) w w'
  res : (∃ j x r, j < n ∧ kk = (c + j) % n ∧ (∀ i, i < j → q ((c + i) % n) = []) ∧ q kk = x :: r ∧ a'.ok = true ∧ a'.num = x ∧ c' = (kk + 1) % n ∧ t' = upd t kk (t kk + 1) ∧ q' = upd q kk r) ∨ (a'.ok = false ∧ (∀ i, i < n → q ((c + i) % n) = []) ∧ c' = c ∧ t' = t ∧ q' = q)
theorem tk_step {w wr : World} {wb lo b lb g cap n : Nat} {v : Value} {rbs : Nat → Nat} {G0 : Nat → RgS} {c : Nat} {m0 : MemS} {p t : Nat → Nat} {q : Nat → List Int} {ab j : Nat} {G : Nat → RgS} {m : MemS} {pb : Nat} {a : AcS} (h : Tk w wr wb lo b lb g cap n v rbs G0 c m0 p t q ab j G m pb a) (hm0 : m0.t ≤ 4611686018427380000) :
    Calls Try.prog 44 #[.pointer (some ⟨ab, 0, none⟩)] wr fun e w' =>
      (e = .returned (.bool false) ∧ ∃ j' G' m' pb' a', Tk w w' wb lo b lb g cap n v rbs G0 c m0 p t q ab j' G' m' pb' a' ∧ 4 * j + a.stage + 1 ≤ 4 * j' + a'.stage) ∨
      (e = .returned (.bool true) ∧ ∃ pb' kk jj a' G' m' t' q' c', Taken w w' wb lo b lb g cap n v rbs G0 c m0 p t q ab pb' kk jj a' G' m' t' q' c') := by
  obtain ⟨k, hk⟩ : ∃ k, k = (c + j) % n := ⟨_, rfl⟩
  have hjn := h.jn
  have hone := h.at_.lane.one
  have hfew := h.at_.lane.few
  have hkn : k < n := by rw [hk]; exact Nat.mod_lt _ (by omega)
  have hact := h.act
  have hract := h.ract
  have hknow := h.know
  have hpoo := h.po
  rw [← hk] at hact hract hknow hpoo
  have hrk := h.at_.rings.ring k hkn
  have hmk := h.que.mem k hkn
  have hfit := (h.que.que k hkn).fits
  have hs1 : 1 ≤ a.stage := hknow.2.1
  have hs4 : a.stage ≤ 4 := hknow.2.2.1
  obtain ⟨hps, hpu⟩ := pop_step (h.que.que k hkn) hknow
  have st := stayR (G k) a hs1 hs4
  have hkept := kept_step (a := a) hfit hs1 hs4
  have htm := h.tm
  have hbt : (G k).m.t ≤ 4611686018427387900 := by rw [hmk]; omega
  have hCo := fun i hi hik => (h.que.others hkn hkept i hi hik).1
  have hlab := h.lab
  have hlpb := h.lpb
  have hne := h.ne
  have hrlt := h.at_.lane.rlt
  have hgl := h.at_.lane.glt
  have hw0 := h.tch.size
  have hnew := h.new
  have hlw : lb < w.heap.size ∨ w.heap.size ≤ lb := by omega
  have hdd : ∀ i, i < n → i ≠ k → ∀ y, y ≠ rbs k → True := fun _ _ _ _ _ => trivial
  -- rings when only k went on
  have hrings : ∀ w', RingAt w' lo b (rbs k) (stepR (G k) a).1 → ∀ D : Nat → Prop, Tch D wr w' → (∀ x, D x → RingD lo (rbs k) pb x ∨ lb ≤ x) → RgsAt w' lo b n rbs (updG G k (stepR (G k) a).1) := fun w' hr' D ht hD =>
    h.at_.rings.go hkn hr' hCo ht fun i hi hik hd => by
      have h1 := (h.at_.rings.ring i hi).out
      have h2 := hrlt i hi
      rcases hD _ hd with hd | hd
      · rcases hd with hd | hd | hd
        · omega
        · exact hik (h.at_.rings.inj i k hi hkn hd)
        · omega
      · omega
  have htch : ∀ w' (D : Nat → Prop), Tch D wr w' → (∀ x, D x → TkD lo n lb rbs x ∨ x = ab ∨ x = pb) → Tch (TkD lo n lb rbs) w w' := fun w' D ht hD =>
    ⟨ht.os.trans h.tch.os, ht.tape.trans h.tch.tape, ht.output.trans h.tch.output, Nat.le_trans hw0 ht.size, fun x hx hn => (ht.block x (by omega) fun hd => by
      rcases hD _ hd with hd | hd | hd
      · exact hn hd
      · omega
      · omega).trans (h.tch.block x hx hn)⟩
  have hTR : ∀ x, RingD lo (rbs k) pb x → TkD lo n lb rbs x ∨ x = ab ∨ x = pb := fun x hd => by
    rcases hd with hd | hd | hd
    · exact .inl (.inl hd)
    · exact .inl (.inr (.inl ⟨k, hkn, hd⟩))
    · exact .inr (.inr hd)
  have hWD : ∀ x, RingD lo (rbs k) pb x → (lo ≤ x ∧ x < lo + 3) ∨ (∃ i, i < n ∧ x = rbs i) ∨ lb ≤ x := fun x hd => by
    rcases hd with hd | hd | hd
    · exact .inl hd
    · exact .inr (.inl ⟨k, hkn, hd⟩)
    · exact .inr (.inr (by omega))
  have hszG : ∀ i, i < n → (updG G k (stepR (G k) a).1 i).sz = (G0 i).sz := fun i hi => by
    by_cases e : i = k
    · subst e; rw [updG_same, st.sz]; exact h.sz i hi
    · rw [updG_other _ e]; exact h.sz i hi
  have hpuG : ∀ i, i < n → (updG G k (stepR (G k) a).1 i).pu = (G0 i).pu := fun i hi => by
    by_cases e : i = k
    · subst e; rw [updG_same, hpu]; exact h.pu i hi
    · rw [updG_other _ e]; exact h.pu i hi
  have hpoG : ∀ i, i < n → i ≠ k → (updG G k (stepR (G k) a).1 i).po = false := fun i hi e => by
    rw [updG_other _ e]; exact hpoo i hi e
  have htt : (stepR (G k) a).1.m.t = m.t + 1 := by rw [st.t, hmk]
  by_cases h0 : (stepR (G k) a).2.stage = 0
  · have hnk : ¬ PopK (stepR (G k) a).1 (p k) (t k) (stepR (G k) a).2 := fun hp => by have := hp.2.1; omega
    cases hok : (stepR (G k) a).2.ok
    · -- in vain
      have hnone : q k = [] ∧ RngQ (stepR (G k) a).1 (p k) (t k) (q k) ∧ (stepR (G k) a).2.mark = (stepR (G k) a).1.m.t ∧ (stepR (G k) a).1.po = false := by
        cases hps with
        | on _ hp _ => exact absurd hp hnk
        | did _ _ _ _ _ ho _ _ _ => rw [ho] at hok; cases hok
        | none e hq' _ _ hmk' hpo' => exact ⟨e, hq', hmk', hpo'⟩
      obtain ⟨hq0, hq1, hmark, hpo1⟩ := hnone
      have hqq := h.que.go hkn hkept hq1
      rw [upd_self, upd_self, upd_self] at hqq
      have hqe : q ((c + j) % n) = [] := by rw [← hk]; exact hq0
      by_cases hj : j + 1 = n
      · refine (lact_Step_none h.at_.lane hact hrk hract hlab hlpb hne hkn hjn hbt hs4 h0 hok hj).mono fun e w' hh => ?_
        obtain ⟨he, hr', ha', hl', hla', ht'⟩ := hh
        refine .inr ⟨he, pb, k, j + 1, (stepR (G k) a).2, updG G k (stepR (G k) a).1, (stepR (G k) a).1.m, t, q, c, ?_⟩
        have hrg := hrings w' hr' _ ht' fun x hd => by
          rcases hd with hd | hd | hd
          · exact .inl hd
          · exact .inr (by omega)
          · exact .inr (by omega)
        refine ⟨h.at_.goL hl' hrg ht' fun x hd => ?_, hla', ha', hqq, hszG, hpuG, fun i hi => ?_, hmark, ⟨by have := h.tm0; omega, by omega⟩, ⟨hlab, hlpb⟩, htch w' _ ht' fun x hd => ?_, .inr ⟨hok, fun i hi => ?_, rfl, rfl, rfl⟩⟩
        · rcases hd with hd | hd | hd
          · exact hWD x hd
          · exact .inr (.inr (by omega))
          · exact .inr (.inr (by omega))
        · by_cases e : i = k
          · subst e; rw [updG_same]; exact hpo1
          · exact hpoG i hi e
        · rcases hd with hd | hd | hd
          · exact hTR x hd
          · exact .inl (.inr (.inr hd))
          · exact .inr (.inl hd)
        · rcases Nat.lt_or_ge i j with e | e
          · exact h.emp i e
          · obtain rfl : i = j := by omega
            exact hqe
      · have hK : (k + 1) % n = (c + (j + 1)) % n := by rw [hk, Nat.mod_add_mod]; rfl
        have hKn : (c + (j + 1)) % n < n := Nat.mod_lt _ (by omega)
        have hKk : (c + (j + 1)) % n ≠ k := by
          rw [hk]
          exact (mod_ne (a := c + j) (b := c + (j + 1)) (n := n) (by omega) (by omega)).symm
        have hrr : rbs ((k + 1) % n) ≠ rbs k := by
          rw [hK]
          exact fun e => hKk (h.at_.rings.inj _ _ hKn hkn e)
        refine (lact_Step_next h.at_.lane hact hrk hract hlab hlpb hne hkn hjn hbt hs4 h0 hok (by omega) (Gn := updG G k (stepR (G k) a).1 ((c + (j + 1)) % n)) (fun w' hr' ht' => ?_) (hpoG _ hKn hKk) hrr).mono fun e w' hh => ?_
        · have := (hrings w' hr' _ ht' fun x hd => .inl hd).ring _ hKn
          rw [hK]; exact this
        · rw [hK] at hh hrr
          obtain ⟨he, pb', hpb', hr1, hrK, haK, hl', hla', ht'⟩ := hh
          obtain ⟨K, hKK⟩ : ∃ K, K = (c + (j + 1)) % n := ⟨_, rfl⟩
          rw [← hKK] at hrK haK hla' ht' hKn hKk hrr
          have hGm : (updG G k (stepR (G k) a).1 K).m = (stepR (G k) a).1.m := by rw [updG_other _ hKk]; rfl
          have hrg := rgs_two h.at_.rings hkn hr1 hrK hGm hKk hCo ht' fun i hi e1 e2 hd => by
            have h1 := (h.at_.rings.ring i hi).out
            have h2 := hrlt i hi
            rcases hd with hd | hd | hd
            · rcases hd with hd | hd | hd
              · omega
              · exact e1 (h.at_.rings.inj i k hi hkn hd)
              · omega
            · exact e2 (h.at_.rings.inj i K hi hKn hd)
            · omega
          have hqK := hqq.go hKn (g' := { updG G k (stepR (G k) a).1 K with po := true }) (kept_refl _ _ _) ((hqq.que K hKn).po true)
          rw [upd_self, upd_self, upd_self] at hqK
          have hlb' := hl'.lt
          refine .inl ⟨he, j + 1, updG (updG G k (stepR (G k) a).1) K { updG G k (stepR (G k) a).1 K with po := true }, _, pb', ⟨false, 1, 0, 0, false, 0⟩, ⟨h.at_.goL hl' hrg ht' fun x hd => ?_, ?_, ?_, hqK, ?_, by omega, fun i hi => ?_, fun i hi => ?_, fun i hi => ?_, fun i hi hik => ?_, ?_, ?_, hlab, ?_, ⟨hnew.1, ?_⟩, ?_, htch w' _ ht' fun x hd => ?_⟩, ?_⟩
          · rcases hd with hd | hd | hd
            · exact hWD x hd
            · exact .inr (.inl ⟨K, hKn, hd⟩)
            · exact .inr (.inr (by omega))
          · rw [← hKK]; exact hla'
          · rw [← hKK]; exact haK
          · rw [← hKK, updG_same]; exact popK0 _ _ _
          · rcases Nat.lt_or_ge i j with e | e
            · exact h.emp i e
            · obtain rfl : i = j := by omega
              exact hqe
          · by_cases e : i = K
            · subst e; rw [updG_same]; exact hszG i hi
            · rw [updG_other _ e]; exact hszG i hi
          · by_cases e : i = K
            · subst e; rw [updG_same]; exact hpuG i hi
            · rw [updG_other _ e]; exact hpuG i hi
          · rw [← hKK] at hik
            rw [updG_other _ hik]
            by_cases e : i = k
            · subst e; rw [updG_same]; exact hpo1
            · exact hpoG i hi e
          · show (updG G k (stepR (G k) a).1 K).m.t + 1 ≤ _
            rw [hGm, htt]
            show _ ≤ m0.t + 4 * ((j + 1 : Nat) : Int) + ((1 : Nat) : Int)
            omega
          · show _ ≤ (updG G k (stepR (G k) a).1 K).m.t
            rw [hGm, htt]
            have := h.tm0
            omega
          · have := h.at_.lane.lt; omega
          · omega
          · have := hact.lt; omega
          · rcases hd with hd | hd | hd
            · exact hTR x hd
            · exact .inl (.inr (.inl ⟨K, hKn, hd⟩))
            · exact .inr (.inl hd)
          · show 4 * j + a.stage + 1 ≤ 4 * (j + 1) + 1
            omega
    · -- taken
      have hdid : ∃ x r, q k = x :: r ∧ RngQ (stepR (G k) a).1 (p k) (t k + 1) r ∧ (stepR (G k) a).2.num = x ∧ (stepR (G k) a).2.mark = (stepR (G k) a).1.m.t ∧ (stepR (G k) a).1.po = false := by
        cases hps with
        | on _ hp _ => exact absurd hp hnk
        | did x r e hq' _ _ hn' hm' hp' => exact ⟨x, r, e, hq', hn', hm', hp'⟩
        | none _ _ _ ho _ _ => rw [ho] at hok; cases hok
      obtain ⟨x, r, hqx, hq1, hnum, hmark, hpo1⟩ := hdid
      have hqq := h.que.go hkn hkept hq1
      rw [upd_self] at hqq
      refine (lact_Step_got h.at_.lane hact hrk hract hlab hlpb hne hkn hjn hbt hs4 h0 hok).mono fun e w' hh => ?_
      obtain ⟨he, hr', ha', hl', hla', ht'⟩ := hh
      refine .inr ⟨he, pb, k, j, (stepR (G k) a).2, updG G k (stepR (G k) a).1, (stepR (G k) a).1.m, upd t k (t k + 1), upd q k r, (k + 1) % n, ?_⟩
      have hrg := hrings w' hr' _ ht' fun x hd => by
        rcases hd with hd | hd | hd
        · exact .inl hd
        · exact .inr (by omega)
        · exact .inr (by omega)
      refine ⟨h.at_.goL hl' hrg ht' fun x hd => ?_, hla', ha', hqq, hszG, hpuG, fun i hi => ?_, hmark, ⟨by have := h.tm0; omega, by omega⟩, ⟨hlab, hlpb⟩, htch w' _ ht' fun x hd => ?_, .inl ⟨j, x, r, hjn, hk, h.emp, hqx, hok, hnum, rfl, rfl, rfl⟩⟩
      · rcases hd with hd | hd | hd
        · exact hWD x hd
        · exact .inr (.inr (by omega))
        · exact .inr (.inr (by omega))
      · by_cases e : i = k
        · subst e; rw [updG_same]; exact hpo1
        · exact hpoG i hi e
      · rcases hd with hd | hd | hd
        · exact hTR x hd
        · exact .inl (.inr (.inr hd))
        · exact .inr (.inl hd)
  · -- it goes on
    have hon : RngQ (stepR (G k) a).1 (p k) (t k) (q k) ∧ PopK (stepR (G k) a).1 (p k) (t k) (stepR (G k) a).2 := by
      cases hps with
      | on hq' hp _ => exact ⟨hq', hp⟩
      | did _ _ _ _ hs _ _ _ _ => exact absurd hs h0
      | none _ _ hs _ _ _ => exact absurd hs h0
    have hqq := h.que.go hkn hkept hon.1
    rw [upd_self, upd_self, upd_self] at hqq
    have hst : (stepR (G k) a).2.stage = a.stage + 1 := by
      rcases st.more with e | e
      · exact absurd e h0
      · exact e
    refine (lact_Step_on h.at_.lane hact hrk hract hlab hlpb hne hkn hjn hbt hs4 h0).mono fun e w' hh => ?_
    obtain ⟨he, hr', ha', hl', hla', ht'⟩ := hh
    refine .inl ⟨he, j, updG G k (stepR (G k) a).1, _, pb, (stepR (G k) a).2, ⟨h.at_.goL hl' (hrings w' hr' _ ht' fun x hd => .inl hd) ht' hWD, hk ▸ hla', hk ▸ ha', hqq, ?_, hjn, h.emp, hszG, hpuG, fun i hi hik => ?_, ?_, ?_, hlab, hlpb, hnew, hne, htch w' _ ht' hTR⟩, by omega⟩
    · rw [← hk, updG_same]; exact hon.2
    · rw [← hk] at hik; exact hpoG i hi hik
    · rw [htt, hst]; omega
    · rw [htt]; have := h.tm0; omega
end Go.Proofs.Ytpojnknhmpmhjaa
