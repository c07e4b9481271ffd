/-
  Some put and one takes, by whatever turns: what stands behind each step. No statement is proved here.
-/
import Derived.Test.YtpojnknhmpmhjaaLnM
set_option linter.unusedVariables false
namespace Go.Proofs.Ytpojnknhmpmhjaa
open Go.RowKit

/-- Those who put. -/
structure PuL (wr : World) (lb n : Nat) (rbs : Nat → Nat) (G : Nat → RgS) (p t : Nat → Nat) (nb : Nat → Option Nat) (pa : Nat → AcS) : Prop where
  each : ∀ k, k < n → (nb k = none ∧ (G k).pu = false) ∨ ∃ x, nb k = some x ∧ (G k).pu = true ∧ ActAt wr (rbs k) x (pa k) ∧ PushK (G k) (p k) (t k) (pa k) ∧ lb < x
  dis : ∀ i k x, i < n → k < n → nb i = some x → nb k = some x → i = k
/-- Who takes: in which block, at which ring from the cursor on, by which act. -/
structure TkN where
  ab : Nat
  j : Nat
  pb : Nat
  a : AcS
structure LnS (W wr : World) (wb b lb g cap n : Nat) (v : Value) (rbs : Nat → Nat) (G : Nat → RgS) (c : Nat) (m : MemS) (p t : Nat → Nat) (q : Nat → List Int) (nb : Nat → Option Nat) (pa : Nat → AcS) (T : Option TkN) : Prop where
  at_ : WAt wr wb W.heap.size b lb g cap n v rbs G c T.isSome
  que : RgsQ n G m p t q
  push : PuL wr lb n rbs G p t nb pa
  idle : T = none → ∀ i, i < n → (G i).po = false
  busy : ∀ x, T = some x → TkL wr wb W.heap.size b lb g cap n v rbs c p t q x.ab x.j G m x.pb x.a ∧ ∀ k y, k < n → nb k = some y → y ≠ x.ab ∧ y ≠ x.pb
  bel : Below W.heap.size W wr
section
variable {W wr : World} {wb b lb g cap n : Nat} {v : Value} {rbs : Nat → Nat} {G : Nat → RgS} {c : Nat} {m : MemS} {p t : Nat → Nat} {q : Nat → List Int} {nb : Nat → Option Nat} {pa : Nat → AcS} {T : Option TkN} {T' : TkN}
theorem LnS.lows (h : LnS W wr wb b lb g cap n v rbs G c m p t q nb pa T) {x : Nat} (hx : TkD W.heap.size n lb rbs x) : W.heap.size ≤ x ∧ x ≤ lb := by
  have hlo := h.at_.lo3
  have hgl := h.at_.lane.glt
  have h0 := h.at_.gt 0 h.at_.lane.one
  have h1 := h.at_.lane.rlt 0 h.at_.lane.one
  rcases hx with e | ⟨j, hj, e⟩ | e
  · omega
  · have := h.at_.gt j hj; have := h.at_.lane.rlt j hj; omega
  · omega
/-- A step of a taking: it goes on. -/
theorem LnS.takes (h : LnS W wr wb b lb g cap n v rbs G c m p t q nb pa (some T')) {w' : World} {j' : Nat} {G' : Nat → RgS} {m' : MemS} {pb' : Nat} {a' : AcS} (hk : TkL w' wb W.heap.size b lb g cap n v rbs c p t q T'.ab j' G' m' pb' a') (ha : AliveL n G G' m m' p t t) (hpb : pb' = T'.pb ∨ wr.heap.size ≤ pb') (ht : Tch (TkE W.heap.size n lb rbs T'.ab T'.pb) wr w') :
    LnS W w' wb b lb g cap n v rbs G' c m' p t q nb pa (some ⟨T'.ab, j', pb', a'⟩) := by
  obtain ⟨hb1, hb2⟩ := h.busy _ rfl
  refine ⟨hk.at_, hk.que, ⟨fun k hkn => ?_, h.push.dis⟩, fun e => (by cases e), fun x hx => ?_, ht.below h.bel (fun x hx => ?_) h.bel.size⟩
  · rcases h.push.each k hkn with ⟨e1, e2⟩ | ⟨x, e1, e2, e3, e4, e5⟩
    · exact .inl ⟨e1, (ha.pu k hkn).trans e2⟩
    · obtain ⟨d1, d2⟩ := hb2 k x hkn e1
      refine .inr ⟨x, e1, (ha.pu k hkn).trans e2, e3.tch ht (fun hd => ?_), ha.know k hkn _ e4, e5⟩
      rcases hd with hd | hd | hd
      · have := (h.lows hd).2; omega
      · exact d1 hd
      · exact d2 hd
  · injection hx with hx
    subst hx
    refine ⟨hk, fun k y hkn e => ?_⟩
    obtain ⟨d1, d2⟩ := hb2 k y hkn e
    refine ⟨d1, ?_⟩
    rcases hpb with e2 | e2
    · rw [e2]; exact d2
    · rcases h.push.each k hkn with ⟨f1, _⟩ | ⟨x, f1, _, f3, _⟩
      · rw [f1] at e; cases e
      · rw [f1] at e
        injection e with e
        have h9 : x < wr.heap.size := f3.lt
        show y ≠ pb'
        omega
  · rcases hx with hx | hx | hx
    · exact (h.lows hx).1
    · have := (h.lows (x := lb) (.inr (.inr rfl))).1; have := hb1.lab; omega
    · have := (h.lows (x := lb) (.inr (.inr rfl))).1; have := hb1.lpb; omega
/-- .. it is over. -/
theorem LnS.taken (h : LnS W wr wb b lb g cap n v rbs G c m p t q nb pa (some T')) {w' : World} {kk jj : Nat} {a' : AcS} {G' : Nat → RgS} {m' : MemS} {t' : Nat → Nat} {q' : Nat → List Int} {c' : Nat} (hk : TakenL w' wb W.heap.size b lb g cap n v rbs G c m p t q T'.ab T'.pb kk jj a' G' m' t' q' c') (ha : AliveL n G G' m m' p t t') (ht : Tch (TkE W.heap.size n lb rbs T'.ab T'.pb) wr w') :
    LnS W w' wb b lb g cap n v rbs G' c' m' p t' q' nb pa none := by
  obtain ⟨hb1, hb2⟩ := h.busy _ rfl
  refine ⟨hk.at_, hk.que, ⟨fun k hkn => ?_, h.push.dis⟩, fun _ => hk.po, fun x hx => (by cases hx), ht.below h.bel (fun x hx => ?_) h.bel.size⟩
  · rcases h.push.each k hkn with ⟨e1, e2⟩ | ⟨x, e1, e2, e3, e4, e5⟩
    · exact .inl ⟨e1, (ha.pu k hkn).trans e2⟩
    · obtain ⟨d1, d2⟩ := hb2 k x hkn e1
      refine .inr ⟨x, e1, (ha.pu k hkn).trans e2, e3.tch ht (fun hd => ?_), ha.know k hkn _ e4, e5⟩
      rcases hd with hd | hd | hd
      · have := (h.lows hd).2; omega
      · exact d1 hd
      · exact d2 hd
  · rcases hx with hx | hx | hx
    · exact (h.lows hx).1
    · have := (h.lows (x := lb) (.inr (.inr rfl))).1; have := hb1.lab; omega
    · have := (h.lows (x := lb) (.inr (.inr rfl))).1; have := hb1.lpb; omega
/-- A step of a putting. -/
theorem LnS.puts (h : LnS W wr wb b lb g cap n v rbs G c m p t q nb pa T) {k pk : Nat} (hk : k < n) (hnb : nb k = some pk) {w' : World} {G' : Nat → RgS} {m' : MemS} {a' : AcS} {p' : Nat → Nat} {q' : Nat → List Int} (hw : WAt w' wb W.heap.size b lb g cap n v rbs G' c T.isSome) (ha : ActAt w' (rbs k) pk a') (hq : RgsQ n G' m' p' t q') (hal : AliveP n k G G' m m' p p' t) (ht : Tch (RingD W.heap.size (rbs k) pk) wr w')
    {nb' : Nat → Option Nat} (hn : (nb' = nb ∧ (G' k).pu = true ∧ PushK (G' k) (p' k) (t k) a') ∨ (nb' = upd nb k none ∧ (G' k).pu = false)) :
    LnS W w' wb b lb g cap n v rbs G' c m' p' t q' nb' (upd pa k a') T := by
  have hsub : ∀ i x, nb' i = some x → nb i = some x := fun i x e => by
    rcases hn with ⟨e1, _⟩ | ⟨e1, _⟩
    · rw [e1] at e; exact e
    · rw [e1] at e
      by_cases e2 : i = k
      · rw [e2, upd_same] at e; cases e
      · rw [upd_other _ e2] at e; exact e
  obtain ⟨hpl, hpk⟩ : (∃ aa, ActAt wr (rbs k) pk aa) ∧ lb < pk := by
    rcases h.push.each k hk with ⟨f1, _⟩ | ⟨x, f1, _, f3, _, f5⟩
    · rw [f1] at hnb; cases hnb
    · rw [f1] at hnb
      injection hnb with hnb
      subst hnb
      exact ⟨⟨_, f3⟩, f5⟩
  have hrd : ∀ x, RingD W.heap.size (rbs k) pk x → x ≤ lb ∨ x = pk := fun x hx => by
    rcases hx with e | e | e
    · exact .inl (h.lows (.inl e)).2
    · exact .inl (h.lows (.inr (.inl ⟨k, hk, e⟩))).2
    · exact .inr e
  refine ⟨hw, hq, ⟨fun i hi => ?_, fun i j x hi hj e1 e2 => h.push.dis i j x hi hj (hsub i x e1) (hsub j x e2)⟩, fun e i hi => (hal.po i hi).trans (h.idle e i hi), fun x hx => ?_, ht.below h.bel (fun x hx => ?_) h.bel.size⟩
  · by_cases e : i = k
    · subst e
      rw [upd_same]
      rcases hn with ⟨e1, e2, e3⟩ | ⟨e1, e2⟩
      · rw [e1]; exact .inr ⟨pk, hnb, e2, ha, e3, hpk⟩
      · rw [e1, upd_same]; exact .inl ⟨rfl, e2⟩
    · rw [upd_other _ e]
      have hsame : nb' i = nb i := by
        rcases hn with ⟨e1, _⟩ | ⟨e1, _⟩
        · rw [e1]
        · rw [e1, upd_other _ e]
      rw [hsame]
      rcases h.push.each i hi with ⟨e1, e2⟩ | ⟨x, e1, e2, e3, e4, e5⟩
      · exact .inl ⟨e1, (hal.pu i hi e).trans e2⟩
      · refine .inr ⟨x, e1, (hal.pu i hi e).trans e2, e3.tch ht (fun hd => ?_), hal.know i hi e _ e4, e5⟩
        rcases hrd x hd with e6 | e6
        · omega
        · rw [e6] at e1; exact e (h.push.dis i k pk hi hk e1 hnb)
  · obtain ⟨hb1, hb2⟩ := h.busy x hx
    obtain ⟨d1, d2⟩ := hb2 k pk hk hnb
    have hkn : (c + x.j) % n < n := Nat.mod_lt _ (by have := hb1.jn; omega)
    have hw1 : WAt w' wb W.heap.size b lb g cap n v rbs G' c true := by rw [hx] at hw; exact hw
    refine ⟨⟨hw1, hb1.act.tch ht (fun hd => ?_), hb1.ract.tch ht (fun hd => ?_), hq, hal.pop _ hkn _ hb1.know, hb1.jn, fun i hi e => (hal.po i hi).trans (hb1.po i hi e), hb1.lab, hb1.lpb, hb1.ne⟩, fun i y hi e => hb2 i y hi (hsub i y e)⟩
    · rcases hrd _ hd with e6 | e6
      · have := hb1.lab; omega
      · exact d1 e6.symm
    · rcases hrd _ hd with e6 | e6
      · have := hb1.lpb; omega
      · exact d2 e6.symm
  · rcases hx with e | e | e
    · omega
    · exact (h.lows (.inr (.inl ⟨k, hk, e⟩))).1
    · have := (h.lows (x := lb) (.inr (.inr rfl))).1; omega
theorem updG_flag {n k : Nat} {G : Nat → RgS} {m : MemS} (hm : ∀ i, i < n → (G i).m = m) (hk : k < n) {g' : RgS} (hg : g'.m = (G k).m) {i : Nat} (hi : i < n) (e : i ≠ k) : updG G k g' i = G i := by
  rw [updG_other _ e]
  show { G i with m := g'.m } = G i
  have : g'.m = (G i).m := by rw [hg, hm k hk, hm i hi]
  rw [this]
/-- A putting begins. -/
theorem LnS.pushes (h : LnS W wr wb b lb g cap n v rbs G c m p t q nb pa T) {k : Nat} (hk : k < n) (hnb : nb k = none) (x : Int) :
    Calls Try.prog 20 #[.pointer (some ⟨rbs k, 0, none⟩), .int .u64 x] wr fun e w' => e = .returned (.pointer (some ⟨wr.heap.size, 0, none⟩)) ∧
      LnS W w' wb b lb g cap n v rbs (updG G k { G k with pu := true }) c m p t q (upd nb k (some wr.heap.size)) (upd pa k ⟨true, 1, 0, x, false, 0⟩) T ∧ Tch (fun y => y = rbs k) wr w' := by
  have hpu : (G k).pu = false := by
    rcases h.push.each k hk with ⟨_, e⟩ | ⟨y, e, _⟩
    · exact e
    · rw [hnb] at e; cases e
  have hlb := h.at_.lane.lt
  have hrl := h.at_.lane.rlt k hk
  have hgl := h.at_.lane.glt
  have hgk := h.at_.gt k hk
  have hlo := h.at_.lo3
  refine (ring_Push (h.at_.rings.ring k hk) hpu x).mono ?_
  rintro e w' ⟨rfl, hr, ha, ht⟩
  have hqq := h.que.go hk (g' := { G k with pu := true }) (kept_refl (G k) true (G k).po) ((h.que.que k hk).pu true)
  rw [upd_self, upd_self, upd_self] at hqq
  have hmm : ({ G k with pu := true } : RgS).m = m := h.que.mem k hk
  rw [hmm] at hqq
  have hw' : WAt w' wb W.heap.size b lb g cap n v rbs (updG G k { G k with pu := true }) c T.isSome := h.at_.go hk hr (fun i hi _ => by show (G k).m.C = _; rw [h.que.mem k hk, h.que.mem i hi]) ht (fun y _ hy => .inr hy)
  have hG : ∀ i, i < n → i ≠ k → updG G k { G k with pu := true } i = G i := fun i hi e => updG_flag (g' := { G k with pu := true }) h.que.mem hk rfl hi e
  have hfl : ∀ i, i < n → (updG G k { G k with pu := true } i).po = (G i).po := fun i hi => by
    by_cases e : i = k
    · subst e; rw [updG_same]
    · rw [hG i hi e]
  have hpk : ∀ i, i < n → ∀ aa, PopK (G i) (p i) (t i) aa → PopK (updG G k { G k with pu := true } i) (p i) (t i) aa := fun i hi aa o => by
    by_cases e : i = k
    · subst e; rw [updG_same]; exact o.pu' true
    · rw [hG i hi e]; exact o
  refine ⟨rfl, ⟨hw', hqq, ⟨fun i hi => ?_, fun i j y hi hj e1 e2 => ?_⟩, fun e i hi => (hfl i hi).trans (h.idle e i hi), fun y hy => ?_, ht.below h.bel (fun y hy => ?_) h.bel.size⟩, ht⟩
  · by_cases e : i = k
    · subst e
      rw [upd_same, upd_same, updG_same]
      exact .inr ⟨_, rfl, rfl, ha, pushK0 _ _ _ _, hlb⟩
    · rw [upd_other _ e, upd_other _ e, hG i hi e]
      rcases h.push.each i hi with ⟨e1, e2⟩ | ⟨y, e1, e2, e3, e4, e5⟩
      · exact .inl ⟨e1, e2⟩
      · exact .inr ⟨y, e1, e2, e3.tch ht (fun hd => by have hd : y = rbs k := hd; omega), e4, e5⟩
  · by_cases f1 : i = k <;> by_cases f2 : j = k
    · omega
    · rw [f1, upd_same] at e1
      rw [upd_other _ f2] at e2
      injection e1 with e1
      rcases h.push.each j hj with ⟨g1, _⟩ | ⟨z, g1, _, g3, _⟩
      · rw [g1] at e2; cases e2
      · rw [g1] at e2
        injection e2 with e2
        have h9 : z < wr.heap.size := g3.lt
        omega
    · rw [f2, upd_same] at e2
      rw [upd_other _ f1] at e1
      injection e2 with e2
      rcases h.push.each i hi with ⟨g1, _⟩ | ⟨z, g1, _, g3, _⟩
      · rw [g1] at e1; cases e1
      · rw [g1] at e1
        injection e1 with e1
        have h9 : z < wr.heap.size := g3.lt
        omega
    · rw [upd_other _ f1] at e1
      rw [upd_other _ f2] at e2
      exact h.push.dis i j y hi hj e1 e2
  · obtain ⟨hb1, hb2⟩ := h.busy y hy
    have hkn : (c + y.j) % n < n := Nat.mod_lt _ (by have := hb1.jn; omega)
    have hw1 : WAt w' wb W.heap.size b lb g cap n v rbs (updG G k { G k with pu := true }) c true := by rw [hy] at hw'; exact hw'
    have hal : y.ab < wr.heap.size := hb1.act.lt
    have hpl : y.pb < wr.heap.size := hb1.ract.lt
    refine ⟨⟨hw1, hb1.act.tch ht (fun hd => by have hd : y.ab = rbs k := hd; have := hb1.lab; omega), hb1.ract.tch ht (fun hd => by have hd : y.pb = rbs k := hd; have := hb1.lpb; omega), hqq, hpk _ hkn _ hb1.know, hb1.jn, fun i hi e => (hfl i hi).trans (hb1.po i hi e), hb1.lab, hb1.lpb, hb1.ne⟩, fun i z hi e => ?_⟩
    by_cases f : i = k
    · rw [f, upd_same] at e
      injection e with e
      omega
    · rw [upd_other _ f] at e
      exact hb2 i z hi e
  · have hy : y = rbs k := hy
    omega
/-- A taking begins. -/
theorem LnS.next (h : LnS W wr wb b lb g cap n v rbs G c m p t q nb pa none) :
    Calls Try.prog 42 #[.pointer (some ⟨lb, 0, none⟩)] wr fun e w' => e = .returned (.pointer (some ⟨wr.heap.size, 0, none⟩)) ∧
      LnS W w' wb b lb g cap n v rbs (updG G c { G c with po := true }) c m p t q nb pa (some ⟨wr.heap.size, 0, wr.heap.size + 1, ⟨false, 1, 0, 0, false, 0⟩⟩) ∧ Tch (fun y => y = lb ∨ y = rbs c) wr w' := by
  have hk := h.at_.lane.cur
  have hpo := h.idle rfl c hk
  have hlb := h.at_.lane.lt
  have hrl := h.at_.lane.rlt c hk
  have hgl := h.at_.lane.glt
  have hgk := h.at_.gt c hk
  have hlo := h.at_.lo3
  refine (lane_Next h.at_.lane (h.at_.rings.ring c hk) hpo).mono ?_
  rintro e w' ⟨rfl, hl, hla, hr, ha, ht⟩
  have hqq := h.que.go hk (g' := { G c with po := true }) (kept_refl (G c) (G c).pu true) ((h.que.que c hk).po true)
  rw [upd_self, upd_self, upd_self] at hqq
  have hmm : ({ G c with po := true } : RgS).m = m := h.que.mem c hk
  rw [hmm] at hqq
  have hrg : RgsAt w' W.heap.size b n rbs (updG G c { G c with po := true }) := h.at_.rings.go hk hr (fun i hi _ => by show (G c).m.C = _; rw [h.que.mem c hk, h.que.mem i hi]) ht (fun i hi hik hd => by
    have := h.at_.lane.rlt i hi
    rcases hd with hd | hd
    · omega
    · exact hik (h.at_.rings.inj i c hi hk hd))
  have hw' : WAt w' wb W.heap.size b lb g cap n v rbs (updG G c { G c with po := true }) c true := h.at_.goL hl hrg ht (fun y hy => by
    rcases hy with hy | hy
    · exact .inr (.inr (by omega))
    · exact .inr (.inl ⟨c, hk, hy⟩))
  have hG : ∀ i, i < n → i ≠ c → updG G c { G c with po := true } i = G i := fun i hi e => updG_flag (g' := { G c with po := true }) h.que.mem hk rfl hi e
  have hc0 : (c + 0) % n = c := Nat.mod_eq_of_lt hk
  refine ⟨rfl, ⟨hw', hqq, ⟨fun i hi => ?_, h.push.dis⟩, fun e => (by cases e), fun y hy => ?_, ht.below h.bel (fun y hy => ?_) h.bel.size⟩, ht⟩
  · have hfl : (updG G c { G c with po := true } i).pu = (G i).pu := by
      by_cases e : i = c
      · subst e; rw [updG_same]
      · rw [hG i hi e]
    rcases h.push.each i hi with ⟨e1, e2⟩ | ⟨y, e1, e2, e3, e4, e5⟩
    · exact .inl ⟨e1, hfl.trans e2⟩
    · refine .inr ⟨y, e1, hfl.trans e2, e3.tch ht (fun hd => by
        rcases hd with hd | hd <;> omega), ?_, e5⟩
      by_cases e : i = c
      · subst e; rw [updG_same]; exact e4.po true
      · rw [hG i hi e]; exact e4
  · injection hy with hy
    subst hy
    refine ⟨⟨hw', by rw [hc0]; exact hla, by rw [hc0]; exact ha, hqq, by rw [hc0, updG_same]; exact popK0 _ _ _, by show 0 < n; omega, fun i hi e => ?_, hlb, by show lb < wr.heap.size + 1; omega, by show wr.heap.size ≠ wr.heap.size + 1; omega⟩, fun i z hi e => ?_⟩
    · rw [hc0] at e
      rw [hG i hi e]
      exact h.idle rfl i hi
    · rcases h.push.each i hi with ⟨g1, _⟩ | ⟨y, g1, _, g3, _⟩
      · rw [g1] at e; cases e
      · rw [g1] at e
        injection e with e
        have h9 : y < wr.heap.size := g3.lt
        constructor
        · show z ≠ wr.heap.size; omega
        · show z ≠ wr.heap.size + 1; omega
  · rcases hy with hy | hy
    · have := (h.lows (x := lb) (.inr (.inr rfl))).1; omega
    · omega
end
end Go.Proofs.Ytpojnknhmpmhjaa
