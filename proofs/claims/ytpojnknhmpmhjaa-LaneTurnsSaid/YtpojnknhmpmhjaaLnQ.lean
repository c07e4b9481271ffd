/-
  Some put and one takes: each thing that a round does keeps what stands behind it. No statement is proved here.
-/
import Derived.Test.YtpojnknhmpmhjaaLnP
set_option linter.unusedVariables false
namespace Go.Proofs.Ytpojnknhmpmhjaa
open Go.RowKit

theorem cell_farB {w : World} {b1 o b2 o2 : Nat} {u x : Value} (h : w.cell? ⟨b1, o, none⟩ = some u) (hne : b1 ≠ b2) : (w.setCell ⟨b2, o2, none⟩ x).cell? ⟨b1, o, none⟩ = some u :=
  (World.cell?_of_block (w := w) (Below.heap_setCell _ _ _ _ (by show b1 ≠ b2; exact hne))).trans h
section
variable {W wr : World} {wb b lb g cap n : Nat} {v : Value} {rbs : Nat → Nat} {r i ip st : Nat} {at_ : Nat → Nat} {nb : Nat → Option Nat} {qv : Nat → Value} {ql : Nat → List Int} {G : Nat → RgS} {c : Nat} {m : MemS} {p t : Nat → Nat} {q : Nat → List Int} {pa : Nat → AcS} {T : Option TkN} {T' : TkN} {L : Nat → Nat → Int} {N : Nat → Nat}
theorem LtI.time (h : LtI W wr wb b lb g cap n v rbs r i ip st at_ nb qv ql G c m p t q pa T L N) : Calls Try.prog 27 #[.pointer (some ⟨b, 0, none⟩)] wr fun e w' => e = .returned (.int .i64 m.t) ∧ wr = w' := by
  have h0 := h.ln.at_.lane.one
  have := mem_Time (h.ln.at_.rings.ring 0 (by omega)).mem
  rw [h.ln.que.mem 0 (by omega)] at this
  exact this
theorem LtI.tk_far (h : LtI W wr wb b lb g cap n v rbs r i ip st at_ nb qv ql G c m p t q pa (some T') L N) {y : Nat} (hy : RoD r n qv y) : ¬ TkE W.heap.size n lb rbs T'.ab T'.pb y := fun hd => by
  obtain ⟨hb1, _⟩ := h.ln.busy _ rfl
  have hg := h.ro.ge hy
  have hh := h.high
  rcases hd with hd | hd | hd
  · have := (h.ln.lows hd).2; omega
  · subst hd; exact h.ro.apart hb1.act (by decide) (by decide) (by decide) (by decide) hy
  · subst hd; exact h.ro.apart hb1.ract (by decide) (by decide) (by decide) (by decide) hy
/-- A taking goes on. -/
theorem LtI.goes (h : LtI W wr wb b lb g cap n v rbs r i ip st at_ nb qv ql G c m p t q pa (some T') L N) {w' : World} {j' : Nat} {G' : Nat → RgS} {m' : MemS} {pb' : Nat} {a' : AcS} (hk : TkL w' wb W.heap.size b lb g cap n v rbs c p t q T'.ab j' G' m' pb' a') (hj : 4 * T'.j + T'.a.stage + 1 ≤ 4 * j' + a'.stage) (ha : AliveL n G G' m m' p t t) (hpb : pb' = T'.pb ∨ wr.heap.size ≤ pb') (ht : Tch (TkE W.heap.size n lb rbs T'.ab T'.pb) wr w') :
    LtI W w' wb b lb g cap n v rbs r (i + 1) (ip + 1) (st + 1) at_ nb qv ql G' c m' p t q pa (some ⟨T'.ab, j', pb', a'⟩) L N := by
  refine ⟨h.ln.takes hk ha hpb ht, h.ro.tch ht (fun y hy => h.tk_far hy), h.sum, h.num, fun k => by have := h.pn k; omega, by have := h.tm; have := ha.tm; omega, by have := h.t0; have := ha.tm; omega, h.high, fun x hx => ?_, h.len⟩
  injection hx with hx
  subst hx
  have := h.steps _ rfl
  show st + 1 + 1 ≤ 4 * j' + a'.stage
  omega
/-- .. is over, in vain. -/
theorem LtI.vain (h : LtI W wr wb b lb g cap n v rbs r i ip st at_ nb qv ql G c m p t q pa (some T') L N) {w' : World} {kk jj : Nat} {a' : AcS} {G' : Nat → RgS} {m' : MemS} {t' : Nat → Nat} {q' : Nat → List Int} {c' : Nat} (hk : TakenL w' wb W.heap.size b lb g cap n v rbs G c m p t q T'.ab T'.pb kk jj a' G' m' t' q' c') (ho : a'.ok = false) (ha : AliveL n G G' m m' p t t') (ht : Tch (TkE W.heap.size n lb rbs T'.ab T'.pb) wr w') (st' : Nat) :
    LtI W w' wb b lb g cap n v rbs r (i + 1) (ip + 1) st' at_ nb qv ql G' c' m' p t' q' pa none L N := by
  have hq : q' = q := by
    rcases hk.res with ⟨x, l, _, e, _⟩ | ⟨_, _, e⟩
    · rw [ho] at e; cases e
    · exact e
  refine ⟨h.ln.taken hk ha ht, h.ro.tch ht (fun y hy => h.tk_far hy), fun k hkn => by rw [hq]; exact h.sum k hkn, h.num, fun k => by have := h.pn k; omega, by have := h.tm; have := ha.tm; omega, by have := h.t0; have := ha.tm; omega, h.high, fun x hx => (by cases hx), h.len⟩
/-- .. has taken; what it took is put behind the rest. -/
theorem LtI.got (h : LtI W wr wb b lb g cap n v rbs r i ip st at_ nb qv ql G c m p t q pa (some T') L N) {w' : World} {kk jj : Nat} {a' : AcS} {G' : Nat → RgS} {m' : MemS} {t' : Nat → Nat} {q' : Nat → List Int} {c' : Nat} (hk : TakenL w' wb W.heap.size b lb g cap n v rbs G c m p t q T'.ab T'.pb kk jj a' G' m' t' q' c') (ho : a'.ok = true) (ha : AliveL n G G' m m' p t t') (ht : Tch (TkE W.heap.size n lb rbs T'.ab T'.pb) wr w')
    {wz : World} {v' : Value} (hr : RoL wz r n at_ nb (upd qv (n + kk) v') (upd ql (n + kk) (ql (n + kk) ++ [a'.num]))) (htz : Tch (RoD r n qv) w' wz) (st' : Nat) :
    LtI W wz wb b lb g cap n v rbs r (i + 1) (ip + 1) st' at_ nb (upd qv (n + kk) v') (upd ql (n + kk) (ql (n + kk) ++ [a'.num])) G' c' m' p t' q' pa none L N := by
  obtain ⟨x, l, e1, e2, e3, e4⟩ : ∃ x l, q kk = x :: l ∧ a'.num = x ∧ t' = upd t kk (t kk + 1) ∧ q' = upd q kk l := by
    rcases hk.res with ⟨x, l, e1, _, e3, e4, e5⟩ | ⟨e, _⟩
    · exact ⟨x, l, e1, e3, e4, e5⟩
    · rw [ho] at e; cases e
  have hr' := h.ro.tch ht (fun y hy => h.tk_far hy)
  have hln := (h.ln.taken hk ha ht).far htz (fun y hy => by have := hr'.ge hy; have := h.high; omega) (fun y M f hy => hr'.apart hy (by decide) (by decide) (by decide) (by decide)) (fun y M f hy => hr'.apart hy (by decide) (by decide) (by decide) (by decide))
  have hkn := hk.kn
  refine ⟨hln, hr, fun k hkn2 => ?_, h.num, fun k => by have := h.pn k; omega, by have := h.tm; have := ha.tm; omega, by have := h.t0; have := ha.tm; omega, h.high, fun y hy => (by cases hy), fun k hkn2 => by rw [upd_other _ (by omega)]; exact h.len k hkn2⟩
  rw [upd_other _ (by omega), h.sum k hkn2, e4]
  by_cases e : k = kk
  · subst e
    rw [upd_same, upd_same, e1, e2, List.append_assoc]
    rfl
  · rw [upd_other _ (by omega), upd_other _ e]
/-- A taking begins. -/
theorem LtI.begins (h : LtI W wr wb b lb g cap n v rbs r i ip st at_ nb qv ql G c m p t q pa none L N) :
    Calls Try.prog 42 #[.pointer (some ⟨lb, 0, none⟩)] wr fun e w' => e = .returned (.pointer (some ⟨wr.heap.size, 0, none⟩)) ∧
      LtI W w' wb b lb g cap n v rbs r i ip 0 at_ nb qv ql (updG G c { G c with po := true }) c m p t q pa (some ⟨wr.heap.size, 0, wr.heap.size + 1, ⟨false, 1, 0, 0, false, 0⟩⟩) L N := by
  refine h.ln.next.mono ?_
  rintro e w' ⟨rfl, hl, ht⟩
  have hh := h.high
  have hcur := h.ln.at_.lane.cur
  refine ⟨rfl, hl, h.ro.tch ht (fun y hy hd => ?_), h.sum, h.num, h.pn, h.tm, h.t0, hh, fun x hx => ?_, h.len⟩
  · have hg := h.ro.ge hy
    rcases hd with hd | hd
    · omega
    · have := (h.ln.lows (x := y) (.inr (.inl ⟨c, hcur, hd⟩))).2; omega
  · injection hx with hx
    subst hx
    show 0 + 1 ≤ 4 * 0 + 1
    omega
/-- A putting begins. -/
theorem LtI.pushed (h : LtI W wr wb b lb g cap n v rbs r i ip st at_ nb qv ql G c m p t q pa T L N) {k : Nat} (hk : k < n) (hnb : nb k = none) (hN : at_ k < N k) :
    Calls Try.prog 20 #[.pointer (some ⟨rbs k, 0, none⟩), .int .u64 (L k (at_ k))] wr fun e w' => e = .returned (.pointer (some ⟨wr.heap.size, 0, none⟩)) ∧ Tch (fun y => y = rbs k) wr w' ∧ rbs k < r ∧
      LtI W (w'.setCell ⟨r + 1, k, none⟩ (.pointer (some ⟨wr.heap.size, 0, none⟩))) wb b lb g cap n v rbs r i (ip + 1) st at_ (upd nb k (some wr.heap.size)) qv ql (updG G k { G k with pu := true }) c m p t q (upd pa k ⟨true, 1, 0, L k (at_ k), false, 0⟩) T L N := by
  refine (h.ln.pushes hk hnb (L k (at_ k))).mono ?_
  rintro e w' ⟨rfl, hl, ht⟩
  have hh := h.high
  have hrl := h.ln.at_.lane.rlt k hk
  have hgl := h.ln.at_.lane.glt
  have hro := h.ro.tch ht (fun y hy hd => by
    have hg := h.ro.ge hy
    have hd : y = rbs k := hd
    omega)
  have hst := (Tch.refl (RoD r n qv) w').setCell (p := ⟨r + 1, k, none⟩) (.inl ⟨by show r ≤ r + 1; omega, by show r + 1 < r + 4; omega⟩) (.pointer (some ⟨wr.heap.size, 0, none⟩))
  have hln := hl.far hst (fun y hy => by have := hro.ge hy; omega) (fun y M f hy => hro.apart hy (by decide) (by decide) (by decide) (by decide)) (fun y M f hy => hro.apart hy (by decide) (by decide) (by decide) (by decide))
  refine ⟨rfl, ht, by omega, hln, hro.setNow k (some wr.heap.size), h.sum, fun j x hj e => ?_, fun j => ?_, h.tm, h.t0, hh, h.steps, h.len⟩
  · by_cases f : j = k
    · subst f
      rw [upd_same]
      exact ⟨rfl, hN⟩
    · rw [upd_other _ f] at e
      rw [upd_other _ f]
      exact h.num j x hj e
  · have h1 := h.pn j
    by_cases f : j = k
    · subst f
      rw [upd_same]
      rw [hnb] at h1
      simp at h1 ⊢
      omega
    · rw [upd_other _ f]; omega
theorem LtI.pu_far (h : LtI W wr wb b lb g cap n v rbs r i ip st at_ nb qv ql G c m p t q pa T L N) {k pk : Nat} (hk : k < n) (hnb : nb k = some pk) {y : Nat} (hy : RoD r n qv y) : ¬ RingD W.heap.size (rbs k) pk y := fun hd => by
  have hg := h.ro.ge hy
  have hh := h.high
  rcases hd with hd | hd | hd
  · have := (h.ln.lows (x := y) (.inl hd)).2; omega
  · have := (h.ln.lows (x := y) (.inr (.inl ⟨k, hk, hd⟩))).2; omega
  · rcases h.ln.push.each k hk with ⟨e, _⟩ | ⟨x, e, _, e3, _⟩
    · rw [e] at hnb; cases hnb
    · rw [e] at hnb
      injection hnb with hnb
      subst hnb
      subst hd
      exact h.ro.apart e3 (by decide) (by decide) (by decide) (by decide) hy
/-- A putting goes on. -/
theorem LtI.putting (h : LtI W wr wb b lb g cap n v rbs r i ip st at_ nb qv ql G c m p t q pa T L N) {k pk : Nat} (hk : k < n) (hnb : nb k = some pk) {w' : World} {G' : Nat → RgS} {m' : MemS} {a' : AcS} {p' : Nat → Nat} {q' : Nat → List Int} (hw : WAt w' wb W.heap.size b lb g cap n v rbs G' c T.isSome) (ha : ActAt w' (rbs k) pk a') (hq : RgsQ n G' m' p' t q') (hal : AliveP n k G G' m m' p p' t) (ht : Tch (RingD W.heap.size (rbs k) pk) wr w')
    (hpu : (G' k).pu = true) (hpk : PushK (G' k) (p' k) (t k) a') (hp : p' = p) (hqq : q' = q) (hn : a'.num = (pa k).num) :
    LtI W w' wb b lb g cap n v rbs r (i + 1) ip st at_ nb qv ql G' c m' p' t q' (upd pa k a') T L N := by
  refine ⟨h.ln.puts hk hnb hw ha hq hal ht (.inl ⟨rfl, hpu, hpk⟩), h.ro.tch ht (fun y hy => h.pu_far hk hnb hy), fun j hj => by rw [hqq]; exact h.sum j hj, fun j x hj e => ?_, fun j => by rw [hp]; exact h.pn j, by have := h.tm; have := hal.tm; omega, by have := h.t0; have := hal.tm; omega, h.high, h.steps, fun j hj => by rw [hp]; exact h.len j hj⟩
  by_cases f : j = k
  · subst f
    rw [upd_same, hn]
    exact h.num j x hj e
  · rw [upd_other _ f]
    exact h.num j x hj e
/-- Both stores behind a putting that is over. -/
theorem RoL.two {w : World} (h : RoL w r n at_ nb qv ql) (k x : Nat) : RoL ((w.setCell ⟨r, k, none⟩ (.int .i64 (x : Nat))).setCell ⟨r + 1, k, none⟩ (.pointer none)) r n (upd at_ k x) (upd nb k none) qv ql ∧ Tch (RoD r n qv) w ((w.setCell ⟨r, k, none⟩ (.int .i64 (x : Nat))).setCell ⟨r + 1, k, none⟩ (.pointer none)) :=
  ⟨(h.setAt k x).setNow k none, ((Tch.refl (RoD r n qv) w).setCell (p := ⟨r, k, none⟩) (.inl ⟨Nat.le_refl _, by show r < r + 4; omega⟩) _).setCell (p := ⟨r + 1, k, none⟩) (.inl ⟨by show r ≤ r + 1; omega, by show r + 1 < r + 4; omega⟩) _⟩
/-- A putting is over, in vain. -/
theorem LtI.putVain (h : LtI W wr wb b lb g cap n v rbs r i ip st at_ nb qv ql G c m p t q pa T L N) {k pk : Nat} (hk : k < n) (hnb : nb k = some pk) {w' : World} {G' : Nat → RgS} {m' : MemS} {a' : AcS} {p' : Nat → Nat} {q' : Nat → List Int} (hw : WAt w' wb W.heap.size b lb g cap n v rbs G' c T.isSome) (ha : ActAt w' (rbs k) pk a') (hq : RgsQ n G' m' p' t q') (hal : AliveP n k G G' m m' p p' t) (ht : Tch (RingD W.heap.size (rbs k) pk) wr w')
    (hpu : (G' k).pu = false) (hp : p' = p) (hqq : q' = q) :
    LtI W ((w'.setCell ⟨r, k, none⟩ (.int .i64 ((at_ k + 1 : Nat) : Int))).setCell ⟨r + 1, k, none⟩ (.pointer none)) wb b lb g cap n v rbs r (i + 1) ip st (upd at_ k (at_ k + 1)) (upd nb k none) qv ql G' c m' p' t q' (upd pa k a') T L N := by
  have hl := h.ln.puts hk hnb hw ha hq hal ht (nb' := upd nb k none) (.inr ⟨rfl, hpu⟩)
  have hro := h.ro.tch ht (fun y hy => h.pu_far hk hnb hy)
  obtain ⟨hr2, ht2⟩ := hro.two k (at_ k + 1)
  have hh := h.high
  have hln := hl.far ht2 (fun y hy => by have := hro.ge hy; omega) (fun y M f hy => hro.apart hy (by decide) (by decide) (by decide) (by decide)) (fun y M f hy => hro.apart hy (by decide) (by decide) (by decide) (by decide))
  refine ⟨hln, hr2, fun j hj => by rw [hqq]; exact h.sum j hj, fun j x hj e => ?_, fun j => ?_, by have := h.tm; have := hal.tm; omega, by have := h.t0; have := hal.tm; omega, hh, h.steps, fun j hj => by rw [hp]; exact h.len j hj⟩
  · by_cases f : j = k
    · rw [f, upd_same] at e; cases e
    · rw [upd_other _ f] at e
      rw [upd_other _ f, upd_other _ f]
      exact h.num j x hj e
  · have h1 := h.pn j
    rw [hp]
    by_cases f : j = k
    · subst f
      rw [upd_same]
      simp
      omega
    · rw [upd_other _ f]; exact h1
/-- .. did put: its number stands behind those that were put. -/
theorem LtI.putDid (h : LtI W wr wb b lb g cap n v rbs r i ip st at_ nb qv ql G c m p t q pa T L N) {k pk : Nat} (hk : k < n) (hnb : nb k = some pk) {w' : World} {G' : Nat → RgS} {m' : MemS} {a' : AcS} {p' : Nat → Nat} {q' : Nat → List Int} (hw : WAt w' wb W.heap.size b lb g cap n v rbs G' c T.isSome) (ha : ActAt w' (rbs k) pk a') (hq : RgsQ n G' m' p' t q') (hal : AliveP n k G G' m m' p p' t) (ht : Tch (RingD W.heap.size (rbs k) pk) wr w')
    (hpu : (G' k).pu = false) (hp : p' = upd p k (p k + 1)) (hqq : q' = upd q k (q k ++ [(pa k).num])) {wz : World} {v' : Value} (hr : RoL wz r n at_ nb (upd qv k v') (upd ql k (ql k ++ [L k (at_ k)]))) (htz : Tch (RoD r n qv) w' wz) :
    LtI W ((wz.setCell ⟨r, k, none⟩ (.int .i64 ((at_ k + 1 : Nat) : Int))).setCell ⟨r + 1, k, none⟩ (.pointer none)) wb b lb g cap n v rbs r (i + 1) ip st (upd at_ k (at_ k + 1)) (upd nb k none) (upd qv k v') (upd ql k (ql k ++ [L k (at_ k)])) G' c m' p' t q' (upd pa k a') T L N := by
  have hl := h.ln.puts hk hnb hw ha hq hal ht (nb' := upd nb k none) (.inr ⟨rfl, hpu⟩)
  have hro := h.ro.tch ht (fun y hy => h.pu_far hk hnb hy)
  have hh := h.high
  have hlz := hl.far htz (fun y hy => by have := hro.ge hy; omega) (fun y M f hy => hro.apart hy (by decide) (by decide) (by decide) (by decide)) (fun y M f hy => hro.apart hy (by decide) (by decide) (by decide) (by decide))
  obtain ⟨hr2, ht2⟩ := hr.two k (at_ k + 1)
  have hln := hlz.far ht2 (fun y hy => by have := hr.ge hy; omega) (fun y M f hy => hr.apart hy (by decide) (by decide) (by decide) (by decide)) (fun y M f hy => hr.apart hy (by decide) (by decide) (by decide) (by decide))
  refine ⟨hln, hr2, fun j hj => ?_, fun j x hj e => ?_, fun j => ?_, by have := h.tm; have := hal.tm; omega, by have := h.t0; have := hal.tm; omega, hh, h.steps, fun j hj => by
    have h1 := h.len j hj
    rw [hp]
    by_cases f : j = k
    · subst f; rw [upd_same, upd_same, List.length_append]; exact Nat.succ_le_succ h1
    · rw [upd_other _ f, upd_other _ f]; exact h1⟩
  · rw [hqq, upd_other (k := k) (i := n + j) _ (by omega)]
    by_cases f : j = k
    · subst f
      rw [upd_same, upd_same, h.sum j hj, (h.num j pk hj hnb).1, List.append_assoc]
    · rw [upd_other _ f, upd_other _ f]
      exact h.sum j hj
  · by_cases f : j = k
    · rw [f, upd_same] at e; cases e
    · rw [upd_other _ f] at e
      rw [upd_other _ f, upd_other _ f]
      exact h.num j x hj e
  · have h1 := h.pn j
    rw [hp]
    by_cases f : j = k
    · subst f
      rw [upd_same, upd_same]
      rw [hnb] at h1
      simp at h1 ⊢
      omega
    · rw [upd_other _ f, upd_other _ f]; exact h1
theorem LtI.later (h : LtI W wr wb b lb g cap n v rbs r i ip st at_ nb qv ql G c m p t q pa T L N) : LtI W wr wb b lb g cap n v rbs r (i + 1) (ip + 1) st at_ nb qv ql G c m p t q pa T L N :=
  ⟨h.ln, h.ro, h.sum, h.num, fun k => by have := h.pn k; omega, by have := h.tm; omega, h.t0, h.high, h.steps, h.len⟩
theorem LtI.below (h : LtI W wr wb b lb g cap n v rbs r i ip st at_ nb qv ql G c m p t q pa T L N) {w' : World} (hb : Below wr.heap.size wr w') : LtI W w' wb b lb g cap n v rbs r i ip st at_ nb qv ql G c m p t q pa T L N :=
  ⟨h.ln.far (D := fun _ => False) (Tch.of_below hb) (fun _ hx => hx.elim) (fun _ _ _ _ hx => hx) (fun _ _ _ _ hx => hx), h.ro.below hb, h.sum, h.num, h.pn, h.tm, h.t0, h.high, h.steps, h.len⟩
end
end Go.Proofs.Ytpojnknhmpmhjaa
