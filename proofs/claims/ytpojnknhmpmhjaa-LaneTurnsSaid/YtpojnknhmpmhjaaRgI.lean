/-
  An act alone, to its end; what it did to the queue; lists that are the same; layer 14's told. No statement is proved here.
-/
import Derived.Test.YtpojnknhmpmhjaaRgH
import Derived.Test.YtpojnknhmpmhjaaQue
set_option linter.unusedVariables false
namespace Go.Proofs.Ytpojnknhmpmhjaa
open Go.RowKit

/-- So many steps. -/
def iterR : Nat → RgS × AcS → RgS × AcS
  | 0, x => x
  | n + 1, x => iterR n (stepR x.1 x.2)
theorem iterR_over (n : Nat) : ∀ x : RgS × AcS, x.2.stage = 0 → iterR n x = x := by
  induction n with
  | zero => intro x _; rfl
  | succ n ih =>
    intro x h
    obtain ⟨g, pt, sg, cn, nm, ok, mk⟩ := x
    simp only at h
    subst h
    exact ih _ rfl
theorem iterR_add (m : Nat) : ∀ (n : Nat) (x : RgS × AcS), iterR (n + m) x = iterR m (iterR n x) := by
  intro n
  induction n with
  | zero => intro x; rw [Nat.zero_add]; rfl
  | succ n ih => intro x; rw [show n + 1 + m = (n + m) + 1 by omega]; exact ih _
/-- What becomes of a Push by its end. -/
structure PushE (g : RgS) (p t : Nat) (q : List Int) (a : AcS) (g' : RgS) (a' : AcS) : Prop where
  stage : a'.stage = 0
  res : (a'.ok = true ∧ q.length < g.sz ∧ RngQ g' (p + 1) t (q ++ [a.num]) ∧ ∀ o, PopK g p t o → PopK g' (p + 1) t o) ∨ (a'.ok = false ∧ q.length = g.sz ∧ RngQ g' p t q ∧ ∀ o, PopK g p t o → PopK g' p t o)
  num : a'.num = a.num
  mark : a'.mark = g'.m.t
  t1 : g.m.t < g'.m.t
  t2 : g'.m.t ≤ g.m.t + 4
  pu : g'.pu = false
  po : g'.po = g.po
  ba : g'.ba = g.ba
  sz : g'.sz = g.sz
  C : g'.m.C = g.m.C
structure PopE (g : RgS) (p t : Nat) (q : List Int) (g' : RgS) (a' : AcS) : Prop where
  stage : a'.stage = 0
  res : (a'.ok = true ∧ (∃ x r, q = x :: r ∧ a'.num = x ∧ RngQ g' p (t + 1) r) ∧ ∀ o, PushK g p t o → PushK g' p (t + 1) o) ∨ (a'.ok = false ∧ q = [] ∧ RngQ g' p t q ∧ ∀ o, PushK g p t o → PushK g' p t o)
  mark : a'.mark = g'.m.t
  t1 : g.m.t < g'.m.t
  t2 : g'.m.t ≤ g.m.t + 4
  pu : g'.pu = g.pu
  po : g'.po = false
  ba : g'.ba = g.ba
  sz : g'.sz = g.sz
  C : g'.m.C = g.m.C
theorem push_end : ∀ (n : Nat) {g : RgS} {p t : Nat} {q : List Int} {a : AcS}, RngQ g p t q → PushK g p t a → p + 1 ≤ 1000000 → 5 ≤ a.stage + n → n ≤ 4 → PushE g p t q a (iterR n (g, a)).1 (iterR n (g, a)).2 ∧ (iterR n (g, a)).1.m.t ≤ g.m.t + n := by
  intro n
  induction n with
  | zero => intro g p t q a h k hf hn _; exact absurd k.2.2.1 (by omega)
  | succ n ih =>
    intro g p t q a h k hf hn hn4
    obtain ⟨hs, hnum, hpo⟩ := push_step h k hf
    have st := stayR g a k.2.1 k.2.2.1
    have hop := fun o ho => PopK.push_step (b := o) h k hf ho
    show PushE g p t q a (iterR n (stepR g a)).1 (iterR n (stepR g a)).2 ∧ (iterR n (stepR g a)).1.m.t ≤ g.m.t + ((n + 1 : Nat) : Int)
    generalize stepR g a = x at *
    obtain ⟨g1, a1⟩ := x
    simp only at hs hnum hpo st hop ⊢
    have ht := st.t
    cases hs with
    | on h1 k1 hp =>
      have hst : a1.stage = a.stage + 1 := by
        rcases st.more with e | e
        · have := k1.2.1; omega
        · exact e
      obtain ⟨e, ht2⟩ := ih h1 k1 hf (by omega) (by omega)
      refine ⟨⟨e.stage, ?_, e.num.trans hnum, e.mark, by have := e.t1; omega, by omega, e.pu, e.po.trans hpo, e.ba.trans st.ba, e.sz.trans st.sz, e.C.trans st.C⟩, by omega⟩
      rw [← st.sz, ← hnum]
      rcases e.res with ⟨r1, r2, r3, r4⟩ | ⟨r1, r2, r3, r4⟩
      · exact .inl ⟨r1, r2, r3, fun o ho => r4 o (hop o ho).1⟩
      · exact .inr ⟨r1, r2, r3, fun o ho => r4 o (hop o ho).1⟩
    | did h1 e1 e2 e3 e4 e5 =>
      rw [iterR_over n (g1, a1) e1]
      exact ⟨⟨e1, .inl ⟨e2, e4, h1, fun o ho => (hop o ho).2⟩, hnum, e3, by show g.m.t < g1.m.t; omega, by show g1.m.t ≤ _; omega, e5, hpo, st.ba, st.sz, st.C⟩, by show g1.m.t ≤ _; omega⟩
    | full h1 e1 e2 e3 e4 e5 =>
      rw [iterR_over n (g1, a1) e1]
      exact ⟨⟨e1, .inr ⟨e2, e4, h1, fun o ho => (hop o ho).1⟩, hnum, e3, by show g.m.t < g1.m.t; omega, by show g1.m.t ≤ _; omega, e5, hpo, st.ba, st.sz, st.C⟩, by show g1.m.t ≤ _; omega⟩
theorem pop_end : ∀ (n : Nat) {g : RgS} {p t : Nat} {q : List Int} {a : AcS}, RngQ g p t q → PopK g p t a → 5 ≤ a.stage + n → n ≤ 4 → PopE g p t q (iterR n (g, a)).1 (iterR n (g, a)).2 ∧ (iterR n (g, a)).1.m.t ≤ g.m.t + n := by
  intro n
  induction n with
  | zero => intro g p t q a h k hn _; exact absurd k.2.2.1 (by omega)
  | succ n ih =>
    intro g p t q a h k hn hn4
    obtain ⟨hs, hpu⟩ := pop_step h k
    have st := stayR g a k.2.1 k.2.2.1
    have hop := fun o ho => PushK.pop_step (b := o) h k ho
    show PopE g p t q (iterR n (stepR g a)).1 (iterR n (stepR g a)).2 ∧ (iterR n (stepR g a)).1.m.t ≤ g.m.t + ((n + 1 : Nat) : Int)
    generalize stepR g a = x at *
    obtain ⟨g1, a1⟩ := x
    simp only at hs hpu st hop ⊢
    have ht := st.t
    cases hs with
    | on h1 k1 hp =>
      have hst : a1.stage = a.stage + 1 := by
        rcases st.more with e | e
        · have := k1.2.1; omega
        · exact e
      obtain ⟨e, ht2⟩ := ih h1 k1 (by omega) (by omega)
      refine ⟨⟨e.stage, ?_, e.mark, by have := e.t1; omega, by omega, e.pu.trans hpu, e.po, e.ba.trans st.ba, e.sz.trans st.sz, e.C.trans st.C⟩, by omega⟩
      rcases e.res with ⟨r1, r2, r4⟩ | ⟨r1, r2, r3, r4⟩
      · exact .inl ⟨r1, r2, fun o ho => r4 o (hop o ho).1⟩
      · exact .inr ⟨r1, r2, r3, fun o ho => r4 o (hop o ho).1⟩
    | did x r e h1 e1 e2 en e3 e5 =>
      rw [iterR_over n (g1, a1) e1]
      exact ⟨⟨e1, .inl ⟨e2, ⟨x, r, e, en, h1⟩, fun o ho => (hop o ho).2⟩, e3, by show g.m.t < g1.m.t; omega, by show g1.m.t ≤ _; omega, hpu, e5, st.ba, st.sz, st.C⟩, by show g1.m.t ≤ _; omega⟩
    | none e h1 e1 e2 e3 e5 =>
      rw [iterR_over n (g1, a1) e1]
      exact ⟨⟨e1, .inr ⟨e2, e, h1, fun o ho => (hop o ho).1⟩, e3, by show g.m.t < g1.m.t; omega, by show g1.m.t ≤ _; omega, hpu, e5, st.ba, st.sz, st.C⟩, by show g1.m.t ≤ _; omega⟩

theorem iter_stage (g : RgS) (a : AcS) (h : 1 ≤ a.stage) : ∀ n, a.stage + n ≤ 4 → ((iterR n (g, a)).2.stage = 0 ∨ (iterR n (g, a)).2.stage = a.stage + n) ∧ (iterR n (g, a)).2.stage ≤ 4 ∧ (iterR n (g, a)).1.m.t ≤ g.m.t + n := by
  intro n
  induction n with
  | zero => intro hn; exact ⟨.inr rfl, by show a.stage ≤ 4; omega, by show g.m.t ≤ g.m.t + ((0 : Nat) : Int); omega⟩
  | succ n ih =>
    intro hn
    obtain ⟨h1, h2, h3⟩ := ih (by omega)
    rw [iterR_add 1 n]
    generalize iterR n (g, a) = x at *
    obtain ⟨g1, a1⟩ := x
    simp only at h1 h2 h3
    show ((stepR g1 a1).2.stage = 0 ∨ (stepR g1 a1).2.stage = a.stage + (n + 1)) ∧ (stepR g1 a1).2.stage ≤ 4 ∧ (stepR g1 a1).1.m.t ≤ g.m.t + ((n + 1 : Nat) : Int)
    rcases h1 with h1 | h1
    · have := iterR_over 1 (g1, a1) h1
      have e : stepR g1 a1 = (g1, a1) := this
      rw [e]
      exact ⟨.inl h1, h2, by show g1.m.t ≤ _; omega⟩
    · have st := stayR g1 a1 (by omega) h2
      refine ⟨?_, st.most, by have := st.t; omega⟩
      rcases st.more with e | e
      · exact .inl e
      · exact .inr (by omega)
set_option maxRecDepth 20000 in
set_option maxHeartbeats 1600000 in
theorem act_finish {w : World} {lo b rb ab : Nat} {g : RgS} {a : AcS} (hr : RingAt w lo b rb g) (ha : ActAt w rb ab a) (h1 : lo + 3 ≤ ab) (h2 : ab ≠ rb) (ht : g.m.t ≤ 4611686018427380000) (hs : a.stage = 1) :
    Calls Try.prog 17 #[.pointer (some ⟨ab, 0, none⟩)] w (Did lo b rb ab (iterR 4 (g, a)).1 (iterR 4 (g, a)).2 (.bool true) w) := by
  have h4 : (iterR 4 (g, a)).2.stage = 0 := by
    obtain ⟨h1, h2, h3⟩ := iter_stage g a (by omega) 3 (by omega)
    rw [iterR_add 1 3]
    generalize iterR 3 (g, a) = x at *
    obtain ⟨g1, a1⟩ := x
    simp only at h1 h2 h3
    show (stepR g1 a1).2.stage = 0
    rcases h1 with h1 | h1
    · have e : stepR g1 a1 = (g1, a1) := iterR_over 1 (g1, a1) h1
      rw [e]; exact h1
    · rcases (stayR g1 a1 (by omega) h2).more with e | e
      · exact e
      · have := (stayR g1 a1 (by omega) h2).most; omega
  have HS := Lib.hid (fun (w' : World) (g' : RgS) (a' : AcS) hr ha ht hs => act_Step (w := w') (lo := lo) (b := b) (rb := rb) (ab := ab) (g := g') (a := a') hr ha h1 h2 ht hs)
  have HI := Lib.hid (iter_stage g a (by omega))
  have HE : Hid (∀ n, n ≤ 4 → (iterR n (g, a)).2.stage = 0 → iterR 4 (g, a) = iterR n (g, a)) := fun n hn h0 => by
    rw [show 4 = n + (4 - n) by omega, iterR_add]
    exact iterR_over _ _ h0
  have HADD : Hid (∀ n, iterR (n + 1) (g, a) = stepR (iterR n (g, a)).1 (iterR n (g, a)).2) := fun n => iterR_add 1 n (g, a)
  have HX := Lib.hid (And.intro hr (And.intro ha (Tch.refl (RingD lo rb ab) w)))
  have HS1 := Lib.hid hs
  have HT := Lib.hid ht
  have H4 := Lib.hid h4
  clear hr ha h1 h2 ht hs h4
  go_enter Try.func17, Try.ntmps17
  go_wp2
  go_loopw [3] (fun i wr => ∃ k : Nat, k ≤ 3 ∧ i = .int .i64 k ∧ Hid ((iterR k (g, a)).2.stage ≠ 0 ∧ RingAt wr lo b rb (iterR k (g, a)).1 ∧ ActAt wr rb ab (iterR k (g, a)).2 ∧ Tch (RingD lo rb ab) w wr)) (fun i _ => 5 - (intOf i).toNat)
  case atStart => exact ⟨0, by omega, rfl, by show a.stage ≠ 0; have := HS1.out; omega, HX.out.1, HX.out.2.1, HX.out.2.2⟩
  case round =>
    obtain ⟨k, hk, rfl, HR⟩ := hrel
    have g0 : (0 : Int) ≤ (k : Int) := Int.natCast_nonneg _
    have g1 : (k : Int) < 8 := by omega
    obtain ⟨i1, i2, i3⟩ := HI.out k (by have := HS1.out; omega)
    have HST := Lib.hid (HS.out _ _ _ HR.out.2.1 HR.out.2.2.1 (by have := HT.out; omega) i2)
    rw [← HADD.out k] at HST
    have HN := Lib.hid (HE.out (k + 1) (by omega))
    have HTT := Lib.hid HR.out.2.2.2
    have HLAST : Hid (k = 3 → (iterR (k + 1) (g, a)).2.stage = 0) := fun e => by subst e; exact H4.out
    clear i1 i2 i3 HR HADD
    obtain ⟨z, hz⟩ : ∃ z, z = decide ((iterR (k + 1) (g, a)).2.stage = 0) := ⟨_, rfl⟩
    rw [← hz] at HST
    have HZ := Lib.hid hz
    clear hz
    go_wp2_with fail
    refine (HST.out).mono ?_
    rintro e w2 ⟨rfl, hr2, ha2, ht2⟩
    have HY := Lib.hid (And.intro hr2 (And.intro ha2 (HTT.out.trans ht2)))
    clear hr2 ha2 ht2 HST
    cases z
    · have h0 : ¬ (iterR (k + 1) (g, a)).2.stage = 0 := of_decide_eq_false HZ.out.symm
      have hk3 : k + 1 ≤ 3 := by
        rcases (show k = 3 ∨ k + 1 ≤ 3 by omega) with e | e
        · exact absurd (HLAST.out e) h0
        · exact e
      have H0 := Lib.hid h0
      clear h0
      go_wp2
      go_roundw
      case rel => exact ⟨k + 1, hk3, by go_num, H0.out, HY.out.1, HY.out.2.1, HY.out.2.2⟩
      case measure => simp [intOf]; omega
    · have h0 : (iterR (k + 1) (g, a)).2.stage = 0 := of_decide_eq_true HZ.out.symm
      have HOV := Lib.hid (over_at HY.out.2.1 (z := true) (decide_eq_true h0))
      have HEQ := Lib.hid (HN.out h0)
      clear h0
      go_wp2_with fail
      refine (HOV.out).mono ?_
      rintro e w3 ⟨rfl, rfl⟩
      go_wp2
      go_ret
      rw [HEQ.out]
      exact ⟨by first | rfl | (simp; done), HY.out.1, HY.out.2.1, HY.out.2.2⟩
set_option maxHeartbeats 800000 in
theorem ref14_Same {l : List Int} {n : Nat} {u v : Value} {w : World} {B B' : Nat} (hu : Sl w B 1 u n (kv .u64 l)) (hv : Sl w B' 1 v n (kv .u64 l)) :
    Calls Try.prog 23 #[u, v] w (Quiet (.bool true) w) := by
  have hlen : l.length = n := by have := hu.len; rw [kv_length] at this; omega
  obtain ⟨_, A, cap, rfl, hA1, hA2, hA⟩ := hu
  obtain ⟨_, A', cap', rfl, hA1', hA2', hA'⟩ := hv
  unfold maxLen at hA2 hA2'
  have hne : ((n : Int) != (n : Int)) = false := by simp
  have HL := Lib.hid hlen
  have HA := Lib.hid hA
  have HA' := Lib.hid hA'
  clear hlen hA hA'
  go_enter Try.func23, Try.ntmps23
  go_wp2
  go_loopw [5] (fun i wr => ∃ k : Nat, k ≤ n ∧ i = .int .i64 k ∧ ∃ m, wr = w.drewN m) (fun i _ => n - (intOf i).toNat)
  case atStart => exact ⟨0, by omega, rfl, 0, rfl⟩
  case round =>
    obtain ⟨k, hk, rfl, m, rfl⟩ := hrel
    by_cases hlt : k < n
    · obtain ⟨b, off, rfl, _, hc⟩ := HA.out (by omega)
      obtain ⟨b', off', rfl, _, hc'⟩ := HA'.out (by omega)
      have hx := kv_getElem? .u64 l k (by have := HL.out; omega)
      have hcell := (hc k (by omega)).trans hx
      have hcell' := (hc' k (by omega)).trans hx
      clear hc hc' HA HA' hx
      have g0 : (0 : Int) ≤ (k : Int) := Int.natCast_nonneg _
      have g1 : (k : Int) < (n : Int) := by omega
      generalize l.getD k 0 = x at *
      go_wp2_with fail
      go_quiet (fail)
      go_wp2
      go_roundw
      case rel => exact ⟨k + 1, by omega, by go_num, _, (by first | rfl | exact World.drewN_drewN _ _ _)⟩
      case measure => simp [intOf]; omega
    · have : k = n := by omega
      subst this
      go_wp2
      go_ret
      exact ⟨rfl, _, rfl⟩
end Go.Proofs.Ytpojnknhmpmhjaa
