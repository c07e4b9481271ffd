/-
  A model's Do, whatever is to be done: what is true of what it leaves. No statement is proved here.
-/
import Derived.Test.YtcnfilbmmlolmaaMoM
set_option linter.unusedVariables false
namespace Go.Proofs.Ytcnfilbmmlolmaa
open Go.RowKit

section
variable {P r S B n nv : Nat} {s : Ms} {o : Od}
theorem kd_cases (x : Int) : (x < 0 ∨ 12 < x) ∨ x = 0 ∨ x = 1 ∨ x = 2 ∨ x = 3 ∨ x = 4 ∨ x = 5 ∨ x = 6 ∨ x = 7 ∨ x = 8 ∨ x = 9 ∨ x = 10 ∨ x = 11 ∨ x = 12 := by omega
/-- The ports' stands behind it. -/
def StF (P : Nat) (st : Nat → Int × Nat) (kd po sx : Int) : Nat → Int × Nat :=
  if kd = 8 ∧ portB P po = true ∧ rightSt sx = true then updS st po.toNat sx (((st po.toNat).2 + 1) % 4294967296) else st
theorem StF_no {P : Nat} {st : Nat → Int × Nat} {kd po sx : Int} (h : kd ≠ 8) : StF P st kd po sx = st := if_neg fun e => h e.1
theorem doS_st : (doS P r S B n nv s o).st = StF P s.st o.kd o.po o.sx := by
  by_cases h : o.kd = 8
  · rw [doS_8 h]
    unfold dS8 StF
    by_cases h1 : portB P o.po = true
    · by_cases h2 : rightSt o.sx = true
      · rw [if_pos h1, if_pos h2, if_pos ⟨h, h1, h2⟩]
      · rw [if_pos h1, if_neg h2, if_neg fun e => h2 e.2.2]
    · rw [if_neg h1, if_neg fun e => h1 e.2.1]
  · rw [StF_no h]
    rcases kd_cases o.kd with hx | hx | hx | hx | hx | hx | hx | hx | hx | hx | hx | hx | hx | hx
    · rw [doS_X hx]
    · rw [doS_0 hx]
    · rw [doS_1 hx]
    · rw [doS_2 hx]; unfold dS2; repeat' split
      all_goals rfl
    · rw [doS_3 hx]
    · rw [doS_4 hx]; unfold dS4; repeat' split
      all_goals rfl
    · rw [doS_5 hx]; unfold dS5; repeat' split
      all_goals rfl
    · rw [doS_6 hx]; unfold dS6; repeat' split
      all_goals rfl
    · rw [doS_7 hx]; unfold dS7; repeat' split
      all_goals rfl
    · exact absurd hx (by assumption)
    · rw [doS_9 hx]; unfold dS9; repeat' split
      all_goals rfl
    · rw [doS_10 hx]; unfold dS10; repeat' split
      all_goals rfl
    · rw [doS_11 hx]; unfold dS11; repeat' split
      all_goals rfl
    · rw [doS_12 hx]
theorem doS_lv (h : o.kd ≠ 9) : (doS P r S B n nv s o).lv = s.lv := by
  rcases kd_cases o.kd with hx | hx | hx | hx | hx | hx | hx | hx | hx | hx | hx | hx | hx | hx
  · rw [doS_X hx]
  · rw [doS_0 hx]
  · rw [doS_1 hx]
  · rw [doS_2 hx]; unfold dS2; repeat' split
    all_goals rfl
  · rw [doS_3 hx]
  · rw [doS_4 hx]; unfold dS4; repeat' split
    all_goals rfl
  · rw [doS_5 hx]; unfold dS5; repeat' split
    all_goals rfl
  · rw [doS_6 hx]; unfold dS6; repeat' split
    all_goals rfl
  · rw [doS_7 hx]; unfold dS7; repeat' split
    all_goals rfl
  · rw [doS_8 hx]; unfold dS8; repeat' split
    all_goals rfl
  · exact absurd hx (by assumption)
  · rw [doS_10 hx]; unfold dS10; repeat' split
    all_goals rfl
  · rw [doS_11 hx]; unfold dS11; repeat' split
    all_goals rfl
  · rw [doS_12 hx]
theorem doS_qs (h1 : o.kd ≠ 10) (h2 : o.kd ≠ 11) : (doS P r S B n nv s o).qs = s.qs := by
  rcases kd_cases o.kd with hx | hx | hx | hx | hx | hx | hx | hx | hx | hx | hx | hx | hx | hx
  · rw [doS_X hx]
  · rw [doS_0 hx]
  · rw [doS_1 hx]
  · rw [doS_2 hx]; unfold dS2; repeat' split
    all_goals rfl
  · rw [doS_3 hx]
  · rw [doS_4 hx]; unfold dS4; repeat' split
    all_goals rfl
  · rw [doS_5 hx]; unfold dS5; repeat' split
    all_goals rfl
  · rw [doS_6 hx]; unfold dS6; repeat' split
    all_goals rfl
  · rw [doS_7 hx]; unfold dS7; repeat' split
    all_goals rfl
  · rw [doS_8 hx]; unfold dS8; repeat' split
    all_goals rfl
  · rw [doS_9 hx]; unfold dS9; repeat' split
    all_goals rfl
  · exact absurd hx (by assumption)
  · exact absurd hx (by assumption)
  · rw [doS_12 hx]
/-- What stays, whatever is done: states that may be, and which VLANs there are. -/
structure Ms.inv (nv : Nat) (V : Nat → Int) (s : Ms) : Prop where
  rs : ∀ q, rightSt (s.st q).1 = true
  len : s.lv.length = nv
  vid : ∀ i, i < nv → (s.lv.getD i vl0).vid = V i
theorem StF_right {st : Nat → Int × Nat} {kd po sx : Int} (h : ∀ q, rightSt (st q).1 = true) (q : Nat) : rightSt (StF P st kd po sx q).1 = true := by
  unfold StF
  by_cases hc : kd = 8 ∧ portB P po = true ∧ rightSt sx = true
  · rw [if_pos hc]
    unfold updS
    split
    · exact hc.2.2
    · exact h q
  · rw [if_neg hc]
    exact h q
theorem firstI_hit (f : Nat → Bool) : ∀ k, 0 ≤ firstI f k → (firstI f k).toNat < k ∧ f (firstI f k).toNat = true
  | 0, h => by simp [firstI] at h
  | k + 1, h => by
    rw [firstI] at h ⊢
    by_cases h1 : 0 ≤ firstI f k
    · rw [if_pos h1]
      have := firstI_hit f k h1
      exact ⟨by omega, this.2⟩
    · rw [if_neg h1] at h ⊢
      by_cases h2 : f k = true
      · rw [if_pos h2]
        exact ⟨by simp, by simpa using h2⟩
      · rw [if_neg h2] at h
        omega
theorem Ms.inv_do {V : Nat → Int} (h : s.inv nv V) : (doS P r S B n nv s o).inv nv V := by
  refine ⟨fun q => by rw [doS_st]; exact StF_right h.rs q, ?_, ?_⟩
  · by_cases h9 : o.kd = 9
    · rw [doS_9 h9]
      unfold dS9
      split
      · exact h.len
      · simp [h.len]
    · rw [doS_lv h9]
      exact h.len
  · by_cases h9 : o.kd = 9
    · rw [doS_9 h9]
      unfold dS9
      split
      · exact h.vid
      · rename_i hf
        intro i hi
        have hj := firstI_hit (vidAt s.lv o.vi) nv (by unfold findN at hf; omega)
        unfold findN
        rw [List.getD_eq_getElem?_getD, List.getElem?_set]
        by_cases e : (firstI (vidAt s.lv o.vi) nv).toNat = i
        · rw [if_pos e, if_pos (by rw [h.len]; omega)]
          have hv := hj.2
          rw [e] at hv
          unfold vidAt at hv
          rw [← h.vid i hi]
          simp at hv
          simp [hv]
        · rw [if_neg e, ← List.getD_eq_getElem?_getD]
          exact h.vid i hi
    · rw [doS_lv h9]
      exact h.vid
/-- One queue, behind what was done. -/
def qN (f t r : Nat) (o : Od) (q : List Int) : List Int :=
  if o.po = (f : Int) ∧ o.tt = (t : Int) ∧ o.kd = 10 then if r ≤ q.length then q else q ++ [o.id]
  else if o.po = (f : Int) ∧ o.tt = (t : Int) ∧ o.kd = 11 then q.tail else q
theorem portB_nat {P f : Nat} (h : f < P) : portB P (f : Int) = true := by
  unfold portB
  simp
  omega
theorem doS_q {f t : Nat} (hf : f < P) (ht : t < P) : (doS P r S B n nv s o).qs f t = qN f t r o (s.qs f t) := by
  by_cases hsame : o.po = (f : Int) ∧ o.tt = (t : Int)
  · have hp : portB P o.po = true := by rw [hsame.1]; exact portB_nat hf
    have hp2 : portB P o.tt = true := by rw [hsame.2]; exact portB_nat ht
    have e1 : o.po.toNat = f := by rw [hsame.1]; exact Int.toNat_natCast f
    have e2 : o.tt.toNat = t := by rw [hsame.2]; exact Int.toNat_natCast t
    by_cases h10 : o.kd = 10
    · have hc : o.po = (f : Int) ∧ o.tt = (t : Int) ∧ o.kd = 10 := ⟨hsame.1, hsame.2, h10⟩
      rw [doS_10 h10]
      unfold dS10 qN
      rw [if_pos hp, if_pos hp2, if_pos hc, e1, e2]
      by_cases hr : r ≤ (s.qs f t).length
      · rw [if_pos hr, if_pos hr]
      · rw [if_neg hr, if_neg hr]
        exact upd2_same _ _ _ _
    · have hc : ¬ (o.po = (f : Int) ∧ o.tt = (t : Int) ∧ o.kd = 10) := fun e => h10 e.2.2
      by_cases h11 : o.kd = 11
      · have hc2 : o.po = (f : Int) ∧ o.tt = (t : Int) ∧ o.kd = 11 := ⟨hsame.1, hsame.2, h11⟩
        rw [doS_11 h11]
        unfold dS11 qN
        rw [if_pos hp, if_pos hp2, if_neg hc, if_pos hc2, e1, e2]
        by_cases hr : s.qs f t = []
        · rw [if_pos hr, hr]; rfl
        · rw [if_neg hr]
          exact upd2_same _ _ _ _
      · have hc2 : ¬ (o.po = (f : Int) ∧ o.tt = (t : Int) ∧ o.kd = 11) := fun e => h11 e.2.2
        rw [doS_qs h10 h11]
        unfold qN
        rw [if_neg hc, if_neg hc2]
  · have hc : ¬ (o.po = (f : Int) ∧ o.tt = (t : Int) ∧ o.kd = 10) := fun e => hsame ⟨e.1, e.2.1⟩
    have hc2 : ¬ (o.po = (f : Int) ∧ o.tt = (t : Int) ∧ o.kd = 11) := fun e => hsame ⟨e.1, e.2.1⟩
    unfold qN
    rw [if_neg hc, if_neg hc2]
    have hoth : portB P o.po = true → portB P o.tt = true → ¬ (f = o.po.toNat ∧ t = o.tt.toNat) := fun hp hp2 e => by
      obtain ⟨i, hi, _⟩ := port_nat hp
      obtain ⟨k, hk, _⟩ := port_nat hp2
      refine hsame ⟨?_, ?_⟩
      · rw [e.1, hi, Int.toNat_natCast]
      · rw [e.2, hk, Int.toNat_natCast]
    by_cases h10 : o.kd = 10
    · rw [doS_10 h10]
      unfold dS10
      by_cases hp : portB P o.po = true
      · by_cases hp2 : portB P o.tt = true
        · rw [if_pos hp, if_pos hp2]
          by_cases hr : r ≤ (s.qs o.po.toNat o.tt.toNat).length
          · rw [if_pos hr]
          · rw [if_neg hr]
            exact upd2_ne _ _ (hoth hp hp2)
        · rw [if_pos hp, if_neg hp2]
      · rw [if_neg hp]
    · by_cases h11 : o.kd = 11
      · rw [doS_11 h11]
        unfold dS11
        by_cases hp : portB P o.po = true
        · by_cases hp2 : portB P o.tt = true
          · rw [if_pos hp, if_pos hp2]
            by_cases hr : s.qs o.po.toNat o.tt.toNat = []
            · rw [if_pos hr]
            · rw [if_neg hr]
              exact upd2_ne _ _ (hoth hp hp2)
          · rw [if_pos hp, if_neg hp2]
        · rw [if_neg hp]
      · rw [doS_qs h10 h11]
theorem vidAt_iff {lv : List Vl} {vid : Int} {i : Nat} : vidAt lv vid i = true ↔ (lv.getD i vl0).vid = vid := by
  unfold vidAt
  exact beq_iff_eq
/-- What a Send may be said to be, of the first j VLANs: the last one of a number counts. -/
def wantR (lv : List Vl) (vid : Int) (q : Nat) : Nat → Nat
  | 0 => 1
  | j + 1 => if vidAt lv vid j = true then if hasB (lv.getD j vl0).mem q = true then if hasB (lv.getD j vl0).unt q = true then 2 else 3 else wantR lv vid q j else wantR lv vid q j
theorem wantR_none (lv : List Vl) (vid : Int) (q : Nat) : ∀ j, (∀ i, i < j → vidAt lv vid i = false) → wantR lv vid q j = 1
  | 0, _ => rfl
  | j + 1, h => by
    rw [wantR, if_neg (by rw [h j (by omega)]; decide)]
    exact wantR_none lv vid q j fun i hi => h i (by omega)
theorem wantR_at (lv : List Vl) (vid : Int) (q k N : Nat) (hk : vidAt lv vid k = true) (h : ∀ i, i < N → i ≠ k → vidAt lv vid i = true → False) : ∀ j, j ≤ N → k < j → wantR lv vid q j = if hasB (lv.getD k vl0).mem q = true then if hasB (lv.getD k vl0).unt q = true then 2 else 3 else 1
  | 0, _, h0 => by omega
  | j + 1, hN, h0 => by
    rw [wantR]
    rcases Nat.lt_or_ge k j with h1 | h1
    · rw [if_neg (fun e => h j (by omega) (by omega) e)]
      exact wantR_at lv vid q k N hk h j (by omega) h1
    · obtain rfl : k = j := by omega
      rw [if_pos hk, wantR_none lv vid q k fun i hi => by
        cases e : vidAt lv vid i
        · rfl
        · exact (h i (by omega) (by omega) e).elim]
theorem wantR_send {lv : List Vl} {V : Nat → Int} (hV : ∀ i j, i < nv → j < nv → V i = V j → i = j) (hv : ∀ i, i < nv → (lv.getD i vl0).vid = V i) (vid : Int) (q : Nat) : sendK lv nv 4 q vid = wantR lv vid q nv := by
  unfold sendK
  rw [if_neg (by decide)]
  by_cases hf : findN lv vid nv < 0
  · rw [if_pos hf]
    refine (wantR_none lv vid q nv fun i hi => ?_).symm
    cases e : vidAt lv vid i
    · rfl
    · exfalso
      have h1 : ∀ k, k ≤ nv → ∀ i, i < k → vidAt lv vid i = true → 0 ≤ firstI (vidAt lv vid) k := by
        intro k
        induction k with
        | zero => intro _ i hi; omega
        | succ k ih =>
          intro hk i hi e
          rw [firstI]
          rcases Nat.lt_or_ge i k with h2 | h2
          · have := ih (by omega) i h2 e
            rw [if_pos this]
            exact this
          · obtain rfl : i = k := by omega
            split
            · assumption
            · first | omega | (rw [if_pos e]; omega)
      have := h1 nv (Nat.le_refl _) i hi e
      unfold findN at hf
      omega
  · rw [if_neg hf]
    have hj := firstI_hit (vidAt lv vid) nv (by unfold findN at hf; omega)
    rw [show findN lv vid nv = firstI (vidAt lv vid) nv from rfl]
    have hw := wantR_at lv vid q _ nv hj.2 (fun i h1 hne e => by
      refine hne (hV i _ h1 hj.1 ?_)
      rw [← hv i h1, ← hv _ hj.1, vidAt_iff.1 e, vidAt_iff.1 hj.2]) nv (Nat.le_refl _) hj.1
    rw [hw]
    cases h1 : hasB (lv.getD (firstI (vidAt lv vid) nv).toNat vl0).mem (q : Int)
    · simp
    · cases h2 : hasB (lv.getD (firstI (vidAt lv vid) nv).toNat vl0).unt (q : Int) <;> simp
end
section
variable {E : Nat → Prop} {w : World} {L A S1 Q bp bq P r S B n nv : Nat} {uv : Value} {lv : List Vl} {st : Nat → Int × Nat} {g : Nat → Nat → Pl} {G : Nat → Value} {R : Nat → Nat} {qv : Nat → Nat → Value} {qs : Nat → Nat → List Int}
/-- Another one was at work on the blocks of E, and made new ones. -/
theorem MdAll.grow {w' : World} (h : MdAll E w L A S1 Q bp bq P r S B n nv uv lv st g G R qv qs) (hz : w.heap.size ≤ w'.heap.size) (hk : ∀ b, b < w.heap.size → ¬ E b → w'.heap[b]? = w.heap[b]?) : MdAll (fun b => E b ∨ (w.heap.size ≤ b ∧ b < w'.heap.size)) w' L A S1 Q bp bq P r S B n nv uv lv st g G R qv qs := by
  have h' := h.keepE hz hk
  obtain ⟨D, h1, h2, h3, h4, h5⟩ := h.bk
  have hbk : BkAt w' D bp bq S B n g := h1.keep hz fun b hlt hc => hk b hlt (fun he => by
    rcases hc with rfl | rfl | hc
    · exact (h5 _ he).2.1 rfl
    · exact (h5 _ he).2.2.1 rfl
    · exact hc (h5 b he).1)
  refine ⟨h'.md, h'.qu, h'.lbk, fun b => D b ∨ (w.heap.size ≤ b ∧ b < w'.heap.size), ?_, fun b hd => ?_, .inl h3, fun b hc => ⟨.inl (h4 b hc).1, (h4 b hc).2⟩, fun b he => ?_⟩
  · obtain ⟨k0, k1, k2, k3, k4, k5, k6, k9, k10⟩ := hbk
    obtain ⟨_, _, _, _, _, _, _, _, m10⟩ := h1
    refine ⟨k0, k1, k2, k3, k4, k5, k6, k9, fun a ha => ?_⟩
    obtain ⟨v0, hv0, hrow0⟩ := m10 a ha
    obtain ⟨v, hv, Ax, cap, e1, e2, e3, e4⟩ := k10 a ha
    refine ⟨v, hv, Ax, cap, e1, e2, e3, fun hn => ?_⟩
    obtain ⟨b, off, f1, f2, f3, f4⟩ := e4 hn
    refine ⟨b, off, f1, f2, fun hd => ?_, f4⟩
    rcases hd with hd | hd
    · exact f3 hd
    · obtain ⟨Ay, cay, y1, y2, y3, y4⟩ := hrow0
      obtain ⟨b', off', z1, z2, z3, z4⟩ := y4 hn
      have hq0 : w'.cell? ⟨bq, a, none⟩ = w.cell? ⟨bq, a, none⟩ := World.cell?_of_block (hk bq (h2 bq h3) (fun he => (h5 bq he).2.2.1 rfl))
      rw [hq0, hv0] at hv
      injection hv with hv
      rw [y1, e1] at hv
      injection hv with hv
      rw [z1, f1] at hv
      injection hv with hv
      injection hv with hv
      omega
  · rcases hd with hd | hd
    · exact Nat.lt_of_lt_of_le (h2 b hd) hz
    · exact hd.2
  · rcases he with he | he
    · exact ⟨.inl (h5 b he).1, (h5 b he).2⟩
    · refine ⟨.inr he, ?_, ?_, fun hc => ?_⟩
      · have := h1.1; omega
      · have := h1.2.1; omega
      · have := h2 b (h4 b hc).1; omega
/-- What is said of whatever was done. -/
def DoneX (E : Nat → Prop) (w : World) (L A S1 Q bp bq P r S B n nv : Nat) (uv : Value) (st' : Nat → Int × Nat) (G : Nat → Value) (R : Nat → Nat) (e : Ending) (w' : World) : Prop :=
  ∃ a lv' g' qv' qs', e = .returned (.int .i64 a) ∧ MdAll E w' L A S1 Q bp bq P r S B n nv uv lv' st' g' G R qv' qs' ∧ stG g' ∧ (∀ x ∈ lv', x.ok) ∧ Below L w w'
theorem model_DoAny (h : MdAll E w L A S1 Q bp bq P r S B n nv uv lv st g G R qv qs) (hP : P ≤ 64) (hr : r ≤ 64) (hS : 1 ≤ S ∧ S ≤ 8) (hB : 1 ≤ B ∧ B ≤ 16) (hn : 1 ≤ n ∧ n ≤ 8) (hst : stG g) (hok : ∀ x ∈ lv, x.ok)
    (kd po tt vi sx kv : Int) (km me un nw li : Nat) (sh bu id : Int) (hvi : -9223372036854775808 ≤ vi ∧ vi ≤ 9223372036854775807) (hkm : km < 18446744073709551616) (hme : me < 18446744073709551616) (hun : un < 18446744073709551616) (hnw : nw < 4294967296) :
    Calls Try.prog 14 #[.pointer (some ⟨A, 0, none⟩), opV kd po tt vi sx kv km me un nw li sh bu id] w (DoneX E w L A S1 Q bp bq P r S B n nv uv (StF P st kd po sx) G R) := by
  refine (model_DoAll (s := ⟨lv, st, g, qs⟩) h hP hr hS hB hn ⟨hst, hok⟩ ⟨kd, po, tt, vi, sx, kv, km, me, un, nw, li, sh, bu, id⟩ ⟨hvi, hkm, hme, hun, hnw⟩).mono ?_
  rintro e w' ⟨qv', he, hm, hg, hf⟩
  rw [doS_st] at hm
  exact ⟨_, _, _, qv', _, he, hm, hg.1, hg.2, hf.low⟩
end
end Go.Proofs.Ytcnfilbmmlolmaa
