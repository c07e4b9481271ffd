/-
  Several texts in one: BkL, BkM, BkN, BkO, BkR, BkS, BkT, BkV, BkX. No statement is proved here.
-/
import Derived.Test.YtccnfcjaehcfkaaBkK
import Derived.WalkSpells
import Derived.Deep.RegionHeld3
import Derived.Test.YtccnfcjaehcfkaaBuK
import Derived.Test.YtccnfcjaehcfkaaBuL
import Derived.Test.YtccnfcjaehcfkaaBuM
import Derived.Test.YtccnfcjaehcfkaaBkE
import Derived.Test.YtccnfcjaehcfkaaBuF
import Derived.Test.YtccnfcjaehcfkaaBkF
import Derived.Test.YtccnfcjaehcfkaaSlotC
import Derived.Deep.QuietTactic
set_option linter.unusedVariables false
namespace Go.Proofs.Ytccnfcjaehcfkaa
section
open Go.RowKit

theorem keyF_own (f : Nat → Pl) (v : Int) (m : Nat) : keyF (fun i => ownP (f i)) v m = keyF f v m := by
  funext i
  unfold keyF
  show ((ownP (f i)).used && ((ownP (f i)).e.vid == v && (ownP (f i)).e.mac == m)) = _
  unfold ownP
  cases h : (f i).used
  · simp [pl0]
  · simp [h]
theorem findF_own (f : Nat → Pl) (v : Int) (m n : Nat) : findF (fun i => ownP (f i)) v m n = findF f v m n := by
  unfold findF
  rw [keyF_own]
theorem firstI_first (f : Nat → Bool) (n j : Nat) (h : firstI f n = (j : Int)) : j < n ∧ f j = true ∧ ∀ i, i < j → f i = false := by
  have hb := firstI_bd f n
  have h1 := firstI_holds f n (by omega)
  rw [h, Int.toNat_natCast] at h1
  refine ⟨by omega, h1, fun i hi => ?_⟩
  cases hf : f i
  · rfl
  · exfalso
    -- the first place at which f holds is no later than i
    have hle : ∀ k, i < k → firstI f k ≤ (i : Int) := by
      intro k
      induction k with
      | zero => intro h0; omega
      | succ k ih =>
        intro hik
        rw [firstI]
        rcases Nat.lt_or_ge i k with h2 | h2
        · have h3 := ih h2
          have h4 : 0 ≤ firstI f k := by
            rcases (show firstI f k < 0 ∨ 0 ≤ firstI f k by omega) with h5 | h5
            · have := firstI_miss f k h5 i h2
              rw [hf] at this
              exact absurd this (by simp)
            · exact h5
          rw [if_pos h4]
          exact h3
        · obtain rfl : i = k := by omega
          split
          · have := firstI_bd f i; omega
          · first | exact Int.le_refl _ | (rw [if_pos hf]; exact Int.le_refl _)
    have := hle n (by omega)
    omega
theorem portF_at {f : Nat → Pl} {v : Int} {m n j : Nat} (h : findF f v m n = (j : Int)) : portF f v m n = (f j).e.port := by
  unfold portF
  rw [h, if_neg (by omega), Int.toNat_natCast]
theorem portF_no {f : Nat → Pl} {v : Int} {m n : Nat} (h : findF f v m n < 0) : portF f v m n = -1 := by
  unfold portF
  rw [if_pos h]
/-- Ports of entries may be. -/
def prF (f : Nat → Pl) : Prop := ∀ j, (f j).used = true → 0 ≤ (f j).e.port
def prG (g : Nat → Nat → Pl) : Prop := ∀ i, prF (g i)
theorem prF_own {f : Nat → Pl} (h : prF f) : prF (fun j => ownP (f j)) := by
  intro j hj
  change (ownP (f j)).used = true at hj
  show 0 ≤ (ownP (f j)).e.port
  unfold ownP at hj ⊢
  split
  · rename_i hu; exact h j hu
  · show (0 : Int) ≤ 0; omega
theorem prF_upd {f : Nat → Pl} {x : Pl} (h : prF f) (hx : x.used = true → 0 ≤ x.e.port) (k : Nat) : prF (updP f k x) := by
  intro j hj
  unfold updP at hj ⊢
  split
  · rename_i h1; rw [if_pos h1] at hj; exact hx hj
  · rename_i h1; rw [if_neg h1] at hj; exact h j hj
theorem prF_put {f : Nat → Pl} {e : En} {now n : Nat} (h : prF f) : prF (putF f e now n).1 := by
  unfold putF
  split
  · exact h
  · rename_i hr
    have hre : rightE e = true := by simpa using hr
    have hp : 0 ≤ e.port := (rightE_iff.1 hre).2.1
    split
    · split
      · exact h
      · exact prF_upd h (fun _ => hp) _
    · split
      · exact h
      · exact prF_upd h (fun _ => hp) _
theorem prF_drop {f : Nat → Pl} {v : Int} {m n : Nat} (h : prF f) : prF (dropF f v m n).1 := by
  unfold dropF
  split
  · exact h
  · split
    · exact prF_upd h (fun hx => absurd hx (by decide)) _
    · exact h
theorem prF_sweep {f : Nat → Pl} {c : En → Bool} (h : prF f) : prF (sweepF f c) := by
  intro j hj
  unfold sweepF at hj ⊢
  split
  · show (0 : Int) ≤ 0; omega
  · rename_i h1; rw [if_neg h1] at hj; exact h j hj
theorem prG_upd {g : Nat → Nat → Pl} {f : Nat → Pl} (h : prG g) (hf : prF f) (k : Nat) : prG (updR g k f) := by
  intro i
  unfold updR
  split
  · exact hf
  · exact h i
theorem doG_pr (K : Nat) (v : Int) (m : Nat) (port vid : Int) (now old : Nat) (S B n : Nat) (g : Nat → Nat → Pl) (h : prG g) : prG (doG K v m port vid now old S B n g).1 := by
  unfold doG
  split
  · exact h
  · split
    · exact prG_upd h (prF_put (prF_own (h _))) _
    · split
      · exact prG_upd h (prF_drop (prF_own (h _))) _
      · split
        · split
          · exact h
          · exact prG_upd h (prF_sweep (prF_own (h _))) _
        · split
          · intro i
            show prF (flG port vid g (S * B) i)
            unfold flG
            split
            · exact prF_sweep (prF_own (h _))
            · exact h i
          · exact prG_upd h (prF_put (prF_own (h _))) _
theorem keyF_upd {f : Nat → Pl} {v : Int} {m j i : Nat} {p : Int} {now : Nat} : keyF (updP f j ⟨true, ⟨v, m, p, false, now⟩⟩) v m i = if i = j then true else keyF f v m i := by
  unfold keyF updP
  by_cases h : i = j
  · rw [if_pos h, if_pos h]; simp
  · rw [if_neg h, if_neg h]
theorem find_upd {f : Nat → Pl} {v : Int} {m n j : Nat} {p : Int} {now : Nat} (hj : j < n) (h : ∀ i, i < j → keyF f v m i = false) : findF (updP f j ⟨true, ⟨v, m, p, false, now⟩⟩) v m n = (j : Int) := by
  unfold findF
  refine firstI_at _ j (fun i hi => ?_) ?_ n hj
  · rw [keyF_upd, if_neg (by omega)]; exact h i hi
  · rw [keyF_upd, if_pos rfl]
theorem put_knows {f : Nat → Pl} {v : Int} {m : Nat} {p : Int} {now n : Nat} (hr : rightE ⟨v, m, p, false, now⟩ = true) (hport : prF f) :
    ((putF (fun i => ownP (f i)) ⟨v, m, p, false, now⟩ now n).2 = 5 ∧ portF f v m n = -1 ∧ portF (putF (fun i => ownP (f i)) ⟨v, m, p, false, now⟩ now n).1 v m n = -1) ∨
    ((putF (fun i => ownP (f i)) ⟨v, m, p, false, now⟩ now n).2 = 0 ∧ portF (putF (fun i => ownP (f i)) ⟨v, m, p, false, now⟩ now n).1 v m n = portF f v m n ∧ 0 ≤ portF f v m n) ∨
    ((putF (fun i => ownP (f i)) ⟨v, m, p, false, now⟩ now n).2 = 1 ∧ portF (putF (fun i => ownP (f i)) ⟨v, m, p, false, now⟩ now n).1 v m n = p ∧ portF f v m n = p) ∨
    ((putF (fun i => ownP (f i)) ⟨v, m, p, false, now⟩ now n).2 = 2 ∧ portF (putF (fun i => ownP (f i)) ⟨v, m, p, false, now⟩ now n).1 v m n = p ∧ 0 ≤ portF f v m n ∧ portF f v m n ≠ p) ∨
    (((putF (fun i => ownP (f i)) ⟨v, m, p, false, now⟩ now n).2 = 3 ∨ (putF (fun i => ownP (f i)) ⟨v, m, p, false, now⟩ now n).2 = 4) ∧ portF (putF (fun i => ownP (f i)) ⟨v, m, p, false, now⟩ now n).1 v m n = p ∧ portF f v m n = -1) := by
  have hF := findF_own f v m n
  obtain ⟨F, hFe⟩ : ∃ F, F = (fun i => ownP (f i)) := ⟨_, rfl⟩
  have hPF : portF F v m n = portF f v m n := by
    rw [← hFe] at hF
    rcases (show findF f v m n < 0 ∨ 0 ≤ findF f v m n by omega) with h | h
    · rw [portF_no h, portF_no (by omega)]
    · obtain ⟨j, hj⟩ := Int.eq_ofNat_of_zero_le h
      rw [portF_at hj, portF_at (hF.trans hj)]
      have hk := (firstI_first _ n j hj).2.1
      have hu : (f j).used = true := by
        unfold keyF at hk
        cases hu : (f j).used
        · rw [hu] at hk; simp at hk
        · rfl
      rw [hFe]
      show (ownP (f j)).e.port = _
      unfold ownP
      rw [if_pos hu]
  have hprF : prF F := by rw [hFe]; exact prF_own hport
  rw [← hFe, ← hPF]
  clear hPF hF hFe hport
  rcases (show findF F v m n < 0 ∨ 0 ≤ findF F v m n by omega) with h | h
  · rw [portF_no h]
    have hrb := roomF_bd F now n
    rcases (show (roomF F now n).1 < 0 ∨ 0 ≤ (roomF F now n).1 by omega) with h2 | h2
    · rw [putF_none hr h h2]
      exact .inl ⟨rfl, rfl, portF_no h⟩
    · obtain ⟨j, hj⟩ := Int.eq_ofNat_of_zero_le h2
      have hr2 := hrb.2.2.2.2 h2
      rw [putF_new hr h hj]
      have hmiss := firstI_miss _ n h
      have hf := find_upd (f := F) (v := v) (m := m) (n := n) (j := j) (p := p) (now := now) (by omega) (fun i hi => hmiss i (by omega))
      refine .inr (.inr (.inr (.inr ⟨hr2, ?_, rfl⟩)))
      rw [portF_at hf]
      unfold updP
      rw [if_pos rfl]
  · obtain ⟨j, hj⟩ := Int.eq_ofNat_of_zero_le h
    obtain ⟨hjn, hk, hlow⟩ := firstI_first _ n j hj
    have hu : (F j).used = true := by
      unfold keyF at hk
      cases hu : (F j).used
      · rw [hu] at hk; simp at hk
      · rfl
    rw [portF_at hj]
    by_cases ha : againE (F j).e ⟨v, m, p, false, now⟩ = 0
    · rw [putF_kept hr hj ha]
      exact .inr (.inl ⟨rfl, portF_at hj, hprF j hu⟩)
    · rw [putF_set hr hj ha]
      have hf := find_upd (f := F) (v := v) (m := m) (n := n) (j := j) (p := p) (now := now) hjn hlow
      have hport' : portF (updP F j ⟨true, ⟨v, m, p, false, now⟩⟩) v m n = p := by
        rw [portF_at hf]
        unfold updP
        rw [if_pos rfl]
      show (againE (F j).e ⟨v, m, p, false, now⟩ = 5 ∧ _) ∨ (againE (F j).e ⟨v, m, p, false, now⟩ = 0 ∧ _) ∨ (againE (F j).e ⟨v, m, p, false, now⟩ = 1 ∧ _) ∨ (againE (F j).e ⟨v, m, p, false, now⟩ = 2 ∧ _) ∨ _
      by_cases hp : (F j).e.port = p
      · have h1 : againE (F j).e ⟨v, m, p, false, now⟩ = 1 := by
          unfold againE at ha ⊢
          split
          · rename_i hc; rw [if_pos hc] at ha; exact absurd rfl ha
          · rw [if_pos ⟨rfl, hp⟩]
        exact .inr (.inr (.inl ⟨h1, hport', hp⟩))
      · have h2 : againE (F j).e ⟨v, m, p, false, now⟩ = 2 := by
          unfold againE at ha ⊢
          split
          · rename_i hc; rw [if_pos hc] at ha; exact absurd rfl ha
          · rw [if_neg (fun hc => hp hc.2)]
        exact .inr (.inr (.inr (.inl ⟨h2, hport', hprF j hu, hp⟩)))
end
section
open Go.RowKit

theorem PlRow.sl {w : World} {B n : Nat} {v : Value} {f : Nat → Pl} (h : PlRow w B v n f) : Sl w B 6 v n (plc (listP f n)) := by
  obtain ⟨A, cap, hv, h1, h2, h3⟩ := h
  refine ⟨by rw [plc_length, listP_length], A, cap, hv, h1, h2, fun hn => ?_⟩
  have hn' : 0 < n := by
    rcases Nat.eq_zero_or_pos n with h0 | h0
    · subst h0; simp at hn
    · exact h0
  obtain ⟨b, off, e, hb, hc⟩ := h3 hn'
  refine ⟨b, off, e, hb, fun j hj => ?_⟩
  have ej : j = j / 6 * 6 + j % 6 := by omega
  have hq : j / 6 < n := by omega
  have hv2 : (plc (listP f n))[j]? = ((listP f n)[j / 6]?).bind fun x => x.cells[j % 6]? := by
    have := plc_at (listP f n) (j / 6) (j % 6) (by omega)
    rw [← ej] at this
    exact this
  rw [hv2]
  simp only [listP, List.getElem?_map, List.getElem?_range hq, Option.map_some, Option.bind_some]
  obtain ⟨c0, c1, c2, c3, c4, c5⟩ := hc (j / 6) hq
  have hadr : off + j = off + j / 6 * 6 + j % 6 := by omega
  rw [hadr]
  rcases (show j % 6 = 0 ∨ j % 6 = 1 ∨ j % 6 = 2 ∨ j % 6 = 3 ∨ j % 6 = 4 ∨ j % 6 = 5 by omega) with h | h | h | h | h | h <;> rw [h]
  · exact c0
  · exact c1
  · exact c2
  · exact c3
  · exact c4
  · exact c5
set_option maxRecDepth 20000 in
set_option maxHeartbeats 3200000 in
theorem clone_places {f : Nat → Pl} {n : Nat} {y : Value} {w : World} {B : Nat} (hn0 : 0 < n) (hn : n ≤ 1000000) (hv : PlRow w B y n f) (hB : B ≤ w.heap.size) :
    Calls Try.prog 83 #[y] w (Gives 67 n f id w) := by
  have HS := Lib.hid hv.sl
  obtain ⟨A, cap, rfl, h1, h2, h3⟩ := hv
  obtain ⟨b, off, rfl, hb, hc⟩ := h3 hn0
  clear h2
  obtain ⟨xs, hxs⟩ : ∃ xs, xs = plc (listP f n) := ⟨_, rfl⟩
  have HONE : Hid (∀ u ∈ xs, u.oneCell' = true) := by rw [hxs]; exact plc_one _
  rw [← hxs] at HS
  have HX := Lib.hid hxs
  clear h3 hc hxs
  have hnil := fun (W : World) => Lib.run_eql_slice_nil (P := Try.prog) W 30 67 (some ⟨b, off, none⟩) n cap 0 0 Try.underlying30
  go_enter Try.func83, Try.ntmps83
  go_wp2_with (first
    | (at_builtin; refine wpList_apv _ rfl stPlaces _ _ rfl w.heap.size (.slice (some ⟨w.heap.size, 0, none⟩) 0 0) 0 [] rfl ⟨by simp, .inr ⟨w.heap.size, 0, #[], rfl, Nat.le_refl _, heap_alloc_new w _, Nat.le_refl _, by simp [maxLen], by simp, by simp⟩⟩ B _ n xs rfl (HS.out.below (by (repeat' (first | (with_reducible exact Below.refl _ _) | (with_reducible refine Below.alloc ?_ ?_ _) | go_size)))) HONE.out (by omega) (by go_size) ?_; intro A2 c2 w9 hown2 hgr2 hat2 hbel2; clear hgr2 hat2))
  have HO0 : w9.ownsRow w.heap.size 67 6 (.slice A2 n c2) n (plc (listP f n)) := by
    rw [← HX.out]
    simpa using hown2
  have HO := Lib.hid HO0
  clear HO0
  have HB9 : Hid (Below w.heap.size w w9) := Below.trans ((Below.refl _ _).alloc (Nat.le_refl _) _) hbel2
  clear hown2 hbel2
  go_wp2
  go_ret
  exact ⟨_, by first | rfl | (simp; done), RowOf.of_own HO.out, HB9.out⟩
set_option maxRecDepth 20000 in
set_option maxHeartbeats 3200000 in
theorem book_Bucket {w : World} {D : Nat → Prop} {p q S B n : Nat} {g : Nat → Nat → Pl} (h : BkAt w D p q S B n g) (hS : 1 ≤ S ∧ S ≤ 8) (hB : 1 ≤ B ∧ B ≤ 16) (hn0 : 0 < n) (hn : n ≤ 8) (s t : Int) (H : Nat) (hh2 : H < S * B) (ha : atI S B s t = (H : Int)) :
    Calls Try.prog 43 #[.pointer (some ⟨p, 0, none⟩), .int .i64 s, .int .i64 t] w (Gives 67 n (g H) id w) := by
  obtain ⟨M, hM⟩ : ∃ M, M = S * B := ⟨_, rfl⟩
  rw [← hM] at hh2
  have hMB : M ≤ 128 := by rw [hM]; exact Nat.mul_le_mul hS.2 hB.2
  have hhm := fun w' (hb : Below w.heap.size w w') => book_at ((SizeOf.of h).call hb) (by omega) (by omega) (by omega) s t
  rw [ha] at hhm
  have HHM := Lib.hid hhm
  have HBK := Lib.hid h
  have HM := Lib.hid hM
  have HL := Lib.hid fun w u (hr : PlRow w w.heap.size u n (g H)) => clone_places hn0 (by omega) hr (Nat.le_refl _)
  clear hM h ha hhm
  go_enter Try.func43, Try.ntmps43
  go_wp2_with fail
  refine (HHM.out _ (Below.refl _ _)).mono ?_
  rintro e w2 ⟨rfl, hb⟩
  have HB2 : Hid (Below w.heap.size w w2) := hb
  have HBK2 := Lib.hid (HBK.out.call HB2.out)
  clear hb HHM
  obtain ⟨hp, hq0, hpq, _, _, _, ⟨cap, c1, c2, s2⟩, hfz, hrows⟩ := HBK2.out
  rw [← HM.out] at c1 s2 hrows
  obtain ⟨v0, s3, hrow⟩ := hrows H hh2
  unfold maxLen at c2
  have g0 : (0 : Int) ≤ (H : Int) := Int.natCast_nonneg _
  have g1 : (H : Int) < (M : Int) := by omega
  have g2 : ¬ (H : Int) < 0 := by omega
  have HROW := Lib.hid hrow.row
  have hz2 := HB2.out.size
  clear hrow hrows
  go_wp2_with fail
  refine Calls.mono (HL.out _ _ HROW.out) ?_
  intro e w4 hpost
  obtain ⟨va, he, hra, hb⟩ := hpost
  simp only [id] at he
  subst he
  have HRA := Lib.hid (hra.base hz2)
  have HB4 : Hid (Below w.heap.size w w4) := HB2.out.trans (hb.mono hz2)
  clear hra hb
  go_wp2
  go_ret
  exact ⟨_, rfl, HRA.out, HB4.out⟩
end
section
open Go.RowKit

set_option maxRecDepth 20000 in
set_option maxHeartbeats 12800000 in
theorem book_Copy {w : World} {D : Nat → Prop} {p q S B n : Nat} {g : Nat → Nat → Pl} (h : BkAt w D p q S B n g) (hS : 1 ≤ S ∧ S ≤ 8) (hB : 1 ≤ B ∧ B ≤ 16) (hn : 1 ≤ n ∧ n ≤ 8) :
    Calls Try.prog 47 #[.pointer (some ⟨p, 0, none⟩)] w fun e w' => ∃ p2 q2, e = .returned (.pointer (some ⟨p2, 0, none⟩)) ∧
      BkAt w' (fun b => b ≤ p2) p2 q2 S B n g ∧ w.heap.size ≤ q2 ∧ q2 < p2 ∧ Below w.heap.size w w' := by
  obtain ⟨M, hM⟩ : ∃ M, M = S * B := ⟨_, rfl⟩
  have hMB : M ≤ 128 := by rw [hM]; exact Nat.mul_le_mul hS.2 hB.2
  have HM := Lib.hid hM
  have HBK := Lib.hid h
  have HCL := Lib.hid fun f w u (hr : PlRow w w.heap.size u n f) => clone_places hn.1 (by omega) hr (Nat.le_refl _)
  have hk1 := fun W => run_mkFull (P := Try.prog) W stRows M (by omega)
  obtain ⟨hp, hq0, hpq, s0, s1, s2, ⟨cap, c1, c2, s3⟩, _, _⟩ := h
  rw [← hM] at c1 s3
  unfold maxLen at c2
  clear hM
  go_enter Try.func47, Try.ntmps47
  go_wp2_with fail
  refine wp_region_held_drew (S := fun w' => w'.cell? ⟨p, 0, none⟩ = some (.int .i64 (S : Nat)) ∧ w'.cell? ⟨p, 1, none⟩ = some (.int .i64 (B : Nat)) ∧ w'.cell? ⟨p, 2, none⟩ = some (.int .i64 (n : Nat)) ∧ w'.cell? ⟨p, 3, none⟩ = some (.slice (some ⟨q, 0, none⟩) M cap)) (by kernel_rfl) ?_ (fun hHeld => ?_)
  · exact ⟨s0, s1, s2, s3⟩
  refine wpAnyH_take (i := 0) (oi := { dst := some 8, op := Go.Op.move (Go.Operand.tmp 0), type := 82, pos := "book.go:44", after := #[], guard := none }) (v := ?_) rfl (by kernel_rfl) (by kernel_rfl) (by kernel_rfl) (fun _ _ _ h => h) (Or.inl ⟨by rfl, ?_⟩) (by assumption) ?_
  rotate_left
  · intro w hSw
    (try dsimp only at hSw)
    go_simp
    try with_reducible rfl
  (try simp only [Act.put, List.setIfInBounds_toArray, List.set_cons_zero, List.set_cons_succ])
  refine wpAnyH_take (i := 1) (oi := { dst := some 9, op := Go.Op.nilCheck (Go.Operand.tmp 8), type := 0, pos := "book.go:44", after := #[{ on := 0, ground := Go.Ground.data }], guard := none }) (v := ?_) rfl (by kernel_rfl) (by kernel_rfl) (by kernel_rfl) (fun _ _ _ h => h) (Or.inl ⟨by rfl, ?_⟩) (by assumption) ?_
  rotate_left
  · intro w hSw
    (try dsimp only at hSw)
    go_simp
    try with_reducible rfl
  (try simp only [Act.put, List.setIfInBounds_toArray, List.set_cons_zero, List.set_cons_succ])
  refine wpAnyH_take (i := 2) (oi := { dst := some 10, op := Go.Op.fieldAddr 136 (Go.Operand.tmp 9) 0, type := 0, pos := "book.go:44", after := #[{ on := 1, ground := Go.Ground.data }], guard := none }) (v := ?_) rfl (by kernel_rfl) (by kernel_rfl) (by kernel_rfl) (fun _ _ _ h => h) (Or.inl ⟨by rfl, ?_⟩) (by assumption) ?_
  rotate_left
  · intro w hSw
    (try dsimp only at hSw)
    go_simp
    try with_reducible rfl
  (try simp only [Act.put, List.setIfInBounds_toArray, List.set_cons_zero, List.set_cons_succ])
  refine wpAnyH_take (i := 3) (oi := { dst := some 11, op := Go.Op.load 86 (Go.Operand.tmp 10), type := 86, pos := "book.go:44", after := #[{ on := 2, ground := Go.Ground.data }], guard := none }) (v := ?_) rfl (by kernel_rfl) (by kernel_rfl) (by kernel_rfl) (fun _ _ _ h => h) (Or.inl ⟨by rfl, ?_⟩) (by assumption) ?_
  rotate_left
  · intro w hSw
    (try dsimp only at hSw)
    go_simp
    try with_reducible rfl
  (try simp only [Act.put, List.setIfInBounds_toArray, List.set_cons_zero, List.set_cons_succ])
  refine wpAnyH_take (i := 4) (oi := { dst := some 12, op := Go.Op.move (Go.Operand.tmp 0), type := 82, pos := "book.go:44", after := #[], guard := none }) (v := ?_) rfl (by kernel_rfl) (by kernel_rfl) (by kernel_rfl) (fun _ _ _ h => h) (Or.inl ⟨by rfl, ?_⟩) (by assumption) ?_
  rotate_left
  · intro w hSw
    (try dsimp only at hSw)
    go_simp
    try with_reducible rfl
  (try simp only [Act.put, List.setIfInBounds_toArray, List.set_cons_zero, List.set_cons_succ])
  refine wpAnyH_take (i := 5) (oi := { dst := some 13, op := Go.Op.nilCheck (Go.Operand.tmp 12), type := 0, pos := "book.go:44", after := #[{ on := 4, ground := Go.Ground.data }], guard := none }) (v := ?_) rfl (by kernel_rfl) (by kernel_rfl) (by kernel_rfl) (fun _ _ _ h => h) (Or.inl ⟨by rfl, ?_⟩) (by assumption) ?_
  rotate_left
  · intro w hSw
    (try dsimp only at hSw)
    go_simp
    try with_reducible rfl
  (try simp only [Act.put, List.setIfInBounds_toArray, List.set_cons_zero, List.set_cons_succ])
  refine wpAnyH_take (i := 6) (oi := { dst := some 14, op := Go.Op.fieldAddr 136 (Go.Operand.tmp 13) 1, type := 0, pos := "book.go:44", after := #[{ on := 5, ground := Go.Ground.data }], guard := none }) (v := ?_) rfl (by kernel_rfl) (by kernel_rfl) (by kernel_rfl) (fun _ _ _ h => h) (Or.inl ⟨by rfl, ?_⟩) (by assumption) ?_
  rotate_left
  · intro w hSw
    (try dsimp only at hSw)
    go_simp
    try with_reducible rfl
  (try simp only [Act.put, List.setIfInBounds_toArray, List.set_cons_zero, List.set_cons_succ])
  refine wpAnyH_take (i := 7) (oi := { dst := some 15, op := Go.Op.load 134 (Go.Operand.tmp 14), type := 134, pos := "book.go:44", after := #[{ on := 6, ground := Go.Ground.data }], guard := none }) (v := ?_) rfl (by kernel_rfl) (by kernel_rfl) (by kernel_rfl) (fun _ _ _ h => h) (Or.inl ⟨by rfl, ?_⟩) (by assumption) ?_
  rotate_left
  · intro w hSw
    (try dsimp only at hSw)
    go_simp
    try with_reducible rfl
  (try simp only [Act.put, List.setIfInBounds_toArray, List.set_cons_zero, List.set_cons_succ])
  refine wpAnyH_take (i := 8) (oi := { dst := some 16, op := Go.Op.call { callee := Go.Callee.builtin Go.Builtin.len, args := #[Go.Operand.tmp 15], argTypes := #[134] }, type := 3, pos := "book.go:44", after := #[{ on := 7, ground := Go.Ground.data }], guard := none }) (v := ?_) rfl (by kernel_rfl) (by kernel_rfl) (by kernel_rfl) (fun _ _ _ h => h) (Or.inl ⟨by rfl, ?_⟩) (by assumption) ?_
  rotate_left
  · intro w hSw
    (try dsimp only at hSw)
    go_simp
    try with_reducible rfl
  (try simp only [Act.put, List.setIfInBounds_toArray, List.set_cons_zero, List.set_cons_succ])
  refine wpAnyH_ready (rs := [9]) (by kernel_rfl) (by simp) ?_
  refine AllReadyH.cons (o := { dst := some 17, op := Go.Op.makeSlice 134 (Go.Operand.tmp 16) (Go.Operand.tmp 16), type := 134, pos := "book.go:44", after := #[{ on := 8, ground := Go.Ground.data }, { on := 8, ground := Go.Ground.data }], guard := none }) rfl (fun K hK => ?_) AllReadyH.nil
  go_simp

  refine hK.out _ _ ?_ (fun hHeld => ?_)
  · (try dsimp only)
    obtain ⟨q0, q1, q2, q3⟩ := hHeld
    exact ⟨(World.cell?_alloc_lt _ _ _ (by show p < w.heap.size; omega)).trans q0, (World.cell?_alloc_lt _ _ _ (by show p < w.heap.size; omega)).trans q1, (World.cell?_alloc_lt _ _ _ (by show p < w.heap.size; omega)).trans q2, (World.cell?_alloc_lt _ _ _ (by show p < w.heap.size; omega)).trans q3⟩
  clear hK K
  (try simp only [Act.put, List.setIfInBounds_toArray, List.set_cons_zero, List.set_cons_succ])
  refine wpAnyH_take (i := 10) (oi := { dst := some 18, op := Go.Op.build 136 #[(0, Go.Operand.tmp 11), (1, Go.Operand.tmp 17)], type := 136, pos := "book.go:44", after := #[{ on := 3, ground := Go.Ground.data }, { on := 9, ground := Go.Ground.data }], guard := none }) (v := ?_) rfl (by kernel_rfl) (by kernel_rfl) (by kernel_rfl) (fun _ _ _ h => h) (Or.inl ⟨by rfl, ?_⟩) (by assumption) ?_
  rotate_left
  · intro w hSw
    (try dsimp only at hSw)
    go_simp
    try with_reducible rfl
  (try simp only [Act.put, List.setIfInBounds_toArray, List.set_cons_zero, List.set_cons_succ])
  refine wpAnyH_ready (rs := [11]) (by kernel_rfl) (by simp) ?_
  refine AllReadyH.cons (o := { dst := some 19, op := Go.Op.box 136 (Go.Operand.tmp 18), type := 82, pos := "book.go:44", after := #[{ on := 10, ground := Go.Ground.data }], guard := none }) rfl (fun K hK => ?_) AllReadyH.nil
  go_simp

  refine hK.out _ _ ?_ (fun hHeld => ?_)
  · (try dsimp only)
    obtain ⟨q0, q1, q2, q3⟩ := hHeld
    exact ⟨(World.cell?_alloc_lt _ _ _ (by show p < _; simp; omega)).trans q0, (World.cell?_alloc_lt _ _ _ (by show p < _; simp; omega)).trans q1, (World.cell?_alloc_lt _ _ _ (by show p < _; simp; omega)).trans q2, (World.cell?_alloc_lt _ _ _ (by show p < _; simp; omega)).trans q3⟩
  clear hK K
  (try simp only [Act.put, List.setIfInBounds_toArray, List.set_cons_zero, List.set_cons_succ])
  refine wpAnyH_take (i := 12) (oi := { dst := some 3, op := Go.Op.assign (Go.Operand.tmp 19), type := 82, pos := "book.go:44", after := #[{ on := 11, ground := Go.Ground.data }, { on := 0, ground := Go.Ground.phase }, { on := 1, ground := Go.Ground.phase }, { on := 2, ground := Go.Ground.phase }, { on := 3, ground := Go.Ground.phase }, { on := 4, ground := Go.Ground.phase }, { on := 5, ground := Go.Ground.phase }, { on := 6, ground := Go.Ground.phase }, { on := 7, ground := Go.Ground.phase }, { on := 8, ground := Go.Ground.phase }, { on := 9, ground := Go.Ground.phase }, { on := 10, ground := Go.Ground.phase }, { on := 11, ground := Go.Ground.phase }], guard := none }) (v := ?_) rfl (by kernel_rfl) (by kernel_rfl) (by kernel_rfl) (fun _ _ _ h => h) (Or.inl ⟨by rfl, ?_⟩) (by assumption) ?_
  rotate_left
  · intro w hSw
    (try dsimp only at hSw)
    go_simp
    try with_reducible rfl
  (try simp only [Act.put, List.setIfInBounds_toArray, List.set_cons_zero, List.set_cons_succ])
  refine wpAnyH_done (by kernel_rfl) ?_ _
  obtain ⟨q2, hq2⟩ : ∃ q2, q2 = w.heap.size := ⟨_, rfl⟩
  obtain ⟨p2, hp2⟩ : ∃ p2, p2 = w.heap.size + 1 := ⟨_, rfl⟩
  obtain ⟨w2, hw2⟩ : ∃ w2, w2 = ((w.alloc (.cells (mkC (.slice none 0 0) 1 M) 30)).alloc (.cells #[.int .i64 (S : Nat), .int .i64 (B : Nat), .int .i64 (n : Nat), .slice (some ⟨q2, 0, none⟩) M M] 136)).drew := ⟨_, rfl⟩
  have HQ0 : Hid (w2.rowIs q2 30 M (fun _ => .slice none 0 0)) := by rw [hw2, hq2]; exact (rowIs_nils.alloc _).drew
  have HP0 : Hid (w2.cell? ⟨p2, 0, none⟩ = some (.int .i64 (S : Nat)) ∧ w2.cell? ⟨p2, 1, none⟩ = some (.int .i64 (B : Nat)) ∧ w2.cell? ⟨p2, 2, none⟩ = some (.int .i64 (n : Nat)) ∧ w2.cell? ⟨p2, 3, none⟩ = some (.slice (some ⟨q2, 0, none⟩) M M)) := by
    rw [hw2, hp2]
    exact ⟨by simp [go_sem], by simp [go_sem], by simp [go_sem], by simp [go_sem]⟩
  have HB2 : Hid (Below w.heap.size w w2) := by rw [hw2]; exact (((Below.refl _ _).alloc (Nat.le_refl _) _).alloc (by simp) _).drew
  have hpz2 : p2 < w2.heap.size := by rw [hw2, hp2]; simp
  have hqp2 : q2 + 1 = p2 := by rw [hp2, hq2]
  have HW : Hid (w.heap.size = q2) := hq2.symm
  rw [← hp2, ← hq2, ← hw2]
  have hpl : p < q2 := by rw [hq2]; exact hp
  have hql : q < q2 := by rw [hq2]; exact hq0
  clear hw2 hp2 hHeld s0 s1 s2 hk1
  have HK2 := Lib.hid (HBK.out.call HB2.out)
  have y3 := (HB2.out.cell (p := ⟨p, 3, none⟩) hp).trans s3
  clear s3 hq2
  go_wp2
  clear y3
  go_loopw [25] (fun i wr => ∃ (k : Nat) (G : Nat → Value), k ≤ M ∧ i = .int .i64 k ∧ p2 < wr.heap.size ∧ Hid (wr.rowIs q2 30 M G) ∧ Hid (∀ i, i < k → PlRowD wr (fun b => b ≤ p2) (G i) n (g i)) ∧ Hid (wr.cell? ⟨p2, 0, none⟩ = some (.int .i64 (S : Nat)) ∧ wr.cell? ⟨p2, 1, none⟩ = some (.int .i64 (B : Nat)) ∧ wr.cell? ⟨p2, 2, none⟩ = some (.int .i64 (n : Nat)) ∧ wr.cell? ⟨p2, 3, none⟩ = some (.slice (some ⟨q2, 0, none⟩) M M)) ∧ Hid (BkAt wr D p q S B n g) ∧ Hid (Below w.heap.size w wr)) (fun i _ => M - (intOf i).toNat)
  case atStart => exact ⟨0, _, by omega, rfl, hpz2, HQ0, fun i hi => absurd hi (by omega), HP0, HK2, HB2⟩
  case round =>
    obtain ⟨k, G, hk, rfl, hpz, HQ, HR, HP, HK, HB⟩ := hrel
    obtain ⟨t0, t1, t2, t3⟩ := HP.out
    by_cases hlt : k < M
    · have g0 : (0 : Int) ≤ (k : Int) := Int.natCast_nonneg _
      have g1 : (k : Int) < (M : Int) := by omega
      obtain ⟨v0, s3, hrow⟩ := HK.out.2.2.2.2.2.2.2.2 k (by rw [← HM.out]; exact hlt)
      have HROW := Lib.hid hrow.row
      clear hrow
      go_wp2_with fail
      refine wp_region_held_drew (S := fun w' => w'.cell? ⟨p2, 3, none⟩ = some (.slice (some ⟨q2, 0, none⟩) M M)) (by kernel_rfl) ?_ (fun hHeld => ?_)
      · exact t3
      refine wpAnyH_take (i := 0) (oi := { dst := some 30, op := Go.Op.move (Go.Operand.tmp 3), type := 82, pos := "book.go:46", after := #[], guard := none }) (v := ?_) rfl (by kernel_rfl) (by kernel_rfl) (by kernel_rfl) (fun _ _ _ h => h) (Or.inl ⟨by rfl, ?_⟩) (by assumption) ?_
      rotate_left
      · intro w hSw
        (try dsimp only at hSw)
        go_simp
        try with_reducible rfl
      (try simp only [Act.put, List.setIfInBounds_toArray, List.set_cons_zero, List.set_cons_succ])
      refine wpAnyH_take (i := 1) (oi := { dst := some 31, op := Go.Op.nilCheck (Go.Operand.tmp 30), type := 0, pos := "book.go:46", after := #[{ on := 0, ground := Go.Ground.data }], guard := none }) (v := ?_) rfl (by kernel_rfl) (by kernel_rfl) (by kernel_rfl) (fun _ _ _ h => h) (Or.inl ⟨by rfl, ?_⟩) (by assumption) ?_
      rotate_left
      · intro w hSw
        (try dsimp only at hSw)
        go_simp
        try with_reducible rfl
      (try simp only [Act.put, List.setIfInBounds_toArray, List.set_cons_zero, List.set_cons_succ])
      refine wpAnyH_take (i := 2) (oi := { dst := some 32, op := Go.Op.fieldAddr 136 (Go.Operand.tmp 31) 1, type := 0, pos := "book.go:46", after := #[{ on := 1, ground := Go.Ground.data }], guard := none }) (v := ?_) rfl (by kernel_rfl) (by kernel_rfl) (by kernel_rfl) (fun _ _ _ h => h) (Or.inl ⟨by rfl, ?_⟩) (by assumption) ?_
      rotate_left
      · intro w hSw
        (try dsimp only at hSw)
        go_simp
        try with_reducible rfl
      (try simp only [Act.put, List.setIfInBounds_toArray, List.set_cons_zero, List.set_cons_succ])
      refine wpAnyH_take (i := 3) (oi := { dst := some 33, op := Go.Op.load 134 (Go.Operand.tmp 32), type := 134, pos := "book.go:46", after := #[{ on := 2, ground := Go.Ground.data }], guard := none }) (v := ?_) rfl (by kernel_rfl) (by kernel_rfl) (by kernel_rfl) (fun _ _ _ h => h) (Or.inl ⟨by rfl, ?_⟩) (by assumption) ?_
      rotate_left
      · intro w hSw
        (try dsimp only at hSw)
        go_simp
        try with_reducible rfl
      (try simp only [Act.put, List.setIfInBounds_toArray, List.set_cons_zero, List.set_cons_succ])
      refine wpAnyH_take (i := 4) (oi := { dst := some 34, op := Go.Op.move (Go.Operand.tmp 4), type := 3, pos := "book.go:46", after := #[], guard := none }) (v := ?_) rfl (by kernel_rfl) (by kernel_rfl) (by kernel_rfl) (fun _ _ _ h => h) (Or.inl ⟨by rfl, ?_⟩) (by assumption) ?_
      rotate_left
      · intro w hSw
        (try dsimp only at hSw)
        go_simp
        try with_reducible rfl
      (try simp only [Act.put, List.setIfInBounds_toArray, List.set_cons_zero, List.set_cons_succ])
      refine wpAnyH_take (i := 5) (oi := { dst := some 35, op := Go.Op.move (Go.Operand.tmp 5), type := 30, pos := "book.go:46", after := #[], guard := none }) (v := ?_) rfl (by kernel_rfl) (by kernel_rfl) (by kernel_rfl) (fun _ _ _ h => h) (Or.inl ⟨by rfl, ?_⟩) (by assumption) ?_
      rotate_left
      · intro w hSw
        (try dsimp only at hSw)
        go_simp
        try with_reducible rfl
      (try simp only [Act.put, List.setIfInBounds_toArray, List.set_cons_zero, List.set_cons_succ])
      refine wpAnyH_ready (rs := [6]) (by kernel_rfl) (by simp) ?_
      refine AllReadyH.cons (o := { dst := some 36, op := Go.Op.call { callee := Go.Callee.value (Go.Operand.func 83), args := #[Go.Operand.tmp 35], argTypes := #[30] }, type := 30, pos := "book.go:46", after := #[{ on := 5, ground := Go.Ground.data }], guard := none }) rfl (fun K hK => ?_) AllReadyH.nil
      go_simp
      refine Calls.mono (HCL.out _ _ _ (HROW.out.below (by (repeat' (first | (with_reducible exact Below.refl _ _) | (with_reducible assumption) | (with_reducible refine Below.setCell ?_ ?_ _) | (with_reducible refine Below.alloc ?_ ?_ _) | (with_reducible refine below_drewN ?_ _) | (with_reducible refine Below.drew ?_) | go_size))))) ?_
      intro e v1 hpost
      obtain ⟨va, he, hra, hb⟩ := hpost
      simp only [id] at he
      subst he
      have HRA := Lib.hid hra
      obtain ⟨Av, cv, hva, _⟩ := hra
      subst hva
      have hb1 : Below wr.heap.size wr v1 := ((Below.refl wr.heap.size wr).drew).trans hb
      have HQ1 : Hid (v1.rowIs q2 30 M G) := HQ.out.of_block (hb1.block q2 (by omega))
      have y1 := HQ1.out.cell hlt
      have y2 := HQ1.out.frozen
      have hz1 := hb1.size
      refine hK.out _ _ ?_ (fun hHeld => ?_)
      · (try dsimp only)
        exact (hb.cell (p := ⟨p2, _, none⟩) (by show p2 < wr.heap.size; omega)).trans hHeld
      clear hK K
      (try simp only [Act.put, List.setIfInBounds_toArray, List.set_cons_zero, List.set_cons_succ])
      refine wpAnyH_take (i := 7) (oi := { dst := some 37, op := Go.Op.indexAddr 134 (Go.Operand.tmp 33) (Go.Operand.tmp 34), type := 0, pos := "book.go:46", after := #[{ on := 3, ground := Go.Ground.data }, { on := 4, ground := Go.Ground.data }, { on := 0, ground := Go.Ground.phase }, { on := 1, ground := Go.Ground.phase }, { on := 2, ground := Go.Ground.phase }, { on := 3, ground := Go.Ground.phase }, { on := 4, ground := Go.Ground.phase }, { on := 5, ground := Go.Ground.phase }, { on := 6, ground := Go.Ground.phase }], guard := none }) (v := ?_) rfl (by kernel_rfl) (by kernel_rfl) (by kernel_rfl) (fun _ _ _ h => h) (Or.inl ⟨by rfl, ?_⟩) (by assumption) ?_
      rotate_left
      · intro w hSw
        (try dsimp only at hSw)
        go_simp
        try with_reducible rfl
      (try simp only [Act.put, List.setIfInBounds_toArray, List.set_cons_zero, List.set_cons_succ])
      refine wpAnyH_ready (rs := [8]) (by kernel_rfl) (by simp) ?_
      refine AllReadyH.cons (o := { dst := none, op := Go.Op.store 30 (Go.Operand.tmp 37) (Go.Operand.tmp 36), type := 0, pos := "book.go:46", after := #[{ on := 7, ground := Go.Ground.data }, { on := 6, ground := Go.Ground.data }, { on := 6, ground := Go.Ground.chain }, { on := 0, ground := Go.Ground.phase }, { on := 1, ground := Go.Ground.phase }, { on := 2, ground := Go.Ground.phase }, { on := 3, ground := Go.Ground.phase }, { on := 4, ground := Go.Ground.phase }, { on := 5, ground := Go.Ground.phase }, { on := 6, ground := Go.Ground.phase }], guard := none }) rfl (fun K hK => ?_) AllReadyH.nil
      go_simp

      refine hK.out _ _ ?_ (fun hHeld => ?_)
      · (try dsimp only)
        exact ((But.set k _).cell (show p2 < v1.heap.size by omega) (show p2 ≠ q2 by omega)).trans hHeld
      clear hK K
      (try simp only [Act.put, List.setIfInBounds_toArray, List.set_cons_zero, List.set_cons_succ])
      refine wpAnyH_done (by kernel_rfl) ?_ _
      obtain ⟨v2, hv2⟩ : ∃ w', w' = v1.setCell ⟨q2, k, none⟩ (.slice Av n cv) := ⟨_, rfl⟩
      have hbut : But q2 wr v2 := by rw [hv2]; exact (But.of hb1 (by omega)).trans (But.set k _)
      have HQ2 : Hid (v2.rowIs q2 30 M (fun j => if j = k then .slice Av n cv else G j)) := by rw [hv2]; exact HQ1.out.set k _
      have HR2 : Hid (∀ i, i < k + 1 → PlRowD v2 (fun b => b ≤ p2) ((fun j => if j = k then .slice Av n cv else G j) i) n (g i)) := fun i hi => by
        by_cases hik : i = k
        · show PlRowD v2 _ (if i = k then _ else _) n _
          rw [if_pos hik, hv2, hik]
          exact (PlRowD.of_own (D := fun b => b ≤ p2) HRA.out (fun b hb => by show b < wr.heap.size; have : b ≤ p2 := hb; omega)).but (But.set k _) (by show q2 ≤ p2; omega)
        · show PlRowD v2 _ (if i = k then _ else _) n _
          rw [if_neg hik]
          exact (HR.out i (by omega)).but hbut (by show q2 ≤ p2; omega)
      have cz := hbut.below.size
      have HP2 : Hid (v2.cell? ⟨p2, 0, none⟩ = some (.int .i64 (S : Nat)) ∧ v2.cell? ⟨p2, 1, none⟩ = some (.int .i64 (B : Nat)) ∧ v2.cell? ⟨p2, 2, none⟩ = some (.int .i64 (n : Nat)) ∧ v2.cell? ⟨p2, 3, none⟩ = some (.slice (some ⟨q2, 0, none⟩) M M)) :=
        ⟨(hbut.cell (show p2 < _ by omega) (show p2 ≠ q2 by omega)).trans t0, (hbut.cell (show p2 < _ by omega) (show p2 ≠ q2 by omega)).trans t1, (hbut.cell (show p2 < _ by omega) (show p2 ≠ q2 by omega)).trans t2, (hbut.cell (show p2 < _ by omega) (show p2 ≠ q2 by omega)).trans t3⟩
      have HB3 : Hid (Below w.heap.size w v2) := HB.out.trans (hbut.below.mono (by rw [HW.out]; exact Nat.le_refl _))
      have HK3 : Hid (BkAt v2 D p q S B n g) := HBK.out.call HB3.out
      rw [← hv2]
      have hpz2' : p2 < v2.heap.size := by omega
      clear hv2 hHeld y1 y2 HRA HQ1 HQ HR HP HB HK hbut hb1 hb t0 t1 t2 t3 s3 HROW
      go_wp2
      go_roundw
      case rel => exact ⟨k + 1, _, by omega, by go_num, hpz2', HQ2, HR2, HP2, HK3, HB3⟩
      case measure => simp [intOf]; omega
    · have hkM : M = k := by omega
      subst hkM
      go_wp2
      go_ret
      have hcap : M ≤ maxLen := by unfold maxLen; omega
      refine ⟨p2, q2, rfl, ⟨hpz, by omega, by omega, t0, t1, t2, ⟨M, by rw [← HM.out]; exact Nat.le_refl _, hcap, ?_⟩, HQ.out.frozen, fun i hi => ?_⟩, by rw [HW.out]; exact Nat.le_refl _, by omega, HB.out⟩
      · rw [← HM.out]; exact t3
      · rw [← HM.out] at hi
        exact ⟨_, HQ.out.cell hi, HR.out i hi⟩
end
section
open Go.RowKit

theorem at_div {S B i : Nat} (hB : 1 ≤ B) (hi : i < S * B) : (i : Int).tdiv (B : Int) = ((i / B : Nat) : Int) ∧ (i : Int).tmod (B : Int) = ((i % B : Nat) : Int) ∧ atI S B ((i / B : Nat) : Int) ((i % B : Nat) : Int) = (i : Int) := by
  have h1 : i / B < S := (Nat.div_lt_iff_lt_mul hB).2 hi
  have h2 : i % B < B := Nat.mod_lt i hB
  refine ⟨by rw [Int.tdiv_eq_ediv_of_nonneg (by omega)]; simp, by rw [Int.tmod_eq_emod_of_nonneg (by omega)]; simp, ?_⟩
  have h3 := Nat.div_add_mod i B
  have h4 : ((B * (i / B) + i % B : Nat) : Int) = (i : Int) := by rw [h3]
  rw [← h4, Int.natCast_add, Int.natCast_mul, Int.mul_comm]
  clear h3 h4 hi
  generalize i / B = x at *
  generalize i % B = y at *
  unfold atI
  rw [if_pos ⟨Int.natCast_nonneg _, by exact_mod_cast h1, Int.natCast_nonneg _, by exact_mod_cast h2⟩]
theorem doG_other {K : Nat} {v : Int} {m : Nat} {port vid : Int} {now old S B n : Nat} {g : Nat → Nat → Pl} (h5 : K ≠ 5) (h6 : K ≠ 6) {i : Nat} (hi : i ≠ homeN v m S B) : (doG K v m port vid now old S B n g).1 i = g i := by
  unfold doG
  split
  · rfl
  · split
    · show updR _ _ _ i = g i
      unfold updR
      rw [if_neg hi]
    · split
      · show updR _ _ _ i = g i
        unfold updR
        rw [if_neg hi]
      · show updR _ _ _ i = g i
        unfold updR
        rw [if_neg hi]
theorem home_place {v : Int} {m S B : Nat} (hS : 1 ≤ S) (hB : 1 ≤ B) : plS v m S B * (B : Int) + plB v m S B = (homeN v m S B : Nat) := by
  have h := pl_bd v m S B
  have e1 : ((plS v m S B).toNat : Int) = plS v m S B := Int.toNat_of_nonneg h.1
  have e2 : ((plB v m S B).toNat : Int) = plB v m S B := Int.toNat_of_nonneg h.2.2.1
  unfold homeN
  rw [Int.natCast_add, Int.natCast_mul, e1, e2]
end
section
open Go.RowKit

theorem home_nums (v : Int) (m : Nat) {S B : Nat} (hS : 1 ≤ S ∧ S ≤ 8) (hB : 1 ≤ B ∧ B ≤ 16) : ∃ a b : Nat, plS v m S B = (a : Int) ∧ plB v m S B = (b : Int) ∧ homeN v m S B = a * B + b ∧ wrap64 ((a : Int) * (B : Int)) = ((a * B : Nat) : Int) ∧ wrap64 (((a * B : Nat) : Int) + (b : Int)) = ((a * B + b : Nat) : Int) ∧
    IntKind.i64.wrap ((a : Int) * (B : Int)) = ((a * B : Nat) : Int) ∧ IntKind.i64.wrap (((a * B : Nat) : Int) + (b : Int)) = ((a * B + b : Nat) : Int) := by
  obtain ⟨h1, h2, h3, h4⟩ := pl_bd v m (S : Int) (B : Int)
  obtain ⟨a, ha⟩ := Int.eq_ofNat_of_zero_le h1
  obtain ⟨b, hb⟩ := Int.eq_ofNat_of_zero_le h3
  have ha2 : a < S := by have := h2 (by omega); omega
  have hb2 : b < B := by have := h4 (by omega); omega
  have hab : a * B ≤ 8 * 16 := Nat.mul_le_mul (by omega) hB.2
  have e1 : (a : Int) * (B : Int) = ((a * B : Nat) : Int) := by simp
  have e2 : ((a * B : Nat) : Int) + (b : Int) = ((a * B + b : Nat) : Int) := by simp
  refine ⟨a, b, ha, hb, ?_, ?_, ?_, ?_, ?_⟩
  · unfold homeN; rw [ha, hb]; simp
  · rw [e1]; exact IntWalk.wrap64_in _ (by omega)
  · rw [e2]; exact IntWalk.wrap64_in _ (by omega)
  · rw [e1]; exact IntWalk.i64_in _ (by omega)
  · rw [e2]; exact IntWalk.i64_in _ (by omega)

set_option maxRecDepth 20000 in
set_option maxHeartbeats 1600000 in
theorem ref11_at {w : World} {D : Nat → Prop} {p q S B n : Nat} {g : Nat → Nat → Pl} (h : BkAt w D p q S B n g) (hS : 1 ≤ S ∧ S ≤ 8) (hB : 1 ≤ B ∧ B ≤ 16) (v : Int) (m : Nat) (hm : m < 18446744073709551616) :
    Calls Try.prog 94 #[.pointer (some ⟨p, 0, none⟩), .agg #[.int .i64 v, .int .u64 (m : Int)]] w (Says (.int .i64 (homeN v m S B : Nat)) w) := by
  obtain ⟨a, b, h1, h2, h3, h4, h5, h6, h7⟩ := home_nums v m hS hB
  have hpl := fun w => ref8_Place v m hm (S : Int) (B : Int) (by omega) (by omega) w
  rw [h1, h2] at hpl
  rw [h3]
  have HPL := Lib.hid hpl
  obtain ⟨hp, _, _, s0, s1, _⟩ := h
  have c0 := (World.cell?_alloc_lt w (.cells #[.int .i64 v, .int .u64 (m : Int)] 25) ⟨p, 0, none⟩ hp).trans s0
  have c1 := (World.cell?_alloc_lt w (.cells #[.int .i64 v, .int .u64 (m : Int)] 25) ⟨p, 1, none⟩ hp).trans s1
  have b0 : (w.alloc (.cells #[.int .i64 v, .int .u64 (m : Int)] 25)).cell? ⟨w.heap.size, 0, none⟩ = some (.int .i64 v) := by simp [go_sem]
  have b1 : (w.alloc (.cells #[.int .i64 v, .int .u64 (m : Int)] 25)).cell? ⟨w.heap.size, 1, none⟩ = some (.int .u64 (m : Int)) := by simp [go_sem]
  generalize a * B + b = R at *
  generalize a * B = AB at *
  have hS0 := hS.2
  have hB0 := hB.2
  clear hpl h1 h2 h3 hm s0 s1
  go_enter Try.func94, Try.ntmps94
  go_wp2_with fail
  obtain ⟨w1, hw1⟩ : ∃ w1, w1 = w.alloc (.cells #[.int .i64 v, .int .u64 (m : Int)] 25) := ⟨_, rfl⟩
  have HB1 : Hid (Below w.heap.size w w1) := by rw [hw1]; exact (Below.refl _ _).alloc (Nat.le_refl _) _
  have hz1 : w1.heap.size = w.heap.size + 1 := by rw [hw1]; simp
  rw [← hw1] at c0 c1 b0 b1 ⊢
  clear hw1
  go_region_held3 (fun w' => w'.cell? ⟨w.heap.size, 0, none⟩ = some (.int .i64 v) ∧ w'.cell? ⟨w.heap.size, 1, none⟩ = some (.int .u64 (m : Int)) ∧ w'.cell? ⟨p, 0, none⟩ = some (.int .i64 (S : Nat)) ∧ w'.cell? ⟨p, 1, none⟩ = some (.int .i64 (B : Nat)))
    (first | exact ⟨(hb.cell (p := ⟨w.heap.size, 0, none⟩) (by show w.heap.size < w1.heap.size; omega)).trans b0, (hb.cell (p := ⟨w.heap.size, 1, none⟩) (by show w.heap.size < w1.heap.size; omega)).trans b1, (hb.cell (p := ⟨p, 0, none⟩) (by show p < w1.heap.size; omega)).trans c0, (hb.cell (p := ⟨p, 1, none⟩) (by show p < w1.heap.size; omega)).trans c1⟩ | go_keep)
    (first | (go_at_call 52; (with_reducible refine Calls.mono (HPL.out _) ?_); rintro e w2 ⟨rfl, hb'⟩; have hb : Below w1.heap.size w1 w2 := ((Below.refl w1.heap.size w1).drew).trans hb'))
  have t1 := (hb.cell (p := ⟨p, 1, none⟩) (by show p < w1.heap.size; omega)).trans c1
  have HB2 : Hid (Below w.heap.size w w2) := HB1.out.trans (hb.mono (by omega))
  clear hb hb' c0 c1 b0 b1 HB1 HPL
  go_wp2
  go_ret
  exact ⟨by first | rfl | (simp; done), HB2.out⟩

set_option maxRecDepth 20000 in
set_option maxHeartbeats 3200000 in
theorem ref11_Learn {w : World} {D : Nat → Prop} {p q S B n : Nat} {g : Nat → Nat → Pl} (h : BkAt w D p q S B n g) (hD : ∀ b, D b → b < w.heap.size) (hq : D q) (hS : 1 ≤ S ∧ S ≤ 8) (hB : 1 ≤ B ∧ B ≤ 16) (hn : n ≤ 1000000) (hst : ∀ i, i < S * B → ∀ j, j < n → (g i j).e.stamp < 4294967296)
    (v : Int) (m : Nat) (hm : m < 18446744073709551616) (port : Int) (now : Nat) (hnow : now < 4294967296) :
    Calls Try.prog 81 #[.pointer (some ⟨p, 0, none⟩), .agg #[.int .i64 v, .int .u64 (m : Int)], .int .i64 port, .int .u32 (now : Int)] w fun e w' => e = .returned (.int .i64 ((putF (fun i => ownP (g (homeN v m S B) i)) ⟨v, m, port, false, now⟩ now n).2 : Nat)) ∧ BkAt w' D p q S B n (updR g (homeN v m S B) (putF (fun i => ownP (g (homeN v m S B) i)) ⟨v, m, port, false, now⟩ now n).1) ∧ But q w w' := by
  have hat := fun w' (hb : Below w.heap.size w w') => ref11_at (h.call hb) hS hB v m hm
  have hhome := (home_in (v := v) (m := m) hS.1 hB.1).2
  obtain ⟨M, hM⟩ : ∃ M, M = S * B := ⟨_, rfl⟩
  obtain ⟨H, hH⟩ : ∃ H, H = homeN v m S B := ⟨_, rfl⟩
  rw [← hH, ← hM] at hhome
  rw [← hH] at hat
  have hh2 := hhome
  have hMB : M ≤ 128 := by rw [hM]; exact Nat.mul_le_mul hS.2 hB.2
  have HAT := Lib.hid hat
  have HBK := Lib.hid h
  have HM := Lib.hid hM
  have HD := Lib.hid hD
  have HL := Lib.hid fun w u (hr : PlRow w w.heap.size u n (g H)) => ref10_Learn hn hr (Nat.le_refl _) (hst H (by rw [← HM.out]; exact hh2)) v m hm port now hnow
  have hpw : p < w.heap.size := h.1
  have hqw : q < w.heap.size := h.2.1
  have hpq : p ≠ q := h.2.2.1
  rw [← hH]
  generalize putF (fun i => ownP (g (H) i)) ⟨v, m, port, false, now⟩ now n = r at *
  obtain ⟨r1, r2⟩ := r
  simp only at HL ⊢
  have b0 : (w.alloc (.cells #[.int .i64 v, .int .u64 (m : Int)] 25)).cell? ⟨w.heap.size, 0, none⟩ = some (.int .i64 v) := by simp [go_sem]
  have b1 : (w.alloc (.cells #[.int .i64 v, .int .u64 (m : Int)] 25)).cell? ⟨w.heap.size, 1, none⟩ = some (.int .u64 (m : Int)) := by simp [go_sem]
  clear hat hH hM hm hD hhome h hst hnow hn
  go_enter Try.func81, Try.ntmps81
  go_wp2_with fail
  refine (HAT.out _ ((Below.refl _ _).alloc (Nat.le_refl _) _)).mono ?_
  rintro e w2 ⟨rfl, hb⟩
  have HB2 : Hid (Below w.heap.size w w2) := Below.trans ((Below.refl _ _).alloc (Nat.le_refl _) _) (hb.mono (by simp))
  have t0 := (hb.cell (p := ⟨w.heap.size, 0, none⟩) (by simp)).trans b0
  have t1 := (hb.cell (p := ⟨w.heap.size, 1, none⟩) (by simp)).trans b1
  have hz2 : w.heap.size + 1 ≤ w2.heap.size := by have := hb.size; simpa using this
  have HBK2 := Lib.hid (HBK.out.call HB2.out)
  clear hb HAT b0 b1 HBK
  obtain ⟨hp, hq0, _, _, _, _, ⟨cap, c1, c2, s2⟩, hfz, hrows⟩ := HBK2.out
  rw [← HM.out] at c1 s2 hrows
  obtain ⟨v0, s3, hrow⟩ := hrows H hh2
  unfold maxLen at c2
  have g0 : (0 : Int) ≤ (H : Int) := Int.natCast_nonneg _
  have g1 : (H : Int) < (M : Int) := by omega
  have HROW : Hid (PlRow w2.drew w2.drew.heap.size v0 n (g H)) := hrow.row.below (Below.drew (Below.refl _ _))
  clear hrow hrows
  go_wp2_with fail
  go_region_held3 (fun w' => w'.cell? ⟨p, 3, none⟩ = some (.slice (some ⟨q, 0, none⟩) M cap) ∧ w'.cell? ⟨q, H, none⟩ = some v0 ∧ w'.cell? ⟨w.heap.size, 0, none⟩ = some (.int .i64 v) ∧ w'.cell? ⟨w.heap.size, 1, none⟩ = some (.int .u64 (m : Int)))
    (first | exact ⟨(hbd.cell (p := ⟨p, 3, none⟩) hp).trans s2, (hbd.cell (p := ⟨q, H, none⟩) hq0).trans s3, (hbd.cell (p := ⟨w.heap.size, 0, none⟩) (by show w.heap.size < w2.heap.size; omega)).trans t0, (hbd.cell (p := ⟨w.heap.size, 1, none⟩) (by show w.heap.size < w2.heap.size; omega)).trans t1⟩ | go_keep)
    (first | (go_at_call 18; (with_reducible refine Calls.mono (HL.out _ _ HROW.out) ?_); rintro e w4 ⟨va, rfl, hra, hb'⟩; have hbd : Below w2.heap.size w2 w4 := ((Below.refl w2.heap.size w2).drew).trans hb'; have HRA := Lib.hid hra))
  obtain ⟨Av, cv, hva, _⟩ := HRA.out
  subst hva
  have HBK4 := Lib.hid (HBK2.out.call hbd)
  have t2 := (hbd.cell (p := ⟨p, 3, none⟩) hp).trans s2
  have t3 := (hbd.cell (p := ⟨q, H, none⟩) hq0).trans s3
  have f4 : ∀ o, w4.frozen? ⟨q, o, none⟩ = false := HBK4.out.2.2.2.2.2.2.2.1
  have HB4 := Lib.hid hbd
  clear hra hb' hbd s2 s3 t0 t1 hfz HBK2 HROW HL
  go_wp2
  go_ret
  refine ⟨rfl, ?_, ?_⟩
  · exact HBK4.out.put (by rw [← HM.out]; exact hh2) (PlRowD.of_own HRA.out fun b hb => by have := HD.out b hb; show b < w2.heap.size; omega) hq
  · exact ((But.of HB2.out (by omega)).trans (But.of HB4.out (by omega))).trans (But.set H _)

set_option maxRecDepth 20000 in
set_option maxHeartbeats 3200000 in
theorem ref11_Order {w : World} {D : Nat → Prop} {p q S B n : Nat} {g : Nat → Nat → Pl} (h : BkAt w D p q S B n g) (hD : ∀ b, D b → b < w.heap.size) (hq : D q) (hS : 1 ≤ S ∧ S ≤ 8) (hB : 1 ≤ B ∧ B ≤ 16) (hn : n ≤ 1000000) (hst : ∀ i, i < S * B → ∀ j, j < n → (g i j).e.stamp < 4294967296)
    (v : Int) (m : Nat) (hm : m < 18446744073709551616) (port : Int) (now : Nat) (hnow : now < 4294967296) :
    Calls Try.prog 77 #[.pointer (some ⟨p, 0, none⟩), .agg #[.int .i64 v, .int .u64 (m : Int)], .int .i64 port, .int .u32 (now : Int)] w fun e w' => e = .returned (.int .i64 ((putF (fun i => ownP (g (homeN v m S B) i)) ⟨v, m, port, true, 0⟩ now n).2 : Nat)) ∧ BkAt w' D p q S B n (updR g (homeN v m S B) (putF (fun i => ownP (g (homeN v m S B) i)) ⟨v, m, port, true, 0⟩ now n).1) ∧ But q w w' := by
  have hat := fun w' (hb : Below w.heap.size w w') => ref11_at (h.call hb) hS hB v m hm
  have hhome := (home_in (v := v) (m := m) hS.1 hB.1).2
  obtain ⟨M, hM⟩ : ∃ M, M = S * B := ⟨_, rfl⟩
  obtain ⟨H, hH⟩ : ∃ H, H = homeN v m S B := ⟨_, rfl⟩
  rw [← hH, ← hM] at hhome
  rw [← hH] at hat
  have hh2 := hhome
  have hMB : M ≤ 128 := by rw [hM]; exact Nat.mul_le_mul hS.2 hB.2
  have HAT := Lib.hid hat
  have HBK := Lib.hid h
  have HM := Lib.hid hM
  have HD := Lib.hid hD
  have HL := Lib.hid fun w u (hr : PlRow w w.heap.size u n (g H)) => ref10_Order hn hr (Nat.le_refl _) (hst H (by rw [← HM.out]; exact hh2)) v m hm port now hnow
  have hpw : p < w.heap.size := h.1
  have hqw : q < w.heap.size := h.2.1
  have hpq : p ≠ q := h.2.2.1
  rw [← hH]
  generalize putF (fun i => ownP (g (H) i)) ⟨v, m, port, true, 0⟩ now n = r at *
  obtain ⟨r1, r2⟩ := r
  simp only at HL ⊢
  have b0 : (w.alloc (.cells #[.int .i64 v, .int .u64 (m : Int)] 25)).cell? ⟨w.heap.size, 0, none⟩ = some (.int .i64 v) := by simp [go_sem]
  have b1 : (w.alloc (.cells #[.int .i64 v, .int .u64 (m : Int)] 25)).cell? ⟨w.heap.size, 1, none⟩ = some (.int .u64 (m : Int)) := by simp [go_sem]
  clear hat hH hM hm hD hhome h hst hnow hn
  go_enter Try.func77, Try.ntmps77
  go_wp2_with fail
  refine (HAT.out _ ((Below.refl _ _).alloc (Nat.le_refl _) _)).mono ?_
  rintro e w2 ⟨rfl, hb⟩
  have HB2 : Hid (Below w.heap.size w w2) := Below.trans ((Below.refl _ _).alloc (Nat.le_refl _) _) (hb.mono (by simp))
  have t0 := (hb.cell (p := ⟨w.heap.size, 0, none⟩) (by simp)).trans b0
  have t1 := (hb.cell (p := ⟨w.heap.size, 1, none⟩) (by simp)).trans b1
  have hz2 : w.heap.size + 1 ≤ w2.heap.size := by have := hb.size; simpa using this
  have HBK2 := Lib.hid (HBK.out.call HB2.out)
  clear hb HAT b0 b1 HBK
  obtain ⟨hp, hq0, _, _, _, _, ⟨cap, c1, c2, s2⟩, hfz, hrows⟩ := HBK2.out
  rw [← HM.out] at c1 s2 hrows
  obtain ⟨v0, s3, hrow⟩ := hrows H hh2
  unfold maxLen at c2
  have g0 : (0 : Int) ≤ (H : Int) := Int.natCast_nonneg _
  have g1 : (H : Int) < (M : Int) := by omega
  have HROW : Hid (PlRow w2.drew w2.drew.heap.size v0 n (g H)) := hrow.row.below (Below.drew (Below.refl _ _))
  clear hrow hrows
  go_wp2_with fail
  go_region_held3 (fun w' => w'.cell? ⟨p, 3, none⟩ = some (.slice (some ⟨q, 0, none⟩) M cap) ∧ w'.cell? ⟨q, H, none⟩ = some v0 ∧ w'.cell? ⟨w.heap.size, 0, none⟩ = some (.int .i64 v) ∧ w'.cell? ⟨w.heap.size, 1, none⟩ = some (.int .u64 (m : Int)))
    (first | exact ⟨(hbd.cell (p := ⟨p, 3, none⟩) hp).trans s2, (hbd.cell (p := ⟨q, H, none⟩) hq0).trans s3, (hbd.cell (p := ⟨w.heap.size, 0, none⟩) (by show w.heap.size < w2.heap.size; omega)).trans t0, (hbd.cell (p := ⟨w.heap.size, 1, none⟩) (by show w.heap.size < w2.heap.size; omega)).trans t1⟩ | go_keep)
    (first | (go_at_call 25; (with_reducible refine Calls.mono (HL.out _ _ HROW.out) ?_); rintro e w4 ⟨va, rfl, hra, hb'⟩; have hbd : Below w2.heap.size w2 w4 := ((Below.refl w2.heap.size w2).drew).trans hb'; have HRA := Lib.hid hra))
  obtain ⟨Av, cv, hva, _⟩ := HRA.out
  subst hva
  have HBK4 := Lib.hid (HBK2.out.call hbd)
  have t2 := (hbd.cell (p := ⟨p, 3, none⟩) hp).trans s2
  have t3 := (hbd.cell (p := ⟨q, H, none⟩) hq0).trans s3
  have f4 : ∀ o, w4.frozen? ⟨q, o, none⟩ = false := HBK4.out.2.2.2.2.2.2.2.1
  have HB4 := Lib.hid hbd
  clear hra hb' hbd s2 s3 t0 t1 hfz HBK2 HROW HL
  go_wp2
  go_ret
  refine ⟨rfl, ?_, ?_⟩
  · exact HBK4.out.put (by rw [← HM.out]; exact hh2) (PlRowD.of_own HRA.out fun b hb => by have := HD.out b hb; show b < w2.heap.size; omega) hq
  · exact ((But.of HB2.out (by omega)).trans (But.of HB4.out (by omega))).trans (But.set H _)

set_option maxRecDepth 20000 in
set_option maxHeartbeats 3200000 in
theorem ref11_Drop {w : World} {D : Nat → Prop} {p q S B n : Nat} {g : Nat → Nat → Pl} (h : BkAt w D p q S B n g) (hD : ∀ b, D b → b < w.heap.size) (hq : D q) (hS : 1 ≤ S ∧ S ≤ 8) (hB : 1 ≤ B ∧ B ≤ 16) (hn : n ≤ 1000000)
    (v : Int) (m : Nat) (hm : m < 18446744073709551616) :
    Calls Try.prog 78 #[.pointer (some ⟨p, 0, none⟩), .agg #[.int .i64 v, .int .u64 (m : Int)]] w fun e w' => e = .returned (.bool (dropF (fun i => ownP (g (homeN v m S B) i)) v m n).2) ∧ BkAt w' D p q S B n (updR g (homeN v m S B) (dropF (fun i => ownP (g (homeN v m S B) i)) v m n).1) ∧ But q w w' := by
  have hat := fun w' (hb : Below w.heap.size w w') => ref11_at (h.call hb) hS hB v m hm
  have hhome := (home_in (v := v) (m := m) hS.1 hB.1).2
  obtain ⟨M, hM⟩ : ∃ M, M = S * B := ⟨_, rfl⟩
  obtain ⟨H, hH⟩ : ∃ H, H = homeN v m S B := ⟨_, rfl⟩
  rw [← hH, ← hM] at hhome
  rw [← hH] at hat
  have hh2 := hhome
  have hMB : M ≤ 128 := by rw [hM]; exact Nat.mul_le_mul hS.2 hB.2
  have HAT := Lib.hid hat
  have HBK := Lib.hid h
  have HM := Lib.hid hM
  have HD := Lib.hid hD
  have HL := Lib.hid fun w u (hr : PlRow w w.heap.size u n (g H)) => ref10_Drop hn hr (Nat.le_refl _) v m
  have hpw : p < w.heap.size := h.1
  have hqw : q < w.heap.size := h.2.1
  have hpq : p ≠ q := h.2.2.1
  rw [← hH]
  generalize dropF (fun i => ownP (g (H) i)) v m n = r at *
  obtain ⟨r1, r2⟩ := r
  simp only at HL ⊢
  have b0 : (w.alloc (.cells #[.int .i64 v, .int .u64 (m : Int)] 25)).cell? ⟨w.heap.size, 0, none⟩ = some (.int .i64 v) := by simp [go_sem]
  have b1 : (w.alloc (.cells #[.int .i64 v, .int .u64 (m : Int)] 25)).cell? ⟨w.heap.size, 1, none⟩ = some (.int .u64 (m : Int)) := by simp [go_sem]
  clear hat hH hM hm hD hhome h hn
  go_enter Try.func78, Try.ntmps78
  go_wp2_with fail
  refine (HAT.out _ ((Below.refl _ _).alloc (Nat.le_refl _) _)).mono ?_
  rintro e w2 ⟨rfl, hb⟩
  have HB2 : Hid (Below w.heap.size w w2) := Below.trans ((Below.refl _ _).alloc (Nat.le_refl _) _) (hb.mono (by simp))
  have t0 := (hb.cell (p := ⟨w.heap.size, 0, none⟩) (by simp)).trans b0
  have t1 := (hb.cell (p := ⟨w.heap.size, 1, none⟩) (by simp)).trans b1
  have hz2 : w.heap.size + 1 ≤ w2.heap.size := by have := hb.size; simpa using this
  have HBK2 := Lib.hid (HBK.out.call HB2.out)
  clear hb HAT b0 b1 HBK
  obtain ⟨hp, hq0, _, _, _, _, ⟨cap, c1, c2, s2⟩, hfz, hrows⟩ := HBK2.out
  rw [← HM.out] at c1 s2 hrows
  obtain ⟨v0, s3, hrow⟩ := hrows H hh2
  unfold maxLen at c2
  have g0 : (0 : Int) ≤ (H : Int) := Int.natCast_nonneg _
  have g1 : (H : Int) < (M : Int) := by omega
  have HROW : Hid (PlRow w2.drew w2.drew.heap.size v0 n (g H)) := hrow.row.below (Below.drew (Below.refl _ _))
  clear hrow hrows
  go_wp2_with fail
  go_region_held3 (fun w' => w'.cell? ⟨p, 3, none⟩ = some (.slice (some ⟨q, 0, none⟩) M cap) ∧ w'.cell? ⟨q, H, none⟩ = some v0 ∧ w'.cell? ⟨w.heap.size, 0, none⟩ = some (.int .i64 v) ∧ w'.cell? ⟨w.heap.size, 1, none⟩ = some (.int .u64 (m : Int)))
    (first | exact ⟨(hbd.cell (p := ⟨p, 3, none⟩) hp).trans s2, (hbd.cell (p := ⟨q, H, none⟩) hq0).trans s3, (hbd.cell (p := ⟨w.heap.size, 0, none⟩) (by show w.heap.size < w2.heap.size; omega)).trans t0, (hbd.cell (p := ⟨w.heap.size, 1, none⟩) (by show w.heap.size < w2.heap.size; omega)).trans t1⟩ | go_keep)
    (first | (go_at_call 27; (with_reducible refine Calls.mono (HL.out _ _ HROW.out) ?_); rintro e w4 ⟨va, rfl, hra, hb'⟩; have hbd : Below w2.heap.size w2 w4 := ((Below.refl w2.heap.size w2).drew).trans hb'; have HRA := Lib.hid hra))
  obtain ⟨Av, cv, hva, _⟩ := HRA.out
  subst hva
  have HBK4 := Lib.hid (HBK2.out.call hbd)
  have t2 := (hbd.cell (p := ⟨p, 3, none⟩) hp).trans s2
  have t3 := (hbd.cell (p := ⟨q, H, none⟩) hq0).trans s3
  have f4 : ∀ o, w4.frozen? ⟨q, o, none⟩ = false := HBK4.out.2.2.2.2.2.2.2.1
  have HB4 := Lib.hid hbd
  clear hra hb' hbd s2 s3 t0 t1 hfz HBK2 HROW HL
  go_wp2
  go_ret
  refine ⟨rfl, ?_, ?_⟩
  · exact HBK4.out.put (by rw [← HM.out]; exact hh2) (PlRowD.of_own HRA.out fun b hb => by have := HD.out b hb; show b < w2.heap.size; omega) hq
  · exact ((But.of HB2.out (by omega)).trans (But.of HB4.out (by omega))).trans (But.set H _)

set_option maxRecDepth 20000 in
set_option maxHeartbeats 3200000 in
theorem ref11_Lookup {w : World} {D : Nat → Prop} {p q S B n : Nat} {g : Nat → Nat → Pl} (h : BkAt w D p q S B n g) (hS : 1 ≤ S ∧ S ≤ 8) (hB : 1 ≤ B ∧ B ≤ 16) (hn : n ≤ 1000000) (v : Int) (m : Nat) (hm : m < 18446744073709551616) :
    Calls Try.prog 76 #[.pointer (some ⟨p, 0, none⟩), .agg #[.int .i64 v, .int .u64 (m : Int)]] w (Says (.int .i64 (portF (g (homeN v m S B)) v m n)) w) := by
  have hat := fun w' (hb : Below w.heap.size w w') => ref11_at (h.call hb) hS hB v m hm
  have hhome := (home_in (v := v) (m := m) hS.1 hB.1).2
  obtain ⟨M, hM⟩ : ∃ M, M = S * B := ⟨_, rfl⟩
  obtain ⟨H, hH⟩ : ∃ H, H = homeN v m S B := ⟨_, rfl⟩
  rw [← hH, ← hM] at hhome
  rw [← hH] at hat
  have hh2 := hhome
  have hMB : M ≤ 128 := by rw [hM]; exact Nat.mul_le_mul hS.2 hB.2
  have HAT := Lib.hid hat
  have HBK := Lib.hid h
  have HM := Lib.hid hM
  have HF := Lib.hid fun w u (hr : PlRow w w.heap.size u n (g H)) => ref10_Find hr (Nat.le_refl _) v m
  have hbd := firstI_bd (keyF (g H) v m) n
  change -1 ≤ findF (g H) v m n ∧ findF (g H) v m n < n at hbd
  rw [← hH]
  have HP1 : Hid (findF (g H) v m n = -1 → portF (g H) v m n = -1) := fun h => by unfold portF; rw [h]; rfl
  have HP2 : Hid (∀ j : Nat, findF (g H) v m n = (j : Int) → portF (g H) v m n = (g H j).e.port) := fun j h => by unfold portF; rw [h, if_neg (by omega), Int.toNat_natCast]
  generalize portF (g H) v m n = r at *
  generalize findF (g H) v m n = x at *
  have hpw : p < w.heap.size := h.1
  have hqw : q < w.heap.size := h.2.1
  have b0 : (w.alloc (.cells #[.int .i64 v, .int .u64 (m : Int)] 25)).cell? ⟨w.heap.size, 0, none⟩ = some (.int .i64 v) := by simp [go_sem]
  have b1 : (w.alloc (.cells #[.int .i64 v, .int .u64 (m : Int)] 25)).cell? ⟨w.heap.size, 1, none⟩ = some (.int .u64 (m : Int)) := by simp [go_sem]
  clear hat hH hM hm hhome h
  go_enter Try.func76, Try.ntmps76
  go_wp2_with fail
  obtain ⟨w2, hw2⟩ : ∃ w2, w2 = w.alloc (.cells #[.int .i64 v, .int .u64 (m : Int)] 25) := ⟨_, rfl⟩
  have HB2 : Hid (Below w.heap.size w w2) := by rw [hw2]; exact (Below.refl _ _).alloc (Nat.le_refl _) _
  have hz2 : w2.heap.size = w.heap.size + 1 := by rw [hw2]; simp
  rw [← hw2] at b0 b1 ⊢
  clear hw2
  have HBK2 := Lib.hid (HBK.out.call HB2.out)
  obtain ⟨hp, hq0, _, _, _, _, ⟨cap, c1, c2, s2⟩, hfz, hrows⟩ := HBK2.out
  rw [← HM.out] at c1 s2 hrows
  obtain ⟨v0, s3, hrow⟩ := hrows H hh2
  unfold maxLen at c2
  have g0 : (0 : Int) ≤ (H : Int) := Int.natCast_nonneg _
  have g1 : (H : Int) < (M : Int) := by omega
  have HAT2 : Hid (Calls Try.prog 94 #[.pointer (some ⟨p, 0, none⟩), .agg #[.int .i64 v, .int .u64 (m : Int)]] w2.drew (Says (.int .i64 (H : Nat)) w2.drew)) := HAT.out _ (HB2.out.drew)
  have HROW := Lib.hid hrow.row
  clear hrow hrows HAT HBK hfz
  go_region_held3 (fun w' => w'.cell? ⟨p, 3, none⟩ = some (.slice (some ⟨q, 0, none⟩) M cap) ∧ w'.cell? ⟨q, H, none⟩ = some v0 ∧ w'.cell? ⟨w.heap.size, 0, none⟩ = some (.int .i64 v) ∧ w'.cell? ⟨w.heap.size, 1, none⟩ = some (.int .u64 (m : Int)))
    (first | exact ⟨(hbd4.cell (p := ⟨p, 3, none⟩) hp).trans s2, (hbd4.cell (p := ⟨q, H, none⟩) hq0).trans s3, (hbd4.cell (p := ⟨w.heap.size, 0, none⟩) (by show w.heap.size < w2.heap.size; omega)).trans b0, (hbd4.cell (p := ⟨w.heap.size, 1, none⟩) (by show w.heap.size < w2.heap.size; omega)).trans b1⟩ | go_keep)
    (first | (go_at_call 94; (with_reducible refine Calls.mono HAT2.out ?_); rintro e w4 ⟨rfl, hb'⟩; have hbd4 : Below w2.heap.size w2 w4 := ((Below.refl w2.heap.size w2).drew).trans hb'))
  have u0 := (hbd4.cell (p := ⟨w.heap.size, 0, none⟩) (by show w.heap.size < w2.heap.size; omega)).trans b0
  have u1 := (hbd4.cell (p := ⟨w.heap.size, 1, none⟩) (by show w.heap.size < w2.heap.size; omega)).trans b1
  have HR4 : Hid (PlRow w4 w4.heap.size v0 n (g H)) := by
    have h1 := HROW.out.below hbd4
    obtain ⟨A, cp, e1, e2, e3, e4⟩ := h1
    refine ⟨A, cp, e1, e2, e3, fun hn => ?_⟩
    obtain ⟨b, off, f1, f2, f3⟩ := e4 hn
    exact ⟨b, off, f1, by have := hbd4.size; omega, f3⟩
  have HB4 : Hid (Below w.heap.size w w4) := HB2.out.trans (hbd4.mono (by omega))
  clear hb' hbd4 b0 b1 s2 s3 HROW HBK2 HB2
  go_wp2_with fail
  refine (HF.out _ _ HR4.out).mono ?_
  rintro e w5 ⟨rfl, hb5⟩
  have HR5 := Lib.hid (HR4.out.below hb5)
  have HB5 : Hid (Below w.heap.size w w5) := HB4.out.trans (hb5.mono HB4.out.size)
  clear hb5 HR4 HB4
  rcases (show x = -1 ∨ 0 ≤ x by omega) with hx | hx
  · subst hx
    have hr := HP1.out rfl
    subst hr
    clear HP1 HP2
    go_wp2
    go_ret
    exact ⟨by first | rfl | (simp; done), HB5.out⟩
  · obtain ⟨j, rfl⟩ := Int.eq_ofNat_of_zero_le hx
    have hr := HP2.out j rfl
    clear HP1 HP2
    subst hr
    have d1 : (0 : Int) ≤ (j : Int) := Int.natCast_nonneg _
    have d2 : (j : Int) < (n : Int) := by omega
    have d3 : ¬ (j : Int) < 0 := by omega
    obtain ⟨A, cap2, rfl, x1, x2, x3⟩ := HR5.out
    obtain ⟨b, off, rfl, hbb, hc⟩ := x3 (by omega)
    unfold maxLen at x2
    have hcj := (hc j (by omega)).2.2.2.1
    clear hc x3
    generalize (g H j).e.port = pt at *
    have hcj' : w5.cell? ⟨b, off + j * 6 + 3, none⟩ = some (.int .i64 pt) := hcj
    clear hcj
    go_wp2
    go_ret
    exact ⟨by first | rfl | (simp; done), HB5.out⟩

set_option maxHeartbeats 1600000 in
theorem ref11_AgeNo {w : World} {D : Nat → Prop} {p q S B n : Nat} {g : Nat → Nat → Pl} (h : BkAt w D p q S B n g) (hS : 1 ≤ S ∧ S ≤ 8) (hB : 1 ≤ B ∧ B ≤ 16) (s t : Int) (now lim : Nat) (ha : atI S B s t < 0) :
    Calls Try.prog 79 #[.pointer (some ⟨p, 0, none⟩), .int .i64 s, .int .i64 t, .int .u32 (now : Int), .int .u32 (lim : Int)] w fun e w' => e = .returned (.int .i64 0) ∧ w = w' := by
  have hno : ¬ (0 ≤ s ∧ s < S ∧ 0 ≤ t ∧ t < B) := fun hc => by
    unfold atI at ha
    rw [if_pos hc] at ha
    have := Int.mul_nonneg hc.1 (show (0 : Int) ≤ (B : Int) by omega)
    omega
  obtain ⟨hp, _, _, s0, s1, _⟩ := h
  clear ha hp
  rcases (show s < 0 ∨ (¬ s < 0 ∧ (S : Int) ≤ s) ∨ (¬ s < 0 ∧ ¬ (S : Int) ≤ s ∧ t < 0) ∨ (¬ s < 0 ∧ ¬ (S : Int) ≤ s ∧ ¬ t < 0 ∧ (B : Int) ≤ t) by omega) with h1 | ⟨h1, h2⟩ | ⟨h1, h2, h3⟩ | ⟨h1, h2, h3, h4⟩
  · have d1 : decide (s < 0) = true := by simpa using h1
    clear hno
    go_enter Try.func79, Try.ntmps79
    go_wp2
    go_ret
    exact ⟨rfl, rfl⟩
  · have d1 : decide (s < 0) = false := by simpa using h1
    have d2 : decide (s ≥ (S : Int)) = true := by simpa using h2
    have d2' : decide ((S : Int) ≤ s) = true := by simpa using h2
    clear hno
    go_enter Try.func79, Try.ntmps79
    go_wp2
    go_ret
    exact ⟨rfl, rfl⟩
  · have d1 : decide (s < 0) = false := by simpa using h1
    have d2 : decide (s ≥ (S : Int)) = false := by simpa using h2
    have d2' : decide ((S : Int) ≤ s) = false := by simpa using h2
    have d3 : decide (t < 0) = true := by simpa using h3
    clear hno
    go_enter Try.func79, Try.ntmps79
    go_wp2
    go_ret
    exact ⟨rfl, rfl⟩
  · have d1 : decide (s < 0) = false := by simpa using h1
    have d2 : decide (s ≥ (S : Int)) = false := by simpa using h2
    have d2' : decide ((S : Int) ≤ s) = false := by simpa using h2
    have d3 : decide (t < 0) = false := by simpa using h3
    have d4 : decide (t ≥ (B : Int)) = true := by simpa using h4
    have d4' : decide ((B : Int) ≤ t) = true := by simpa using h4
    clear hno
    go_enter Try.func79, Try.ntmps79
    go_wp2
    go_ret
    exact ⟨rfl, rfl⟩

set_option maxRecDepth 20000 in
set_option maxHeartbeats 3200000 in
theorem ref11_Age {w : World} {D : Nat → Prop} {p q S B n : Nat} {g : Nat → Nat → Pl} (h : BkAt w D p q S B n g) (hD : ∀ b, D b → b < w.heap.size) (hq : D q) (hS : 1 ≤ S ∧ S ≤ 8) (hB : 1 ≤ B ∧ B ≤ 16) (hn : n ≤ 1000000) (hst : ∀ i, i < S * B → ∀ j, j < n → (g i j).e.stamp < 4294967296) (s t : Int) (now lim : Nat) (hnow : now < 4294967296) (H : Nat) (hh2 : H < S * B) (ha : atI S B s t = (H : Int)) :
    Calls Try.prog 79 #[.pointer (some ⟨p, 0, none⟩), .int .i64 s, .int .i64 t, .int .u32 (now : Int), .int .u32 (lim : Int)] w fun e w' => e = .returned (.int .i64 (ageC g H now lim n : Nat)) ∧ BkAt w' D p q S B n (updR g H (ageR g H now lim)) ∧ But q w w' := by
  have hyes : 0 ≤ s ∧ s < S ∧ 0 ≤ t ∧ t < B := by
    refine Decidable.byContradiction fun hc => ?_
    unfold atI at ha
    rw [if_neg hc] at ha
    omega
  obtain ⟨y1, y2, y3, y4⟩ := hyes
  obtain ⟨a, rfl⟩ := Int.eq_ofNat_of_zero_le y1
  obtain ⟨b, rfl⟩ := Int.eq_ofNat_of_zero_le y3
  have hab : a * B ≤ 8 * 16 := Nat.mul_le_mul (by omega) hB.2
  have e1 : (a : Int) * (B : Int) = ((a * B : Nat) : Int) := by simp
  have hH : H = a * B + b := by
    unfold atI at ha
    rw [if_pos ⟨y1, y2, y3, y4⟩, e1] at ha
    omega
  have N1 : Hid (wrap64 ((a : Int) * (B : Int)) = ((a * B : Nat) : Int)) := by show _ = _; rw [e1]; exact IntWalk.wrap64_in _ (by omega)
  have N2 : Hid (wrap64 (((a * B : Nat) : Int) + (b : Int)) = (H : Int)) := by show _ = _; rw [show ((a * B : Nat) : Int) + (b : Int) = (H : Int) by omega]; exact IntWalk.wrap64_in _ (by omega)
  have d1 : decide ((a : Int) < 0) = false := by simp
  have d2 : decide ((a : Int) ≥ (S : Int)) = false := by simp; omega
  have d2' : decide ((S : Int) ≤ (a : Int)) = false := by simp; omega
  have d3 : decide ((b : Int) < 0) = false := by simp
  have d4 : decide ((b : Int) ≥ (B : Int)) = false := by simp; omega
  have d4' : decide ((B : Int) ≤ (b : Int)) = false := by simp; omega
  have d2n : ¬ S ≤ a := by omega
  have d4n : ¬ B ≤ b := by omega
  obtain ⟨M, hM⟩ : ∃ M, M = S * B := ⟨_, rfl⟩
  have hMB : M ≤ 128 := by rw [hM]; exact Nat.mul_le_mul hS.2 hB.2
  have HBK := Lib.hid h
  have HM := Lib.hid hM
  have HD := Lib.hid hD
  have HL := Lib.hid fun w u (hr : PlRow w w.heap.size u n (g H)) => ref10_Age hn hr (Nat.le_refl _) now lim hnow (hst H hh2)
  have HH2 := Lib.hid hh2
  change Hid (∀ w u (hr : PlRow w w.heap.size u n (g H)), Calls Try.prog 29 #[u, .int .u32 (now : Int), .int .u32 (lim : Int)] w (Gives 74 n (ageR g H now lim) (fun u => .tuple #[u, .int .i64 (ageC g H now lim n : Nat)]) w)) at HL
  obtain ⟨hp, hq0, hpq, s0, s1, _, ⟨cap, c1, c2, s2⟩, hfz, hrows⟩ := h
  rw [← hM] at c1 s2 hrows
  obtain ⟨v0, s3, hrow⟩ := hrows H (by rw [hM]; exact hh2)
  unfold maxLen at c2
  have g0 : (0 : Int) ≤ (H : Int) := Int.natCast_nonneg _
  have g1 : (H : Int) < (M : Int) := by rw [hM]; omega
  have HROW := Lib.hid hrow.row
  generalize ageR g H now lim = r1 at *
  generalize ageC g H now lim n = r2 at *
  generalize a * B = AB at *
  clear hrow hrows hH e1 ha hab hst hnow hn hM hD y1 y3 hh2
  have n1 := N1.out
  have n2 := N2.out
  go_enter Try.func79, Try.ntmps79
  go_wp2_with fail
  simp only [n1, n2]
  clear n1 n2
  refine (HL.out _ _ HROW.out).mono ?_
  rintro e w4 ⟨va, rfl, hra, hb⟩
  have HRA := Lib.hid hra
  obtain ⟨Av, cv, hva, _⟩ := hra
  subst hva
  have HBK4 := Lib.hid (HBK.out.call hb)
  have t2 := (hb.cell (p := ⟨p, 3, none⟩) hp).trans s2
  have t3 := (hb.cell (p := ⟨q, H, none⟩) hq0).trans s3
  have f4 : ∀ o, w4.frozen? ⟨q, o, none⟩ = false := HBK4.out.2.2.2.2.2.2.2.1
  have HB4 := Lib.hid hb
  clear hb s2 s3 hfz HROW HL s0 s1
  go_wp2
  go_ret
  refine ⟨rfl, ?_, ?_⟩
  · exact HBK4.out.put HH2.out (PlRowD.of_own HRA.out fun b hb => HD.out b hb) hq
  · exact (But.of HB4.out (by omega)).trans (But.set H _)

set_option maxHeartbeats 6400000 in
theorem ref11_Flush {w : World} {D : Nat → Prop} {p q S B n : Nat} {g : Nat → Nat → Pl} (h : BkAt w D p q S B n g) (hD : ∀ b, D b → b < w.heap.size) (hq : D q) (hS : 1 ≤ S ∧ S ≤ 8) (hB : 1 ≤ B ∧ B ≤ 16) (hn : n ≤ 8) (a b : Int) :
    Calls Try.prog 80 #[.pointer (some ⟨p, 0, none⟩), .agg #[.int .i64 a, .int .i64 b]] w fun e w' =>
      e = .returned (.int .i64 (flC a b g n (S * B) : Nat)) ∧ BkAt w' D p q S B n (flG a b g (S * B)) ∧ But q w w' := by
  obtain ⟨M, hM⟩ : ∃ M, M = S * B := ⟨_, rfl⟩
  have hMB : M ≤ 128 := by rw [hM]; exact Nat.mul_le_mul hS.2 hB.2
  have HF := Lib.hid fun f w u (hr : PlRow w w.heap.size u n f) => ref10_Flush (show n ≤ 1000000 by omega) hr (Nat.le_refl _) a b
  change Hid (∀ f w u (hr : PlRow w w.heap.size u n f), Calls Try.prog 31 #[u, .agg #[.int .i64 a, .int .i64 b]] w (Gives 74 n (flR a b f) (fun u => .tuple #[u, .int .i64 (flN a b f n : Nat)]) w)) at HF
  have HBK := Lib.hid h
  have HM := Lib.hid hM
  have HD := Lib.hid hD
  have HLE := Lib.hid fun k => flC_le a b g n k
  obtain ⟨hp, hq0, hpq, _, _, _, ⟨cap, c1, c2, s2⟩, _, _⟩ := h
  rw [← hM] at c1 s2
  unfold maxLen at c2
  have k3 : ∀ o, (w.alloc o).cell? ⟨p, 3, none⟩ = some (.slice (some ⟨q, 0, none⟩) M cap) := fun o => (World.cell?_alloc_lt _ _ _ (by show p < _; omega)).trans s2
  rw [← hM]
  have HK3 := Lib.hid k3
  clear hM hD s2
  go_enter Try.func80, Try.ntmps80
  go_wp2
  clear k3
  go_loopw [5, 6] (fun gone i wr => ∃ k : Nat, k ≤ M ∧ i = .int .i64 k ∧ gone = .int .i64 (flC a b g n k : Nat) ∧ Hid (BkAt wr D p q S B n (flG a b g k)) ∧ Hid (But q w wr) ∧ Hid (wr.cell? ⟨w.heap.size, 0, none⟩ = some (.int .i64 a) ∧ wr.cell? ⟨w.heap.size, 1, none⟩ = some (.int .i64 b) ∧ wr.cell? ⟨p, 3, none⟩ = some (.slice (some ⟨q, 0, none⟩) M cap) ∧ w.heap.size < wr.heap.size)) (fun _ i _ => M - (intOf i).toNat)
  case atStart => exact ⟨0, by omega, rfl, rfl, (HBK.out.call ((Below.refl _ _).alloc (Nat.le_refl _) _)).congr fun i _ => by unfold flG; rw [if_neg (by omega)], But.of ((Below.refl _ _).alloc (Nat.le_refl _) _) (by omega), by simp [go_sem], by simp [go_sem], HK3.out _, by simp⟩
  case round =>
    obtain ⟨k, hk, rfl, rfl, HBW, HBT, HX⟩ := hrel
    obtain ⟨x0, x1, x3, xz⟩ := HX.out
    by_cases hlt : k < M
    · have g0 : (0 : Int) ≤ (k : Int) := Int.natCast_nonneg _
      have g1 : (k : Int) < (M : Int) := by omega
      obtain ⟨hp', hq', _, _, _, _, _, hfz, hrows⟩ := HBW.out
      obtain ⟨v0, s3, hrow⟩ := hrows k (by rw [← HM.out]; exact hlt)
      have hgk : flG a b g k k = g k := by unfold flG; rw [if_neg (by omega)]
      rw [hgk] at hrow
      have hle := HLE.out k
      have hle2 := HLE.out (k + 1)
      have hkn : (k + 1) * n ≤ 1024 := by
        have : (k + 1) * n ≤ 128 * 8 := Nat.mul_le_mul (by omega) hn
        omega
      have hc1 : flC a b g n (k + 1) = flC a b g n k + flN a b (g k) n := rfl
      have HROW : Hid (PlRow wr.drew wr.drew.heap.size v0 n (g k)) := hrow.row.below (Below.drew (Below.refl _ _))
      have HNXG : Hid (∀ i, updR (flG a b g k) k (flR a b (g k)) i = flG a b g (k + 1) i) := fun i => by
        unfold updR flG
        by_cases h1 : i = k
        · subst h1; rw [if_pos rfl, if_pos (by omega)]
        · rw [if_neg h1]
          by_cases h2 : i < k
          · rw [if_pos h2, if_pos (by omega)]
          · rw [if_neg h2, if_neg (by omega)]
      have HFK := Lib.hid (HF.out (g k))
      obtain ⟨c, hc⟩ : ∃ c, c = flC a b g n k := ⟨_, rfl⟩
      obtain ⟨c', hc'⟩ : ∃ c', c' = flN a b (g k) n := ⟨_, rfl⟩
      rw [← hc, ← hc'] at hc1
      rw [← hc'] at HFK
      rw [← hc]
      have HC1 := Lib.hid hc1
      have hsum : c + c' ≤ 1024 := by omega
      obtain ⟨hadd, hadd3⟩ := add_in hsum
      clear hrow hrows hgk hle hle2 hkn hc1 hc hc'
      go_wp2_with fail
      go_region_held3 (fun w' => w'.cell? ⟨p, 3, none⟩ = some (.slice (some ⟨q, 0, none⟩) M cap) ∧ w'.cell? ⟨q, k, none⟩ = some v0 ∧ w'.cell? ⟨w.heap.size, 0, none⟩ = some (.int .i64 a) ∧ w'.cell? ⟨w.heap.size, 1, none⟩ = some (.int .i64 b))
        (first | exact ⟨(hb.cell (p := ⟨p, 3, none⟩) hp').trans x3, (hb.cell (p := ⟨q, k, none⟩) hq').trans s3, (hb.cell (p := ⟨w.heap.size, 0, none⟩) xz).trans x0, (hb.cell (p := ⟨w.heap.size, 1, none⟩) xz).trans x1⟩ | go_keep)
        (first | (go_at_call 31; (with_reducible refine Calls.mono (HFK.out _ _ HROW.out) ?_); rintro e w4 ⟨va, rfl, hra, hb'⟩; have hb : Below wr.heap.size wr w4 := ((Below.refl wr.heap.size wr).drew).trans hb'; have HRA := Lib.hid hra; clear hra))
      obtain ⟨Av, cv, hva, _⟩ := HRA.out
      subst hva
      have HBK4 := Lib.hid (HBW.out.call hb)
      have s4 := (hb.cell (p := ⟨q, k, none⟩) hq').trans s3
      have f4 : ∀ o, w4.frozen? ⟨q, o, none⟩ = false := HBK4.out.2.2.2.2.2.2.2.1
      have y0 := (hb.cell (p := ⟨w.heap.size, 0, none⟩) xz).trans x0
      have y1 := (hb.cell (p := ⟨w.heap.size, 1, none⟩) xz).trans x1
      have y3 := (hb.cell (p := ⟨p, 3, none⟩) hp').trans x3
      have hz4 := hb.size
      have HBT4 : Hid (But q w w4) := HBT.out.trans (But.of hb (by omega))
      have hwr := HBT.out.below.size
      have HST : Hid (∀ v, But q w4 (w4.setCell ⟨q, k, none⟩ v)) := fun v => But.set k v
      have HPUT : Hid (BkAt (w4.setCell ⟨q, k, none⟩ (.slice Av n cv)) D p q S B n (flG a b g (k + 1))) :=
        (HBK4.out.put (by rw [← HM.out]; exact hlt) (PlRowD.of_own HRA.out fun b hb => by have := HD.out b hb; show b < wr.heap.size; omega) hq).congr fun i _ => HNXG.out i
      clear hb hb' HRA HROW HFK s3 x0 x1 x3 HNXG HBW HBT
      go_wp2
      go_roundw
      case rel =>
        refine ⟨k + 1, by omega, by go_num, (by rw [HC1.out]; first | rfl | (simp; done)), HPUT, HBT4.out.trans (HST.out _), ?_⟩
        exact ⟨((HST.out _).cell (show w.heap.size < _ by omega) (show w.heap.size ≠ q by omega)).trans y0, ((HST.out _).cell (show w.heap.size < _ by omega) (show w.heap.size ≠ q by omega)).trans y1, ((HST.out _).cell (show p < _ by omega) hpq).trans y3, by rw [World.size_setCell]; omega⟩
      case measure => simp [intOf]; omega
    · have hkM : M = k := by omega
      subst hkM
      go_wp2
      go_ret
      exact ⟨rfl, HBW.out, HBT.out⟩
end
section
open Go.RowKit

set_option maxRecDepth 20000 in
set_option maxHeartbeats 12800000 in
theorem ref11_Want {w : World} {D : Nat → Prop} {p q S B n : Nat} {g : Nat → Nat → Pl} (h : BkAt w D p q S B n g) (hD : ∀ b, D b → b < w.heap.size) (hq : D q) (hS : 1 ≤ S ∧ S ≤ 8) (hB : 1 ≤ B ∧ B ≤ 16) (hn : n ≤ 8) (hst : stG g)
    (kd kv : Int) (m : Nat) (hm : m < 18446744073709551616) (port vid : Int) (now old : Nat) (hnow : now < 4294967296) (K : Nat) (hK : K < 7) (hk1 : wrap64 ((IntKind.u64.wrap kd).tmod 7) = (K : Int)) (hk2 : IntKind.i64.wrap ((IntKind.u64.wrap kd).tmod 7) = (K : Int)) :
    Calls Try.prog 42 #[.pointer (some ⟨p, 0, none⟩), .agg #[.int .i64 kd, .int .i64 kv, .int .u64 (m : Int), .int .i64 port, .int .i64 vid, .int .u32 (now : Int), .int .u32 (old : Int)]] w fun e w' => e = .returned (.int .i64 (doG K kv m port vid now old S B n g).2) ∧ BkAt w' D p q S B n (doG K kv m port vid now old S B n g).1 ∧ But q w w' := by
  have hqw : q < w.heap.size := h.2.1
  have HD := Lib.hid fun w' (hb : Below w.heap.size w w') b (hd : D b) => Nat.lt_of_lt_of_le (hD b hd) hb.size
  have HH := Lib.hid fun w' (hb : Below w.heap.size w w') => h.call hb
  have hst' : ∀ i, i < S * B → ∀ j, j < n → (g i j).e.stamp < 4294967296 := fun i _ j _ => hst i j
  have hn' : n ≤ 1000000 := by omega
  rcases (show K = 0 ∨ K = 1 ∨ K = 2 ∨ K = 3 ∨ K = 4 ∨ K = 5 ∨ K = 6 by omega) with rfl | rfl | rfl | rfl | rfl | rfl | rfl
  · have HC : Hid (∀ w', Below w.heap.size w w' → Calls Try.prog 76 #[.pointer (some ⟨p, 0, none⟩), .agg #[.int .i64 kv, .int .u64 (m : Int)]] w' fun e w'' => e = .returned (.int .i64 (doG 0 kv m port vid now old S B n g).2) ∧ BkAt w'' D p q S B n (doG 0 kv m port vid now old S B n g).1 ∧ But q w' w'') := fun w' hb => by
      refine (ref11_Lookup (HH.out w' hb) hS hB hn' kv m hm).mono ?_
      rintro e w'' ⟨rfl, hb2⟩
      exact ⟨rfl, (HH.out w' hb).call hb2, But.of hb2 (Nat.le_trans (Nat.le_of_lt hqw) hb.size)⟩
    generalize doG 0 kv m port vid now old S B n g = r at *
    clear hst hst' hn hn' hm hnow hK HD HH h hS hB hD
    rw [show ((0 : Nat) : Int) = 0 from rfl] at hk1 hk2
    go_enter Try.func42, Try.ntmps42
    go_wp2_with fail
    refine (HC.out _ ((Below.refl _ _).alloc (Nat.le_refl _) _)).mono ?_
    rintro e w3 ⟨rfl, hbk, hbt⟩
    have HBK3 := Lib.hid hbk
    have HBT3 : Hid (But q w w3) := (But.of ((Below.refl _ _).alloc (Nat.le_refl _) _) (Nat.le_of_lt hqw)).trans hbt
    clear hbk hbt
    go_wp2
    go_ret
    exact ⟨by first | rfl | (simp; done), HBK3.out, HBT3.out⟩
  · have HC : Hid (∀ w', Below w.heap.size w w' → Calls Try.prog 81 #[.pointer (some ⟨p, 0, none⟩), .agg #[.int .i64 kv, .int .u64 (m : Int)], .int .i64 port, .int .u32 (now : Int)] w' fun e w'' => e = .returned (.int .i64 (doG 1 kv m port vid now old S B n g).2) ∧ BkAt w'' D p q S B n (doG 1 kv m port vid now old S B n g).1 ∧ But q w' w'') := fun w' hb => ref11_Learn (HH.out w' hb) (HD.out w' hb) hq hS hB hn' hst' kv m hm port now hnow
    generalize doG 1 kv m port vid now old S B n g = r at *
    clear hst hst' hn hn' hm hnow hK HD HH h hS hB hD
    rw [show ((1 : Nat) : Int) = 1 from rfl] at hk1 hk2
    go_enter Try.func42, Try.ntmps42
    go_wp2_with fail
    refine (HC.out _ ((Below.refl _ _).alloc (Nat.le_refl _) _)).mono ?_
    rintro e w3 ⟨rfl, hbk, hbt⟩
    have HBK3 := Lib.hid hbk
    have HBT3 : Hid (But q w w3) := (But.of ((Below.refl _ _).alloc (Nat.le_refl _) _) (Nat.le_of_lt hqw)).trans hbt
    clear hbk hbt
    go_wp2
    go_ret
    exact ⟨by first | rfl | (simp; done), HBK3.out, HBT3.out⟩
  · have HC : Hid (∀ w', Below w.heap.size w w' → Calls Try.prog 81 #[.pointer (some ⟨p, 0, none⟩), .agg #[.int .i64 kv, .int .u64 (m : Int)], .int .i64 port, .int .u32 (now : Int)] w' fun e w'' => e = .returned (.int .i64 (doG 2 kv m port vid now old S B n g).2) ∧ BkAt w'' D p q S B n (doG 2 kv m port vid now old S B n g).1 ∧ But q w' w'') := fun w' hb => ref11_Learn (HH.out w' hb) (HD.out w' hb) hq hS hB hn' hst' kv m hm port now hnow
    generalize doG 2 kv m port vid now old S B n g = r at *
    clear hst hst' hn hn' hm hnow hK HD HH h hS hB hD
    rw [show ((2 : Nat) : Int) = 2 from rfl] at hk1 hk2
    go_enter Try.func42, Try.ntmps42
    go_wp2_with fail
    refine (HC.out _ ((Below.refl _ _).alloc (Nat.le_refl _) _)).mono ?_
    rintro e w3 ⟨rfl, hbk, hbt⟩
    have HBK3 := Lib.hid hbk
    have HBT3 : Hid (But q w w3) := (But.of ((Below.refl _ _).alloc (Nat.le_refl _) _) (Nat.le_of_lt hqw)).trans hbt
    clear hbk hbt
    go_wp2
    go_ret
    exact ⟨by first | rfl | (simp; done), HBK3.out, HBT3.out⟩
  · have HC : Hid (∀ w', Below w.heap.size w w' → Calls Try.prog 77 #[.pointer (some ⟨p, 0, none⟩), .agg #[.int .i64 kv, .int .u64 (m : Int)], .int .i64 port, .int .u32 (now : Int)] w' fun e w'' => e = .returned (.int .i64 (doG 3 kv m port vid now old S B n g).2) ∧ BkAt w'' D p q S B n (doG 3 kv m port vid now old S B n g).1 ∧ But q w' w'') := fun w' hb => ref11_Order (HH.out w' hb) (HD.out w' hb) hq hS hB hn' hst' kv m hm port now hnow
    generalize doG 3 kv m port vid now old S B n g = r at *
    clear hst hst' hn hn' hm hnow hK HD HH h hS hB hD
    rw [show ((3 : Nat) : Int) = 3 from rfl] at hk1 hk2
    go_enter Try.func42, Try.ntmps42
    go_wp2_with fail
    refine (HC.out _ ((Below.refl _ _).alloc (Nat.le_refl _) _)).mono ?_
    rintro e w3 ⟨rfl, hbk, hbt⟩
    have HBK3 := Lib.hid hbk
    have HBT3 : Hid (But q w w3) := (But.of ((Below.refl _ _).alloc (Nat.le_refl _) _) (Nat.le_of_lt hqw)).trans hbt
    clear hbk hbt
    go_wp2
    go_ret
    exact ⟨by first | rfl | (simp; done), HBK3.out, HBT3.out⟩
  · have hans : (doG 4 kv m port vid now old S B n g).2 = if (dropF (fun i => ownP (g (homeN kv m S B) i)) kv m n).2 = true then 1 else 0 := rfl
    have HC : Hid (∀ w', Below w.heap.size w w' → Calls Try.prog 78 #[.pointer (some ⟨p, 0, none⟩), .agg #[.int .i64 kv, .int .u64 (m : Int)]] w' fun e w'' => e = .returned (.bool (dropF (fun i => ownP (g (homeN kv m S B) i)) kv m n).2) ∧ BkAt w'' D p q S B n (doG 4 kv m port vid now old S B n g).1 ∧ But q w' w'') := fun w' hb => ref11_Drop (HH.out w' hb) (HD.out w' hb) hq hS hB hn' kv m hm
    rw [hans]
    generalize (doG 4 kv m port vid now old S B n g).1 = r1 at *
    generalize (dropF (fun i => ownP (g (homeN kv m S B) i)) kv m n).2 = z at *
    clear hst hst' hn hn' hm hnow hK HD HH h hans hS hB hD
    cases z
    · rw [show (if false = true then (1 : Int) else 0) = 0 from rfl]
      rw [show ((4 : Nat) : Int) = 4 from rfl] at hk1 hk2
      go_enter Try.func42, Try.ntmps42
      go_wp2_with fail
      refine (HC.out _ ((Below.refl _ _).alloc (Nat.le_refl _) _)).mono ?_
      rintro e w3 ⟨rfl, hbk, hbt⟩
      have HBK3 := Lib.hid hbk
      have HBT3 : Hid (But q w w3) := (But.of ((Below.refl _ _).alloc (Nat.le_refl _) _) (Nat.le_of_lt hqw)).trans hbt
      clear hbk hbt
      go_wp2
      go_ret
      exact ⟨by first | rfl | (simp; done), HBK3.out, HBT3.out⟩
    · rw [show (if true = true then (1 : Int) else 0) = 1 from rfl]
      rw [show ((4 : Nat) : Int) = 4 from rfl] at hk1 hk2
      go_enter Try.func42, Try.ntmps42
      go_wp2_with fail
      refine (HC.out _ ((Below.refl _ _).alloc (Nat.le_refl _) _)).mono ?_
      rintro e w3 ⟨rfl, hbk, hbt⟩
      have HBK3 := Lib.hid hbk
      have HBT3 : Hid (But q w w3) := (But.of ((Below.refl _ _).alloc (Nat.le_refl _) _) (Nat.le_of_lt hqw)).trans hbt
      clear hbk hbt
      go_wp2
      go_ret
      exact ⟨by first | rfl | (simp; done), HBK3.out, HBT3.out⟩
  · have HC : Hid (∀ w', Below w.heap.size w w' → Calls Try.prog 79 #[.pointer (some ⟨p, 0, none⟩), .int .i64 port, .int .i64 vid, .int .u32 (now : Int), .int .u32 (old : Int)] w' fun e w'' => e = .returned (.int .i64 (doG 5 kv m port vid now old S B n g).2) ∧ BkAt w'' D p q S B n (doG 5 kv m port vid now old S B n g).1 ∧ But q w' w'') := fun w' hb => by
      rcases at_cases S B port vid with ⟨ha, ha2⟩ | ⟨H, hH, ha⟩
      · have e : doG 5 kv m port vid now old S B n g = (g, 0) := by
          unfold doG
          rw [if_neg (by omega), if_neg (by omega), if_neg (by omega), if_pos rfl, if_pos ha2]
        rw [e]
        refine (ref11_AgeNo (HH.out w' hb) hS hB port vid now old ha2).mono ?_
        rintro e w'' ⟨rfl, rfl⟩
        exact ⟨rfl, HH.out w' hb, But.of (Below.refl _ _) (Nat.le_trans (Nat.le_of_lt hqw) hb.size)⟩
      · have e : doG 5 kv m port vid now old S B n g = (updR g H (ageR g H now old), ((ageC g H now old n : Nat) : Int)) := by
          unfold doG
          rw [if_neg (by omega), if_neg (by omega), if_neg (by omega), if_pos rfl, if_neg (by omega), ha, Int.toNat_natCast]
        rw [e]
        exact ref11_Age (HH.out w' hb) (HD.out w' hb) hq hS hB hn' hst' port vid now old hnow H hH ha
    generalize doG 5 kv m port vid now old S B n g = r at *
    clear hst hst' hn hn' hm hnow hK HD HH h hS hB hD
    rw [show ((5 : Nat) : Int) = 5 from rfl] at hk1 hk2
    go_enter Try.func42, Try.ntmps42
    go_wp2_with fail
    refine (HC.out _ ((Below.refl _ _).alloc (Nat.le_refl _) _)).mono ?_
    rintro e w3 ⟨rfl, hbk, hbt⟩
    have HBK3 := Lib.hid hbk
    have HBT3 : Hid (But q w w3) := (But.of ((Below.refl _ _).alloc (Nat.le_refl _) _) (Nat.le_of_lt hqw)).trans hbt
    clear hbk hbt
    go_wp2
    go_ret
    exact ⟨by first | rfl | (simp; done), HBK3.out, HBT3.out⟩
  · have HC : Hid (∀ w', Below w.heap.size w w' → Calls Try.prog 80 #[.pointer (some ⟨p, 0, none⟩), .agg #[.int .i64 port, .int .i64 vid]] w' fun e w'' => e = .returned (.int .i64 (doG 6 kv m port vid now old S B n g).2) ∧ BkAt w'' D p q S B n (doG 6 kv m port vid now old S B n g).1 ∧ But q w' w'') := fun w' hb => ref11_Flush (HH.out w' hb) (HD.out w' hb) hq hS hB hn port vid
    generalize doG 6 kv m port vid now old S B n g = r at *
    clear hst hst' hn hn' hm hnow hK HD HH h hS hB hD
    rw [show ((6 : Nat) : Int) = 6 from rfl] at hk1 hk2
    go_enter Try.func42, Try.ntmps42
    go_wp2_with fail
    refine (HC.out _ ((Below.refl _ _).alloc (Nat.le_refl _) _)).mono ?_
    rintro e w3 ⟨rfl, hbk, hbt⟩
    have HBK3 := Lib.hid hbk
    have HBT3 : Hid (But q w w3) := (But.of ((Below.refl _ _).alloc (Nat.le_refl _) _) (Nat.le_of_lt hqw)).trans hbt
    clear hbk hbt
    go_wp2
    go_ret
    exact ⟨by first | rfl | (simp; done), HBK3.out, HBT3.out⟩
end
section
open Go.RowKit

theorem stRowsR : ST Try.prog 95 22 (.slice none 0 0) 1 24 := ST.mk Try.underlying95 (by kernel_rfl) rfl (by omega) (by omega)
def bkF (S B n : Nat) (LV : Value) : Nat → Value
  | 0 => .int .i64 (S : Nat)
  | 1 => .int .i64 (B : Nat)
  | 2 => .int .i64 (n : Nat)
  | _ => LV
/-- A book under way: its block p, its list LV of k rows, each of n places, in blocks of their own. -/
structure NewI (w wr : World) (p S B n k : Nat) (LV : Value) (vs : List Value) : Prop where
  c0 : wr.cell? ⟨w.heap.size, 0, none⟩ = some (.int .i64 (S : Nat))
  c1 : wr.cell? ⟨w.heap.size, 1, none⟩ = some (.int .i64 (B : Nat))
  c2 : wr.cell? ⟨w.heap.size, 2, none⟩ = some (.int .i64 (n : Nat))
  row : wr.rowIs p 97 4 (bkF S B n LV)
  own : wr.ownsRow (p + 1) 22 1 LV k vs
  rows : ∀ j, j < k → ∃ G, vs[j]? = some (.slice (some ⟨G, 0, none⟩) n n) ∧ wr.rowIs G 74 (n * 6) (rowP fun _ => pl0) ∧ p < G ∧ LV.ownBlock ≠ some G
  bel : Below w.heap.size w wr
set_option maxRecDepth 20000 in
set_option maxHeartbeats 3200000 in
theorem NewI.step {w wr w9 : World} {p S B n k c : Nat} {A : Option Addr} {LV : Value} {vs : List Value} (hp : p = w.heap.size + 1) (h : NewI w wr p S B n k LV vs) (hown : w9.ownsRow (p + 1) 22 1 (.slice A (k + 1) c) (k + 1) (vs ++ [.slice (some ⟨wr.heap.size, 0, none⟩) n n]))
    (hg : ((wr.drew.alloc (.cells (mkC (.agg #[.bool false, .int .i64 0, .int .u64 0, .int .i64 0, .bool false, .int .u32 0]) 6 n) 74)).alloc (.cells #[.slice (some ⟨wr.heap.size, 0, none⟩) n n] 22)).grownBy w9 LV.ownBlock) (hat : (Value.slice A (k + 1) c).ownBlock = LV.ownBlock ∨ (Value.slice A (k + 1) c).ownBlock = some ((wr.drew.alloc (.cells (mkC (.agg #[.bool false, .int .i64 0, .int .u64 0, .int .i64 0, .bool false, .int .u32 0]) 6 n) 74)).alloc (.cells #[.slice (some ⟨wr.heap.size, 0, none⟩) n n] 22)).heap.size) :
    NewI w (w9.setCell ⟨p, 3, none⟩ (.slice A (k + 1) c)) p S B n (k + 1) (.slice A (k + 1) c) (vs ++ [.slice (some ⟨wr.heap.size, 0, none⟩) n n]) := by
  have hB : Below wr.heap.size wr ((wr.drew.alloc (.cells (mkC (.agg #[.bool false, .int .i64 0, .int .u64 0, .int .i64 0, .bool false, .int .u32 0]) 6 n) 74)).alloc (.cells #[.slice (some ⟨wr.heap.size, 0, none⟩) n n] 22)) := (((Below.refl _ _).drew).alloc (Nat.le_refl _) _).alloc (by simp) _
  have hsz : ((wr.drew.alloc (.cells (mkC (.agg #[.bool false, .int .i64 0, .int .u64 0, .int .i64 0, .bool false, .int .u32 0]) 6 n) 74)).alloc (.cells #[.slice (some ⟨wr.heap.size, 0, none⟩) n n] 22)).heap.size = wr.heap.size + 2 := by simp
  have hov := h.own.lt
  have hlen := h.own.1
  have hblk : ∀ x, x < wr.heap.size → LV.ownBlock ≠ some x → w9.heap[x]? = wr.heap[x]? := fun x hx hn => (hg.block x (by omega) (Ne.symm hn)).trans (hB.block x hx)
  have hpn : ∀ x, x ≤ p → LV.ownBlock ≠ some x := fun x hx e => by have := (hov x e).1; omega
  have hc : ∀ x o, x ≤ p → w9.cell? ⟨x, o, none⟩ = wr.cell? ⟨x, o, none⟩ := fun x o hx => World.cell?_of_block (w := wr) (hblk x (by have := h.row.lt; omega) (hpn x hx))
  have hlt := h.row.lt
  have hs9 := hg.size
  have hset : ∀ x, x ≠ p → (w9.setCell ⟨p, 3, none⟩ (.slice A (k + 1) c)).heap[x]? = w9.heap[x]? := fun x hx => Below.heap_setCell _ _ _ _ (by show x ≠ p; exact hx)
  have hcs : ∀ x o, x ≤ p → x ≠ p → (w9.setCell ⟨p, 3, none⟩ (.slice A (k + 1) c)).cell? ⟨x, o, none⟩ = wr.cell? ⟨x, o, none⟩ := fun x o hx hn => (World.cell?_of_block (w := w9) (hset x hn)).trans (hc x o hx)
  refine ⟨(hcs _ _ (by omega) (by omega)).trans h.c0, (hcs _ _ (by omega) (by omega)).trans h.c1, (hcs _ _ (by omega) (by omega)).trans h.c2, ?_, ?_, ?_, ?_⟩
  · exact ((h.row.of_block (hblk p hlt (hpn p (Nat.le_refl _)))).set 3 _).congr fun i hi => (by
      match i, hi with
      | 0, _ => rfl
      | 1, _ => rfl
      | 2, _ => rfl
      | 3, _ => rfl)
  · exact ownsRow_setCell_below hown (by show p < p + 1; omega) _
  · intro j hj
    have hap : ∀ G, p < G → G ≤ wr.heap.size → LV.ownBlock ≠ some G → (Value.slice A (k + 1) c).ownBlock ≠ some G := fun G h1 h2 h3 => by
      rcases hat with e | e
      · rw [e]; exact h3
      · rw [e, hsz]; simp; omega
    rcases Nat.lt_or_ge j k with hjk | hjk
    · obtain ⟨G, g1, g2, g3, g4⟩ := h.rows j hjk
      have hG := g2.lt
      refine ⟨G, ?_, g2.of_block ((hset G (by omega)).trans (hblk G hG g4)), g3, hap G g3 (by omega) g4⟩
      rw [List.getElem?_append_left (by omega)]; exact g1
    · have hj' : j = k := by omega
      subst hj'
      have hnw : LV.ownBlock ≠ some wr.heap.size := fun e => by have := (hov _ e).2; omega
      refine ⟨wr.heap.size, ?_, ?_, hlt, hap _ hlt (Nat.le_refl _) hnw⟩
      · rw [List.getElem?_append_right (by omega)]
        simp [show j - vs.length = 0 by omega]
      · have h1 : (wr.drew.alloc (.cells (mkC (.agg #[.bool false, .int .i64 0, .int .u64 0, .int .i64 0, .bool false, .int .u32 0]) 6 n) 74)).rowIs wr.heap.size 74 (n * 6) (rowP fun _ => pl0) := rowIs_mk6 (w := wr.drew)
        have h2 := h1.alloc (.cells #[.slice (some ⟨wr.heap.size, 0, none⟩) n n] 22)
        exact (h2.of_block (hg.block _ (by rw [hsz]; omega) (Ne.symm hnw))).of_block (hset _ (by omega))
  · refine (h.bel.trans ((hB.mono h.bel.size).trans ⟨hg.os, hg.tape, hg.output, hg.size, fun x hx => hg.block x (by have := hB.size; have := h.bel.size; omega) (Ne.symm (hpn x (by omega)))⟩)).setCell (by show w.heap.size ≤ p; omega) _
set_option maxRecDepth 20000 in
set_option maxHeartbeats 6400000 in
theorem ref11_New (S B n : Nat) (hS : 1 ≤ S ∧ S ≤ 8) (hB : 1 ≤ B ∧ B ≤ 16) (hn : 1 ≤ n ∧ n ≤ 8) (w : World) :
    Calls Try.prog 38 #[.agg #[.int .i64 (S : Nat), .int .i64 (B : Nat), .int .i64 (n : Nat)]] w fun e w' => ∃ p q, e = .returned (.pointer (some ⟨p, 0, none⟩)) ∧
      BkAt w' (fun b => b < w.heap.size ∨ b = p ∨ b = q) p q S B n (fun _ _ => pl0) ∧ w.heap.size ≤ p ∧ w.heap.size ≤ q ∧ Below w.heap.size w w' := by
  obtain ⟨M, hM⟩ : ∃ M, M = S * B := ⟨_, rfl⟩
  have hMB : M ≤ 128 := by rw [hM]; exact Nat.mul_le_mul hS.2 hB.2
  have hM1 : 1 ≤ M := by rw [hM]; exact Nat.mul_pos hS.1 hB.1
  have hmul : (S : Int) * (B : Int) = (M : Int) := by rw [hM]; simp
  have HMW : Hid (wrap64 ((S : Int) * (B : Int)) = (M : Int)) := by show _ = _; rw [hmul]; exact IntWalk.wrap64_in _ (by omega)
  have hk2 := fun W => run_mkFull (P := Try.prog) W stPlacesR n (by omega)
  have HM := Lib.hid hM
  clear hM hmul
  have HST : Hid (NewI w ((w.alloc (.cells #[.int .i64 (S : Nat), .int .i64 (B : Nat), .int .i64 (n : Nat)] 79)).alloc (.cells #[.int .i64 (S : Nat), .int .i64 (B : Nat), .int .i64 (n : Nat), .slice none 0 0] 97)) (w.heap.size + 1) S B n 0 (.slice none 0 0) []) := by
    refine ⟨by simp [go_sem], by simp [go_sem], by simp [go_sem], ?_, World.ownsRow_nil _ _ _ _, fun j hj => absurd hj (by omega), ((Below.refl _ _).alloc (Nat.le_refl _) _).alloc (by simp) _⟩
    have := World.rowIs_alloc (w.alloc (.cells #[.int .i64 (S : Nat), .int .i64 (B : Nat), .int .i64 (n : Nat)] 79)) #[.int .i64 (S : Nat), .int .i64 (B : Nat), .int .i64 (n : Nat), .slice none 0 0] 97 (bkF S B n (.slice none 0 0)) (fun i hi => by
      match i, hi with
      | 0, _ => rfl
      | 1, _ => rfl
      | 2, _ => rfl
      | 3, _ => rfl)
    simpa using this
  go_enter Try.func38, Try.ntmps38
  go_wp2
  obtain ⟨p, hp⟩ : ∃ p, p = w.heap.size + 1 := ⟨_, rfl⟩
  rw [← hp] at HST ⊢
  have HP := Lib.hid hp
  clear hp
  go_loopw [4] (fun i wr => ∃ k : Nat, k ≤ M ∧ i = .int .i64 k ∧ ∃ LV vs, NewI w wr p S B n k LV vs) (fun i _ => M - (intOf i).toNat)
  case atStart => exact ⟨0, by omega, rfl, _, _, HST.out⟩
  case round =>
    obtain ⟨k, hk, rfl, LV, vs, hI⟩ := hrel
    have HI := Lib.hid hI
    have hc0 := hI.c0
    have hc1 := hI.c1
    have hc2 := hI.c2
    have g0 : (0 : Int) ≤ (k : Int) := Int.natCast_nonneg _
    by_cases hlt : k < M
    · have g1 : (k : Int) < (M : Int) := by omega
      have hp3 : wr.cell? ⟨p, 3, none⟩ = some LV := hI.row.cell (by omega)
      have hpf : wr.frozen? ⟨p, 3, none⟩ = false := hI.row.frozen 3
      have hplt := hI.row.lt
      have hwz : w.heap.size < wr.heap.size := by have := HP.out; omega
      have hpb : w.heap.size < p := by have := HP.out; omega
      have hal : ∀ (o1 o2 : Obj), ((wr.drew.alloc o1).alloc o2).cell? ⟨w.heap.size, 2, none⟩ = some (.int .i64 (n : Nat)) := fun o1 o2 => (World.cell?_alloc_lt _ _ _ (by simp; omega)).trans ((World.cell?_alloc_lt _ _ _ (by show w.heap.size < wr.heap.size; omega)).trans hc2)
      have hap : ∀ (o1 o2 : Obj), ((wr.drew.alloc o1).alloc o2).cell? ⟨p, 3, none⟩ = some LV := fun o1 o2 => (World.cell?_alloc_lt _ _ _ (by simp; omega)).trans ((World.cell?_alloc_lt _ _ _ (by show p < wr.heap.size; omega)).trans hp3)
      have haf : ∀ (o1 o2 : Obj), ((wr.drew.alloc o1).alloc o2).frozen? ⟨p, 3, none⟩ = false := fun o1 o2 => ((((Below.refl wr.heap.size wr).drew).alloc (Nat.le_refl _) o1).alloc (by simp) o2).frozen (p := ⟨p, 3, none⟩) hplt |>.trans hpf
      have hmw := HMW.out
      clear hI HST
      go_wp2_with fail
      clear hmw
      refine wp_region_held_drew (S := fun w' => w'.cell? ⟨w.heap.size, 2, none⟩ = some (.int .i64 (n : Nat))) (by kernel_rfl) ?_ (fun hHeld => ?_)
      · exact HI.out.c2
      refine wpAnyH_take (i := 0) (oi := { dst := some 17, op := Go.Op.move (Go.Operand.tmp 3), type := 88, pos := "ref.go:37", after := #[], guard := none }) (v := ?_) rfl (by kernel_rfl) (by kernel_rfl) (by kernel_rfl) (fun _ _ _ h => h) (Or.inl ⟨by rfl, ?_⟩) (by assumption) ?_
      rotate_left
      · intro w hSw
        (try dsimp only at hSw)
        go_simp
        try with_reducible rfl
      (try simp only [Act.put, List.setIfInBounds_toArray, List.set_cons_zero, List.set_cons_succ])
      refine wpAnyH_take (i := 1) (oi := { dst := some 18, op := Go.Op.move (Go.Operand.tmp 3), type := 88, pos := "ref.go:37", after := #[], guard := none }) (v := ?_) rfl (by kernel_rfl) (by kernel_rfl) (by kernel_rfl) (fun _ _ _ h => h) (Or.inl ⟨by rfl, ?_⟩) (by assumption) ?_
      rotate_left
      · intro w hSw
        (try dsimp only at hSw)
        go_simp
        try with_reducible rfl
      (try simp only [Act.put, List.setIfInBounds_toArray, List.set_cons_zero, List.set_cons_succ])
      refine wpAnyH_take (i := 2) (oi := { dst := some 19, op := Go.Op.nilCheck (Go.Operand.tmp 18), type := 0, pos := "ref.go:37", after := #[{ on := 1, ground := Go.Ground.data }], guard := none }) (v := ?_) rfl (by kernel_rfl) (by kernel_rfl) (by kernel_rfl) (fun _ _ _ h => h) (Or.inl ⟨by rfl, ?_⟩) (by assumption) ?_
      rotate_left
      · intro w hSw
        (try dsimp only at hSw)
        go_simp
        try with_reducible rfl
      (try simp only [Act.put, List.setIfInBounds_toArray, List.set_cons_zero, List.set_cons_succ])
      refine wpAnyH_take (i := 3) (oi := { dst := some 20, op := Go.Op.fieldAddr 97 (Go.Operand.tmp 19) 1, type := 0, pos := "ref.go:37", after := #[{ on := 2, ground := Go.Ground.data }], guard := none }) (v := ?_) rfl (by kernel_rfl) (by kernel_rfl) (by kernel_rfl) (fun _ _ _ h => h) (Or.inl ⟨by rfl, ?_⟩) (by assumption) ?_
      rotate_left
      · intro w hSw
        (try dsimp only at hSw)
        go_simp
        try with_reducible rfl
      (try simp only [Act.put, List.setIfInBounds_toArray, List.set_cons_zero, List.set_cons_succ])
      refine wpAnyH_take (i := 5) (oi := { dst := some 22, op := Go.Op.fieldAddr 79 (Go.Operand.tmp 1) 2, type := 0, pos := "ref.go:37", after := #[], guard := none }) (v := ?_) rfl (by kernel_rfl) (by kernel_rfl) (by kernel_rfl) (fun _ _ _ h => h) (Or.inl ⟨by rfl, ?_⟩) (by assumption) ?_
      rotate_left
      · intro w hSw
        (try dsimp only at hSw)
        go_simp
        try with_reducible rfl
      (try simp only [Act.put, List.setIfInBounds_toArray, List.set_cons_zero, List.set_cons_succ])
      refine wpAnyH_take (i := 6) (oi := { dst := some 23, op := Go.Op.load 3 (Go.Operand.tmp 22), type := 3, pos := "ref.go:37", after := #[{ on := 5, ground := Go.Ground.data }], guard := none }) (v := ?_) rfl (by kernel_rfl) (by kernel_rfl) (by kernel_rfl) (fun _ _ _ h => h) (Or.inl ⟨by rfl, ?_⟩) (by assumption) ?_
      rotate_left
      · intro w hSw
        (try dsimp only at hSw)
        go_simp
        try with_reducible rfl
      (try simp only [Act.put, List.setIfInBounds_toArray, List.set_cons_zero, List.set_cons_succ])
      refine wpAnyH_ready (rs := [4, 7]) (by kernel_rfl) (by simp) ?_
      refine (AllReadyH.cons (o := { dst := some 21, op := Go.Op.load 95 (Go.Operand.tmp 20), type := 95, pos := "ref.go:37", after := #[{ on := 3, ground := Go.Ground.data }], guard := none }) rfl (fun K hK => ?_) (AllReadyH.cons (o := { dst := some 24, op := Go.Op.makeSlice 22 (Go.Operand.tmp 23) (Go.Operand.tmp 23), type := 22, pos := "ref.go:37", after := #[{ on := 6, ground := Go.Ground.data }, { on := 6, ground := Go.Ground.data }], guard := none }) rfl (fun K hK => ?_) AllReadyH.nil))
      · go_simp

        refine hK.out _ _ ?_ (fun hHeld => ?_)
        · (try dsimp only)
          exact hHeld
        clear hK K
        (try simp only [Act.put, List.setIfInBounds_toArray, List.set_cons_zero, List.set_cons_succ])
        refine wpAnyH_ready (rs := [7]) (by kernel_rfl) (by simp) ?_
        refine (AllReadyH.cons (o := { dst := some 24, op := Go.Op.makeSlice 22 (Go.Operand.tmp 23) (Go.Operand.tmp 23), type := 22, pos := "ref.go:37", after := #[{ on := 6, ground := Go.Ground.data }, { on := 6, ground := Go.Ground.data }], guard := none }) rfl (fun K hK => ?_) AllReadyH.nil)
        go_simp

        refine hK.out _ _ ?_ (fun hHeld => ?_)
        · (try dsimp only)
          exact (World.cell?_alloc_lt _ _ _ (by show w.heap.size < wr.heap.size; omega)).trans hc2
        clear hK K
        (try simp only [Act.put, List.setIfInBounds_toArray, List.set_cons_zero, List.set_cons_succ])
        refine wpAnyH_ready (rs := [8]) (by kernel_rfl) (by simp) ?_
        refine (AllReadyH.cons (o := { dst := some 25, op := Go.Op.buildSlice 95 1 #[(0, Go.Operand.tmp 24)], type := 95, pos := "ref.go:37", after := #[{ on := 7, ground := Go.Ground.data }], guard := none }) rfl (fun K hK => ?_) AllReadyH.nil)
        go_simp

        refine hK.out _ _ ?_ (fun hHeld => ?_)
        · (try dsimp only)
          exact hal _ _
        clear hK K
        (try simp only [Act.put, List.setIfInBounds_toArray, List.set_cons_zero, List.set_cons_succ])
        refine wpAnyH_ready (rs := [9]) (by kernel_rfl) (by simp) ?_
        refine (AllReadyH.cons (o := { dst := some 26, op := Go.Op.call { callee := Go.Callee.builtin Go.Builtin.append, args := #[Go.Operand.tmp 21, Go.Operand.tmp 25], argTypes := #[95, 95] }, type := 95, pos := "ref.go:37", after := #[{ on := 4, ground := Go.Ground.data }, { on := 8, ground := Go.Ground.data }], guard := none }) rfl (fun K hK => ?_) AllReadyH.nil)
        refine step_app _ (by rfl) stRowsR _ _ (by rfl) (p + 1) LV k vs (by rfl) (own_below HI.out.own ((((Below.refl _ _).drew).alloc (Nat.le_refl _) (.cells (mkC (.agg #[.bool false, .int .i64 0, .int .u64 0, .int .i64 0, .bool false, .int .u32 0]) 6 n) 74)).alloc (by simp) (.cells #[.slice (some ⟨wr.heap.size, 0, none⟩) n n] 22))) _ _ 1 [.slice (some ⟨wr.heap.size, 0, none⟩) n n] (by rfl) (Sl.lit_at (by simp) rfl (by decide)) (by simp [Value.oneCell']) (by omega) (by simp; omega) ?_
        intro v9 w9 hown9 hgr9 hat9 hbel9
        obtain ⟨A9, c9, hv9, _, _⟩ := (Sl.of_own hown9).form
        subst hv9
        have HN9 := Lib.hid (NewI.step HP.out HI.out hown9 hgr9 hat9)
        have hp9 := HN9.out
        have h3c : w9.cell? ⟨w.heap.size, 2, none⟩ = some (.int .i64 (n : Nat)) := (hbel9.cell (p := ⟨w.heap.size, 2, none⟩) (by have := HP.out; show w.heap.size < p + 1; omega)).trans (hal _ _)
        have h3p : w9.cell? ⟨p, 3, none⟩ = some LV := (hbel9.cell (p := ⟨p, 3, none⟩) (by show p < p + 1; omega)).trans (hap _ _)
        have h3f : w9.frozen? ⟨p, 3, none⟩ = false := (hbel9.frozen (p := ⟨p, 3, none⟩) (by show p < p + 1; omega)).trans (haf _ _)
        clear hown9 hgr9 hat9 hbel9 hp9
        refine hK.out _ _ ?_ (fun hHeld => ?_)
        · (try dsimp only)
          exact h3c
        clear hK K
        (try simp only [Act.put, List.setIfInBounds_toArray, List.set_cons_zero, List.set_cons_succ])
        refine wpAnyH_take (i := 10) (oi := { dst := some 27, op := Go.Op.nilCheck (Go.Operand.tmp 17), type := 0, pos := "ref.go:37", after := #[{ on := 0, ground := Go.Ground.data }, { on := 0, ground := Go.Ground.phase }, { on := 1, ground := Go.Ground.phase }, { on := 2, ground := Go.Ground.phase }, { on := 3, ground := Go.Ground.phase }, { on := 4, ground := Go.Ground.phase }, { on := 5, ground := Go.Ground.phase }, { on := 6, ground := Go.Ground.phase }, { on := 7, ground := Go.Ground.phase }, { on := 8, ground := Go.Ground.phase }, { on := 9, ground := Go.Ground.phase }], guard := none }) (v := ?_) rfl (by kernel_rfl) (by kernel_rfl) (by kernel_rfl) (fun _ _ _ h => h) (Or.inl ⟨by rfl, ?_⟩) (by assumption) ?_
        rotate_left
        · intro w hSw
          (try dsimp only at hSw)
          go_simp
          try with_reducible rfl
        (try simp only [Act.put, List.setIfInBounds_toArray, List.set_cons_zero, List.set_cons_succ])
        refine wpAnyH_take (i := 11) (oi := { dst := some 28, op := Go.Op.fieldAddr 97 (Go.Operand.tmp 27) 1, type := 0, pos := "ref.go:37", after := #[{ on := 10, ground := Go.Ground.data }, { on := 0, ground := Go.Ground.phase }, { on := 1, ground := Go.Ground.phase }, { on := 2, ground := Go.Ground.phase }, { on := 3, ground := Go.Ground.phase }, { on := 4, ground := Go.Ground.phase }, { on := 5, ground := Go.Ground.phase }, { on := 6, ground := Go.Ground.phase }, { on := 7, ground := Go.Ground.phase }, { on := 8, ground := Go.Ground.phase }, { on := 9, ground := Go.Ground.phase }], guard := none }) (v := ?_) rfl (by kernel_rfl) (by kernel_rfl) (by kernel_rfl) (fun _ _ _ h => h) (Or.inl ⟨by rfl, ?_⟩) (by assumption) ?_
        rotate_left
        · intro w hSw
          (try dsimp only at hSw)
          go_simp
          try with_reducible rfl
        (try simp only [Act.put, List.setIfInBounds_toArray, List.set_cons_zero, List.set_cons_succ])
        refine wpAnyH_ready (rs := [12]) (by kernel_rfl) (by simp) ?_
        refine (AllReadyH.cons (o := { dst := none, op := Go.Op.store 95 (Go.Operand.tmp 28) (Go.Operand.tmp 26), type := 0, pos := "ref.go:37", after := #[{ on := 11, ground := Go.Ground.data }, { on := 9, ground := Go.Ground.data }, { on := 9, ground := Go.Ground.chain }, { on := 0, ground := Go.Ground.phase }, { on := 1, ground := Go.Ground.phase }, { on := 2, ground := Go.Ground.phase }, { on := 3, ground := Go.Ground.phase }, { on := 4, ground := Go.Ground.phase }, { on := 5, ground := Go.Ground.phase }, { on := 6, ground := Go.Ground.phase }, { on := 7, ground := Go.Ground.phase }, { on := 8, ground := Go.Ground.phase }, { on := 9, ground := Go.Ground.phase }], guard := none }) rfl (fun K hK => ?_) AllReadyH.nil)
        go_simp

        refine hK.out _ _ ?_ (fun hHeld => ?_)
        · (try dsimp only)
          exact HN9.out.c2
        clear hK K
        (try simp only [Act.put, List.setIfInBounds_toArray, List.set_cons_zero, List.set_cons_succ])
        refine wpAnyH_done (by kernel_rfl) ?_ _
        go_wp2
        go_roundw
        case rel => exact ⟨k + 1, by omega, by go_num, _, _, HN9.out⟩
        case measure => simp [intOf]; omega
      · go_simp

        refine hK.out _ _ ?_ (fun hHeld => ?_)
        · (try dsimp only)
          exact (World.cell?_alloc_lt _ _ _ (by show w.heap.size < wr.heap.size; omega)).trans hc2
        clear hK K
        (try simp only [Act.put, List.setIfInBounds_toArray, List.set_cons_zero, List.set_cons_succ])
        refine wpAnyH_ready (rs := [4, 8]) (by kernel_rfl) (by simp) ?_
        refine (AllReadyH.cons (o := { dst := some 21, op := Go.Op.load 95 (Go.Operand.tmp 20), type := 95, pos := "ref.go:37", after := #[{ on := 3, ground := Go.Ground.data }], guard := none }) rfl (fun K hK => ?_) (AllReadyH.cons (o := { dst := some 25, op := Go.Op.buildSlice 95 1 #[(0, Go.Operand.tmp 24)], type := 95, pos := "ref.go:37", after := #[{ on := 7, ground := Go.Ground.data }], guard := none }) rfl (fun K hK => ?_) AllReadyH.nil))
        · go_simp

          refine hK.out _ _ ?_ (fun hHeld => ?_)
          · (try dsimp only)
            exact hHeld
          clear hK K
          (try simp only [Act.put, List.setIfInBounds_toArray, List.set_cons_zero, List.set_cons_succ])
          refine wpAnyH_ready (rs := [8]) (by kernel_rfl) (by simp) ?_
          refine (AllReadyH.cons (o := { dst := some 25, op := Go.Op.buildSlice 95 1 #[(0, Go.Operand.tmp 24)], type := 95, pos := "ref.go:37", after := #[{ on := 7, ground := Go.Ground.data }], guard := none }) rfl (fun K hK => ?_) AllReadyH.nil)
          go_simp

          refine hK.out _ _ ?_ (fun hHeld => ?_)
          · (try dsimp only)
            exact hal _ _
          clear hK K
          (try simp only [Act.put, List.setIfInBounds_toArray, List.set_cons_zero, List.set_cons_succ])
          refine wpAnyH_ready (rs := [9]) (by kernel_rfl) (by simp) ?_
          refine (AllReadyH.cons (o := { dst := some 26, op := Go.Op.call { callee := Go.Callee.builtin Go.Builtin.append, args := #[Go.Operand.tmp 21, Go.Operand.tmp 25], argTypes := #[95, 95] }, type := 95, pos := "ref.go:37", after := #[{ on := 4, ground := Go.Ground.data }, { on := 8, ground := Go.Ground.data }], guard := none }) rfl (fun K hK => ?_) AllReadyH.nil)
          refine step_app _ (by rfl) stRowsR _ _ (by rfl) (p + 1) LV k vs (by rfl) (own_below HI.out.own ((((Below.refl _ _).drew).alloc (Nat.le_refl _) (.cells (mkC (.agg #[.bool false, .int .i64 0, .int .u64 0, .int .i64 0, .bool false, .int .u32 0]) 6 n) 74)).alloc (by simp) (.cells #[.slice (some ⟨wr.heap.size, 0, none⟩) n n] 22))) _ _ 1 [.slice (some ⟨wr.heap.size, 0, none⟩) n n] (by rfl) (Sl.lit_at (by simp) rfl (by decide)) (by simp [Value.oneCell']) (by omega) (by simp; omega) ?_
          intro v9 w9 hown9 hgr9 hat9 hbel9
          obtain ⟨A9, c9, hv9, _, _⟩ := (Sl.of_own hown9).form
          subst hv9
          have HN9 := Lib.hid (NewI.step HP.out HI.out hown9 hgr9 hat9)
          have hp9 := HN9.out
          have h3c : w9.cell? ⟨w.heap.size, 2, none⟩ = some (.int .i64 (n : Nat)) := (hbel9.cell (p := ⟨w.heap.size, 2, none⟩) (by have := HP.out; show w.heap.size < p + 1; omega)).trans (hal _ _)
          have h3p : w9.cell? ⟨p, 3, none⟩ = some LV := (hbel9.cell (p := ⟨p, 3, none⟩) (by show p < p + 1; omega)).trans (hap _ _)
          have h3f : w9.frozen? ⟨p, 3, none⟩ = false := (hbel9.frozen (p := ⟨p, 3, none⟩) (by show p < p + 1; omega)).trans (haf _ _)
          clear hown9 hgr9 hat9 hbel9 hp9
          refine hK.out _ _ ?_ (fun hHeld => ?_)
          · (try dsimp only)
            exact h3c
          clear hK K
          (try simp only [Act.put, List.setIfInBounds_toArray, List.set_cons_zero, List.set_cons_succ])
          refine wpAnyH_take (i := 10) (oi := { dst := some 27, op := Go.Op.nilCheck (Go.Operand.tmp 17), type := 0, pos := "ref.go:37", after := #[{ on := 0, ground := Go.Ground.data }, { on := 0, ground := Go.Ground.phase }, { on := 1, ground := Go.Ground.phase }, { on := 2, ground := Go.Ground.phase }, { on := 3, ground := Go.Ground.phase }, { on := 4, ground := Go.Ground.phase }, { on := 5, ground := Go.Ground.phase }, { on := 6, ground := Go.Ground.phase }, { on := 7, ground := Go.Ground.phase }, { on := 8, ground := Go.Ground.phase }, { on := 9, ground := Go.Ground.phase }], guard := none }) (v := ?_) rfl (by kernel_rfl) (by kernel_rfl) (by kernel_rfl) (fun _ _ _ h => h) (Or.inl ⟨by rfl, ?_⟩) (by assumption) ?_
          rotate_left
          · intro w hSw
            (try dsimp only at hSw)
            go_simp
            try with_reducible rfl
          (try simp only [Act.put, List.setIfInBounds_toArray, List.set_cons_zero, List.set_cons_succ])
          refine wpAnyH_take (i := 11) (oi := { dst := some 28, op := Go.Op.fieldAddr 97 (Go.Operand.tmp 27) 1, type := 0, pos := "ref.go:37", after := #[{ on := 10, ground := Go.Ground.data }, { on := 0, ground := Go.Ground.phase }, { on := 1, ground := Go.Ground.phase }, { on := 2, ground := Go.Ground.phase }, { on := 3, ground := Go.Ground.phase }, { on := 4, ground := Go.Ground.phase }, { on := 5, ground := Go.Ground.phase }, { on := 6, ground := Go.Ground.phase }, { on := 7, ground := Go.Ground.phase }, { on := 8, ground := Go.Ground.phase }, { on := 9, ground := Go.Ground.phase }], guard := none }) (v := ?_) rfl (by kernel_rfl) (by kernel_rfl) (by kernel_rfl) (fun _ _ _ h => h) (Or.inl ⟨by rfl, ?_⟩) (by assumption) ?_
          rotate_left
          · intro w hSw
            (try dsimp only at hSw)
            go_simp
            try with_reducible rfl
          (try simp only [Act.put, List.setIfInBounds_toArray, List.set_cons_zero, List.set_cons_succ])
          refine wpAnyH_ready (rs := [12]) (by kernel_rfl) (by simp) ?_
          refine (AllReadyH.cons (o := { dst := none, op := Go.Op.store 95 (Go.Operand.tmp 28) (Go.Operand.tmp 26), type := 0, pos := "ref.go:37", after := #[{ on := 11, ground := Go.Ground.data }, { on := 9, ground := Go.Ground.data }, { on := 9, ground := Go.Ground.chain }, { on := 0, ground := Go.Ground.phase }, { on := 1, ground := Go.Ground.phase }, { on := 2, ground := Go.Ground.phase }, { on := 3, ground := Go.Ground.phase }, { on := 4, ground := Go.Ground.phase }, { on := 5, ground := Go.Ground.phase }, { on := 6, ground := Go.Ground.phase }, { on := 7, ground := Go.Ground.phase }, { on := 8, ground := Go.Ground.phase }, { on := 9, ground := Go.Ground.phase }], guard := none }) rfl (fun K hK => ?_) AllReadyH.nil)
          go_simp

          refine hK.out _ _ ?_ (fun hHeld => ?_)
          · (try dsimp only)
            exact HN9.out.c2
          clear hK K
          (try simp only [Act.put, List.setIfInBounds_toArray, List.set_cons_zero, List.set_cons_succ])
          refine wpAnyH_done (by kernel_rfl) ?_ _
          go_wp2
          go_roundw
          case rel => exact ⟨k + 1, by omega, by go_num, _, _, HN9.out⟩
          case measure => simp [intOf]; omega
        · go_simp

          refine hK.out _ _ ?_ (fun hHeld => ?_)
          · (try dsimp only)
            exact hal _ _
          clear hK K
          (try simp only [Act.put, List.setIfInBounds_toArray, List.set_cons_zero, List.set_cons_succ])
          refine wpAnyH_ready (rs := [4]) (by kernel_rfl) (by simp) ?_
          refine (AllReadyH.cons (o := { dst := some 21, op := Go.Op.load 95 (Go.Operand.tmp 20), type := 95, pos := "ref.go:37", after := #[{ on := 3, ground := Go.Ground.data }], guard := none }) rfl (fun K hK => ?_) AllReadyH.nil)
          go_simp

          refine hK.out _ _ ?_ (fun hHeld => ?_)
          · (try dsimp only)
            exact hHeld
          clear hK K
          (try simp only [Act.put, List.setIfInBounds_toArray, List.set_cons_zero, List.set_cons_succ])
          refine wpAnyH_ready (rs := [9]) (by kernel_rfl) (by simp) ?_
          refine (AllReadyH.cons (o := { dst := some 26, op := Go.Op.call { callee := Go.Callee.builtin Go.Builtin.append, args := #[Go.Operand.tmp 21, Go.Operand.tmp 25], argTypes := #[95, 95] }, type := 95, pos := "ref.go:37", after := #[{ on := 4, ground := Go.Ground.data }, { on := 8, ground := Go.Ground.data }], guard := none }) rfl (fun K hK => ?_) AllReadyH.nil)
          refine step_app _ (by rfl) stRowsR _ _ (by rfl) (p + 1) LV k vs (by rfl) (own_below HI.out.own ((((Below.refl _ _).drew).alloc (Nat.le_refl _) (.cells (mkC (.agg #[.bool false, .int .i64 0, .int .u64 0, .int .i64 0, .bool false, .int .u32 0]) 6 n) 74)).alloc (by simp) (.cells #[.slice (some ⟨wr.heap.size, 0, none⟩) n n] 22))) _ _ 1 [.slice (some ⟨wr.heap.size, 0, none⟩) n n] (by rfl) (Sl.lit_at (by simp) rfl (by decide)) (by simp [Value.oneCell']) (by omega) (by simp; omega) ?_
          intro v9 w9 hown9 hgr9 hat9 hbel9
          obtain ⟨A9, c9, hv9, _, _⟩ := (Sl.of_own hown9).form
          subst hv9
          have HN9 := Lib.hid (NewI.step HP.out HI.out hown9 hgr9 hat9)
          have hp9 := HN9.out
          have h3c : w9.cell? ⟨w.heap.size, 2, none⟩ = some (.int .i64 (n : Nat)) := (hbel9.cell (p := ⟨w.heap.size, 2, none⟩) (by have := HP.out; show w.heap.size < p + 1; omega)).trans (hal _ _)
          have h3p : w9.cell? ⟨p, 3, none⟩ = some LV := (hbel9.cell (p := ⟨p, 3, none⟩) (by show p < p + 1; omega)).trans (hap _ _)
          have h3f : w9.frozen? ⟨p, 3, none⟩ = false := (hbel9.frozen (p := ⟨p, 3, none⟩) (by show p < p + 1; omega)).trans (haf _ _)
          clear hown9 hgr9 hat9 hbel9 hp9
          refine hK.out _ _ ?_ (fun hHeld => ?_)
          · (try dsimp only)
            exact h3c
          clear hK K
          (try simp only [Act.put, List.setIfInBounds_toArray, List.set_cons_zero, List.set_cons_succ])
          refine wpAnyH_take (i := 10) (oi := { dst := some 27, op := Go.Op.nilCheck (Go.Operand.tmp 17), type := 0, pos := "ref.go:37", after := #[{ on := 0, ground := Go.Ground.data }, { on := 0, ground := Go.Ground.phase }, { on := 1, ground := Go.Ground.phase }, { on := 2, ground := Go.Ground.phase }, { on := 3, ground := Go.Ground.phase }, { on := 4, ground := Go.Ground.phase }, { on := 5, ground := Go.Ground.phase }, { on := 6, ground := Go.Ground.phase }, { on := 7, ground := Go.Ground.phase }, { on := 8, ground := Go.Ground.phase }, { on := 9, ground := Go.Ground.phase }], guard := none }) (v := ?_) rfl (by kernel_rfl) (by kernel_rfl) (by kernel_rfl) (fun _ _ _ h => h) (Or.inl ⟨by rfl, ?_⟩) (by assumption) ?_
          rotate_left
          · intro w hSw
            (try dsimp only at hSw)
            go_simp
            try with_reducible rfl
          (try simp only [Act.put, List.setIfInBounds_toArray, List.set_cons_zero, List.set_cons_succ])
          refine wpAnyH_take (i := 11) (oi := { dst := some 28, op := Go.Op.fieldAddr 97 (Go.Operand.tmp 27) 1, type := 0, pos := "ref.go:37", after := #[{ on := 10, ground := Go.Ground.data }, { on := 0, ground := Go.Ground.phase }, { on := 1, ground := Go.Ground.phase }, { on := 2, ground := Go.Ground.phase }, { on := 3, ground := Go.Ground.phase }, { on := 4, ground := Go.Ground.phase }, { on := 5, ground := Go.Ground.phase }, { on := 6, ground := Go.Ground.phase }, { on := 7, ground := Go.Ground.phase }, { on := 8, ground := Go.Ground.phase }, { on := 9, ground := Go.Ground.phase }], guard := none }) (v := ?_) rfl (by kernel_rfl) (by kernel_rfl) (by kernel_rfl) (fun _ _ _ h => h) (Or.inl ⟨by rfl, ?_⟩) (by assumption) ?_
          rotate_left
          · intro w hSw
            (try dsimp only at hSw)
            go_simp
            try with_reducible rfl
          (try simp only [Act.put, List.setIfInBounds_toArray, List.set_cons_zero, List.set_cons_succ])
          refine wpAnyH_ready (rs := [12]) (by kernel_rfl) (by simp) ?_
          refine (AllReadyH.cons (o := { dst := none, op := Go.Op.store 95 (Go.Operand.tmp 28) (Go.Operand.tmp 26), type := 0, pos := "ref.go:37", after := #[{ on := 11, ground := Go.Ground.data }, { on := 9, ground := Go.Ground.data }, { on := 9, ground := Go.Ground.chain }, { on := 0, ground := Go.Ground.phase }, { on := 1, ground := Go.Ground.phase }, { on := 2, ground := Go.Ground.phase }, { on := 3, ground := Go.Ground.phase }, { on := 4, ground := Go.Ground.phase }, { on := 5, ground := Go.Ground.phase }, { on := 6, ground := Go.Ground.phase }, { on := 7, ground := Go.Ground.phase }, { on := 8, ground := Go.Ground.phase }, { on := 9, ground := Go.Ground.phase }], guard := none }) rfl (fun K hK => ?_) AllReadyH.nil)
          go_simp

          refine hK.out _ _ ?_ (fun hHeld => ?_)
          · (try dsimp only)
            exact HN9.out.c2
          clear hK K
          (try simp only [Act.put, List.setIfInBounds_toArray, List.set_cons_zero, List.set_cons_succ])
          refine wpAnyH_done (by kernel_rfl) ?_ _
          go_wp2
          go_roundw
          case rel => exact ⟨k + 1, by omega, by go_num, _, _, HN9.out⟩
          case measure => simp [intOf]; omega
    · have hkM : M = k := by omega
      subst hkM
      have hmw := HMW.out
      clear hI HST
      go_wp2
      go_ret
      obtain ⟨A, c, hv, hc, hcm, hA⟩ := (Sl.of_own HI.out.own).2
      subst hv
      obtain ⟨b, off, rfl, hb, _⟩ := hA (by omega)
      have hown := HI.out.own
      have hoff : off = 0 := by
        rcases hown.2 with ⟨e, _⟩ | ⟨g, cap, cur, e, _⟩
        · injection e with e1; simp at e1
        · injection e with e1
          injection e1 with e1
          injection e1
      subst hoff
      refine ⟨p, b, rfl, ⟨HI.out.row.lt, hb, ?_, HI.out.row.cell (by omega), HI.out.row.cell (by omega), HI.out.row.cell (by omega), ⟨c, by rw [← HM.out]; exact hc, hcm, by rw [← HM.out]; exact HI.out.row.cell (by omega)⟩, hown.frozenAt, fun i hi => ?_⟩, by have := HP.out; omega, by have := (hown.lt b rfl).1; have := HP.out; omega, HI.out.bel⟩
      · have := (hown.lt b rfl).1; omega
      · rw [← HM.out] at hi
        obtain ⟨G, g1, g2, g3, g4⟩ := HI.out.rows i hi
        refine ⟨_, (hown.cellAt i (by omega)).trans g1, some ⟨G, 0, none⟩, n, rfl, Nat.le_refl _, by unfold maxLen; omega, fun _ => ⟨G, 0, rfl, g2.lt, fun hd => ?_, fun j hj => by rw [Nat.zero_add]; exact rowG_holds g2 (by omega) (fun _ _ => rfl) hj⟩⟩
        rcases hd with e | e | e
        · have := HP.out; omega
        · omega
        · exact g4 (by rw [e]; rfl)
end
section
open Go.RowKit

theorem stEntsR : ST Try.prog 100 72 (.agg #[.int .i64 0, .int .u64 0, .int .i64 0, .bool false, .int .u32 0]) 5 32 := ST.mk Try.underlying100 (by kernel_rfl) rfl (by omega) (by omega)
set_option maxHeartbeats 12800000 in
theorem ref11_List {w : World} {D : Nat → Prop} {p q S B n : Nat} {g : Nat → Nat → Pl} (h : BkAt w D p q S B n g) (hSB : S * B ≤ 128) (hn : n ≤ 8) :
    Calls Try.prog 46 #[.pointer (some ⟨p, 0, none⟩)] w fun e w' => ∃ v, e = .returned v ∧ w'.ownsRow w.heap.size 72 5 v (bookL g n (S * B)).length (encs (bookL g n (S * B))) ∧ Below w.heap.size w w' := by
  obtain ⟨M, hM⟩ : ∃ M, M = S * B := ⟨_, rfl⟩
  obtain ⟨hp, hq0, hpq, _, _, _, ⟨cap, c1, c2, s2⟩, hfz, hrows⟩ := h
  rw [← hM] at hSB c1 s2 hrows ⊢
  have HROWS := Lib.hid hrows
  unfold maxLen at c2
  clear hM hrows hfz
  go_enter Try.func46, Try.ntmps46
  go_wp2
  go_loopw [3, 4] (fun out i wr => ∃ k : Nat, k ≤ M ∧ i = .int .i64 k ∧ Hid (wr.ownsRow w.heap.size 72 5 out (bookL g n k).length (encs (bookL g n k))) ∧ Hid (Below w.heap.size w wr)) (fun _ i _ => M - (intOf i).toNat)
  case atStart => exact ⟨0, by omega, rfl, ⟨by simp [bookL, encs], .inl ⟨rfl, rfl⟩⟩, Below.refl _ _⟩
  case round =>
    obtain ⟨k, hk, rfl, HO, HB⟩ := hrel
    have s2k : wr.cell? ⟨p, 3, none⟩ = some (.slice (some ⟨q, 0, none⟩) M cap) := (HB.out.cell (p := ⟨p, 3, none⟩) hp).trans s2
    by_cases hlt : k < M
    · have g0 : (0 : Int) ≤ (k : Int) := Int.natCast_nonneg _
      have g1 : (k : Int) < (M : Int) := by omega
      obtain ⟨v0, s3, A, cp, hv0, x1, x2, x3⟩ := HROWS.out k hlt
      subst hv0
      have HC := Lib.hid x3
      unfold maxLen at x2
      have s3' : wr.cell? ⟨q, k, none⟩ = some (.slice A n cp) := (HB.out.cell (p := ⟨q, k, none⟩) hq0).trans s3
      have hle := bookL_le g n k
      have hkn : k * n ≤ 1024 := Nat.mul_le_mul (show k ≤ 128 by omega) hn
      have HLE : Hid ((bookL g n k).length ≤ 1024) := Nat.le_trans hle hkn
      obtain ⟨L, hL⟩ : ∃ L, L = bookL g n k := ⟨_, rfl⟩
      have HNX : Hid (bookL g n (k + 1) = L ++ usedL (g k) n) := by rw [hL]; rfl
      rw [← hL] at HO HLE
      clear hL hle hkn x3
      go_wp2
      go_loopw [3, 5] (fun out i wr => ∃ j : Nat, j ≤ n ∧ i = .int .i64 j ∧ Hid (wr.ownsRow w.heap.size 72 5 out (L ++ usedL (g k) j).length (encs (L ++ usedL (g k) j))) ∧ Hid (Below w.heap.size w wr)) (fun _ i _ => n - (intOf i).toNat)
      case atStart => exact ⟨0, by omega, rfl, by rw [show usedL (g k) 0 = [] from rfl, List.append_nil]; exact HO, HB⟩
      case round =>
        obtain ⟨j, hj, rfl, HO2, HB2⟩ := hrel
        have s2j : wr.cell? ⟨p, 3, none⟩ = some (.slice (some ⟨q, 0, none⟩) M cap) := (HB2.out.cell (p := ⟨p, 3, none⟩) hp).trans s2
        have s3j : wr.cell? ⟨q, k, none⟩ = some (.slice A n cp) := (HB2.out.cell (p := ⟨q, k, none⟩) hq0).trans s3
        by_cases hjn : j < n
        · obtain ⟨b, off, rfl, hb, _, hc⟩ := HC.out (by omega)
          have e0 : (0 : Int) ≤ (j : Int) := Int.natCast_nonneg _
          have e1 : (j : Int) < (n : Int) := by omega
          have hcx := (hc j hjn).keep (w' := wr) fun p hp => HB2.out.cell (by rw [hp]; omega)
          have hz := HB2.out.size
          have HY := Lib.hid (usedL_yes (f := g k) (k := j))
          have HN := Lib.hid (usedL_no (f := g k) (k := j))
          have hul := usedL_le (g k) j
          obtain ⟨U, hU⟩ : ∃ U, U = usedL (g k) j := ⟨_, rfl⟩
          rw [← hU] at HO2 HY HN hul
          have hlen : (L ++ U).length ≤ 1032 := by rw [List.length_append]; have := HLE.out; omega
          obtain ⟨c, hc2⟩ : ∃ c, c = (L ++ U).length := ⟨_, rfl⟩
          rw [← hc2] at HO2 hlen
          have HC2 := Lib.hid hc2
          clear hc2
          obtain ⟨x, hx⟩ : ∃ x, x = g k j := ⟨_, rfl⟩
          rw [← hx] at hcx HY HN
          clear hc HC hx hU hul HROWS
          obtain ⟨A3, cq, hout, _, _⟩ := (Sl.of_own HO2.out).form
          subst hout
          obtain ⟨u, ⟨a, m, pt, st, s⟩⟩ := x
          obtain ⟨c0', c1', c2', c3', c4', c5'⟩ := hcx
          have c0 : wr.cell? ⟨b, off + j * 6, none⟩ = some (.bool u) := c0'
          have c1 : wr.cell? ⟨b, off + j * 6 + 1, none⟩ = some (.int .i64 a) := c1'
          have c2 : wr.cell? ⟨b, off + j * 6 + 2, none⟩ = some (.int .u64 (m : Int)) := c2'
          have c3 : wr.cell? ⟨b, off + j * 6 + 3, none⟩ = some (.int .i64 pt) := c3'
          have c4 : wr.cell? ⟨b, off + j * 6 + 4, none⟩ = some (.bool st) := c4'
          have c5 : wr.cell? ⟨b, off + j * 6 + 5, none⟩ = some (.int .u32 (s : Int)) := c5'
          clear c0' c1' c2' c3' c4' c5'
          cases u
          · have HU := HN.out rfl
            have HU2 := Lib.hid HU
            clear HY HN HU
            go_wp2
            go_roundw
            case rel => exact ⟨j + 1, by omega, by go_num, by rw [HU2.out, ← HC2.out]; exact HO2.out, HB2.out⟩
            case measure => simp [intOf]; omega
          · have HU := HY.out rfl
            have HU2 := Lib.hid HU
            clear HY HN HU
            go_wp2_with (first
              | (at_builtin; refine wpList_apv _ rfl stEntsR _ _ rfl w.heap.size _ c _ rfl (own_below HO2.out ((Below.refl wr.heap.size wr).alloc (Nat.le_refl _) (.cells #[.int .i64 a, .int .u64 (m : Int), .int .i64 pt, .bool st, .int .u32 (s : Int)] 72))) _ _ 1 [.int .i64 a, .int .u64 (m : Int), .int .i64 pt, .bool st, .int .u32 (s : Int)] rfl (litN5g (w := wr) (g := wr.heap.size) #[.int .i64 a, .int .u64 (m : Int), .int .i64 pt, .bool st, .int .u32 (s : Int)] _ rfl rfl) (by simp [Value.oneCell']) (by omega) (by go_size) ?_; intro A2 cc w9 hown2 hgr2 hat2 hbel2; clear hgr2 hat2))
            have HO3 : Hid (w9.ownsRow w.heap.size 72 5 (.slice A2 (c + 1) cc) (L ++ (U ++ [(⟨a, m, pt, st, s⟩ : En)])).length (encs (L ++ (U ++ [(⟨a, m, pt, st, s⟩ : En)])))) := by
              have e1 : (L ++ (U ++ [(⟨a, m, pt, st, s⟩ : En)])).length = c + 1 := by rw [HC2.out]; simp; omega
              have e2 : encs (L ++ (U ++ [(⟨a, m, pt, st, s⟩ : En)])) = encs (L ++ U) ++ [.int .i64 a, .int .u64 (m : Int), .int .i64 pt, .bool st, .int .u32 (s : Int)] := by
                rw [← List.append_assoc, encs_append, encs_one]; rfl
              rw [e1, e2]; exact hown2
            have HB3 : Hid (Below w.heap.size w w9) := Below.trans (HB2.out.trans (Below.mono ((Below.refl wr.heap.size wr).alloc (Nat.le_refl _) _) hz)) hbel2
            clear hown2 hbel2
            go_wp2
            go_roundw
            case rel => exact ⟨j + 1, by omega, by go_num, by rw [HU2.out]; exact HO3, HB3⟩
            case measure => simp [intOf]; omega
        · have hjn2 : n = j := by omega
          subst hjn2
          go_wp2
          go_roundw
          case rel => exact ⟨k + 1, by omega, by go_num, by rw [HNX.out]; exact HO2, HB2⟩
          case measure => simp [intOf]; omega
    · have hkM : M = k := by omega
      subst hkM
      go_wp2
      go_ret
      exact ⟨_, rfl, HO.out, HB.out⟩

/-- The cells of one entry of a list. -/
theorem encs_at {w : World} {B n : Nat} {v : Value} {L : List En} (h : Sl w B 5 v n (encs L)) (hL : L.length = n) (k : Nat) (hk : k < n) : ∃ (b off cap : Nat) (x : En), v = .slice (some ⟨b, off, none⟩) n cap ∧ n ≤ cap ∧ cap ≤ maxLen ∧ b < B ∧ L[k]? = some x ∧
    w.cell? ⟨b, off + k * 5, none⟩ = some (.int .i64 x.vid) ∧ w.cell? ⟨b, off + k * 5 + 1, none⟩ = some (.int .u64 (x.mac : Nat)) ∧ w.cell? ⟨b, off + k * 5 + 2, none⟩ = some (.int .i64 x.port) ∧ w.cell? ⟨b, off + k * 5 + 3, none⟩ = some (.bool x.st) ∧ w.cell? ⟨b, off + k * 5 + 4, none⟩ = some (.int .u32 (x.stamp : Nat)) := by
  obtain ⟨_, A, cap, rfl, h1, h2, h3⟩ := h
  obtain ⟨b, off, rfl, hb, hc⟩ := h3 (by omega)
  have hkl : k < L.length := by omega
  have he : ∀ (M : List En) (i : Nat) (hi : i < M.length) (j : Nat), j < 5 → (encs M)[i * 5 + j]? = (enCells M[i])[j]? := by
    intro M
    induction M with
    | nil => intro i hi; simp at hi
    | cons y r ih =>
      intro i hi j hj
      cases i with
      | zero =>
        show (enCells y ++ encs r)[0 * 5 + j]? = _
        rw [List.getElem?_append_left (by simp [enCells]; omega)]
        simp
      | succ i =>
        show (enCells y ++ encs r)[(i + 1) * 5 + j]? = _
        rw [List.getElem?_append_right (by simp [enCells]; omega)]
        have := ih i (by simpa using hi) j hj
        rw [show (i + 1) * 5 + j - (enCells y).length = i * 5 + j by simp [enCells]; omega]
        simpa using this
  have hat : ∀ j, j < 5 → w.cell? ⟨b, off + k * 5 + j, none⟩ = (enCells L[k])[j]? := fun j hj => by
    rw [Nat.add_assoc, hc (k * 5 + j) (by omega)]
    exact he L k hkl j hj
  exact ⟨b, off, cap, L[k], rfl, h1, h2, hb, List.getElem?_eq_getElem hkl, hat 0 (by omega), hat 1 (by omega), hat 2 (by omega), hat 3 (by omega), hat 4 (by omega)⟩

set_option maxHeartbeats 3200000 in
theorem law11_list {w : World} {D : Nat → Prop} {p q S B n : Nat} {g : Nat → Nat → Pl} (h : BkAt w D p q S B n g) (hSB : S * B ≤ 128) (hn : n ≤ 8) :
    Calls Try.prog 45 #[.pointer (some ⟨p, 0, none⟩)] w fun e w' => ∃ v, e = .returned v ∧ w'.ownsRow w.heap.size 72 5 v (bookL g n (S * B)).length (encs (bookL g n (S * B))) ∧ Below w.heap.size w w' := by
  have HL := Lib.hid (book_List h hSB hn)
  have hle := bookL_le g n (S * B)
  have hsn : S * B * n ≤ 128 * 8 := Nat.mul_le_mul hSB hn
  have hlen : (bookL g n (S * B)).length ≤ 1024 := by omega
  generalize bookL g n (S * B) = L at *
  obtain ⟨N, hN⟩ : ∃ N, N = L.length := ⟨_, rfl⟩
  rw [← hN] at HL hlen ⊢
  have HN := Lib.hid hN
  have HLN : Hid (∀ k, k ≤ N → (encs (L.take k)).length = k * 5) := fun k hk => by
    have : ∀ M : List En, (encs M).length = M.length * 5 := fun M => by
      induction M with
      | nil => rfl
      | cons y r ih => show (enCells y ++ encs r).length = _; rw [List.length_append, ih]; simp [enCells]; omega
    rw [this, List.length_take, HN.out.symm.trans rfl]; omega
  have HTK : Hid (∀ k (x : En), k < N → L[k]? = some x → encs (L.take (k + 1)) = encs (L.take k) ++ enCells x) := fun k x hk hx => by
    rw [List.take_add_one, hx]
    show encs (L.take k ++ [x]) = _
    rw [encs_append, encs_one]
  have HTN : Hid (encs (L.take N) = encs L) := by show _ = _; rw [HN.out, List.take_length]
  clear hN h hle hsn
  go_enter Try.func45, Try.ntmps45
  go_wp2_with fail
  refine (HL.out).mono ?_
  rintro e w1 ⟨v1, rfl, ho1, hb1⟩
  have O1 := Lib.hid ho1
  have B1 := Lib.hid hb1
  obtain ⟨A1, cp1, hv1, hn1, hm1⟩ := (Sl.of_own ho1).form
  subst hv1
  unfold maxLen at hm1
  clear ho1 hb1 HL
  go_wp2
  go_loopw [3, 5] (fun out i wr => ∃ k : Nat, k ≤ N ∧ i = .int .i64 k ∧ Hid (wr.ownsRow w1.heap.size 72 5 out k (encs (L.take k))) ∧ Hid (Below w1.heap.size w1 wr)) (fun _ i _ => N - (intOf i).toNat)
  case atStart => exact ⟨0, by omega, rfl, ⟨by simp [encs], .inl ⟨rfl, rfl⟩⟩, Below.refl _ _⟩
  case round =>
    obtain ⟨k, hk, rfl, HO, HB⟩ := hrel
    have g0 : (0 : Int) ≤ (k : Int) := Int.natCast_nonneg _
    by_cases hlt : k < N
    · have g1 : (k : Int) < (N : Int) := by omega
      obtain ⟨b, off, cap, x, hv, _, _, hb, hx, hc⟩ := encs_at ((Sl.of_own O1.out).below HB.out) HN.out.symm k hlt
      injection hv with e1 _ e2
      subst e1
      have hT := Lib.hid (HTK.out k x hlt hx)
      obtain ⟨a, m, pt, st, s⟩ := x
      simp only at hc
      obtain ⟨c0, c1, c2, c3, c4⟩ := hc
      obtain ⟨A3, cq, hout, _, _⟩ := (Sl.of_own HO.out).form
      subst hout
      have hz := HB.out.size
      clear hx e2
      go_wp2_with fail
      refine (law9_From a (m : Int) pt st (s : Int) _).mono ?_
      rintro e w2 ⟨rfl, hb2⟩
      have HO2 := Lib.hid (own_below HO.out hb2)
      have HB2 : Hid (Below w1.heap.size w1 w2) := HB.out.trans (hb2.mono hz)
      have hz2 := HB2.out.size
      clear hb2 c0 c1 c2 c3 c4 HO HB
      go_wp2_with (first
        | (at_builtin; refine wpList_apv _ rfl stEntsR _ _ rfl w1.heap.size _ k _ rfl (own_below HO2.out ((Below.refl w2.heap.size w2).alloc (Nat.le_refl _) (.cells #[.int .i64 a, .int .u64 (m : Int), .int .i64 pt, .bool st, .int .u32 (s : Int)] 72))) _ _ 1 [.int .i64 a, .int .u64 (m : Int), .int .i64 pt, .bool st, .int .u32 (s : Int)] rfl (litN5g (w := w2) (g := w2.heap.size) #[.int .i64 a, .int .u64 (m : Int), .int .i64 pt, .bool st, .int .u32 (s : Int)] _ rfl rfl) (by simp [Value.oneCell']) (by omega) (by go_size) ?_; intro A2 cc w9 hown2 hgr2 hat2 hbel2; clear hgr2 hat2))
      have HO3 : Hid (w9.ownsRow w1.heap.size 72 5 (.slice A2 (k + 1) cc) (k + 1) (encs (L.take (k + 1)))) := by rw [hT.out]; exact hown2
      have HB3 : Hid (Below w1.heap.size w1 w9) := (HB2.out.alloc hz2 _).trans hbel2
      clear hown2 hbel2 hT
      go_wp2
      go_roundw
      case rel => exact ⟨k + 1, by omega, by go_num, HO3.out, HB3.out⟩
      case measure => simp [intOf]; omega
    · have hkM : N = k := by omega
      subst hkM
      go_wp2
      go_ret
      exact ⟨_, rfl, own_base (by have := HO.out; rwa [HTN.out] at this) B1.out.size, B1.out.trans (HB.out.mono B1.out.size)⟩

set_option maxHeartbeats 1600000 in
theorem law11_Entries {L : List En} {n : Nat} {u v : Value} {w : World} {B B' : Nat} (hL : L.length = n) (hu : Sl w B 5 u n (encs L)) (hv : Sl w B' 5 v n (encs L)) :
    Calls Try.prog 44 #[u, v] w (Quiet (.bool true) w) := by
  have hne : ((n : Int) != (n : Int)) = false := by simp
  have HU := Lib.hid hu
  have HV := Lib.hid hv
  obtain ⟨A, cap, e1, q1, q2⟩ := hu.form
  subst e1
  obtain ⟨A', cap', e2, q3, q4⟩ := hv.form
  subst e2
  unfold maxLen at q2 q4
  have HL := Lib.hid hL
  clear hu hv hL
  go_enter Try.func44, Try.ntmps44
  go_wp2
  clear hne
  go_loopw [5] (fun i wr => ∃ k : Nat, k ≤ n ∧ i = .int .i64 k ∧ ∃ m, wr = w.drewN m) (fun i _ => n - (intOf i).toNat)
  case atStart => exact ⟨0, by omega, rfl, 0, rfl⟩
  case round =>
    obtain ⟨k, hk, rfl, m, rfl⟩ := hrel
    by_cases hlt : k < n
    · obtain ⟨b, off, cp, x, hv, _, _, hb, hx, hc⟩ := encs_at HU.out HL.out k hlt
      obtain ⟨b', off', cp', x', hv', _, _, hb', hx', hc'⟩ := encs_at HV.out HL.out k hlt
      have hxx : x' = x := by rw [hx] at hx'; injection hx' with e; exact e.symm
      subst hxx
      injection hv with e1 _ e3
      injection hv' with e2 _ e4
      subst e1 e2 e3 e4
      obtain ⟨a, mm, pt, st, s⟩ := x'
      simp only at hc hc'
      obtain ⟨c0, c1, c2, c3, c4⟩ := hc
      obtain ⟨d0, d1, d2, d3, d4⟩ := hc'
      have g0 : (0 : Int) ≤ (k : Int) := Int.natCast_nonneg _
      have g1 : (k : Int) < (n : Int) := by omega
      clear hx hx' HU HV hb hb'
      go_wp2_with fail
      go_quiet (fail)
      go_wp2
      go_roundw
      case rel => exact ⟨k + 1, by omega, by go_num, _, (by first | rfl | exact World.drewN_drewN _ _ _)⟩
      case measure => simp [intOf]; omega
    · have : k = n := by omega
      subst this
      go_wp2
      go_ret
      exact ⟨rfl, _, rfl⟩
end
section
open Go.RowKit

theorem BkAt.dom {w : World} {D D' : Nat → Prop} {p q S B n : Nat} {g : Nat → Nat → Pl} (h : BkAt w D p q S B n g) (hd : ∀ b, b < w.heap.size → D' b → D b) : BkAt w D' p q S B n g := by
  obtain ⟨h0, h1, h2, h3, h4, h5, h6, h9, h10⟩ := h
  refine ⟨h0, h1, h2, h3, h4, h5, h6, h9, fun i hi => ?_⟩
  obtain ⟨v, hv, A, cap, e1, e2, e3, e4⟩ := h10 i hi
  refine ⟨v, hv, A, cap, e1, e2, e3, fun hn => ?_⟩
  obtain ⟨b, off, f1, f2, f3, f4⟩ := e4 hn
  exact ⟨b, off, f1, f2, fun hb => f3 (hd b f2 hb), f4⟩
theorem PlRow.up {w : World} {B B' n : Nat} {v : Value} {f : Nat → Pl} (h : PlRow w B v n f) (hB : B ≤ B') : PlRow w B' v n f := by
  obtain ⟨A, cap, e1, e2, e3, e4⟩ := h
  refine ⟨A, cap, e1, e2, e3, fun hn => ?_⟩
  obtain ⟨b, off, f1, f2, f3⟩ := e4 hn
  exact ⟨b, off, f1, by omega, f3⟩
/-- The blocks of two books. -/
def DD (p q p2 q2 : Nat) (b : Nat) : Prop := b ≤ p ∨ b = p2 ∨ b = q2
/-- Both books, with the same entries; the blocks beneath. -/
structure Two (w : World) (lo p q p2 q2 S B n : Nat) (g : Nat → Nat → Pl) : Prop where
  one : BkAt w (DD p q p2 q2) p q S B n g
  two : BkAt w (DD p q p2 q2) p2 q2 S B n g
  l1 : lo < q
  l2 : q < p
  l3 : p < p2
  l4 : p < q2
theorem Two.lt {w : World} {lo p q p2 q2 S B n : Nat} {g : Nat → Nat → Pl} (h : Two w lo p q p2 q2 S B n g) : ∀ b, DD p q p2 q2 b → b < w.heap.size := fun b hb => by
  have h1 := h.one.1
  have h2 := h.two.1
  have h3 := h.two.2.1
  rcases hb with e | e | e <;> omega
theorem Two.call {w w' : World} {lo p q p2 q2 S B n : Nat} {g : Nat → Nat → Pl} (h : Two w lo p q p2 q2 S B n g) (hb : Below w.heap.size w w') : Two w' lo p q p2 q2 S B n g :=
  ⟨h.one.call hb, h.two.call hb, h.l1, h.l2, h.l3, h.l4⟩
/-- What one call of each makes, in whatever order: the first, then the other one. -/
structure Half1 (w : World) (lo p q p2 q2 S B n : Nat) (g g' : Nat → Nat → Pl) : Prop where
  one : BkAt w (DD p q p2 q2) p q S B n g'
  two : BkAt w (DD p q p2 q2) p2 q2 S B n g
structure Half2 (w : World) (lo p q p2 q2 S B n : Nat) (g g' : Nat → Nat → Pl) : Prop where
  one : BkAt w (DD p q p2 q2) p q S B n g
  two : BkAt w (DD p q p2 q2) p2 q2 S B n g'
theorem Two.dq {p q p2 q2 : Nat} (h : q < p) : DD p q p2 q2 q := .inl (by omega)
theorem Two.dq2 {p q p2 q2 : Nat} : DD p q p2 q2 q2 := .inr (.inr rfl)
set_option maxHeartbeats 1600000 in
theorem book_BucketNo {w : World} {D : Nat → Prop} {p q S B n : Nat} {g : Nat → Nat → Pl} (h : BkAt w D p q S B n g) (hS : 1 ≤ S ∧ S ≤ 8) (hB : 1 ≤ B ∧ B ≤ 16) (s t : Int) (ha : atI S B s t = -1) :
    Calls Try.prog 43 #[.pointer (some ⟨p, 0, none⟩), .int .i64 s, .int .i64 t] w (Says (.slice none 0 0) w) := by
  have hMB : S * B ≤ 128 := Nat.mul_le_mul hS.2 hB.2
  have hhm := fun w' (hb : Below w.heap.size w w') => book_at ((SizeOf.of h).call hb) (by omega) (by omega) (by omega) s t
  rw [ha] at hhm
  have HHM := Lib.hid hhm
  clear h ha hhm
  go_enter Try.func43, Try.ntmps43
  go_wp2_with fail
  refine (HHM.out _ (Below.refl _ _)).mono ?_
  rintro e w2 ⟨rfl, hb⟩
  have HB2 : Hid (Below w.heap.size w w2) := hb
  clear hb HHM
  go_wp2
  go_ret
  exact ⟨rfl, HB2.out⟩
end
end Go.Proofs.Ytccnfcjaehcfkaa
