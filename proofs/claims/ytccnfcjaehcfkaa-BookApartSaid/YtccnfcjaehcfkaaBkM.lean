/-
  A bucket cloned: slices.Clone of places; a book's Bucket. No statement is proved here.
-/
import Derived.Test.YtccnfcjaehcfkaaBkL
import Derived.WalkSpells
set_option linter.unusedVariables false
namespace Go.Proofs.Ytccnfcjaehcfkaa
open Go.RowKit

theorem PlRow.sl {w : World} {B n : Nat} {v : Value} {f : Nat → Pl} (h : PlRow w B v n f) : Sl w B 6 v n (plc (listP f n)) := by
  obtain ⟨A, cap, hv, h1, h2, h3⟩ := h
  refine ⟨by rw [plc_length, listP_length], A, cap, hv, h1, h2, fun hn => ?_⟩
  have hn' : 0 < n := by
    rcases Nat.eq_zero_or_pos n with h0 | h0
    · subst h0; simp at hn
    · exact h0
  obtain ⟨b, off, e, hb, hc⟩ := h3 hn'
  refine ⟨b, off, e, hb, fun j hj => ?_⟩
  have ej : j = j / 6 * 6 + j % 6 := by omega
  have hq : j / 6 < n := by omega
  have hv2 : (plc (listP f n))[j]? = ((listP f n)[j / 6]?).bind fun x => x.cells[j % 6]? := by
    have := plc_at (listP f n) (j / 6) (j % 6) (by omega)
    rw [← ej] at this
    exact this
  rw [hv2]
  simp only [listP, List.getElem?_map, List.getElem?_range hq, Option.map_some, Option.bind_some]
  obtain ⟨c0, c1, c2, c3, c4, c5⟩ := hc (j / 6) hq
  have hadr : off + j = off + j / 6 * 6 + j % 6 := by omega
  rw [hadr]
  rcases (show j % 6 = 0 ∨ j % 6 = 1 ∨ j % 6 = 2 ∨ j % 6 = 3 ∨ j % 6 = 4 ∨ j % 6 = 5 by omega) with h | h | h | h | h | h <;> rw [h]
  · exact c0
  · exact c1
  · exact c2
  · exact c3
  · exact c4
  · exact c5
set_option maxRecDepth 20000 in
set_option maxHeartbeats 3200000 in
theorem clone_places {f : Nat → Pl} {n : Nat} {y : Value} {w : World} {B : Nat} (hn0 : 0 < n) (hn : n ≤ 1000000) (hv : PlRow w B y n f) (hB : B ≤ w.heap.size) :
    Calls Try.prog 83 #[y] w (Gives 67 n f id w) := by
  have HS := Lib.hid hv.sl
  obtain ⟨A, cap, rfl, h1, h2, h3⟩ := hv
  obtain ⟨b, off, rfl, hb, hc⟩ := h3 hn0
  clear h2
  obtain ⟨xs, hxs⟩ : ∃ xs, xs = plc (listP f n) := ⟨_, rfl⟩
  have HONE : Hid (∀ u ∈ xs, u.oneCell' = true) := by rw [hxs]; exact plc_one _
  rw [← hxs] at HS
  have HX := Lib.hid hxs
  clear h3 hc hxs
  have hnil := fun (W : World) => Lib.run_eql_slice_nil (P := Try.prog) W 30 67 (some ⟨b, off, none⟩) n cap 0 0 Try.underlying30
  go_enter Try.func83, Try.ntmps83
  go_wp2_with (first
    | (at_builtin; refine wpList_apv _ rfl stPlaces _ _ rfl w.heap.size (.slice (some ⟨w.heap.size, 0, none⟩) 0 0) 0 [] rfl ⟨by simp, .inr ⟨w.heap.size, 0, #[], rfl, Nat.le_refl _, heap_alloc_new w _, Nat.le_refl _, by simp [maxLen], by simp, by simp⟩⟩ B _ n xs rfl (HS.out.below (by (repeat' (first | (with_reducible exact Below.refl _ _) | (with_reducible refine Below.alloc ?_ ?_ _) | go_size)))) HONE.out (by omega) (by go_size) ?_; intro A2 c2 w9 hown2 hgr2 hat2 hbel2; clear hgr2 hat2))
  have HO0 : w9.ownsRow w.heap.size 67 6 (.slice A2 n c2) n (plc (listP f n)) := by
    rw [← HX.out]
    simpa using hown2
  have HO := Lib.hid HO0
  clear HO0
  have HB9 : Hid (Below w.heap.size w w9) := Below.trans ((Below.refl _ _).alloc (Nat.le_refl _) _) hbel2
  clear hown2 hbel2
  go_wp2
  go_ret
  exact ⟨_, by first | rfl | (simp; done), RowOf.of_own HO.out, HB9.out⟩
set_option maxRecDepth 20000 in
set_option maxHeartbeats 3200000 in
theorem book_Bucket {w : World} {D : Nat → Prop} {p q S B n : Nat} {g : Nat → Nat → Pl} (h : BkAt w D p q S B n g) (hS : 1 ≤ S ∧ S ≤ 8) (hB : 1 ≤ B ∧ B ≤ 16) (hn0 : 0 < n) (hn : n ≤ 8) (s t : Int) (H : Nat) (hh2 : H < S * B) (ha : atI S B s t = (H : Int)) :
    Calls Try.prog 43 #[.pointer (some ⟨p, 0, none⟩), .int .i64 s, .int .i64 t] w (Gives 67 n (g H) id w) := by
  obtain ⟨M, hM⟩ : ∃ M, M = S * B := ⟨_, rfl⟩
  rw [← hM] at hh2
  have hMB : M ≤ 128 := by rw [hM]; exact Nat.mul_le_mul hS.2 hB.2
  have hhm := fun w' (hb : Below w.heap.size w w') => book_at ((SizeOf.of h).call hb) (by omega) (by omega) (by omega) s t
  rw [ha] at hhm
  have HHM := Lib.hid hhm
  have HBK := Lib.hid h
  have HM := Lib.hid hM
  have HL := Lib.hid fun w u (hr : PlRow w w.heap.size u n (g H)) => clone_places hn0 (by omega) hr (Nat.le_refl _)
  clear hM h ha hhm
  go_enter Try.func43, Try.ntmps43
  go_wp2_with fail
  refine (HHM.out _ (Below.refl _ _)).mono ?_
  rintro e w2 ⟨rfl, hb⟩
  have HB2 : Hid (Below w.heap.size w w2) := hb
  have HBK2 := Lib.hid (HBK.out.call HB2.out)
  clear hb HHM
  obtain ⟨hp, hq0, hpq, _, _, _, ⟨cap, c1, c2, s2⟩, hfz, hrows⟩ := HBK2.out
  rw [← HM.out] at c1 s2 hrows
  obtain ⟨v0, s3, hrow⟩ := hrows H hh2
  unfold maxLen at c2
  have g0 : (0 : Int) ≤ (H : Int) := Int.natCast_nonneg _
  have g1 : (H : Int) < (M : Int) := by omega
  have g2 : ¬ (H : Int) < 0 := by omega
  have HROW := Lib.hid hrow.row
  have hz2 := HB2.out.size
  clear hrow hrows
  go_wp2_with fail
  refine Calls.mono (HL.out _ _ HROW.out) ?_
  intro e w4 hpost
  obtain ⟨va, he, hra, hb⟩ := hpost
  simp only [id] at he
  subst he
  have HRA := Lib.hid (hra.base hz2)
  have HB4 : Hid (Below w.heap.size w w4) := HB2.out.trans (hb.mono hz2)
  clear hra hb
  go_wp2
  go_ret
  exact ⟨_, rfl, HRA.out, HB4.out⟩
end Go.Proofs.Ytccnfcjaehcfkaa
