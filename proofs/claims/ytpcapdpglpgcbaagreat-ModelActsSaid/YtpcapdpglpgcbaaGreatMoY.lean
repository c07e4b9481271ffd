/-
  Words and contracts that a statement's proof rests on (MoY, BkK, BkL, BkM). No statement is proved here.
-/
import Derived.WalkSpells
import Derived.Test.YtpcapdpglpgcbaaGreatMoF
import Derived.Test.YtpcapdpglpgcbaaGreatMoX
import Derived.Test.YtpcapdpglpgcbaaGreatMoE
import Derived.Test.YtpcapdpglpgcbaaGreatBuN
set_option linter.unusedVariables false
set_option linter.unusedSimpArgs false
namespace Go.Proofs.YtpcapdpglpgcbaaGreat
section
open Go.RowKit
theorem within_fx {k : Nat} (hk : 0 < k) (hk2 : k ≤ 5000) (x : Int) : withinI ((1 + fx k x : Nat) : Int) (k : Int) = true := by
 have := fx_lt hk x
 unfold withinI
 simp only [Bool.and_eq_true, decide_eq_true_eq]
 omega
theorem fix_good (lr : List Rl) (lv : List Vl) (P0 a b c t r : Int) (P S B n T G nv : Nat) (hP : P = 2 + fx 7 P0) (hT : T = 1 + fx 8 t) (hG : G = 1 + fx 64 r) (hS : S = 1 + fx 8 a) (hB : B = 1 + fx 16 b) (hn : n = 1 + fx 8 c) :
  planK (checkN (fixVs (allN P) lv (min nv 8)) P (min nv 8)) (decide ((P : Int) = P)) (!decide (P < P)) (rightS S B n && (withinI T 8 && withinI G 64)) = 0 := by
 have h0 := fx_lt (k := 7) (by omega) P0
 have h1 := fx_lt (k := 8) (by omega) a
 have h2 := fx_lt (k := 16) (by omega) b
 have h3 := fx_lt (k := 8) (by omega) c
 rw [fixVs_check lv (P := P) (by omega) (by omega) (by omega)]
 have e1 : rightS (S : Nat) (B : Nat) (n : Nat) = true := by
  unfold rightS inB
  simp
  omega
 have e2 : withinI (T : Nat) 8 = true := by rw [hT]; exact within_fx (k := 8) (by omega) (by omega) t
 have e3 : withinI (G : Nat) 64 = true := by rw [hG]; exact within_fx (k := 64) (by omega) (by omega) r
 rw [e1, e2, e3]
 simp [planK]
def toldVs : List Vl := fixVs (allN 2) [⟨0, 2, 0⟩] 1
theorem told_send1 : sendK toldVs 1 4 1 1 = 3 := by decide
theorem told_send0 : sendK toldVs 1 0 0 1 = 0 := by decide
theorem told_lit (w : World) (e : TypeId) : Sl (w.alloc (.cells #[.int .i64 0, .int .u64 2, .int .u64 0] e)) (w.heap.size + 1) 3 (.slice (some ⟨w.heap.size, 0, none⟩) 1 1) 1 (vlc [⟨0, 2, 0⟩]) :=
 Sl.litN w #[.int .i64 0, .int .u64 2, .int .u64 0] e 1 3 rfl (by decide)
theorem told_nil (w : World) (B : Nat) : Sl w B 2 (.slice none 0 0) 0 (rlc []) := ⟨rfl, none, 0, rfl, Nat.le_refl _, Nat.zero_le _, fun h => absurd h (by omega)⟩
theorem told_fix (w : World) (e : TypeId) : Calls Tryz.prog 5 #[planV 0 (.slice none 0 0) (.slice (some ⟨w.heap.size, 0, none⟩) 1 1) 0 0 0 0 0 0 0] (w.alloc (.cells #[.int .i64 0, .int .u64 2, .int .u64 0] e)) fun e' w' => ∃ Ar cr Av cv, e' = .returned (planV ((2 : Nat) : Int) (.slice Ar 2 cr) (.slice Av 1 cv) ((1 : Nat) : Int) ((1 : Nat) : Int) ((1 : Nat) : Int) ((1 : Nat) : Int) ((1 : Nat) : Int) 0 0) ∧ Sl w' w'.heap.size 2 (.slice Ar 2 cr) 2 (rlc (fixRs [] 2)) ∧ Sl w' w'.heap.size 3 (.slice Av 1 cv) 1 (vlc toldVs) ∧ Below w.heap.size w w' := by
 refine (ref17_Fix (told_nil _ _) (told_lit w e) (by intro x hx; simp at hx; subst hx; unfold Vl.ok; decide) (by rw [World.size_alloc]; exact Nat.le_refl _) 0 0 0 0 0 0 0 0 2 1 1 1 1 1 (by decide) (by decide) (by decide) (by decide) (by decide) (by decide)).mono ?_
 rintro e' w' ⟨ur, uv, rfl, h1, h2, hb⟩
 obtain ⟨Ar, cr, rfl, _, _⟩ := (Sl.of_own h1).form
 obtain ⟨Av, cv, rfl, _, _⟩ := (Sl.of_own h2).form
 refine ⟨Ar, cr, Av, cv, rfl, Sl.of_own h1, Sl.of_own h2, ((Below.refl _ _).alloc (Nat.le_refl _) _).trans (hb.mono (by rw [World.size_alloc]; omega))⟩
theorem told_to (W : World) (B : Nat) (Ar : Option Addr) (cr : Nat) (Av : Option Addr) (cv : Nat) (h1 : Sl W B 2 (.slice Ar 2 cr) 2 (rlc (fixRs [] 2))) (h2 : Sl W B 3 (.slice Av 1 cv) 1 (vlc toldVs)) (hB : B ≤ W.heap.size) :
  Calls Tryz.prog 7 #[.agg #[.int .i64 2, .slice Ar 2 cr, .slice Av 1 cv, .int .i64 1, .int .i64 1, .int .i64 1, .int .i64 1, .int .i64 1, .int .u32 0, .int .u32 0]] W fun e w' => ∃ Ar' cr' Av' cv', e = .returned (.agg #[.int .i64 2, .slice Ar' 2 cr', .slice Av' 1 cv', .int .i64 1, .int .i64 1, .int .i64 1, .int .i64 1, .int .i64 1, .int .u32 0, .int .u32 0]) ∧ Sl w' w'.heap.size 2 (.slice Ar' 2 cr') 2 (rlc (fixRs [] 2)) ∧ Sl w' w'.heap.size 3 (.slice Av' 1 cv') 1 (vlc toldVs) ∧ Below W.heap.size W w' := by
 refine (law17_To h1 h2 hB (by omega) (by omega) 2 1 1 1 1 1 0 0).mono ?_
 rintro e w' ⟨ur, uv, rfl, h1, h2, hb⟩
 obtain ⟨Ar', cr', rfl, _, _⟩ := (Sl.of_own h1).form
 obtain ⟨Av', cv', rfl, _, _⟩ := (Sl.of_own h2).form
 exact ⟨Ar', cr', Av', cv', rfl, Sl.of_own h1, Sl.of_own h2, hb⟩
theorem told_new (W : World) (B : Nat) (Ar : Option Addr) (cr : Nat) (Av : Option Addr) (cv : Nat) (h1 : Sl W B 2 (.slice Ar 2 cr) 2 (rlc (fixRs [] 2))) (h2 : Sl W B 3 (.slice Av 1 cv) 1 (vlc toldVs)) (hB : B ≤ W.heap.size) :
  Calls Tryz.prog 6 #[.agg #[.int .i64 2, .slice Ar 2 cr, .slice Av 1 cv, .int .i64 1, .int .i64 1, .int .i64 1, .int .i64 1, .int .i64 1, .int .u32 0, .int .u32 0]] W fun e w' => ∃ (A S1 Q bp : Nat) (uv : Value) (G : Nat → Value), e = .returned (.tuple #[.pointer (some ⟨A, 0, none⟩), .int .i64 0]) ∧ MdAt w' W.heap.size A S1 Q uv (.pointer (some ⟨bp, 0, none⟩)) 2 1 1 toldVs (fun _ => (0, 0)) G ∧ Below W.heap.size W w' := by
 refine (model_New h1 h2 (fixVs_ok _ _ (allN_lt _) 1 (by omega)) hB (fixRs_first [] 2) 2 1 1 1 1 1 0 0 (by omega) (by omega) (by omega) (by omega) (by omega) (fix_good [] [⟨0, 2, 0⟩] 0 0 0 0 0 0 2 1 1 1 1 1 1 (by decide) (by decide) (by decide) (by decide) (by decide) (by decide))).mono ?_
 rintro e w' ⟨A, S1, Q, bp, bq, hN, uv, R, G, rfl, hm, hrest⟩
 obtain ⟨_, _, _, _, _, _, _, _, hb⟩ := hrest
 exact ⟨A, S1, Q, bp, uv, G, rfl, hm, hb⟩
theorem toldVs_ok : ∀ x ∈ toldVs, x.ok := fixVs_ok _ _ (allN_lt _) 1 (by omega)
set_option maxRecDepth 20000 in
set_option maxHeartbeats 3200000 in
theorem law17_told (w : World) : Calls Tryz.prog 8 #[] w (Says (.bool true) w) := by
 have hfx := fun W e => told_fix W e
 unfold planV at hfx
 have HFX := Lib.hid hfx
 have HTO := Lib.hid told_to
 have HNW := Lib.hid told_new
 clear hfx
 go_enter Tryz.func8, Tryz.ntmps8
 go_wp2_with (first
  | (go_at_call 5; (refine Calls.mono (HFX.out _ _) ?_); rintro e w1 ⟨Ar, cr, Av, cv, rfl, h1, h2, hb⟩; (have H1 := Lib.hid h1); (have H2 := Lib.hid h2); (have HB1 := Lib.hid hb); (have hz1 := hb.size); clear h1 h2 hb)
  | (go_at_call 7; (refine Calls.mono (HTO.out _ w1.heap.size _ _ _ _ (H1.out.below ((Below.refl _ _).alloc (Nat.le_refl _) _)) (H2.out.below ((Below.refl _ _).alloc (Nat.le_refl _) _)) (by rw [World.size_alloc]; omega)) ?_); rintro e w3 ⟨Ar', cr', Av', cv', rfl, h1, h2, hb⟩; (have H3 := Lib.hid h1); (have H4 := Lib.hid h2); (have HB3 : Hid (Below w.heap.size w w3) := (HB1.out.alloc hz1 _).trans (hb.mono (by rw [World.size_alloc]; omega))); (have hz3 := HB3.out.size); clear h1 h2 hb)
  | (go_at_call 6; (refine Calls.mono (HNW.out _ w3.heap.size _ _ _ _ H3.out H4.out (Nat.le_refl _)) ?_); rintro e w4 ⟨A, S1, Q, bp, uv, G, rfl, hm, hb⟩; (have HM := Lib.hid hm); (have HB4 : Hid (Below w.heap.size w w4) := HB3.out.trans (hb.mono hz3)); (have hz4 := HB4.out.size); clear hm hb)
  | fail)
 refine (model_DoSet HM.out (by omega) 1 (by omega) 4 (by decide) 0 0 0 0 0 0 0 0 0 0 0).mono ?_
 rintro e w5 ⟨rfl, hm5, hbt⟩
 have HM5 := Lib.hid hm5
 have HB5 : Hid (Below w.heap.size w w5) := HB4.out.trans (hbt.below.mono (by have := HM.out.ls; omega))
 have hz5 := HB5.out.size
 clear hm5 hbt
 go_wp2_with fail
 refine (model_DoSend HM5.out toldVs_ok 1 (by omega) 0 1 0 0 0 0 0 0 0 0 0 0).mono ?_
 rintro e w6 ⟨rfl, hb⟩
 have HM6 := Lib.hid (HM5.out.call hb)
 have HB6 : Hid (Below w.heap.size w w6) := HB5.out.trans (hb.mono hz5)
 have hz6 := HB6.out.size
 have hk1 : sendK toldVs 1 (updS (fun _ => (0, 0)) 1 4 ((((fun _ => (0, 0)) : Nat → Int × Nat) 1).2 + 1) 1).1 1 1 = 3 := told_send1
 rw [hk1]
 clear hb hk1
 go_wp2_with fail
 refine (model_DoSend HM6.out toldVs_ok 0 (by omega) 0 1 0 0 0 0 0 0 0 0 0 0).mono ?_
 rintro e w7 ⟨rfl, hb⟩
 have HM7 := Lib.hid (HM6.out.call hb)
 have HB7 : Hid (Below w.heap.size w w7) := HB6.out.trans (hb.mono hz6)
 have hz7 := HB7.out.size
 have hk0 : sendK toldVs 1 (updS (fun _ => (0, 0)) 1 4 ((0 + 1) % 4294967296) 0).1 0 1 = 0 := told_send0
 rw [hk0]
 clear hb hk0
 go_wp2_with fail
 refine (model_Do13 HM7.out 0 0 0 0 0 0 0 0 0 0 0 0 0).mono ?_
 rintro e w8 ⟨rfl, hb⟩
 have HB8 : Hid (Below w.heap.size w w8) := HB7.out.trans (hb.mono hz7)
 clear hb
 go_wp2
 go_ret
 exact ⟨by first | rfl | (simp; done), HB8.out⟩
end
section
open Go.RowKit
def doG (K : Nat) (v : Int) (m : Nat) (port vid : Int) (now old : Nat) (S B n : Nat) (g : Nat → Nat → Pl) : (Nat → Nat → Pl) × Int :=
 if K = 0 then (g, portF (g (homeN v m S B)) v m n)
 else if K = 3 then (updR g (homeN v m S B) (putF (fun i => ownP (g (homeN v m S B) i)) ⟨v, m, port, true, 0⟩ now n).1, ((putF (fun i => ownP (g (homeN v m S B) i)) ⟨v, m, port, true, 0⟩ now n).2 : Nat))
 else if K = 4 then (updR g (homeN v m S B) (dropF (fun i => ownP (g (homeN v m S B) i)) v m n).1, if (dropF (fun i => ownP (g (homeN v m S B) i)) v m n).2 = true then 1 else 0)
 else if K = 5 then (if atI S B port vid < 0 then (g, 0) else (updR g (atI S B port vid).toNat (ageR g (atI S B port vid).toNat now old), (ageC g (atI S B port vid).toNat now old n : Nat)))
 else if K = 6 then (flG port vid g (S * B), (flC port vid g n (S * B) : Nat))
 else (updR g (homeN v m S B) (putF (fun i => ownP (g (homeN v m S B) i)) ⟨v, m, port, false, now⟩ now n).1, ((putF (fun i => ownP (g (homeN v m S B) i)) ⟨v, m, port, false, now⟩ now n).2 : Nat))
def stG (g : Nat → Nat → Pl) : Prop := ∀ i j, (g i j).e.stamp < 4294967296
theorem own_st {f : Nat → Pl} (h : ∀ j, (f j).e.stamp < 4294967296) (j : Nat) : (ownP (f j)).e.stamp < 4294967296 := by
 unfold ownP
 split
 ·exact h j
 ·show (0 : Nat) < _; omega
theorem updP_st {f : Nat → Pl} {x : Pl} (h : ∀ j, (f j).e.stamp < 4294967296) (hx : x.e.stamp < 4294967296) (k j : Nat) : (updP f k x j).e.stamp < 4294967296 := by
 unfold updP
 split
 ·exact hx
 ·exact h j
theorem put_st {f : Nat → Pl} {e : En} {now n : Nat} (h : ∀ j, (f j).e.stamp < 4294967296) (he : e.stamp < 4294967296) (j : Nat) : ((putF f e now n).1 j).e.stamp < 4294967296 := by
 unfold putF
 split
 ·exact h j
 ·split
  ·split
   ·exact h j
   ·exact updP_st h he _ j
  ·split
   ·exact h j
   ·exact updP_st h he _ j
theorem drop_st {f : Nat → Pl} {v : Int} {m n : Nat} (h : ∀ j, (f j).e.stamp < 4294967296) (j : Nat) : ((dropF f v m n).1 j).e.stamp < 4294967296 := by
 unfold dropF
 split
 ·exact h j
 ·split
  ·exact updP_st h (by show (0 : Nat) < _; omega) _ j
  ·exact h j
theorem sweep_st {f : Nat → Pl} {c : En → Bool} (h : ∀ j, (f j).e.stamp < 4294967296) (j : Nat) : (sweepF f c j).e.stamp < 4294967296 := by
 unfold sweepF
 split
 ·show (0 : Nat) < _; omega
 ·exact h j
theorem updR_st {g : Nat → Nat → Pl} {f : Nat → Pl} (h : stG g) (hf : ∀ j, (f j).e.stamp < 4294967296) (k : Nat) : stG (updR g k f) := by
 intro i j
 unfold updR
 split
 ·exact hf j
 ·exact h i j
theorem doG_st (K : Nat) (v : Int) (m : Nat) (port vid : Int) (now old : Nat) (S B n : Nat) (g : Nat → Nat → Pl) (h : stG g) (hnow : now < 4294967296) : stG (doG K v m port vid now old S B n g).1 := by
 unfold doG
 split
 ·exact h
 ·split
  ·exact updR_st h (put_st (own_st (h _)) (by show (0 : Nat) < _; omega)) _
  ·split
   ·exact updR_st h (drop_st (own_st (h _))) _
   ·split
    ·split
     ·exact h
     ·exact updR_st h (sweep_st (own_st (h _))) _
    ·split
     ·intro i j
      show (flG port vid g (S * B) i j).e.stamp < 4294967296
      unfold flG
      split
      ·exact sweep_st (own_st (h _)) j
      ·exact h i j
     ·exact updR_st h (put_st (own_st (h _)) hnow) _
end
section
open Go.RowKit
end
section
open Go.RowKit
theorem PlRow.sl {w : World} {B n : Nat} {v : Value} {f : Nat → Pl} (h : PlRow w B v n f) : Sl w B 6 v n (plc (listP f n)) := by
 obtain ⟨A, cap, hv, h1, h2, h3⟩ := h
 refine ⟨by rw [plc_length, listP_length], A, cap, hv, h1, h2, fun hn => ?_⟩
 have hn' : 0 < n := by
  rcases Nat.eq_zero_or_pos n with h0 | h0
  ·subst h0; simp at hn
  ·exact h0
 obtain ⟨b, off, e, hb, hc⟩ := h3 hn'
 refine ⟨b, off, e, hb, fun j hj => ?_⟩
 have ej : j = j / 6 * 6 + j % 6 := by omega
 have hq : j / 6 < n := by omega
 have hv2 : (plc (listP f n))[j]? = ((listP f n)[j / 6]?).bind fun x => x.cells[j % 6]? := by
  have := plc_at (listP f n) (j / 6) (j % 6) (by omega)
  rw [← ej] at this
  exact this
 rw [hv2]
 simp only [listP, List.getElem?_map, List.getElem?_range hq, Option.map_some, Option.bind_some]
 obtain ⟨c0, c1, c2, c3, c4, c5⟩ := hc (j / 6) hq
 have hadr : off + j = off + j / 6 * 6 + j % 6 := by omega
 rw [hadr]
 rcases (show j % 6 = 0 ∨ j % 6 = 1 ∨ j % 6 = 2 ∨ j % 6 = 3 ∨ j % 6 = 4 ∨ j % 6 = 5 by omega) with h | h | h | h | h | h <;> rw [h]
 ·exact c0
 ·exact c1
 ·exact c2
 ·exact c3
 ·exact c4
 ·exact c5
set_option maxRecDepth 20000 in
set_option maxHeartbeats 3200000 in
theorem clone_places {f : Nat → Pl} {n : Nat} {y : Value} {w : World} {B : Nat} (hn0 : 0 < n) (hn : n ≤ 1000000) (hv : PlRow w B y n f) (hB : B ≤ w.heap.size) :
  Calls Tryz.prog 102 #[y] w (Gives 162 n f id w) := by
 have HS := Lib.hid hv.sl
 obtain ⟨A, cap, rfl, h1, h2, h3⟩ := hv
 obtain ⟨b, off, rfl, hb, hc⟩ := h3 hn0
 clear h2
 obtain ⟨xs, hxs⟩ : ∃ xs, xs = plc (listP f n) := ⟨_, rfl⟩
 have HONE : Hid (∀ u ∈ xs, u.oneCell' = true) := by rw [hxs]; exact plc_one _
 rw [← hxs] at HS
 have HX := Lib.hid hxs
 clear h3 hc hxs
 have hnil := fun (W : World) => Lib.run_eql_slice_nil (P := Tryz.prog) W 133 162 (some ⟨b, off, none⟩) n cap 0 0 Tryz.underlying133
 go_enter Tryz.func102, Tryz.ntmps102
 go_wp2_with (first
  | (at_builtin; refine wpList_apv _ rfl stPlaces _ _ rfl w.heap.size (.slice (some ⟨w.heap.size, 0, none⟩) 0 0) 0 [] rfl ⟨by simp, .inr ⟨w.heap.size, 0, #[], rfl, Nat.le_refl _, heap_alloc_new w _, Nat.le_refl _, by simp [maxLen], by simp, by simp⟩⟩ B _ n xs rfl (HS.out.below (by (repeat' (first | (with_reducible exact Below.refl _ _) | (with_reducible refine Below.alloc ?_ ?_ _) | go_size)))) HONE.out (by omega) (by go_size) ?_; intro A2 c2 w9 hown2 hgr2 hat2 hbel2; clear hgr2 hat2))
 have HO0 : w9.ownsRow w.heap.size 162 6 (.slice A2 n c2) n (plc (listP f n)) := by
  rw [← HX.out]
  simpa using hown2
 have HO := Lib.hid HO0
 clear HO0
 have HB9 : Hid (Below w.heap.size w w9) := Below.trans ((Below.refl _ _).alloc (Nat.le_refl _) _) hbel2
 clear hown2 hbel2
 go_wp2
 go_ret
 exact ⟨_, by first | rfl | (simp; done), RowOf.of_own HO.out, HB9.out⟩
set_option maxRecDepth 20000 in
set_option maxHeartbeats 3200000 in
theorem book_Bucket {w : World} {D : Nat → Prop} {p q S B n : Nat} {g : Nat → Nat → Pl} (h : BkAt w D p q S B n g) (hS : 1 ≤ S ∧ S ≤ 8) (hB : 1 ≤ B ∧ B ≤ 16) (hn0 : 0 < n) (hn : n ≤ 8) (s t : Int) (H : Nat) (hh2 : H < S * B) (ha : atI S B s t = (H : Int)) :
  Calls Tryz.prog 99 #[.pointer (some ⟨p, 0, none⟩), .int .i64 s, .int .i64 t] w (Gives 162 n (g H) id w) := by
 obtain ⟨M, hM⟩ : ∃ M, M = S * B := ⟨_, rfl⟩
 rw [← hM] at hh2
 have hMB : M ≤ 128 := by rw [hM]; exact Nat.mul_le_mul hS.2 hB.2
 have hhm := fun w' (hb : Below w.heap.size w w') => book_at ((SizeOf.of h).call hb) (by omega) (by omega) (by omega) s t
 rw [ha] at hhm
 have HHM := Lib.hid hhm
 have HBK := Lib.hid h
 have HM := Lib.hid hM
 have HL := Lib.hid fun w u (hr : PlRow w w.heap.size u n (g H)) => clone_places hn0 (by omega) hr (Nat.le_refl _)
 clear hM h ha hhm
 go_enter Tryz.func99, Tryz.ntmps99
 go_wp2_with fail
 refine (HHM.out _ (Below.refl _ _)).mono ?_
 rintro e w2 ⟨rfl, hb⟩
 have HB2 : Hid (Below w.heap.size w w2) := hb
 have HBK2 := Lib.hid (HBK.out.call HB2.out)
 clear hb HHM
 obtain ⟨hp, hq0, hpq, _, _, _, ⟨cap, c1, c2, s2⟩, hfz, hrows⟩ := HBK2.out
 rw [← HM.out] at c1 s2 hrows
 obtain ⟨v0, s3, hrow⟩ := hrows H hh2
 unfold maxLen at c2
 have g0 : (0 : Int) ≤ (H : Int) := Int.natCast_nonneg _
 have g1 : (H : Int) < (M : Int) := by omega
 have g2 : ¬ (H : Int) < 0 := by omega
 have HROW := Lib.hid hrow.row
 have hz2 := HB2.out.size
 clear hrow hrows
 go_wp2_with fail
 refine Calls.mono (HL.out _ _ HROW.out) ?_
 intro e w4 hpost
 obtain ⟨va, he, hra, hb⟩ := hpost
 simp only [id] at he
 subst he
 have HRA := Lib.hid (hra.base hz2)
 have HB4 : Hid (Below w.heap.size w w4) := HB2.out.trans (hb.mono hz2)
 clear hra hb
 go_wp2
 go_ret
 exact ⟨_, rfl, HRA.out, HB4.out⟩
end
end Go.Proofs.YtpcapdpglpgcbaaGreat
