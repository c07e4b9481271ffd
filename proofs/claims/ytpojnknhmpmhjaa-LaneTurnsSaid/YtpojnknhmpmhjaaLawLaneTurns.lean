/-
  What some put and one takes, by whatever turns, comes out of each ring in order. No condition.
-/
import Derived.Test.YtpojnknhmpmhjaaRows
import Derived.Test.YtpojnknhmpmhjaaLnR
import Derived.Test.YtpojnknhmpmhjaaOpenI
import Derived.Deep.CutBlock
import Derived.Deep.DeepCutAuto
import Derived.WalkKit
import Derived.ProofKit
import Derived.OpenShut
namespace Go.Proofs.Ytpojnknhmpmhjaa.laneTurns
open Go.ChangeShapes Go.WideShapes Go.ChangeAt Go.RowKit
open Go.ChangeMaps (open_string)
set_option linter.unusedVariables false

theorem own : ownKnob Try.prog.godebug = none := by kernel_rfl
theorem sA {α : Type _} (l : List α) (i : Nat) (a : α) : l.toArray.setIfInBounds i a = (l.set i a).toArray := List.setIfInBounds_toArray l i a
theorem sB {α : Type _} {x : α} {xs : List α} {a : α} : (x :: xs).set 0 a = a :: xs := List.set_cons_zero
theorem sC {α : Type _} {x : α} {xs : List α} {i : Nat} {a : α} : (x :: xs).set (i + 1) a = x :: xs.set i a := List.set_cons_succ

set_option maxRecDepth 100000 in
set_option maxHeartbeats 6400000 in
theorem walk (W : World) (a0 : Int) (b0 : -9223372036854775808 ≤ a0 ∧ a0 ≤ 9223372036854775807) (a1 : Value) (b1 : U64Rows W a1) (a2 : Value) (l2 : List Int) (b2 : Sl W W.heap.size 1 a2 l2.length (kv .i64 l2)) (c2 : ∀ x ∈ l2, -9223372036854775808 ≤ x ∧ x ≤ 9223372036854775807) :
    Calls Try.prog 8 #[.int .i64 a0, a1, a2] W (Says (.bool true) W) := by
  obtain ⟨Al, ln, lcap, L, N, rfl, hlc, hlm, hls, hl0⟩ := b1.fn2
  unfold maxLen at hlm
  have HLS := Lib.hid hls
  have HL0 := Lib.hid hl0
  obtain ⟨A2, n2, cap2, rfl, hl2c, hl2m⟩ : ∃ A n c, a2 = .slice A n c ∧ n ≤ c ∧ c ≤ maxLen ∧ n = l2.length := by
   obtain ⟨A, c, e1, e2, e3⟩ := b2.form
   exact ⟨A, _, c, e1, e2, e3, rfl⟩
  obtain ⟨hl2m, hn2l⟩ := hl2m
  unfold maxLen at hl2m
  rw [← hn2l] at b2
  have HL2 : Hid (∀ i, i < n2 → ∃ bb off, A2 = some ⟨bb, off, none⟩ ∧ bb < W.heap.size ∧ W.cell? ⟨bb, off + i, none⟩ = some (.int .i64 (l2.getD i 0))) := fun i hi => by
   obtain ⟨bb, off, cap, e, _, _, hbb, hcc⟩ := b2.at_ (by omega)
   cases e
   exact ⟨bb, off, rfl, hbb, (hcc i (by omega)).trans (kv_getElem? .i64 l2 i (by omega))⟩
  clear b1 b2 c2 hn2l hls hl0
  obtain ⟨n0, hn0, hmod0⟩ := mod_u64 a0 5 (by omega) (by omega)
  obtain ⟨n, hn⟩ : ∃ n, n = n0 + 1 := ⟨_, rfl⟩
  have hn5 : 1 ≤ n ∧ n ≤ 5 := by omega
  have HM0 : Hid (wrap64 (1 + wrap64 ((IntKind.u64.wrap a0).tmod 5)) = (n : Int)) := by
   have e : wrap64 ((IntKind.u64.wrap a0).tmod 5) = (n0 : Int) := hmod0
   show _ = _
   rw [e, show (1 : Int) + (n0 : Int) = (n : Int) by omega]
   exact IntWalk.wrap64_in _ (by omega)
  clear hmod0 hn hn0
  have HBG := Lib.hid (law15_begin (n := n) (sz := 3) (by omega) (by omega) (by omega) (by omega) W)
  have m0 := HM0.out
  go_enter Try.func8, Try.ntmps8
  go_wp2_with fail
  (try simp only [m0])
  refine (HBG.out).mono ?_
  rintro e w1 ⟨wb, b, lb, g, cap, v, rbs, G, m, rfl, hw, hq, hm, hC, hG, hb⟩
  have HW := Lib.hid hw
  have HQ := Lib.hid hq
  have HG := Lib.hid hG
  have HM := Lib.hid hm
  have HB := Lib.hid hb
  clear hw hq hm hC hG hb HBG m0 HM0
  have HT := Lib.hid (told15 w1)
  go_wp2_with fail
  refine (HT.out).mono ?_
  rintro e w2 ⟨rfl, hb⟩
  have HI0 : Hid (LtI W (fourW w2 n) wb b lb g cap n v rbs w2.heap.size 0 0 0 (fun _ => 0) (fun _ => none) (fun _ => .slice none 0 0) (fun _ => []) G 0 m (fun _ => 0) (fun _ => 0) (fun _ => []) (fun _ => ⟨true, 0, 0, 0, false, 0⟩) none L N) := by
   have hb2 := fourW_below w2 n
   have hwz : W.heap.size ≤ w2.heap.size := Nat.le_trans HB.out.size hb.size
   exact ⟨⟨(HW.out.lower hb).lower hb2, HQ.out, ⟨fun k hk => .inl ⟨rfl, (HG.out k hk).2.1⟩, fun i k x _ _ e => (by cases e)⟩, fun _ k hk => (HG.out k hk).2.2, fun x hx => (by cases hx), (HB.out.trans (hb.mono HB.out.size)).trans (hb2.mono hwz)⟩,
    fourW_rows w2 n, fun k hk => rfl, fun k x hk e => (by cases e), fun k => by simp, by have := HM.out; omega, by have := HM.out; omega, (HW.out.lower hb).lane.lt, fun x hx => (by cases hx), fun k hk => Nat.zero_le _⟩
  have hmk1 := fun W => run_mkFull (P := Try.prog) W stIntsP n (by omega)
  have hmk2 := fun W => run_mkFull (P := Try.prog) W stActsP n (by omega)
  have hmk3 := fun W => run_mkFull (P := Try.prog) W stRowsU n (by omega)
  clear HT HW HQ HG HM
  go_upto_block 0 with fail
  unfold fourW at HI0
  obtain ⟨w3, hw3⟩ : ∃ w3, w3 = (((w2.alloc (.cells (mkC (.int .i64 0) 1 n) 3)).alloc (.cells (mkC (.pointer none) 1 n) 36)).alloc (.cells (mkC (.slice none 0 0) 1 n) 23)).alloc (.cells (mkC (.slice none 0 0) 1 n) 23) := ⟨_, rfl⟩
  obtain ⟨r, hr⟩ : ∃ r, r = w2.heap.size := ⟨_, rfl⟩
  obtain ⟨r1, hr1⟩ : ∃ x, x = r + 1 := ⟨_, rfl⟩
  obtain ⟨r2, hr2⟩ : ∃ x, x = r + 2 := ⟨_, rfl⟩
  obtain ⟨r3, hr3⟩ : ∃ x, x = r + 3 := ⟨_, rfl⟩
  rw [← hw3, ← hr] at HI0 ⊢
  (try rw [show r + 1 + 1 + 1 = r3 by omega])
  (try rw [show r + 1 + 1 = r2 by omega])
  (try rw [← hr1])
  have HR := Lib.hid (And.intro hr1 (And.intro hr2 hr3))
  clear hw3 hr hb HB hmk1 hmk2 hmk3 hr1 hr2 hr3
  go_cut [13, 14] (fun av sv wx => ∃ (i st : Nat) (at_ : Nat → Nat) (nb : Nat → Option Nat) (qv : Nat → Value) (ql : Nat → List Int) (G : Nat → RgS) (c : Nat) (m : MemS) (p t : Nat → Nat) (q : Nat → List Int) (pa : Nat → AcS) (T : Option TkN), i ≤ 1500 ∧ av = .pointer (T.map fun (x : TkN) => (⟨x.ab, 0, none⟩ : Addr)) ∧ sv = .int .i64 st ∧ Hid (LtI W wx wb b lb g cap n v rbs r i i st at_ nb qv ql G c m p t q pa T L N))
  case first =>
   go_wp2
   go_loopw [13, 14, 15] (fun av sv iv wr => ∃ i st : Nat, i ≤ 1500 ∧ iv = .int .i64 i ∧ sv = .int .i64 st ∧ ∃ at_ nb qv ql G c m p t q pa T, av = .pointer (T.map fun (x : TkN) => (⟨x.ab, 0, none⟩ : Addr)) ∧ Hid (LtI W wr wb b lb g cap n v rbs r i i st at_ nb qv ql G c m p t q pa T L N)) (fun _ _ iv _ => 1501 - (intOf iv).toNat)
   case atStart => exact ⟨0, 0, by omega, rfl, rfl, _, _, _, _, _, _, _, _, _, _, _, none, rfl, HI0⟩
   case round =>
    obtain ⟨i, st, hi, rfl, rfl, at_, nb, qv, ql, G1, c, m1, p, t, q, pa, T, rfl, HI⟩ := hrel
    clear HI0
    by_cases hin : i < n2
    ·
     by_cases hi15 : i < 1500
     ·
      obtain ⟨bb, off, hA, hbb, hcc⟩ := HL2.out i hin
      subst hA
      have cl2 := (HI.out.ln.bel.cell (p := ⟨bb, off + i, none⟩) hbb).trans hcc
      obtain ⟨kx, hK, hmod⟩ := mod_u64 (l2.getD i 0) (n + 1) (by omega) (by omega)
      have hmod : wrap64 ((IntKind.u64.wrap (l2.getD i 0)).tmod ((n : Int) + 1)) = (kx : Int) := hmod
      clear hcc
      generalize l2.getD i 0 = pick at *
      have hwn : IntKind.u64.wrap ((n : Int) + 1) = (n : Int) + 1 := by rw [IntKind.wrap_u64]; omega
      have hnz : (n : Int) + 1 ≠ 0 := by omega
      have cwb : wr.cell? ⟨wb, 0, none⟩ = some (.pointer (some ⟨b, 0, none⟩)) := HI.out.ln.at_.row.cell (i := 0) (by omega)
      have cwl : wr.cell? ⟨wb, 2, none⟩ = some (.pointer (some ⟨lb, 0, none⟩)) := HI.out.ln.at_.row.cell (i := 2) (by omega)
      have HTM := HI.out.time
      obtain ⟨TM, hTM⟩ : ∃ x, x = m1.t := ⟨_, rfl⟩
      rw [← hTM] at HTM
      have HTMe := Lib.hid hTM
      have HTM := Lib.hid HTM
      have hT0 : 0 ≤ TM := by rw [hTM]; exact HI.out.t0
      have hT1 : TM ≤ 10 + (i : Int) := by rw [hTM]; exact HI.out.tm
      clear hTM
      go_wp2_with fail
      (try simp only [hmod])
      refine (HTM.out).mono ?_
      rintro e wq ⟨rfl, rfl⟩
      clear HTM
      by_cases hKn : kx = n
      ·
       subst hKn
       clear hmod
       cases T with
       | none =>
        have HBG := Lib.hid HI.out.begins
        go_wp2_with fail
        refine (HBG.out).mono ?_
        rintro e w3 ⟨rfl, hI⟩
        have HI2 := Lib.hid hI
        obtain ⟨hb1, _⟩ := hI.ln.busy _ rfl
        have HOV := Lib.hid (lact_Over hb1.act)
        have HNB := Lib.hid (lane_NextBusy hb1.at_.lane)
        have cwl3 : w3.cell? ⟨wb, 2, none⟩ = some (.pointer (some ⟨lb, 0, none⟩)) := hb1.at_.row.cell (i := 2) (by omega)
        obtain ⟨x, hx⟩ : ∃ x : TkN, x = ⟨wr.heap.size, 0, wr.heap.size + 1, ⟨false, 1, 0, 0, false, 0⟩⟩ := ⟨_, rfl⟩
        have hxa : x.ab = wr.heap.size := by rw [hx]
        rw [← hx] at HI2
        rw [← hxa] at HOV ⊢
        obtain ⟨G2, hG2⟩ : ∃ G2, G2 = updG G1 c { G1 c with po := true } := ⟨_, rfl⟩
        rw [← hG2] at HI2
        clear hI hb1 hx hxa hG2 HBG HI cwb cwl
        go_wp2_with (first
         | (go_at_call 43; (with_reducible refine Calls.mono HOV.out ?_); rintro e wq ⟨rfl, rfl⟩)
         | (go_at_call 42; (with_reducible refine Calls.mono HNB.out ?_); rintro e wq ⟨rfl, rfl⟩)
         | fail)
        clear HOV HNB cwl3
        as_aux_lemma =>
         have HT2 : Hid (m1.t ≤ 4611686018427380000) := by show _ ≤ _; rw [← HTMe.out]; omega
         obtain ⟨hb1, _⟩ := HI2.out.ln.busy _ rfl
         have HTL := Lib.hid (tl_step hb1 HT2.out)
         have hsteps := HI2.out.steps x rfl
         have hst4 := hb1.know.2.2.1
         have hjn := hb1.jn
         clear hb1 HT2
         refine (HTL.out).mono ?_
         rintro e w4 hres
         clear HTL
         rcases hres with ⟨rfl, j', G', m', pb', a', hk, hj, hal, hpb, ht⟩ | ⟨rfl, kk, jj, a', G', m', t', q', c', hk, hal, ht⟩
         ·
          have HI3 := Lib.hid (HI2.out.goes hk hj hal hpb ht)
          have HTM2 := HI3.out.time
          rw [show m'.t = TM + 1 by rw [hal.tm, HTMe.out]] at HTM2
          have HTM2 := Lib.hid HTM2
          have cwb : w4.cell? ⟨wb, 0, none⟩ = some (.pointer (some ⟨b, 0, none⟩)) := hk.at_.row.cell (i := 0) (by omega)
          have e8 : decide (((0 : Nat) : Int) + 1 > 8 * (kx : Int)) = false := by simp; omega
          have e8' : decide (8 * (kx : Int) < ((0 : Nat) : Int) + 1) = false := by simp; omega
          have e9 : decide (TM + 1 > TM + 1) = false := by simp
          clear hk hj hal hpb ht HI2 hsteps hst4 hjn
          go_wp2_with (first
           | (go_at_call 27; (with_reducible refine Calls.mono HTM2.out ?_); rintro e wq ⟨rfl, rfl⟩)
           | fail)
          go_roundw
          case rel => exact ⟨i + 1, 0 + 1, by omega, by go_num, by go_num, _, _, _, _, _, _, _, _, _, _, _, some ⟨x.ab, j', pb', a'⟩, rfl, HI3⟩
          case measure => simp [intOf]; omega
         ·
          have cwb : w4.cell? ⟨wb, 0, none⟩ = some (.pointer (some ⟨b, 0, none⟩)) := hk.at_.row.cell (i := 0) (by omega)
          have e8 : decide (((0 : Nat) : Int) + 1 > 8 * (kx : Int)) = false := by simp; omega
          have e8' : decide (8 * (kx : Int) < ((0 : Nat) : Int) + 1) = false := by simp; omega
          have e9 : decide (TM + 1 > TM + 1) = false := by simp
          have HOK := lact_Ok hk.act hk.ract
          have HKK := Lib.hid hk
          have HAL := Lib.hid hal
          have HTT := Lib.hid ht
          clear hsteps hst4 hjn
          cases hok : a'.ok
          ·
           rw [hok] at HOK
           have HOK := Lib.hid HOK
           have HI3 := Lib.hid (HI2.out.vain hk hok hal ht (0 + 1))
           have HTM2 := HI3.out.time
           rw [show m'.t = TM + 1 by rw [hal.tm, HTMe.out]] at HTM2
           have HTM2 := Lib.hid HTM2
           clear hk hal ht HI2 hok HKK HAL HTT
           go_wp2_with (first
            | (go_at_call 36; (with_reducible refine Calls.mono HOK.out ?_); rintro e wq ⟨rfl, rfl⟩)
            | (go_at_call 27; (with_reducible refine Calls.mono HTM2.out ?_); rintro e wq ⟨rfl, rfl⟩)
            | fail)
           go_roundw
           case rel => exact ⟨i + 1, 0 + 1, by omega, by go_num, by go_num, _, _, _, _, _, _, _, _, _, _, _, none, rfl, HI3⟩
           case measure => simp [intOf]; omega
          ·
           rw [hok] at HOK
           have HOK := Lib.hid HOK
           have HFR := lact_From hk.act hk.ract
           rw [if_pos hok] at HFR
           have HFR := Lib.hid HFR
           have HVA := lact_Value hk.act hk.ract
           rw [if_pos hok] at HVA
           have HVA := Lib.hid HVA
           have hkn := hk.kn
           have HRO := Lib.hid (HI2.out.ro.tch ht (fun y hy => HI2.out.tk_far hy))
           have hlg := (HI2.out.len2 hkn).2
           obtain ⟨Ag, cg, hvg, hgc, hgm⟩ := (Sl.of_own (HRO.out.own (kx + kk) (by omega))).form
           have HVG := Lib.hid hvg
           have HOK2 := Lib.hid hok
           obtain ⟨Lg, hLg⟩ : ∃ l, l = (ql (kx + kk)).length := ⟨_, rfl⟩
           have HLG := Lib.hid hLg
           have ck : w4.cell? ⟨r3, kk, none⟩ = some (.slice Ag Lg cg) := by
            have := HRO.out.gc.cell (i := kk) hkn
            rw [hvg, ← hLg, ← HR.out.2.2] at this
            exact this
           have cf : w4.frozen? ⟨r3, kk, none⟩ = false := by rw [HR.out.2.2]; exact HRO.out.gc.frozen kk
           rw [← hLg] at hlg hgc
           unfold maxLen at hgm
           have HOW : Hid (w4.ownsRow (r + 4) 22 1 (.slice Ag Lg cg) Lg (kv .u64 (ql (kx + kk)))) := by
            have := HRO.out.own (kx + kk) (by omega)
            rw [hvg, ← hLg] at this
            exact this
           have HKL : Hid ((ql (kx + kk) ++ [a'.num]).length = Lg + 1 ∧ kv .u64 (ql (kx + kk) ++ [a'.num]) = kv .u64 (ql (kx + kk)) ++ [.int .u64 a'.num]) := ⟨by rw [hLg]; simp, by simp [kv]⟩
           have HLW : Hid (r3 < w4.heap.size) := by rw [HR.out.2.2]; exact HRO.out.gc.lt
           have HLA9 : Hid (∀ w7, Below w4.heap.size w4 w7 → ∀ w9 v9, w9.ownsRow (r + 4) 22 1 v9 (Lg + 1) (kv .u64 (ql (kx + kk)) ++ [.int .u64 a'.num]) → (w7.alloc (.cells #[.int .u64 a'.num] 22)).grownBy w9 (Value.slice Ag Lg cg).ownBlock → (v9.ownBlock = (Value.slice Ag Lg cg).ownBlock ∨ v9.ownBlock = some (w7.alloc (.cells #[.int .u64 a'.num] 22)).heap.size) → RoL (w9.setCell ⟨r3, kk, none⟩ v9) r kx at_ nb (upd qv (kx + kk) v9) (upd ql (kx + kk) (ql (kx + kk) ++ [a'.num])) ∧ Tch (RoD r kx qv) w4 (w9.setCell ⟨r3, kk, none⟩ v9)) := fun w7 hb w9 v9 a1 a2 a3 => by
            obtain ⟨y1, y2⟩ := (HRO.out.below hb).app (k := kx + kk) (by omega) (l' := ql (kx + kk) ++ [a'.num]) (by rw [HKL.out.1, HKL.out.2]; exact a1) (by rw [HVG.out, ← HLG.out]; exact a2) (by rw [HVG.out, ← HLG.out]; exact a3) (x := r3) (y := kk) (.inr ⟨by omega, HR.out.2.2, by omega⟩)
            exact ⟨y1, (Tch.of_below hb).trans y2⟩
           have hal1 : ∀ w7 o, Below w4.heap.size w4 w7 → (w7.alloc o).cell? ⟨r3, kk, none⟩ = some (.slice Ag Lg cg) := fun w7 o hb => (((hb.alloc hb.size o)).cell (p := ⟨r3, kk, none⟩) HLW.out).trans ck
           have hal2 : ∀ w7 o, Below w4.heap.size w4 w7 → (w7.alloc o).frozen? ⟨r3, kk, none⟩ = false := fun w7 o hb => (((hb.alloc hb.size o)).frozen (p := ⟨r3, kk, none⟩) HLW.out).trans cf
           have g1 : decide ((kk : Int) < 0) = false := by simp
           have g2 : decide ((kk : Int) ≥ (kx : Int)) = false := by simp; omega
           have g2' : decide (kx ≤ kk) = false := by simp; omega
           clear hvg hLg hk hal ht cf
           go_wp2_with (first
            | (go_at_call 36; (with_reducible refine Calls.mono HOK.out ?_); rintro e wq ⟨rfl, rfl⟩)
            | fail)
           go_wp2_with (first
            | (go_at_call 38; (with_reducible refine Calls.mono HFR.out ?_); rintro e wq ⟨rfl, rfl⟩)
            | fail)
           have HFRD : Hid (∀ w', Below w4.heap.size w4 w' → Calls Try.prog 38 #[.pointer (some ⟨x.ab, 0, none⟩)] w' fun e w2 => e = .returned (.int .i64 (kk : Int)) ∧ w' = w2) := fun w' hb => by
            have := lact_From (HKK.out.act.below hb) (HKK.out.ract.below hb)
            rw [if_pos HOK2.out] at this
            exact this
           have HVAD : Hid (∀ w', Below w4.heap.size w4 w' → Calls Try.prog 37 #[.pointer (some ⟨x.ab, 0, none⟩)] w' fun e w2 => e = .returned (.int .u64 a'.num) ∧ w' = w2) := fun w' hb => by
            have := lact_Value (HKK.out.act.below hb) (HKK.out.ract.below hb)
            rw [if_pos HOK2.out] at this
            exact this
           clear HOK HFR HVA
           refine wp_region_held_drew (S := fun w' => True) (by kernel_rfl) ?_ (fun hHeld => ?_)
           ·
            trivial
           refine wpAnyH_take (i := 0) (oi := { dst := some 110, op := Op.move (Operand.tmp 12), type := 62, pos := "law.go:141", after := #[], guard := none }) (v := ?_) rfl (by kernel_rfl) (by kernel_rfl) (by kernel_rfl) (fun _ _ _ h => h) (Or.inl ⟨by rfl, ?_⟩) (by assumption) ?_; rotate_left; (· (intro w hSw; (try dsimp only at hSw); go_simp; try with_reducible rfl)); (try simp only [Act.put, sA, sB, sC])
           refine wpAnyH_take (i := 1) (oi := { dst := some 111, op := Op.move (Operand.tmp 13), type := 67, pos := "law.go:141", after := #[], guard := none }) (v := ?_) rfl (by kernel_rfl) (by kernel_rfl) (by kernel_rfl) (fun _ _ _ h => h) (Or.inl ⟨by rfl, ?_⟩) (by assumption) ?_; rotate_left; (· (intro w hSw; (try dsimp only at hSw); go_simp; try with_reducible rfl)); (try simp only [Act.put, sA, sB, sC])
           refine wpAnyH_take (i := 3) (oi := { dst := some 113, op := Op.move (Operand.tmp 12), type := 62, pos := "law.go:141", after := #[], guard := none }) (v := ?_) rfl (by kernel_rfl) (by kernel_rfl) (by kernel_rfl) (fun _ _ _ h => h) (Or.inl ⟨by rfl, ?_⟩) (by assumption) ?_; rotate_left; (· (intro w hSw; (try dsimp only at hSw); go_simp; try with_reducible rfl)); (try simp only [Act.put, sA, sB, sC])
           refine wpAnyH_take (i := 4) (oi := { dst := some 114, op := Op.move (Operand.tmp 13), type := 67, pos := "law.go:141", after := #[], guard := none }) (v := ?_) rfl (by kernel_rfl) (by kernel_rfl) (by kernel_rfl) (fun _ _ _ h => h) (Or.inl ⟨by rfl, ?_⟩) (by assumption) ?_; rotate_left; (· (intro w hSw; (try dsimp only at hSw); go_simp; try with_reducible rfl)); (try simp only [Act.put, sA, sB, sC])
           refine wpAnyH_take (i := 8) (oi := { dst := some 118, op := Op.move (Operand.tmp 13), type := 67, pos := "law.go:141", after := #[], guard := none }) (v := ?_) rfl (by kernel_rfl) (by kernel_rfl) (by kernel_rfl) (fun _ _ _ h => h) (Or.inl ⟨by rfl, ?_⟩) (by assumption) ?_; rotate_left; (· (intro w hSw; (try dsimp only at hSw); go_simp; try with_reducible rfl)); (try simp only [Act.put, sA, sB, sC])
           refine wpAnyH_ready (rs := [2]) (by kernel_rfl) (by simp) ?_
           refine (AllReadyH.cons (o := { dst := some 112, op := Op.call { callee := Callee.value (Operand.func 38), args := #[Operand.tmp 111], argTypes := #[67] }, type := 3, pos := "law.go:141", after := #[{ on := 1, ground := Ground.data }], guard := none }) rfl (fun K hK => ?_) AllReadyH.nil)
           go_simp
           refine Calls.mono (HFRD.out _ (by (repeat' (first | (with_reducible first | exact Below.refl _ _ | assumption | refine Below.setCell ?_ ?_ _ | refine Below.alloc ?_ ?_ _ | refine below_drewN ?_ _ | refine Below.drew ?_) | go_size)))) ?_
           rintro e wq ⟨rfl, rfl⟩
           refine hK.out _ _ ?_ (fun hHeld => ?_)
           ·
            (try dsimp only)
            try trivial
           clear hK K; (try simp only [Act.put, sA, sB, sC])
           refine wpAnyH_ready (rs := [5]) (by kernel_rfl) (by simp) ?_
           refine (AllReadyH.cons (o := { dst := some 115, op := Op.call { callee := Callee.value (Operand.func 38), args := #[Operand.tmp 114], argTypes := #[67] }, type := 3, pos := "law.go:141", after := #[{ on := 4, ground := Ground.data }, { on := 2, ground := Ground.chain }], guard := none }) rfl (fun K hK => ?_) AllReadyH.nil)
           go_simp
           refine Calls.mono (HFRD.out _ (by (repeat' (first | (with_reducible first | exact Below.refl _ _ | assumption | refine Below.setCell ?_ ?_ _ | refine Below.alloc ?_ ?_ _ | refine below_drewN ?_ _ | refine Below.drew ?_) | go_size)))) ?_
           rintro e wq ⟨rfl, rfl⟩
           refine hK.out _ _ ?_ (fun hHeld => ?_)
           ·
            (try dsimp only)
            try trivial
           clear hK K; (try simp only [Act.put, sA, sB, sC])
           refine wpAnyH_take (i := 6) (oi := { dst := some 116, op := Op.indexAddr 62 (Operand.tmp 113) (Operand.tmp 115), type := 0, pos := "law.go:141", after := #[{ on := 3, ground := Ground.data }, { on := 5, ground := Ground.data }], guard := none }) (v := ?_) rfl (by kernel_rfl) (by kernel_rfl) (by kernel_rfl) (fun _ _ _ h => h) (Or.inl ⟨by rfl, ?_⟩) (by assumption) ?_; rotate_left; (· (intro w hSw; (try dsimp only at hSw); go_simp; try with_reducible rfl)); (try simp only [Act.put, sA, sB, sC])
           refine wpAnyH_ready (rs := [7, 9]) (by kernel_rfl) (by simp) ?_
           refine (AllReadyH.cons (o := { dst := some 117, op := Op.load 23 (Operand.tmp 116), type := 23, pos := "law.go:141", after := #[{ on := 6, ground := Ground.data }], guard := none }) rfl (fun K hK => ?_) (AllReadyH.cons (o := { dst := some 119, op := Op.call { callee := Callee.value (Operand.func 37), args := #[Operand.tmp 118], argTypes := #[67] }, type := 22, pos := "law.go:141", after := #[{ on := 8, ground := Ground.data }, { on := 5, ground := Ground.chain }], guard := none }) rfl (fun K hK => ?_) AllReadyH.nil))
           ·
            go_simp
            (try (rw [hal1 _ _ (by (repeat' (first | (with_reducible first | exact Below.refl _ _ | assumption | refine Below.setCell ?_ ?_ _ | refine Below.alloc ?_ ?_ _ | refine below_drewN ?_ _ | refine Below.drew ?_) | go_size)))]; go_simp))
            refine hK.out _ _ ?_ (fun hHeld => ?_)
            ·
             (try dsimp only)
             try trivial
            clear hK K; (try simp only [Act.put, sA, sB, sC])
            refine wpAnyH_ready (rs := [9]) (by kernel_rfl) (by simp) ?_
            refine (AllReadyH.cons (o := { dst := some 119, op := Op.call { callee := Callee.value (Operand.func 37), args := #[Operand.tmp 118], argTypes := #[67] }, type := 22, pos := "law.go:141", after := #[{ on := 8, ground := Ground.data }, { on := 5, ground := Ground.chain }], guard := none }) rfl (fun K hK => ?_) AllReadyH.nil)
            go_simp
            refine Calls.mono (HVAD.out _ (by (repeat' (first | (with_reducible first | exact Below.refl _ _ | assumption | refine Below.setCell ?_ ?_ _ | refine Below.alloc ?_ ?_ _ | refine below_drewN ?_ _ | refine Below.drew ?_) | go_size)))) ?_
            rintro e wq ⟨rfl, rfl⟩
            refine hK.out _ _ ?_ (fun hHeld => ?_)
            ·
             (try dsimp only)
             try trivial
            clear hK K; (try simp only [Act.put, sA, sB, sC])
            refine wpAnyH_ready (rs := [10]) (by kernel_rfl) (by simp) ?_
            refine (AllReadyH.cons (o := { dst := some 120, op := Op.buildSlice 23 1 #[(0, Operand.tmp 119)], type := 23, pos := "law.go:141", after := #[{ on := 9, ground := Ground.data }], guard := none }) rfl (fun K hK => ?_) AllReadyH.nil)
            go_simp
            refine hK.out _ _ ?_ (fun hHeld => ?_)
            ·
             (try dsimp only)
             try trivial
            clear hK K; (try simp only [Act.put, sA, sB, sC])
            refine wpAnyH_ready (rs := [11]) (by kernel_rfl) (by simp) ?_
            refine (AllReadyH.cons (o := { dst := some 121, op := Op.call { callee := Callee.builtin Builtin.append, args := #[Operand.tmp 117, Operand.tmp 120], argTypes := #[23, 23] }, type := 23, pos := "law.go:141", after := #[{ on := 7, ground := Ground.data }, { on := 10, ground := Ground.data }, { on := 9, ground := Ground.chain }], guard := none }) rfl (fun K hK => ?_) AllReadyH.nil)
            refine step_app _ (by rfl) stU64s _ _ (by rfl) (r + 4) (.slice Ag Lg cg) Lg (kv .u64 (ql (kx + kk))) (by rfl) (own_below HOW.out (by (repeat' (first | (with_reducible first | exact Below.refl _ _ | assumption | refine Below.setCell ?_ ?_ _ | refine Below.alloc ?_ ?_ _ | refine below_drewN ?_ _ | refine Below.drew ?_) | go_size)))) _ _ 1 [.int .u64 a'.num] (by rfl) (Sl.lit_at (by simp) rfl (by decide)) (by simp [Value.oneCell']) (by omega) (by have := HLW.out; have := HR.out.2.2; simp; omega) ?_
            intro v9 w9 hown9 hgr9 hat9 hbel9
            obtain ⟨A9, c9, hv9, _, _⟩ := (Sl.of_own hown9).form
            subst hv9
            have HN9 := Lib.hid (HLA9.out w4.drew (by (repeat' (first | (with_reducible first | exact Below.refl _ _ | assumption | refine Below.setCell ?_ ?_ _ | refine Below.alloc ?_ ?_ _ | refine below_drewN ?_ _ | refine Below.drew ?_) | go_size))) w9 _ hown9 hgr9 hat9)
            have h9f : w9.frozen? ⟨r3, kk, none⟩ = false := (hbel9.frozen (p := ⟨r3, kk, none⟩) (by have := HR.out.2.2; show r3 < r + 4; omega)).trans (hal2 _ _ (by (repeat' (first | (with_reducible first | exact Below.refl _ _ | assumption | refine Below.setCell ?_ ?_ _ | refine Below.alloc ?_ ?_ _ | refine below_drewN ?_ _ | refine Below.drew ?_) | go_size))))
            have h9g := (hbel9.cell (p := ⟨r3, kk, none⟩) (by have := HR.out.2.2; show r3 < r + 4; omega)).trans (hal1 _ _ (by (repeat' (first | (with_reducible first | exact Below.refl _ _ | assumption | refine Below.setCell ?_ ?_ _ | refine Below.alloc ?_ ?_ _ | refine below_drewN ?_ _ | refine Below.drew ?_) | go_size))))
            clear hown9 hgr9 hat9 hbel9
            refine hK.out _ _ ?_ (fun hHeld => ?_)
            ·
             (try dsimp only)
             try trivial
            clear hK K; (try simp only [Act.put, sA, sB, sC])
            refine wpAnyH_take (i := 12) (oi := { dst := some 122, op := Op.indexAddr 62 (Operand.tmp 110) (Operand.tmp 112), type := 0, pos := "law.go:141", after := #[{ on := 0, ground := Ground.data }, { on := 2, ground := Ground.data }, { on := 0, ground := Ground.phase }, { on := 1, ground := Ground.phase }, { on := 2, ground := Ground.phase }, { on := 3, ground := Ground.phase }, { on := 4, ground := Ground.phase }, { on := 5, ground := Ground.phase }, { on := 6, ground := Ground.phase }, { on := 7, ground := Ground.phase }, { on := 8, ground := Ground.phase }, { on := 9, ground := Ground.phase }, { on := 10, ground := Ground.phase }, { on := 11, ground := Ground.phase }], guard := none }) (v := ?_) rfl (by kernel_rfl) (by kernel_rfl) (by kernel_rfl) (fun _ _ _ h => h) (Or.inl ⟨by rfl, ?_⟩) (by assumption) ?_; rotate_left; (· (intro w hSw; (try dsimp only at hSw); go_simp; try with_reducible rfl)); (try simp only [Act.put, sA, sB, sC])
            refine wpAnyH_ready (rs := [13]) (by kernel_rfl) (by simp) ?_
            refine (AllReadyH.cons (o := { dst := none, op := Op.store 23 (Operand.tmp 122) (Operand.tmp 121), type := 0, pos := "law.go:141", after := #[{ on := 12, ground := Ground.data }, { on := 11, ground := Ground.data }, { on := 11, ground := Ground.chain }, { on := 0, ground := Ground.phase }, { on := 1, ground := Ground.phase }, { on := 2, ground := Ground.phase }, { on := 3, ground := Ground.phase }, { on := 4, ground := Ground.phase }, { on := 5, ground := Ground.phase }, { on := 6, ground := Ground.phase }, { on := 7, ground := Ground.phase }, { on := 8, ground := Ground.phase }, { on := 9, ground := Ground.phase }, { on := 10, ground := Ground.phase }, { on := 11, ground := Ground.phase }], guard := none }) rfl (fun K hK => ?_) AllReadyH.nil)
            go_simp
            refine hK.out _ _ ?_ (fun hHeld => ?_)
            ·
             (try dsimp only)
             try trivial
            clear hK K; (try simp only [Act.put, sA, sB, sC])
            refine wpAnyH_done (by kernel_rfl) ?_ _
            have HNz0 := HN9.out
            obtain ⟨wz, hwz⟩ : ∃ wz, wz = w9.setCell ⟨r3, kk, none⟩ (.slice A9 (Lg + 1) c9) := ⟨_, rfl⟩
            rw [← hwz] at HNz0 ⊢
            have HI3 := Lib.hid (HI2.out.got HKK.out HOK2.out HAL.out HTT.out HNz0.1 HNz0.2 (0 + 1))
            have HTM2 := HI3.out.time
            rw [show m'.t = TM + 1 by rw [HAL.out.tm, HTMe.out]] at HTM2
            have HTM2 := Lib.hid HTM2
            have cwz : wz.cell? ⟨wb, 0, none⟩ = some (.pointer (some ⟨b, 0, none⟩)) := HI3.out.ln.at_.row.cell (i := 0) (by omega)
            clear hwz hHeld HN9 HNz0 h9g h9f ck hal1 hal2 HLA9 HOW HKK HAL HTT HI2 HFRD HVAD HRO HVG HLG HKL cwb
            go_wp2_with (first
             | (go_at_call 27; (with_reducible refine Calls.mono HTM2.out ?_); rintro e wq ⟨rfl, rfl⟩)
             | fail)
            go_roundw
            case rel => exact ⟨i + 1, 0 + 1, by omega, by go_num, by go_num, _, _, _, _, _, _, _, _, _, _, _, none, rfl, HI3⟩
            case measure => simp [intOf]; omega
           ·
            go_simp
            refine Calls.mono (HVAD.out _ (by (repeat' (first | (with_reducible first | exact Below.refl _ _ | assumption | refine Below.setCell ?_ ?_ _ | refine Below.alloc ?_ ?_ _ | refine below_drewN ?_ _ | refine Below.drew ?_) | go_size)))) ?_
            rintro e wq ⟨rfl, rfl⟩
            refine hK.out _ _ ?_ (fun hHeld => ?_)
            ·
             (try dsimp only)
             try trivial
            clear hK K; (try simp only [Act.put, sA, sB, sC])
            refine wpAnyH_ready (rs := [7, 10]) (by kernel_rfl) (by simp) ?_
            refine (AllReadyH.cons (o := { dst := some 117, op := Op.load 23 (Operand.tmp 116), type := 23, pos := "law.go:141", after := #[{ on := 6, ground := Ground.data }], guard := none }) rfl (fun K hK => ?_) (AllReadyH.cons (o := { dst := some 120, op := Op.buildSlice 23 1 #[(0, Operand.tmp 119)], type := 23, pos := "law.go:141", after := #[{ on := 9, ground := Ground.data }], guard := none }) rfl (fun K hK => ?_) AllReadyH.nil))
            ·
             go_simp
             (try (rw [hal1 _ _ (by (repeat' (first | (with_reducible first | exact Below.refl _ _ | assumption | refine Below.setCell ?_ ?_ _ | refine Below.alloc ?_ ?_ _ | refine below_drewN ?_ _ | refine Below.drew ?_) | go_size)))]; go_simp))
             refine hK.out _ _ ?_ (fun hHeld => ?_)
             ·
              (try dsimp only)
              try trivial
             clear hK K; (try simp only [Act.put, sA, sB, sC])
             refine wpAnyH_ready (rs := [10]) (by kernel_rfl) (by simp) ?_
             refine (AllReadyH.cons (o := { dst := some 120, op := Op.buildSlice 23 1 #[(0, Operand.tmp 119)], type := 23, pos := "law.go:141", after := #[{ on := 9, ground := Ground.data }], guard := none }) rfl (fun K hK => ?_) AllReadyH.nil)
             go_simp
             refine hK.out _ _ ?_ (fun hHeld => ?_)
             ·
              (try dsimp only)
              try trivial
             clear hK K; (try simp only [Act.put, sA, sB, sC])
             refine wpAnyH_ready (rs := [11]) (by kernel_rfl) (by simp) ?_
             refine (AllReadyH.cons (o := { dst := some 121, op := Op.call { callee := Callee.builtin Builtin.append, args := #[Operand.tmp 117, Operand.tmp 120], argTypes := #[23, 23] }, type := 23, pos := "law.go:141", after := #[{ on := 7, ground := Ground.data }, { on := 10, ground := Ground.data }, { on := 9, ground := Ground.chain }], guard := none }) rfl (fun K hK => ?_) AllReadyH.nil)
             refine step_app _ (by rfl) stU64s _ _ (by rfl) (r + 4) (.slice Ag Lg cg) Lg (kv .u64 (ql (kx + kk))) (by rfl) (own_below HOW.out (by (repeat' (first | (with_reducible first | exact Below.refl _ _ | assumption | refine Below.setCell ?_ ?_ _ | refine Below.alloc ?_ ?_ _ | refine below_drewN ?_ _ | refine Below.drew ?_) | go_size)))) _ _ 1 [.int .u64 a'.num] (by rfl) (Sl.lit_at (by simp) rfl (by decide)) (by simp [Value.oneCell']) (by omega) (by have := HLW.out; have := HR.out.2.2; simp; omega) ?_
             intro v9 w9 hown9 hgr9 hat9 hbel9
             obtain ⟨A9, c9, hv9, _, _⟩ := (Sl.of_own hown9).form
             subst hv9
             have HN9 := Lib.hid (HLA9.out w4.drew (by (repeat' (first | (with_reducible first | exact Below.refl _ _ | assumption | refine Below.setCell ?_ ?_ _ | refine Below.alloc ?_ ?_ _ | refine below_drewN ?_ _ | refine Below.drew ?_) | go_size))) w9 _ hown9 hgr9 hat9)
             have h9f : w9.frozen? ⟨r3, kk, none⟩ = false := (hbel9.frozen (p := ⟨r3, kk, none⟩) (by have := HR.out.2.2; show r3 < r + 4; omega)).trans (hal2 _ _ (by (repeat' (first | (with_reducible first | exact Below.refl _ _ | assumption | refine Below.setCell ?_ ?_ _ | refine Below.alloc ?_ ?_ _ | refine below_drewN ?_ _ | refine Below.drew ?_) | go_size))))
             have h9g := (hbel9.cell (p := ⟨r3, kk, none⟩) (by have := HR.out.2.2; show r3 < r + 4; omega)).trans (hal1 _ _ (by (repeat' (first | (with_reducible first | exact Below.refl _ _ | assumption | refine Below.setCell ?_ ?_ _ | refine Below.alloc ?_ ?_ _ | refine below_drewN ?_ _ | refine Below.drew ?_) | go_size))))
             clear hown9 hgr9 hat9 hbel9
             refine hK.out _ _ ?_ (fun hHeld => ?_)
             ·
              (try dsimp only)
              try trivial
             clear hK K; (try simp only [Act.put, sA, sB, sC])
             refine wpAnyH_take (i := 12) (oi := { dst := some 122, op := Op.indexAddr 62 (Operand.tmp 110) (Operand.tmp 112), type := 0, pos := "law.go:141", after := #[{ on := 0, ground := Ground.data }, { on := 2, ground := Ground.data }, { on := 0, ground := Ground.phase }, { on := 1, ground := Ground.phase }, { on := 2, ground := Ground.phase }, { on := 3, ground := Ground.phase }, { on := 4, ground := Ground.phase }, { on := 5, ground := Ground.phase }, { on := 6, ground := Ground.phase }, { on := 7, ground := Ground.phase }, { on := 8, ground := Ground.phase }, { on := 9, ground := Ground.phase }, { on := 10, ground := Ground.phase }, { on := 11, ground := Ground.phase }], guard := none }) (v := ?_) rfl (by kernel_rfl) (by kernel_rfl) (by kernel_rfl) (fun _ _ _ h => h) (Or.inl ⟨by rfl, ?_⟩) (by assumption) ?_; rotate_left; (· (intro w hSw; (try dsimp only at hSw); go_simp; try with_reducible rfl)); (try simp only [Act.put, sA, sB, sC])
             refine wpAnyH_ready (rs := [13]) (by kernel_rfl) (by simp) ?_
             refine (AllReadyH.cons (o := { dst := none, op := Op.store 23 (Operand.tmp 122) (Operand.tmp 121), type := 0, pos := "law.go:141", after := #[{ on := 12, ground := Ground.data }, { on := 11, ground := Ground.data }, { on := 11, ground := Ground.chain }, { on := 0, ground := Ground.phase }, { on := 1, ground := Ground.phase }, { on := 2, ground := Ground.phase }, { on := 3, ground := Ground.phase }, { on := 4, ground := Ground.phase }, { on := 5, ground := Ground.phase }, { on := 6, ground := Ground.phase }, { on := 7, ground := Ground.phase }, { on := 8, ground := Ground.phase }, { on := 9, ground := Ground.phase }, { on := 10, ground := Ground.phase }, { on := 11, ground := Ground.phase }], guard := none }) rfl (fun K hK => ?_) AllReadyH.nil)
             go_simp
             refine hK.out _ _ ?_ (fun hHeld => ?_)
             ·
              (try dsimp only)
              try trivial
             clear hK K; (try simp only [Act.put, sA, sB, sC])
             refine wpAnyH_done (by kernel_rfl) ?_ _
             have HNz0 := HN9.out
             obtain ⟨wz, hwz⟩ : ∃ wz, wz = w9.setCell ⟨r3, kk, none⟩ (.slice A9 (Lg + 1) c9) := ⟨_, rfl⟩
             rw [← hwz] at HNz0 ⊢
             have HI3 := Lib.hid (HI2.out.got HKK.out HOK2.out HAL.out HTT.out HNz0.1 HNz0.2 (0 + 1))
             have HTM2 := HI3.out.time
             rw [show m'.t = TM + 1 by rw [HAL.out.tm, HTMe.out]] at HTM2
             have HTM2 := Lib.hid HTM2
             have cwz : wz.cell? ⟨wb, 0, none⟩ = some (.pointer (some ⟨b, 0, none⟩)) := HI3.out.ln.at_.row.cell (i := 0) (by omega)
             clear hwz hHeld HN9 HNz0 h9g h9f ck hal1 hal2 HLA9 HOW HKK HAL HTT HI2 HFRD HVAD HRO HVG HLG HKL cwb
             go_wp2_with (first
              | (go_at_call 27; (with_reducible refine Calls.mono HTM2.out ?_); rintro e wq ⟨rfl, rfl⟩)
              | fail)
             go_roundw
             case rel => exact ⟨i + 1, 0 + 1, by omega, by go_num, by go_num, _, _, _, _, _, _, _, _, _, _, _, none, rfl, HI3⟩
             case measure => simp [intOf]; omega
            ·
             go_simp
             refine hK.out _ _ ?_ (fun hHeld => ?_)
             ·
              (try dsimp only)
              try trivial
             clear hK K; (try simp only [Act.put, sA, sB, sC])
             refine wpAnyH_ready (rs := [7]) (by kernel_rfl) (by simp) ?_
             refine (AllReadyH.cons (o := { dst := some 117, op := Op.load 23 (Operand.tmp 116), type := 23, pos := "law.go:141", after := #[{ on := 6, ground := Ground.data }], guard := none }) rfl (fun K hK => ?_) AllReadyH.nil)
             go_simp
             (try (rw [hal1 _ _ (by (repeat' (first | (with_reducible first | exact Below.refl _ _ | assumption | refine Below.setCell ?_ ?_ _ | refine Below.alloc ?_ ?_ _ | refine below_drewN ?_ _ | refine Below.drew ?_) | go_size)))]; go_simp))
             refine hK.out _ _ ?_ (fun hHeld => ?_)
             ·
              (try dsimp only)
              try trivial
             clear hK K; (try simp only [Act.put, sA, sB, sC])
             refine wpAnyH_ready (rs := [11]) (by kernel_rfl) (by simp) ?_
             refine (AllReadyH.cons (o := { dst := some 121, op := Op.call { callee := Callee.builtin Builtin.append, args := #[Operand.tmp 117, Operand.tmp 120], argTypes := #[23, 23] }, type := 23, pos := "law.go:141", after := #[{ on := 7, ground := Ground.data }, { on := 10, ground := Ground.data }, { on := 9, ground := Ground.chain }], guard := none }) rfl (fun K hK => ?_) AllReadyH.nil)
             refine step_app _ (by rfl) stU64s _ _ (by rfl) (r + 4) (.slice Ag Lg cg) Lg (kv .u64 (ql (kx + kk))) (by rfl) (own_below HOW.out (by (repeat' (first | (with_reducible first | exact Below.refl _ _ | assumption | refine Below.setCell ?_ ?_ _ | refine Below.alloc ?_ ?_ _ | refine below_drewN ?_ _ | refine Below.drew ?_) | go_size)))) _ _ 1 [.int .u64 a'.num] (by rfl) (Sl.lit_at (by simp) rfl (by decide)) (by simp [Value.oneCell']) (by omega) (by have := HLW.out; have := HR.out.2.2; simp; omega) ?_
             intro v9 w9 hown9 hgr9 hat9 hbel9
             obtain ⟨A9, c9, hv9, _, _⟩ := (Sl.of_own hown9).form
             subst hv9
             have HN9 := Lib.hid (HLA9.out w4.drew (by (repeat' (first | (with_reducible first | exact Below.refl _ _ | assumption | refine Below.setCell ?_ ?_ _ | refine Below.alloc ?_ ?_ _ | refine below_drewN ?_ _ | refine Below.drew ?_) | go_size))) w9 _ hown9 hgr9 hat9)
             have h9f : w9.frozen? ⟨r3, kk, none⟩ = false := (hbel9.frozen (p := ⟨r3, kk, none⟩) (by have := HR.out.2.2; show r3 < r + 4; omega)).trans (hal2 _ _ (by (repeat' (first | (with_reducible first | exact Below.refl _ _ | assumption | refine Below.setCell ?_ ?_ _ | refine Below.alloc ?_ ?_ _ | refine below_drewN ?_ _ | refine Below.drew ?_) | go_size))))
             have h9g := (hbel9.cell (p := ⟨r3, kk, none⟩) (by have := HR.out.2.2; show r3 < r + 4; omega)).trans (hal1 _ _ (by (repeat' (first | (with_reducible first | exact Below.refl _ _ | assumption | refine Below.setCell ?_ ?_ _ | refine Below.alloc ?_ ?_ _ | refine below_drewN ?_ _ | refine Below.drew ?_) | go_size))))
             clear hown9 hgr9 hat9 hbel9
             refine hK.out _ _ ?_ (fun hHeld => ?_)
             ·
              (try dsimp only)
              try trivial
             clear hK K; (try simp only [Act.put, sA, sB, sC])
             refine wpAnyH_take (i := 12) (oi := { dst := some 122, op := Op.indexAddr 62 (Operand.tmp 110) (Operand.tmp 112), type := 0, pos := "law.go:141", after := #[{ on := 0, ground := Ground.data }, { on := 2, ground := Ground.data }, { on := 0, ground := Ground.phase }, { on := 1, ground := Ground.phase }, { on := 2, ground := Ground.phase }, { on := 3, ground := Ground.phase }, { on := 4, ground := Ground.phase }, { on := 5, ground := Ground.phase }, { on := 6, ground := Ground.phase }, { on := 7, ground := Ground.phase }, { on := 8, ground := Ground.phase }, { on := 9, ground := Ground.phase }, { on := 10, ground := Ground.phase }, { on := 11, ground := Ground.phase }], guard := none }) (v := ?_) rfl (by kernel_rfl) (by kernel_rfl) (by kernel_rfl) (fun _ _ _ h => h) (Or.inl ⟨by rfl, ?_⟩) (by assumption) ?_; rotate_left; (· (intro w hSw; (try dsimp only at hSw); go_simp; try with_reducible rfl)); (try simp only [Act.put, sA, sB, sC])
             refine wpAnyH_ready (rs := [13]) (by kernel_rfl) (by simp) ?_
             refine (AllReadyH.cons (o := { dst := none, op := Op.store 23 (Operand.tmp 122) (Operand.tmp 121), type := 0, pos := "law.go:141", after := #[{ on := 12, ground := Ground.data }, { on := 11, ground := Ground.data }, { on := 11, ground := Ground.chain }, { on := 0, ground := Ground.phase }, { on := 1, ground := Ground.phase }, { on := 2, ground := Ground.phase }, { on := 3, ground := Ground.phase }, { on := 4, ground := Ground.phase }, { on := 5, ground := Ground.phase }, { on := 6, ground := Ground.phase }, { on := 7, ground := Ground.phase }, { on := 8, ground := Ground.phase }, { on := 9, ground := Ground.phase }, { on := 10, ground := Ground.phase }, { on := 11, ground := Ground.phase }], guard := none }) rfl (fun K hK => ?_) AllReadyH.nil)
             go_simp
             refine hK.out _ _ ?_ (fun hHeld => ?_)
             ·
              (try dsimp only)
              try trivial
             clear hK K; (try simp only [Act.put, sA, sB, sC])
             refine wpAnyH_done (by kernel_rfl) ?_ _
             have HNz0 := HN9.out
             obtain ⟨wz, hwz⟩ : ∃ wz, wz = w9.setCell ⟨r3, kk, none⟩ (.slice A9 (Lg + 1) c9) := ⟨_, rfl⟩
             rw [← hwz] at HNz0 ⊢
             have HI3 := Lib.hid (HI2.out.got HKK.out HOK2.out HAL.out HTT.out HNz0.1 HNz0.2 (0 + 1))
             have HTM2 := HI3.out.time
             rw [show m'.t = TM + 1 by rw [HAL.out.tm, HTMe.out]] at HTM2
             have HTM2 := Lib.hid HTM2
             have cwz : wz.cell? ⟨wb, 0, none⟩ = some (.pointer (some ⟨b, 0, none⟩)) := HI3.out.ln.at_.row.cell (i := 0) (by omega)
             clear hwz hHeld HN9 HNz0 h9g h9f ck hal1 hal2 HLA9 HOW HKK HAL HTT HI2 HFRD HVAD HRO HVG HLG HKL cwb
             go_wp2_with (first
              | (go_at_call 27; (with_reducible refine Calls.mono HTM2.out ?_); rintro e wq ⟨rfl, rfl⟩)
              | fail)
             go_roundw
             case rel => exact ⟨i + 1, 0 + 1, by omega, by go_num, by go_num, _, _, _, _, _, _, _, _, _, _, _, none, rfl, HI3⟩
             case measure => simp [intOf]; omega
       | some x =>
        have HI2 := HI
        have hstb : st ≤ 40 := by
         have h1 := HI.out.steps x rfl
         obtain ⟨h2, _⟩ := HI.out.ln.busy _ rfl
         have h3 := h2.know.2.2.1
         have h4 := h2.jn
         omega
        clear HI cwb cwl
        go_wp2_with fail
        as_aux_lemma =>
         have HT2 : Hid (m1.t ≤ 4611686018427380000) := by show _ ≤ _; rw [← HTMe.out]; omega
         obtain ⟨hb1, _⟩ := HI2.out.ln.busy _ rfl
         have HTL := Lib.hid (tl_step hb1 HT2.out)
         have hsteps := HI2.out.steps x rfl
         have hst4 := hb1.know.2.2.1
         have hjn := hb1.jn
         clear hb1 HT2
         refine (HTL.out).mono ?_
         rintro e w4 hres
         clear HTL
         rcases hres with ⟨rfl, j', G', m', pb', a', hk, hj, hal, hpb, ht⟩ | ⟨rfl, kk, jj, a', G', m', t', q', c', hk, hal, ht⟩
         ·
          have HI3 := Lib.hid (HI2.out.goes hk hj hal hpb ht)
          have HTM2 := HI3.out.time
          rw [show m'.t = TM + 1 by rw [hal.tm, HTMe.out]] at HTM2
          have HTM2 := Lib.hid HTM2
          have cwb : w4.cell? ⟨wb, 0, none⟩ = some (.pointer (some ⟨b, 0, none⟩)) := hk.at_.row.cell (i := 0) (by omega)
          have e8 : decide (((st : Nat) : Int) + 1 > 8 * (kx : Int)) = false := by simp; omega
          have e8' : decide (8 * (kx : Int) < ((st : Nat) : Int) + 1) = false := by simp; omega
          have e9 : decide (TM + 1 > TM + 1) = false := by simp
          clear hk hj hal hpb ht HI2 hsteps hst4 hjn
          go_wp2_with (first
           | (go_at_call 27; (with_reducible refine Calls.mono HTM2.out ?_); rintro e wq ⟨rfl, rfl⟩)
           | fail)
          go_roundw
          case rel => exact ⟨i + 1, st + 1, by omega, by go_num, by go_num, _, _, _, _, _, _, _, _, _, _, _, some ⟨x.ab, j', pb', a'⟩, rfl, HI3⟩
          case measure => simp [intOf]; omega
         ·
          have cwb : w4.cell? ⟨wb, 0, none⟩ = some (.pointer (some ⟨b, 0, none⟩)) := hk.at_.row.cell (i := 0) (by omega)
          have e8 : decide (((st : Nat) : Int) + 1 > 8 * (kx : Int)) = false := by simp; omega
          have e8' : decide (8 * (kx : Int) < ((st : Nat) : Int) + 1) = false := by simp; omega
          have e9 : decide (TM + 1 > TM + 1) = false := by simp
          have HOK := lact_Ok hk.act hk.ract
          have HKK := Lib.hid hk
          have HAL := Lib.hid hal
          have HTT := Lib.hid ht
          clear hsteps hst4 hjn
          cases hok : a'.ok
          ·
           rw [hok] at HOK
           have HOK := Lib.hid HOK
           have HI3 := Lib.hid (HI2.out.vain hk hok hal ht (st + 1))
           have HTM2 := HI3.out.time
           rw [show m'.t = TM + 1 by rw [hal.tm, HTMe.out]] at HTM2
           have HTM2 := Lib.hid HTM2
           clear hk hal ht HI2 hok HKK HAL HTT
           go_wp2_with (first
            | (go_at_call 36; (with_reducible refine Calls.mono HOK.out ?_); rintro e wq ⟨rfl, rfl⟩)
            | (go_at_call 27; (with_reducible refine Calls.mono HTM2.out ?_); rintro e wq ⟨rfl, rfl⟩)
            | fail)
           go_roundw
           case rel => exact ⟨i + 1, st + 1, by omega, by go_num, by go_num, _, _, _, _, _, _, _, _, _, _, _, none, rfl, HI3⟩
           case measure => simp [intOf]; omega
          ·
           rw [hok] at HOK
           have HOK := Lib.hid HOK
           have HFR := lact_From hk.act hk.ract
           rw [if_pos hok] at HFR
           have HFR := Lib.hid HFR
           have HVA := lact_Value hk.act hk.ract
           rw [if_pos hok] at HVA
           have HVA := Lib.hid HVA
           have hkn := hk.kn
           have HRO := Lib.hid (HI2.out.ro.tch ht (fun y hy => HI2.out.tk_far hy))
           have hlg := (HI2.out.len2 hkn).2
           obtain ⟨Ag, cg, hvg, hgc, hgm⟩ := (Sl.of_own (HRO.out.own (kx + kk) (by omega))).form
           have HVG := Lib.hid hvg
           have HOK2 := Lib.hid hok
           obtain ⟨Lg, hLg⟩ : ∃ l, l = (ql (kx + kk)).length := ⟨_, rfl⟩
           have HLG := Lib.hid hLg
           have ck : w4.cell? ⟨r3, kk, none⟩ = some (.slice Ag Lg cg) := by
            have := HRO.out.gc.cell (i := kk) hkn
            rw [hvg, ← hLg, ← HR.out.2.2] at this
            exact this
           have cf : w4.frozen? ⟨r3, kk, none⟩ = false := by rw [HR.out.2.2]; exact HRO.out.gc.frozen kk
           rw [← hLg] at hlg hgc
           unfold maxLen at hgm
           have HOW : Hid (w4.ownsRow (r + 4) 22 1 (.slice Ag Lg cg) Lg (kv .u64 (ql (kx + kk)))) := by
            have := HRO.out.own (kx + kk) (by omega)
            rw [hvg, ← hLg] at this
            exact this
           have HKL : Hid ((ql (kx + kk) ++ [a'.num]).length = Lg + 1 ∧ kv .u64 (ql (kx + kk) ++ [a'.num]) = kv .u64 (ql (kx + kk)) ++ [.int .u64 a'.num]) := ⟨by rw [hLg]; simp, by simp [kv]⟩
           have HLW : Hid (r3 < w4.heap.size) := by rw [HR.out.2.2]; exact HRO.out.gc.lt
           have HLA9 : Hid (∀ w7, Below w4.heap.size w4 w7 → ∀ w9 v9, w9.ownsRow (r + 4) 22 1 v9 (Lg + 1) (kv .u64 (ql (kx + kk)) ++ [.int .u64 a'.num]) → (w7.alloc (.cells #[.int .u64 a'.num] 22)).grownBy w9 (Value.slice Ag Lg cg).ownBlock → (v9.ownBlock = (Value.slice Ag Lg cg).ownBlock ∨ v9.ownBlock = some (w7.alloc (.cells #[.int .u64 a'.num] 22)).heap.size) → RoL (w9.setCell ⟨r3, kk, none⟩ v9) r kx at_ nb (upd qv (kx + kk) v9) (upd ql (kx + kk) (ql (kx + kk) ++ [a'.num])) ∧ Tch (RoD r kx qv) w4 (w9.setCell ⟨r3, kk, none⟩ v9)) := fun w7 hb w9 v9 a1 a2 a3 => by
            obtain ⟨y1, y2⟩ := (HRO.out.below hb).app (k := kx + kk) (by omega) (l' := ql (kx + kk) ++ [a'.num]) (by rw [HKL.out.1, HKL.out.2]; exact a1) (by rw [HVG.out, ← HLG.out]; exact a2) (by rw [HVG.out, ← HLG.out]; exact a3) (x := r3) (y := kk) (.inr ⟨by omega, HR.out.2.2, by omega⟩)
            exact ⟨y1, (Tch.of_below hb).trans y2⟩
           have hal1 : ∀ w7 o, Below w4.heap.size w4 w7 → (w7.alloc o).cell? ⟨r3, kk, none⟩ = some (.slice Ag Lg cg) := fun w7 o hb => (((hb.alloc hb.size o)).cell (p := ⟨r3, kk, none⟩) HLW.out).trans ck
           have hal2 : ∀ w7 o, Below w4.heap.size w4 w7 → (w7.alloc o).frozen? ⟨r3, kk, none⟩ = false := fun w7 o hb => (((hb.alloc hb.size o)).frozen (p := ⟨r3, kk, none⟩) HLW.out).trans cf
           have g1 : decide ((kk : Int) < 0) = false := by simp
           have g2 : decide ((kk : Int) ≥ (kx : Int)) = false := by simp; omega
           have g2' : decide (kx ≤ kk) = false := by simp; omega
           clear hvg hLg hk hal ht cf
           go_wp2_with (first
            | (go_at_call 36; (with_reducible refine Calls.mono HOK.out ?_); rintro e wq ⟨rfl, rfl⟩)
            | fail)
           go_wp2_with (first
            | (go_at_call 38; (with_reducible refine Calls.mono HFR.out ?_); rintro e wq ⟨rfl, rfl⟩)
            | fail)
           have HFRD : Hid (∀ w', Below w4.heap.size w4 w' → Calls Try.prog 38 #[.pointer (some ⟨x.ab, 0, none⟩)] w' fun e w2 => e = .returned (.int .i64 (kk : Int)) ∧ w' = w2) := fun w' hb => by
            have := lact_From (HKK.out.act.below hb) (HKK.out.ract.below hb)
            rw [if_pos HOK2.out] at this
            exact this
           have HVAD : Hid (∀ w', Below w4.heap.size w4 w' → Calls Try.prog 37 #[.pointer (some ⟨x.ab, 0, none⟩)] w' fun e w2 => e = .returned (.int .u64 a'.num) ∧ w' = w2) := fun w' hb => by
            have := lact_Value (HKK.out.act.below hb) (HKK.out.ract.below hb)
            rw [if_pos HOK2.out] at this
            exact this
           clear HOK HFR HVA
           refine wp_region_held_drew (S := fun w' => True) (by kernel_rfl) ?_ (fun hHeld => ?_)
           ·
            trivial
           refine wpAnyH_take (i := 0) (oi := { dst := some 110, op := Op.move (Operand.tmp 12), type := 62, pos := "law.go:141", after := #[], guard := none }) (v := ?_) rfl (by kernel_rfl) (by kernel_rfl) (by kernel_rfl) (fun _ _ _ h => h) (Or.inl ⟨by rfl, ?_⟩) (by assumption) ?_; rotate_left; (· (intro w hSw; (try dsimp only at hSw); go_simp; try with_reducible rfl)); (try simp only [Act.put, sA, sB, sC])
           refine wpAnyH_take (i := 1) (oi := { dst := some 111, op := Op.move (Operand.tmp 13), type := 67, pos := "law.go:141", after := #[], guard := none }) (v := ?_) rfl (by kernel_rfl) (by kernel_rfl) (by kernel_rfl) (fun _ _ _ h => h) (Or.inl ⟨by rfl, ?_⟩) (by assumption) ?_; rotate_left; (· (intro w hSw; (try dsimp only at hSw); go_simp; try with_reducible rfl)); (try simp only [Act.put, sA, sB, sC])
           refine wpAnyH_take (i := 3) (oi := { dst := some 113, op := Op.move (Operand.tmp 12), type := 62, pos := "law.go:141", after := #[], guard := none }) (v := ?_) rfl (by kernel_rfl) (by kernel_rfl) (by kernel_rfl) (fun _ _ _ h => h) (Or.inl ⟨by rfl, ?_⟩) (by assumption) ?_; rotate_left; (· (intro w hSw; (try dsimp only at hSw); go_simp; try with_reducible rfl)); (try simp only [Act.put, sA, sB, sC])
           refine wpAnyH_take (i := 4) (oi := { dst := some 114, op := Op.move (Operand.tmp 13), type := 67, pos := "law.go:141", after := #[], guard := none }) (v := ?_) rfl (by kernel_rfl) (by kernel_rfl) (by kernel_rfl) (fun _ _ _ h => h) (Or.inl ⟨by rfl, ?_⟩) (by assumption) ?_; rotate_left; (· (intro w hSw; (try dsimp only at hSw); go_simp; try with_reducible rfl)); (try simp only [Act.put, sA, sB, sC])
           refine wpAnyH_take (i := 8) (oi := { dst := some 118, op := Op.move (Operand.tmp 13), type := 67, pos := "law.go:141", after := #[], guard := none }) (v := ?_) rfl (by kernel_rfl) (by kernel_rfl) (by kernel_rfl) (fun _ _ _ h => h) (Or.inl ⟨by rfl, ?_⟩) (by assumption) ?_; rotate_left; (· (intro w hSw; (try dsimp only at hSw); go_simp; try with_reducible rfl)); (try simp only [Act.put, sA, sB, sC])
           refine wpAnyH_ready (rs := [2]) (by kernel_rfl) (by simp) ?_
           refine (AllReadyH.cons (o := { dst := some 112, op := Op.call { callee := Callee.value (Operand.func 38), args := #[Operand.tmp 111], argTypes := #[67] }, type := 3, pos := "law.go:141", after := #[{ on := 1, ground := Ground.data }], guard := none }) rfl (fun K hK => ?_) AllReadyH.nil)
           go_simp
           refine Calls.mono (HFRD.out _ (by (repeat' (first | (with_reducible first | exact Below.refl _ _ | assumption | refine Below.setCell ?_ ?_ _ | refine Below.alloc ?_ ?_ _ | refine below_drewN ?_ _ | refine Below.drew ?_) | go_size)))) ?_
           rintro e wq ⟨rfl, rfl⟩
           refine hK.out _ _ ?_ (fun hHeld => ?_)
           ·
            (try dsimp only)
            try trivial
           clear hK K; (try simp only [Act.put, sA, sB, sC])
           refine wpAnyH_ready (rs := [5]) (by kernel_rfl) (by simp) ?_
           refine (AllReadyH.cons (o := { dst := some 115, op := Op.call { callee := Callee.value (Operand.func 38), args := #[Operand.tmp 114], argTypes := #[67] }, type := 3, pos := "law.go:141", after := #[{ on := 4, ground := Ground.data }, { on := 2, ground := Ground.chain }], guard := none }) rfl (fun K hK => ?_) AllReadyH.nil)
           go_simp
           refine Calls.mono (HFRD.out _ (by (repeat' (first | (with_reducible first | exact Below.refl _ _ | assumption | refine Below.setCell ?_ ?_ _ | refine Below.alloc ?_ ?_ _ | refine below_drewN ?_ _ | refine Below.drew ?_) | go_size)))) ?_
           rintro e wq ⟨rfl, rfl⟩
           refine hK.out _ _ ?_ (fun hHeld => ?_)
           ·
            (try dsimp only)
            try trivial
           clear hK K; (try simp only [Act.put, sA, sB, sC])
           refine wpAnyH_take (i := 6) (oi := { dst := some 116, op := Op.indexAddr 62 (Operand.tmp 113) (Operand.tmp 115), type := 0, pos := "law.go:141", after := #[{ on := 3, ground := Ground.data }, { on := 5, ground := Ground.data }], guard := none }) (v := ?_) rfl (by kernel_rfl) (by kernel_rfl) (by kernel_rfl) (fun _ _ _ h => h) (Or.inl ⟨by rfl, ?_⟩) (by assumption) ?_; rotate_left; (· (intro w hSw; (try dsimp only at hSw); go_simp; try with_reducible rfl)); (try simp only [Act.put, sA, sB, sC])
           refine wpAnyH_ready (rs := [7, 9]) (by kernel_rfl) (by simp) ?_
           refine (AllReadyH.cons (o := { dst := some 117, op := Op.load 23 (Operand.tmp 116), type := 23, pos := "law.go:141", after := #[{ on := 6, ground := Ground.data }], guard := none }) rfl (fun K hK => ?_) (AllReadyH.cons (o := { dst := some 119, op := Op.call { callee := Callee.value (Operand.func 37), args := #[Operand.tmp 118], argTypes := #[67] }, type := 22, pos := "law.go:141", after := #[{ on := 8, ground := Ground.data }, { on := 5, ground := Ground.chain }], guard := none }) rfl (fun K hK => ?_) AllReadyH.nil))
           ·
            go_simp
            (try (rw [hal1 _ _ (by (repeat' (first | (with_reducible first | exact Below.refl _ _ | assumption | refine Below.setCell ?_ ?_ _ | refine Below.alloc ?_ ?_ _ | refine below_drewN ?_ _ | refine Below.drew ?_) | go_size)))]; go_simp))
            refine hK.out _ _ ?_ (fun hHeld => ?_)
            ·
             (try dsimp only)
             try trivial
            clear hK K; (try simp only [Act.put, sA, sB, sC])
            refine wpAnyH_ready (rs := [9]) (by kernel_rfl) (by simp) ?_
            refine (AllReadyH.cons (o := { dst := some 119, op := Op.call { callee := Callee.value (Operand.func 37), args := #[Operand.tmp 118], argTypes := #[67] }, type := 22, pos := "law.go:141", after := #[{ on := 8, ground := Ground.data }, { on := 5, ground := Ground.chain }], guard := none }) rfl (fun K hK => ?_) AllReadyH.nil)
            go_simp
            refine Calls.mono (HVAD.out _ (by (repeat' (first | (with_reducible first | exact Below.refl _ _ | assumption | refine Below.setCell ?_ ?_ _ | refine Below.alloc ?_ ?_ _ | refine below_drewN ?_ _ | refine Below.drew ?_) | go_size)))) ?_
            rintro e wq ⟨rfl, rfl⟩
            refine hK.out _ _ ?_ (fun hHeld => ?_)
            ·
             (try dsimp only)
             try trivial
            clear hK K; (try simp only [Act.put, sA, sB, sC])
            refine wpAnyH_ready (rs := [10]) (by kernel_rfl) (by simp) ?_
            refine (AllReadyH.cons (o := { dst := some 120, op := Op.buildSlice 23 1 #[(0, Operand.tmp 119)], type := 23, pos := "law.go:141", after := #[{ on := 9, ground := Ground.data }], guard := none }) rfl (fun K hK => ?_) AllReadyH.nil)
            go_simp
            refine hK.out _ _ ?_ (fun hHeld => ?_)
            ·
             (try dsimp only)
             try trivial
            clear hK K; (try simp only [Act.put, sA, sB, sC])
            refine wpAnyH_ready (rs := [11]) (by kernel_rfl) (by simp) ?_
            refine (AllReadyH.cons (o := { dst := some 121, op := Op.call { callee := Callee.builtin Builtin.append, args := #[Operand.tmp 117, Operand.tmp 120], argTypes := #[23, 23] }, type := 23, pos := "law.go:141", after := #[{ on := 7, ground := Ground.data }, { on := 10, ground := Ground.data }, { on := 9, ground := Ground.chain }], guard := none }) rfl (fun K hK => ?_) AllReadyH.nil)
            refine step_app _ (by rfl) stU64s _ _ (by rfl) (r + 4) (.slice Ag Lg cg) Lg (kv .u64 (ql (kx + kk))) (by rfl) (own_below HOW.out (by (repeat' (first | (with_reducible first | exact Below.refl _ _ | assumption | refine Below.setCell ?_ ?_ _ | refine Below.alloc ?_ ?_ _ | refine below_drewN ?_ _ | refine Below.drew ?_) | go_size)))) _ _ 1 [.int .u64 a'.num] (by rfl) (Sl.lit_at (by simp) rfl (by decide)) (by simp [Value.oneCell']) (by omega) (by have := HLW.out; have := HR.out.2.2; simp; omega) ?_
            intro v9 w9 hown9 hgr9 hat9 hbel9
            obtain ⟨A9, c9, hv9, _, _⟩ := (Sl.of_own hown9).form
            subst hv9
            have HN9 := Lib.hid (HLA9.out w4.drew (by (repeat' (first | (with_reducible first | exact Below.refl _ _ | assumption | refine Below.setCell ?_ ?_ _ | refine Below.alloc ?_ ?_ _ | refine below_drewN ?_ _ | refine Below.drew ?_) | go_size))) w9 _ hown9 hgr9 hat9)
            have h9f : w9.frozen? ⟨r3, kk, none⟩ = false := (hbel9.frozen (p := ⟨r3, kk, none⟩) (by have := HR.out.2.2; show r3 < r + 4; omega)).trans (hal2 _ _ (by (repeat' (first | (with_reducible first | exact Below.refl _ _ | assumption | refine Below.setCell ?_ ?_ _ | refine Below.alloc ?_ ?_ _ | refine below_drewN ?_ _ | refine Below.drew ?_) | go_size))))
            have h9g := (hbel9.cell (p := ⟨r3, kk, none⟩) (by have := HR.out.2.2; show r3 < r + 4; omega)).trans (hal1 _ _ (by (repeat' (first | (with_reducible first | exact Below.refl _ _ | assumption | refine Below.setCell ?_ ?_ _ | refine Below.alloc ?_ ?_ _ | refine below_drewN ?_ _ | refine Below.drew ?_) | go_size))))
            clear hown9 hgr9 hat9 hbel9
            refine hK.out _ _ ?_ (fun hHeld => ?_)
            ·
             (try dsimp only)
             try trivial
            clear hK K; (try simp only [Act.put, sA, sB, sC])
            refine wpAnyH_take (i := 12) (oi := { dst := some 122, op := Op.indexAddr 62 (Operand.tmp 110) (Operand.tmp 112), type := 0, pos := "law.go:141", after := #[{ on := 0, ground := Ground.data }, { on := 2, ground := Ground.data }, { on := 0, ground := Ground.phase }, { on := 1, ground := Ground.phase }, { on := 2, ground := Ground.phase }, { on := 3, ground := Ground.phase }, { on := 4, ground := Ground.phase }, { on := 5, ground := Ground.phase }, { on := 6, ground := Ground.phase }, { on := 7, ground := Ground.phase }, { on := 8, ground := Ground.phase }, { on := 9, ground := Ground.phase }, { on := 10, ground := Ground.phase }, { on := 11, ground := Ground.phase }], guard := none }) (v := ?_) rfl (by kernel_rfl) (by kernel_rfl) (by kernel_rfl) (fun _ _ _ h => h) (Or.inl ⟨by rfl, ?_⟩) (by assumption) ?_; rotate_left; (· (intro w hSw; (try dsimp only at hSw); go_simp; try with_reducible rfl)); (try simp only [Act.put, sA, sB, sC])
            refine wpAnyH_ready (rs := [13]) (by kernel_rfl) (by simp) ?_
            refine (AllReadyH.cons (o := { dst := none, op := Op.store 23 (Operand.tmp 122) (Operand.tmp 121), type := 0, pos := "law.go:141", after := #[{ on := 12, ground := Ground.data }, { on := 11, ground := Ground.data }, { on := 11, ground := Ground.chain }, { on := 0, ground := Ground.phase }, { on := 1, ground := Ground.phase }, { on := 2, ground := Ground.phase }, { on := 3, ground := Ground.phase }, { on := 4, ground := Ground.phase }, { on := 5, ground := Ground.phase }, { on := 6, ground := Ground.phase }, { on := 7, ground := Ground.phase }, { on := 8, ground := Ground.phase }, { on := 9, ground := Ground.phase }, { on := 10, ground := Ground.phase }, { on := 11, ground := Ground.phase }], guard := none }) rfl (fun K hK => ?_) AllReadyH.nil)
            go_simp
            refine hK.out _ _ ?_ (fun hHeld => ?_)
            ·
             (try dsimp only)
             try trivial
            clear hK K; (try simp only [Act.put, sA, sB, sC])
            refine wpAnyH_done (by kernel_rfl) ?_ _
            have HNz0 := HN9.out
            obtain ⟨wz, hwz⟩ : ∃ wz, wz = w9.setCell ⟨r3, kk, none⟩ (.slice A9 (Lg + 1) c9) := ⟨_, rfl⟩
            rw [← hwz] at HNz0 ⊢
            have HI3 := Lib.hid (HI2.out.got HKK.out HOK2.out HAL.out HTT.out HNz0.1 HNz0.2 (st + 1))
            have HTM2 := HI3.out.time
            rw [show m'.t = TM + 1 by rw [HAL.out.tm, HTMe.out]] at HTM2
            have HTM2 := Lib.hid HTM2
            have cwz : wz.cell? ⟨wb, 0, none⟩ = some (.pointer (some ⟨b, 0, none⟩)) := HI3.out.ln.at_.row.cell (i := 0) (by omega)
            clear hwz hHeld HN9 HNz0 h9g h9f ck hal1 hal2 HLA9 HOW HKK HAL HTT HI2 HFRD HVAD HRO HVG HLG HKL cwb
            go_wp2_with (first
             | (go_at_call 27; (with_reducible refine Calls.mono HTM2.out ?_); rintro e wq ⟨rfl, rfl⟩)
             | fail)
            go_roundw
            case rel => exact ⟨i + 1, st + 1, by omega, by go_num, by go_num, _, _, _, _, _, _, _, _, _, _, _, none, rfl, HI3⟩
            case measure => simp [intOf]; omega
           ·
            go_simp
            refine Calls.mono (HVAD.out _ (by (repeat' (first | (with_reducible first | exact Below.refl _ _ | assumption | refine Below.setCell ?_ ?_ _ | refine Below.alloc ?_ ?_ _ | refine below_drewN ?_ _ | refine Below.drew ?_) | go_size)))) ?_
            rintro e wq ⟨rfl, rfl⟩
            refine hK.out _ _ ?_ (fun hHeld => ?_)
            ·
             (try dsimp only)
             try trivial
            clear hK K; (try simp only [Act.put, sA, sB, sC])
            refine wpAnyH_ready (rs := [7, 10]) (by kernel_rfl) (by simp) ?_
            refine (AllReadyH.cons (o := { dst := some 117, op := Op.load 23 (Operand.tmp 116), type := 23, pos := "law.go:141", after := #[{ on := 6, ground := Ground.data }], guard := none }) rfl (fun K hK => ?_) (AllReadyH.cons (o := { dst := some 120, op := Op.buildSlice 23 1 #[(0, Operand.tmp 119)], type := 23, pos := "law.go:141", after := #[{ on := 9, ground := Ground.data }], guard := none }) rfl (fun K hK => ?_) AllReadyH.nil))
            ·
             go_simp
             (try (rw [hal1 _ _ (by (repeat' (first | (with_reducible first | exact Below.refl _ _ | assumption | refine Below.setCell ?_ ?_ _ | refine Below.alloc ?_ ?_ _ | refine below_drewN ?_ _ | refine Below.drew ?_) | go_size)))]; go_simp))
             refine hK.out _ _ ?_ (fun hHeld => ?_)
             ·
              (try dsimp only)
              try trivial
             clear hK K; (try simp only [Act.put, sA, sB, sC])
             refine wpAnyH_ready (rs := [10]) (by kernel_rfl) (by simp) ?_
             refine (AllReadyH.cons (o := { dst := some 120, op := Op.buildSlice 23 1 #[(0, Operand.tmp 119)], type := 23, pos := "law.go:141", after := #[{ on := 9, ground := Ground.data }], guard := none }) rfl (fun K hK => ?_) AllReadyH.nil)
             go_simp
             refine hK.out _ _ ?_ (fun hHeld => ?_)
             ·
              (try dsimp only)
              try trivial
             clear hK K; (try simp only [Act.put, sA, sB, sC])
             refine wpAnyH_ready (rs := [11]) (by kernel_rfl) (by simp) ?_
             refine (AllReadyH.cons (o := { dst := some 121, op := Op.call { callee := Callee.builtin Builtin.append, args := #[Operand.tmp 117, Operand.tmp 120], argTypes := #[23, 23] }, type := 23, pos := "law.go:141", after := #[{ on := 7, ground := Ground.data }, { on := 10, ground := Ground.data }, { on := 9, ground := Ground.chain }], guard := none }) rfl (fun K hK => ?_) AllReadyH.nil)
             refine step_app _ (by rfl) stU64s _ _ (by rfl) (r + 4) (.slice Ag Lg cg) Lg (kv .u64 (ql (kx + kk))) (by rfl) (own_below HOW.out (by (repeat' (first | (with_reducible first | exact Below.refl _ _ | assumption | refine Below.setCell ?_ ?_ _ | refine Below.alloc ?_ ?_ _ | refine below_drewN ?_ _ | refine Below.drew ?_) | go_size)))) _ _ 1 [.int .u64 a'.num] (by rfl) (Sl.lit_at (by simp) rfl (by decide)) (by simp [Value.oneCell']) (by omega) (by have := HLW.out; have := HR.out.2.2; simp; omega) ?_
             intro v9 w9 hown9 hgr9 hat9 hbel9
             obtain ⟨A9, c9, hv9, _, _⟩ := (Sl.of_own hown9).form
             subst hv9
             have HN9 := Lib.hid (HLA9.out w4.drew (by (repeat' (first | (with_reducible first | exact Below.refl _ _ | assumption | refine Below.setCell ?_ ?_ _ | refine Below.alloc ?_ ?_ _ | refine below_drewN ?_ _ | refine Below.drew ?_) | go_size))) w9 _ hown9 hgr9 hat9)
             have h9f : w9.frozen? ⟨r3, kk, none⟩ = false := (hbel9.frozen (p := ⟨r3, kk, none⟩) (by have := HR.out.2.2; show r3 < r + 4; omega)).trans (hal2 _ _ (by (repeat' (first | (with_reducible first | exact Below.refl _ _ | assumption | refine Below.setCell ?_ ?_ _ | refine Below.alloc ?_ ?_ _ | refine below_drewN ?_ _ | refine Below.drew ?_) | go_size))))
             have h9g := (hbel9.cell (p := ⟨r3, kk, none⟩) (by have := HR.out.2.2; show r3 < r + 4; omega)).trans (hal1 _ _ (by (repeat' (first | (with_reducible first | exact Below.refl _ _ | assumption | refine Below.setCell ?_ ?_ _ | refine Below.alloc ?_ ?_ _ | refine below_drewN ?_ _ | refine Below.drew ?_) | go_size))))
             clear hown9 hgr9 hat9 hbel9
             refine hK.out _ _ ?_ (fun hHeld => ?_)
             ·
              (try dsimp only)
              try trivial
             clear hK K; (try simp only [Act.put, sA, sB, sC])
             refine wpAnyH_take (i := 12) (oi := { dst := some 122, op := Op.indexAddr 62 (Operand.tmp 110) (Operand.tmp 112), type := 0, pos := "law.go:141", after := #[{ on := 0, ground := Ground.data }, { on := 2, ground := Ground.data }, { on := 0, ground := Ground.phase }, { on := 1, ground := Ground.phase }, { on := 2, ground := Ground.phase }, { on := 3, ground := Ground.phase }, { on := 4, ground := Ground.phase }, { on := 5, ground := Ground.phase }, { on := 6, ground := Ground.phase }, { on := 7, ground := Ground.phase }, { on := 8, ground := Ground.phase }, { on := 9, ground := Ground.phase }, { on := 10, ground := Ground.phase }, { on := 11, ground := Ground.phase }], guard := none }) (v := ?_) rfl (by kernel_rfl) (by kernel_rfl) (by kernel_rfl) (fun _ _ _ h => h) (Or.inl ⟨by rfl, ?_⟩) (by assumption) ?_; rotate_left; (· (intro w hSw; (try dsimp only at hSw); go_simp; try with_reducible rfl)); (try simp only [Act.put, sA, sB, sC])
             refine wpAnyH_ready (rs := [13]) (by kernel_rfl) (by simp) ?_
             refine (AllReadyH.cons (o := { dst := none, op := Op.store 23 (Operand.tmp 122) (Operand.tmp 121), type := 0, pos := "law.go:141", after := #[{ on := 12, ground := Ground.data }, { on := 11, ground := Ground.data }, { on := 11, ground := Ground.chain }, { on := 0, ground := Ground.phase }, { on := 1, ground := Ground.phase }, { on := 2, ground := Ground.phase }, { on := 3, ground := Ground.phase }, { on := 4, ground := Ground.phase }, { on := 5, ground := Ground.phase }, { on := 6, ground := Ground.phase }, { on := 7, ground := Ground.phase }, { on := 8, ground := Ground.phase }, { on := 9, ground := Ground.phase }, { on := 10, ground := Ground.phase }, { on := 11, ground := Ground.phase }], guard := none }) rfl (fun K hK => ?_) AllReadyH.nil)
             go_simp
             refine hK.out _ _ ?_ (fun hHeld => ?_)
             ·
              (try dsimp only)
              try trivial
             clear hK K; (try simp only [Act.put, sA, sB, sC])
             refine wpAnyH_done (by kernel_rfl) ?_ _
             have HNz0 := HN9.out
             obtain ⟨wz, hwz⟩ : ∃ wz, wz = w9.setCell ⟨r3, kk, none⟩ (.slice A9 (Lg + 1) c9) := ⟨_, rfl⟩
             rw [← hwz] at HNz0 ⊢
             have HI3 := Lib.hid (HI2.out.got HKK.out HOK2.out HAL.out HTT.out HNz0.1 HNz0.2 (st + 1))
             have HTM2 := HI3.out.time
             rw [show m'.t = TM + 1 by rw [HAL.out.tm, HTMe.out]] at HTM2
             have HTM2 := Lib.hid HTM2
             have cwz : wz.cell? ⟨wb, 0, none⟩ = some (.pointer (some ⟨b, 0, none⟩)) := HI3.out.ln.at_.row.cell (i := 0) (by omega)
             clear hwz hHeld HN9 HNz0 h9g h9f ck hal1 hal2 HLA9 HOW HKK HAL HTT HI2 HFRD HVAD HRO HVG HLG HKL cwb
             go_wp2_with (first
              | (go_at_call 27; (with_reducible refine Calls.mono HTM2.out ?_); rintro e wq ⟨rfl, rfl⟩)
              | fail)
             go_roundw
             case rel => exact ⟨i + 1, st + 1, by omega, by go_num, by go_num, _, _, _, _, _, _, _, _, _, _, _, none, rfl, HI3⟩
             case measure => simp [intOf]; omega
            ·
             go_simp
             refine hK.out _ _ ?_ (fun hHeld => ?_)
             ·
              (try dsimp only)
              try trivial
             clear hK K; (try simp only [Act.put, sA, sB, sC])
             refine wpAnyH_ready (rs := [7]) (by kernel_rfl) (by simp) ?_
             refine (AllReadyH.cons (o := { dst := some 117, op := Op.load 23 (Operand.tmp 116), type := 23, pos := "law.go:141", after := #[{ on := 6, ground := Ground.data }], guard := none }) rfl (fun K hK => ?_) AllReadyH.nil)
             go_simp
             (try (rw [hal1 _ _ (by (repeat' (first | (with_reducible first | exact Below.refl _ _ | assumption | refine Below.setCell ?_ ?_ _ | refine Below.alloc ?_ ?_ _ | refine below_drewN ?_ _ | refine Below.drew ?_) | go_size)))]; go_simp))
             refine hK.out _ _ ?_ (fun hHeld => ?_)
             ·
              (try dsimp only)
              try trivial
             clear hK K; (try simp only [Act.put, sA, sB, sC])
             refine wpAnyH_ready (rs := [11]) (by kernel_rfl) (by simp) ?_
             refine (AllReadyH.cons (o := { dst := some 121, op := Op.call { callee := Callee.builtin Builtin.append, args := #[Operand.tmp 117, Operand.tmp 120], argTypes := #[23, 23] }, type := 23, pos := "law.go:141", after := #[{ on := 7, ground := Ground.data }, { on := 10, ground := Ground.data }, { on := 9, ground := Ground.chain }], guard := none }) rfl (fun K hK => ?_) AllReadyH.nil)
             refine step_app _ (by rfl) stU64s _ _ (by rfl) (r + 4) (.slice Ag Lg cg) Lg (kv .u64 (ql (kx + kk))) (by rfl) (own_below HOW.out (by (repeat' (first | (with_reducible first | exact Below.refl _ _ | assumption | refine Below.setCell ?_ ?_ _ | refine Below.alloc ?_ ?_ _ | refine below_drewN ?_ _ | refine Below.drew ?_) | go_size)))) _ _ 1 [.int .u64 a'.num] (by rfl) (Sl.lit_at (by simp) rfl (by decide)) (by simp [Value.oneCell']) (by omega) (by have := HLW.out; have := HR.out.2.2; simp; omega) ?_
             intro v9 w9 hown9 hgr9 hat9 hbel9
             obtain ⟨A9, c9, hv9, _, _⟩ := (Sl.of_own hown9).form
             subst hv9
             have HN9 := Lib.hid (HLA9.out w4.drew (by (repeat' (first | (with_reducible first | exact Below.refl _ _ | assumption | refine Below.setCell ?_ ?_ _ | refine Below.alloc ?_ ?_ _ | refine below_drewN ?_ _ | refine Below.drew ?_) | go_size))) w9 _ hown9 hgr9 hat9)
             have h9f : w9.frozen? ⟨r3, kk, none⟩ = false := (hbel9.frozen (p := ⟨r3, kk, none⟩) (by have := HR.out.2.2; show r3 < r + 4; omega)).trans (hal2 _ _ (by (repeat' (first | (with_reducible first | exact Below.refl _ _ | assumption | refine Below.setCell ?_ ?_ _ | refine Below.alloc ?_ ?_ _ | refine below_drewN ?_ _ | refine Below.drew ?_) | go_size))))
             have h9g := (hbel9.cell (p := ⟨r3, kk, none⟩) (by have := HR.out.2.2; show r3 < r + 4; omega)).trans (hal1 _ _ (by (repeat' (first | (with_reducible first | exact Below.refl _ _ | assumption | refine Below.setCell ?_ ?_ _ | refine Below.alloc ?_ ?_ _ | refine below_drewN ?_ _ | refine Below.drew ?_) | go_size))))
             clear hown9 hgr9 hat9 hbel9
             refine hK.out _ _ ?_ (fun hHeld => ?_)
             ·
              (try dsimp only)
              try trivial
             clear hK K; (try simp only [Act.put, sA, sB, sC])
             refine wpAnyH_take (i := 12) (oi := { dst := some 122, op := Op.indexAddr 62 (Operand.tmp 110) (Operand.tmp 112), type := 0, pos := "law.go:141", after := #[{ on := 0, ground := Ground.data }, { on := 2, ground := Ground.data }, { on := 0, ground := Ground.phase }, { on := 1, ground := Ground.phase }, { on := 2, ground := Ground.phase }, { on := 3, ground := Ground.phase }, { on := 4, ground := Ground.phase }, { on := 5, ground := Ground.phase }, { on := 6, ground := Ground.phase }, { on := 7, ground := Ground.phase }, { on := 8, ground := Ground.phase }, { on := 9, ground := Ground.phase }, { on := 10, ground := Ground.phase }, { on := 11, ground := Ground.phase }], guard := none }) (v := ?_) rfl (by kernel_rfl) (by kernel_rfl) (by kernel_rfl) (fun _ _ _ h => h) (Or.inl ⟨by rfl, ?_⟩) (by assumption) ?_; rotate_left; (· (intro w hSw; (try dsimp only at hSw); go_simp; try with_reducible rfl)); (try simp only [Act.put, sA, sB, sC])
             refine wpAnyH_ready (rs := [13]) (by kernel_rfl) (by simp) ?_
             refine (AllReadyH.cons (o := { dst := none, op := Op.store 23 (Operand.tmp 122) (Operand.tmp 121), type := 0, pos := "law.go:141", after := #[{ on := 12, ground := Ground.data }, { on := 11, ground := Ground.data }, { on := 11, ground := Ground.chain }, { on := 0, ground := Ground.phase }, { on := 1, ground := Ground.phase }, { on := 2, ground := Ground.phase }, { on := 3, ground := Ground.phase }, { on := 4, ground := Ground.phase }, { on := 5, ground := Ground.phase }, { on := 6, ground := Ground.phase }, { on := 7, ground := Ground.phase }, { on := 8, ground := Ground.phase }, { on := 9, ground := Ground.phase }, { on := 10, ground := Ground.phase }, { on := 11, ground := Ground.phase }], guard := none }) rfl (fun K hK => ?_) AllReadyH.nil)
             go_simp
             refine hK.out _ _ ?_ (fun hHeld => ?_)
             ·
              (try dsimp only)
              try trivial
             clear hK K; (try simp only [Act.put, sA, sB, sC])
             refine wpAnyH_done (by kernel_rfl) ?_ _
             have HNz0 := HN9.out
             obtain ⟨wz, hwz⟩ : ∃ wz, wz = w9.setCell ⟨r3, kk, none⟩ (.slice A9 (Lg + 1) c9) := ⟨_, rfl⟩
             rw [← hwz] at HNz0 ⊢
             have HI3 := Lib.hid (HI2.out.got HKK.out HOK2.out HAL.out HTT.out HNz0.1 HNz0.2 (st + 1))
             have HTM2 := HI3.out.time
             rw [show m'.t = TM + 1 by rw [HAL.out.tm, HTMe.out]] at HTM2
             have HTM2 := Lib.hid HTM2
             have cwz : wz.cell? ⟨wb, 0, none⟩ = some (.pointer (some ⟨b, 0, none⟩)) := HI3.out.ln.at_.row.cell (i := 0) (by omega)
             clear hwz hHeld HN9 HNz0 h9g h9f ck hal1 hal2 HLA9 HOW HKK HAL HTT HI2 HFRD HVAD HRO HVG HLG HKL cwb
             go_wp2_with (first
              | (go_at_call 27; (with_reducible refine Calls.mono HTM2.out ?_); rintro e wq ⟨rfl, rfl⟩)
              | fail)
             go_roundw
             case rel => exact ⟨i + 1, st + 1, by omega, by go_num, by go_num, _, _, _, _, _, _, _, _, _, _, _, none, rfl, HI3⟩
             case measure => simp [intOf]; omega
      ·
       have hkx : kx < n := by omega
       have d5 : ((kx : Int) == (n : Int)) = false := by simp; omega
       clear hmod hKn
       cases hnb : nb kx with
       | none =>
        have cn : wr.cell? ⟨r1, kx, none⟩ = some (.pointer none) := by
         have := HI.out.ro.nows.cell (i := kx) hkx
         rw [HR.out.1, this]; unfold actV; rw [hnb]; rfl
        have hrw : r1 < wr.heap.size := by rw [HR.out.1]; exact HI.out.ro.nows.lt
        have fn : wr.frozen? ⟨r1, kx, none⟩ = false := by rw [HR.out.1]; exact HI.out.ro.nows.frozen kx
        have ca : wr.cell? ⟨r, kx, none⟩ = some (.int .i64 (at_ kx : Nat)) := HI.out.ro.ats.cell (i := kx) hkx
        by_cases hln : kx < ln
        ·
         have d6 : decide (kx ≥ ln) = false := by simp; omega
         have d6' : decide (ln ≤ kx) = false := by simp; omega
         obtain ⟨b9, off9, u, hA9, hb9, hcu, hrow⟩ := HLS.out kx hln
         subst hA9
         obtain ⟨Au, capu, rfl, hu1, hu2, hucell⟩ := hrow
         unfold maxLen at hu2
         have clu := (HI.out.ln.bel.cell (p := ⟨b9, off9 + kx, none⟩) hb9).trans hcu
         clear hcu
         by_cases hat : at_ kx < N kx
         ·
          have d7 : decide (N kx ≤ at_ kx) = false := by simp; omega
          obtain ⟨bu, ou, rfl, hbu, hcells⟩ := hucell (by omega)
          have clx := (HI.out.ln.bel.cell (p := ⟨bu, ou + at_ kx, none⟩) hbu).trans (hcells (at_ kx) hat)
          have cwv : wr.cell? ⟨wb, 1, none⟩ = some v := HI.out.ln.at_.row.cell (i := 1) (by omega)
          obtain ⟨gr, cgr, hv, hv1, hv2, _, hgr, hvc⟩ := own_cells HI.out.ln.at_.own (by omega)
          have HVR := Lib.hid hv
          rw [hv] at cwv
          have crp : wr.cell? ⟨gr, kx, none⟩ = some (.pointer (some ⟨rbs kx, 0, none⟩)) := (hvc kx hkx).trans (ptv_at _ hkx)
          unfold maxLen at hv2
          have HPU := fun w' (hb : Below wr.heap.size wr w') => (HI.out.below hb).pushed hkx hnb hat
          have hne1 : gr ≠ rbs kx := fun e => HI.out.ln.at_.ne kx hkx (by rw [hv, e]; rfl)
          have hlow := HI.out.ln.lows (x := rbs kx) (.inr (.inl ⟨kx, hkx, rfl⟩))
          have hgtw := HI.out.ln.at_.gt kx hkx
          have hhigh := HI.out.high
          have hwbl := HI.out.ln.at_.row.lt
          have hrow := HI.out.ro.ats.lt
          have hsz := HI.out.ln.bel.size
          obtain ⟨A7, hA7⟩ : ∃ x, x = at_ kx := ⟨_, rfl⟩
          obtain ⟨N7, hN7⟩ : ∃ x, x = N kx := ⟨_, rfl⟩
          obtain ⟨X7, hX7⟩ : ∃ x, x = L kx (at_ kx) := ⟨_, rfl⟩
          have HX7 := Lib.hid hX7
          have HPU := Lib.hid HPU
          rw [← hX7] at HPU clx
          rw [← hA7] at ca d7 clx hat
          rw [← hN7] at clu d7 hu1 hat
          have KK : ∀ w', Tch (fun y => y = rbs kx) wr w' → w'.cell? ⟨wb, 1, none⟩ = some (.slice (some ⟨gr, 0, none⟩) n cgr) ∧ w'.cell? ⟨gr, kx, none⟩ = some (.pointer (some ⟨rbs kx, 0, none⟩)) ∧ w'.cell? ⟨r, kx, none⟩ = some (.int .i64 (A7 : Nat)) ∧ w'.cell? ⟨b9, off9 + kx, none⟩ = some (.slice (some ⟨bu, ou, none⟩) N7 capu) ∧ w'.cell? ⟨bu, ou + A7, none⟩ = some (.int .u64 X7) := fun w' ht =>
           ⟨(ht.cell (p := ⟨wb, 1, none⟩) hwbl (by show ¬ wb = rbs kx; omega)).trans cwv, (ht.cell (p := ⟨gr, kx, none⟩) hgr hne1).trans crp, (ht.cell (p := ⟨r, kx, none⟩) hrow (by show ¬ r = rbs kx; omega)).trans ca, (ht.cell (p := ⟨b9, off9 + kx, none⟩) (by show b9 < _; omega) (by show ¬ b9 = rbs kx; omega)).trans clu, (ht.cell (p := ⟨bu, ou + A7, none⟩) (by show bu < _; omega) (by show ¬ bu = rbs kx; omega)).trans clx⟩
          have hr1' := HR.out.1
          have hgl' := HI.out.ln.at_.lane.glt
          have hvl := HI.out.ln.at_.vlt gr (by rw [hv]; rfl)
          have hfar1 : wb ≠ r1 := by omega
          have hfar2 : gr ≠ r1 := by omega
          have hfar3 : r ≠ r1 := by omega
          have hfar4 : b9 ≠ r1 := by omega
          have hfar5 : bu ≠ r1 := by omega
          clear hA7 hN7 hX7 hcells hv hvc cwl hr1'
          go_wp2_with fail
          refine wp_region_held_drew (S := fun w' => w'.cell? ⟨r, kx, none⟩ = some (.int .i64 (A7 : Nat)) ∧ w'.cell? ⟨b9, off9 + kx, none⟩ = some (.slice (some ⟨bu, ou, none⟩) N7 capu)) (by kernel_rfl) ?_ (fun hHeld => ?_)
          ·
           exact ⟨ca, clu⟩
          refine wpAnyH_take (i := 0) (oi := { dst := some 132, op := Op.move (Operand.tmp 16), type := 3, pos := "law.go:150", after := #[], guard := none }) (v := ?_) rfl (by kernel_rfl) (by kernel_rfl) (by kernel_rfl) (fun _ _ _ h => h) (Or.inl ⟨by rfl, ?_⟩) (by assumption) ?_; rotate_left; (· (intro w hSw; (try dsimp only at hSw); go_simp; try with_reducible rfl)); (try simp only [Act.put, sA, sB, sC])
          refine wpAnyH_take (i := 1) (oi := { dst := some 133, op := Op.move (Operand.tmp 1), type := 62, pos := "law.go:150", after := #[], guard := none }) (v := ?_) rfl (by kernel_rfl) (by kernel_rfl) (by kernel_rfl) (fun _ _ _ h => h) (Or.inl ⟨by rfl, ?_⟩) (by assumption) ?_; rotate_left; (· (intro w hSw; (try dsimp only at hSw); go_simp; try with_reducible rfl)); (try simp only [Act.put, sA, sB, sC])
          refine wpAnyH_take (i := 2) (oi := { dst := some 134, op := Op.call { callee := Callee.builtin Builtin.len, args := #[Operand.tmp 133], argTypes := #[62] }, type := 3, pos := "law.go:150", after := #[{ on := 1, ground := Ground.data }], guard := none }) (v := ?_) rfl (by kernel_rfl) (by kernel_rfl) (by kernel_rfl) (fun _ _ _ h => h) (Or.inl ⟨by rfl, ?_⟩) (by assumption) ?_; rotate_left; (· (intro w hSw; (try dsimp only at hSw); go_simp; try with_reducible rfl)); (try simp only [Act.put, sA, sB, sC])
          refine wpAnyH_take (i := 3) (oi := { dst := some 135, op := Op.binOp BinOp.geq 3 (Operand.tmp 132) (Operand.tmp 134) 3, type := 4, pos := "law.go:150", after := #[{ on := 0, ground := Ground.data }, { on := 2, ground := Ground.data }], guard := none }) (v := ?_) rfl (by kernel_rfl) (by kernel_rfl) (by kernel_rfl) (fun _ _ _ h => h) (Or.inl ⟨by rfl, ?_⟩) (by assumption) ?_; rotate_left; (· (intro w hSw; (try dsimp only at hSw); go_simp; try with_reducible rfl)); (try simp only [Act.put, sA, sB, sC])
          refine wpAnyH_take (i := 4) (oi := { dst := some 136, op := Op.move (Operand.tmp 135), type := 4, pos := "law.go:150", after := #[{ on := 3, ground := Ground.data }], guard := none }) (v := ?_) rfl (by kernel_rfl) (by kernel_rfl) (by kernel_rfl) (fun _ _ _ h => h) (Or.inl ⟨by rfl, ?_⟩) (by assumption) ?_; rotate_left; (· (intro w hSw; (try dsimp only at hSw); go_simp; try with_reducible rfl)); (try simp only [Act.put, sA, sB, sC])
          refine wpAnyH_take (i := 5) (oi := { dst := some 137, op := Op.move (Operand.tmp 9), type := 49, pos := "law.go:150", after := #[{ on := 4, ground := Ground.guard }], guard := some (4, false) }) (v := ?_) rfl (by kernel_rfl) (by kernel_rfl) (by kernel_rfl) (fun _ _ _ h => h) (Or.inl ⟨by rfl, ?_⟩) (by assumption) ?_; rotate_left; (· (intro w hSw; (try dsimp only at hSw); go_simp; try with_reducible rfl)); (try simp only [Act.put, sA, sB, sC])
          refine wpAnyH_take (i := 6) (oi := { dst := some 138, op := Op.move (Operand.tmp 16), type := 3, pos := "law.go:150", after := #[{ on := 4, ground := Ground.guard }], guard := some (4, false) }) (v := ?_) rfl (by kernel_rfl) (by kernel_rfl) (by kernel_rfl) (fun _ _ _ h => h) (Or.inl ⟨by rfl, ?_⟩) (by assumption) ?_; rotate_left; (· (intro w hSw; (try dsimp only at hSw); go_simp; try with_reducible rfl)); (try simp only [Act.put, sA, sB, sC])
          refine wpAnyH_take (i := 7) (oi := { dst := some 139, op := Op.indexAddr 49 (Operand.tmp 137) (Operand.tmp 138), type := 0, pos := "law.go:150", after := #[{ on := 5, ground := Ground.data }, { on := 6, ground := Ground.data }, { on := 4, ground := Ground.guard }], guard := some (4, false) }) (v := ?_) rfl (by kernel_rfl) (by kernel_rfl) (by kernel_rfl) (fun _ _ _ h => h) (Or.inl ⟨by rfl, ?_⟩) (by assumption) ?_; rotate_left; (· (intro w hSw; (try dsimp only at hSw); go_simp; try with_reducible rfl)); (try simp only [Act.put, sA, sB, sC])
          refine wpAnyH_take (i := 8) (oi := { dst := some 140, op := Op.load 3 (Operand.tmp 139), type := 3, pos := "law.go:150", after := #[{ on := 7, ground := Ground.data }, { on := 4, ground := Ground.guard }], guard := some (4, false) }) (v := ?_) rfl (by kernel_rfl) (by kernel_rfl) (by kernel_rfl) (fun _ _ _ h => h) (Or.inl ⟨by rfl, ?_⟩) (by assumption) ?_; rotate_left; (· (intro w hSw; (try dsimp only at hSw); go_simp; try with_reducible rfl)); (try simp only [Act.put, sA, sB, sC])
          refine wpAnyH_take (i := 9) (oi := { dst := some 141, op := Op.move (Operand.tmp 1), type := 62, pos := "law.go:150", after := #[{ on := 4, ground := Ground.guard }], guard := some (4, false) }) (v := ?_) rfl (by kernel_rfl) (by kernel_rfl) (by kernel_rfl) (fun _ _ _ h => h) (Or.inl ⟨by rfl, ?_⟩) (by assumption) ?_; rotate_left; (· (intro w hSw; (try dsimp only at hSw); go_simp; try with_reducible rfl)); (try simp only [Act.put, sA, sB, sC])
          refine wpAnyH_take (i := 10) (oi := { dst := some 142, op := Op.move (Operand.tmp 16), type := 3, pos := "law.go:150", after := #[{ on := 4, ground := Ground.guard }], guard := some (4, false) }) (v := ?_) rfl (by kernel_rfl) (by kernel_rfl) (by kernel_rfl) (fun _ _ _ h => h) (Or.inl ⟨by rfl, ?_⟩) (by assumption) ?_; rotate_left; (· (intro w hSw; (try dsimp only at hSw); go_simp; try with_reducible rfl)); (try simp only [Act.put, sA, sB, sC])
          refine wpAnyH_take (i := 11) (oi := { dst := some 143, op := Op.indexAddr 62 (Operand.tmp 141) (Operand.tmp 142), type := 0, pos := "law.go:150", after := #[{ on := 9, ground := Ground.data }, { on := 10, ground := Ground.data }, { on := 4, ground := Ground.guard }], guard := some (4, false) }) (v := ?_) rfl (by kernel_rfl) (by kernel_rfl) (by kernel_rfl) (fun _ _ _ h => h) (Or.inl ⟨by rfl, ?_⟩) (by assumption) ?_; rotate_left; (· (intro w hSw; (try dsimp only at hSw); go_simp; try with_reducible rfl)); (try simp only [Act.put, sA, sB, sC])
          refine wpAnyH_take (i := 12) (oi := { dst := some 144, op := Op.load 23 (Operand.tmp 143), type := 23, pos := "law.go:150", after := #[{ on := 11, ground := Ground.data }, { on := 4, ground := Ground.guard }], guard := some (4, false) }) (v := ?_) rfl (by kernel_rfl) (by kernel_rfl) (by kernel_rfl) (fun _ _ _ h => h) (Or.inl ⟨by rfl, ?_⟩) (by assumption) ?_; rotate_left; (· (intro w hSw; (try dsimp only at hSw); go_simp; try with_reducible rfl)); (try simp only [Act.put, sA, sB, sC])
          refine wpAnyH_take (i := 13) (oi := { dst := some 145, op := Op.call { callee := Callee.builtin Builtin.len, args := #[Operand.tmp 144], argTypes := #[23] }, type := 3, pos := "law.go:150", after := #[{ on := 12, ground := Ground.data }, { on := 4, ground := Ground.guard }], guard := some (4, false) }) (v := ?_) rfl (by kernel_rfl) (by kernel_rfl) (by kernel_rfl) (fun _ _ _ h => h) (Or.inl ⟨by rfl, ?_⟩) (by assumption) ?_; rotate_left; (· (intro w hSw; (try dsimp only at hSw); go_simp; try with_reducible rfl)); (try simp only [Act.put, sA, sB, sC])
          refine wpAnyH_take (i := 14) (oi := { dst := some 146, op := Op.binOp BinOp.geq 3 (Operand.tmp 140) (Operand.tmp 145) 3, type := 4, pos := "law.go:150", after := #[{ on := 8, ground := Ground.data }, { on := 13, ground := Ground.data }, { on := 4, ground := Ground.guard }], guard := some (4, false) }) (v := ?_) rfl (by kernel_rfl) (by kernel_rfl) (by kernel_rfl) (fun _ _ _ h => h) (Or.inl ⟨by rfl, ?_⟩) (by assumption) ?_; rotate_left; (· (intro w hSw; (try dsimp only at hSw); go_simp; try with_reducible rfl)); (try simp only [Act.put, sA, sB, sC])
          refine wpAnyH_take (i := 15) (oi := { dst := some 147, op := Op.pick (Operand.tmp 136) (Operand.const (Value.bool true)) (Operand.tmp 146), type := 4, pos := "law.go:150", after := #[{ on := 4, ground := Ground.data }, { on := 14, ground := Ground.data }], guard := none }) (v := ?_) rfl (by kernel_rfl) (by kernel_rfl) (by kernel_rfl) (fun _ _ _ h => h) (Or.inl ⟨by rfl, ?_⟩) (by assumption) ?_; rotate_left; (· (intro w hSw; (try dsimp only at hSw); go_simp; try with_reducible rfl)); (try simp only [Act.put, sA, sB, sC])
          refine wpAnyH_done (by kernel_rfl) ?_ _
          (try clear hHeld)
          go_wp2_with fail
          refine wp_region_held_drew (S := fun w' => w'.cell? ⟨wb, 1, none⟩ = some (.slice (some ⟨gr, 0, none⟩) n cgr) ∧ w'.cell? ⟨gr, kx, none⟩ = some (.pointer (some ⟨rbs kx, 0, none⟩)) ∧ w'.cell? ⟨r, kx, none⟩ = some (.int .i64 (A7 : Nat)) ∧ w'.cell? ⟨b9, off9 + kx, none⟩ = some (.slice (some ⟨bu, ou, none⟩) N7 capu) ∧ w'.cell? ⟨bu, ou + A7, none⟩ = some (.int .u64 X7)) (by kernel_rfl) ?_ (fun hHeld => ?_)
          ·
           exact KK _ (Tch.of_below (by (repeat' (first | (with_reducible first | exact Below.refl _ _ | assumption | refine Below.setCell ?_ ?_ _ | refine Below.alloc ?_ ?_ _ | refine below_drewN ?_ _ | refine Below.drew ?_) | go_size))))
          refine wpAnyH_take (i := 0) (oi := { dst := some 148, op := Op.move (Operand.tmp 10), type := 50, pos := "law.go:153", after := #[], guard := none }) (v := ?_) rfl (by kernel_rfl) (by kernel_rfl) (by kernel_rfl) (fun _ _ _ h => h) (Or.inl ⟨by rfl, ?_⟩) (by assumption) ?_; rotate_left; (· (intro w hSw; (try dsimp only at hSw); go_simp; try with_reducible rfl)); (try simp only [Act.put, sA, sB, sC])
          refine wpAnyH_take (i := 1) (oi := { dst := some 149, op := Op.move (Operand.tmp 16), type := 3, pos := "law.go:153", after := #[], guard := none }) (v := ?_) rfl (by kernel_rfl) (by kernel_rfl) (by kernel_rfl) (fun _ _ _ h => h) (Or.inl ⟨by rfl, ?_⟩) (by assumption) ?_; rotate_left; (· (intro w hSw; (try dsimp only at hSw); go_simp; try with_reducible rfl)); (try simp only [Act.put, sA, sB, sC])
          refine wpAnyH_take (i := 2) (oi := { dst := some 150, op := Op.move (Operand.tmp 8), type := 59, pos := "law.go:153", after := #[], guard := none }) (v := ?_) rfl (by kernel_rfl) (by kernel_rfl) (by kernel_rfl) (fun _ _ _ h => h) (Or.inl ⟨by rfl, ?_⟩) (by assumption) ?_; rotate_left; (· (intro w hSw; (try dsimp only at hSw); go_simp; try with_reducible rfl)); (try simp only [Act.put, sA, sB, sC])
          refine wpAnyH_take (i := 3) (oi := { dst := some 151, op := Op.nilCheck (Operand.tmp 150), type := 0, pos := "law.go:153", after := #[{ on := 2, ground := Ground.data }], guard := none }) (v := ?_) rfl (by kernel_rfl) (by kernel_rfl) (by kernel_rfl) (fun _ _ _ h => h) (Or.inl ⟨by rfl, ?_⟩) (by assumption) ?_; rotate_left; (· (intro w hSw; (try dsimp only at hSw); go_simp; try with_reducible rfl)); (try simp only [Act.put, sA, sB, sC])
          refine wpAnyH_take (i := 4) (oi := { dst := some 152, op := Op.fieldAddr 75 (Operand.tmp 151) 1, type := 0, pos := "law.go:153", after := #[{ on := 3, ground := Ground.data }], guard := none }) (v := ?_) rfl (by kernel_rfl) (by kernel_rfl) (by kernel_rfl) (fun _ _ _ h => h) (Or.inl ⟨by rfl, ?_⟩) (by assumption) ?_; rotate_left; (· (intro w hSw; (try dsimp only at hSw); go_simp; try with_reducible rfl)); (try simp only [Act.put, sA, sB, sC])
          refine wpAnyH_take (i := 5) (oi := { dst := some 153, op := Op.load 72 (Operand.tmp 152), type := 72, pos := "law.go:153", after := #[{ on := 4, ground := Ground.data }], guard := none }) (v := ?_) rfl (by kernel_rfl) (by kernel_rfl) (by kernel_rfl) (fun _ _ _ h => h) (Or.inl ⟨by rfl, ?_⟩) (by assumption) ?_; rotate_left; (· (intro w hSw; (try dsimp only at hSw); go_simp; try with_reducible rfl)); (try simp only [Act.put, sA, sB, sC])
          refine wpAnyH_take (i := 6) (oi := { dst := some 154, op := Op.move (Operand.tmp 16), type := 3, pos := "law.go:153", after := #[], guard := none }) (v := ?_) rfl (by kernel_rfl) (by kernel_rfl) (by kernel_rfl) (fun _ _ _ h => h) (Or.inl ⟨by rfl, ?_⟩) (by assumption) ?_; rotate_left; (· (intro w hSw; (try dsimp only at hSw); go_simp; try with_reducible rfl)); (try simp only [Act.put, sA, sB, sC])
          refine wpAnyH_take (i := 7) (oi := { dst := some 155, op := Op.indexAddr 72 (Operand.tmp 153) (Operand.tmp 154), type := 0, pos := "law.go:153", after := #[{ on := 5, ground := Ground.data }, { on := 6, ground := Ground.data }], guard := none }) (v := ?_) rfl (by kernel_rfl) (by kernel_rfl) (by kernel_rfl) (fun _ _ _ h => h) (Or.inl ⟨by rfl, ?_⟩) (by assumption) ?_; rotate_left; (· (intro w hSw; (try dsimp only at hSw); go_simp; try with_reducible rfl)); (try simp only [Act.put, sA, sB, sC])
          refine wpAnyH_take (i := 8) (oi := { dst := some 156, op := Op.load 28 (Operand.tmp 155), type := 28, pos := "law.go:153", after := #[{ on := 7, ground := Ground.data }], guard := none }) (v := ?_) rfl (by kernel_rfl) (by kernel_rfl) (by kernel_rfl) (fun _ _ _ h => h) (Or.inl ⟨by rfl, ?_⟩) (by assumption) ?_; rotate_left; (· (intro w hSw; (try dsimp only at hSw); go_simp; try with_reducible rfl)); (try simp only [Act.put, sA, sB, sC])
          refine wpAnyH_take (i := 9) (oi := { dst := some 157, op := Op.move (Operand.tmp 1), type := 62, pos := "law.go:153", after := #[], guard := none }) (v := ?_) rfl (by kernel_rfl) (by kernel_rfl) (by kernel_rfl) (fun _ _ _ h => h) (Or.inl ⟨by rfl, ?_⟩) (by assumption) ?_; rotate_left; (· (intro w hSw; (try dsimp only at hSw); go_simp; try with_reducible rfl)); (try simp only [Act.put, sA, sB, sC])
          refine wpAnyH_take (i := 10) (oi := { dst := some 158, op := Op.move (Operand.tmp 16), type := 3, pos := "law.go:153", after := #[], guard := none }) (v := ?_) rfl (by kernel_rfl) (by kernel_rfl) (by kernel_rfl) (fun _ _ _ h => h) (Or.inl ⟨by rfl, ?_⟩) (by assumption) ?_; rotate_left; (· (intro w hSw; (try dsimp only at hSw); go_simp; try with_reducible rfl)); (try simp only [Act.put, sA, sB, sC])
          refine wpAnyH_take (i := 11) (oi := { dst := some 159, op := Op.indexAddr 62 (Operand.tmp 157) (Operand.tmp 158), type := 0, pos := "law.go:153", after := #[{ on := 9, ground := Ground.data }, { on := 10, ground := Ground.data }], guard := none }) (v := ?_) rfl (by kernel_rfl) (by kernel_rfl) (by kernel_rfl) (fun _ _ _ h => h) (Or.inl ⟨by rfl, ?_⟩) (by assumption) ?_; rotate_left; (· (intro w hSw; (try dsimp only at hSw); go_simp; try with_reducible rfl)); (try simp only [Act.put, sA, sB, sC])
          refine wpAnyH_take (i := 12) (oi := { dst := some 160, op := Op.load 23 (Operand.tmp 159), type := 23, pos := "law.go:153", after := #[{ on := 11, ground := Ground.data }], guard := none }) (v := ?_) rfl (by kernel_rfl) (by kernel_rfl) (by kernel_rfl) (fun _ _ _ h => h) (Or.inl ⟨by rfl, ?_⟩) (by assumption) ?_; rotate_left; (· (intro w hSw; (try dsimp only at hSw); go_simp; try with_reducible rfl)); (try simp only [Act.put, sA, sB, sC])
          refine wpAnyH_take (i := 13) (oi := { dst := some 161, op := Op.move (Operand.tmp 9), type := 49, pos := "law.go:153", after := #[], guard := none }) (v := ?_) rfl (by kernel_rfl) (by kernel_rfl) (by kernel_rfl) (fun _ _ _ h => h) (Or.inl ⟨by rfl, ?_⟩) (by assumption) ?_; rotate_left; (· (intro w hSw; (try dsimp only at hSw); go_simp; try with_reducible rfl)); (try simp only [Act.put, sA, sB, sC])
          refine wpAnyH_take (i := 14) (oi := { dst := some 162, op := Op.move (Operand.tmp 16), type := 3, pos := "law.go:153", after := #[], guard := none }) (v := ?_) rfl (by kernel_rfl) (by kernel_rfl) (by kernel_rfl) (fun _ _ _ h => h) (Or.inl ⟨by rfl, ?_⟩) (by assumption) ?_; rotate_left; (· (intro w hSw; (try dsimp only at hSw); go_simp; try with_reducible rfl)); (try simp only [Act.put, sA, sB, sC])
          refine wpAnyH_take (i := 15) (oi := { dst := some 163, op := Op.indexAddr 49 (Operand.tmp 161) (Operand.tmp 162), type := 0, pos := "law.go:153", after := #[{ on := 13, ground := Ground.data }, { on := 14, ground := Ground.data }], guard := none }) (v := ?_) rfl (by kernel_rfl) (by kernel_rfl) (by kernel_rfl) (fun _ _ _ h => h) (Or.inl ⟨by rfl, ?_⟩) (by assumption) ?_; rotate_left; (· (intro w hSw; (try dsimp only at hSw); go_simp; try with_reducible rfl)); (try simp only [Act.put, sA, sB, sC])
          refine wpAnyH_take (i := 16) (oi := { dst := some 164, op := Op.load 3 (Operand.tmp 163), type := 3, pos := "law.go:153", after := #[{ on := 15, ground := Ground.data }], guard := none }) (v := ?_) rfl (by kernel_rfl) (by kernel_rfl) (by kernel_rfl) (fun _ _ _ h => h) (Or.inl ⟨by rfl, ?_⟩) (by assumption) ?_; rotate_left; (· (intro w hSw; (try dsimp only at hSw); go_simp; try with_reducible rfl)); (try simp only [Act.put, sA, sB, sC])
          refine wpAnyH_take (i := 17) (oi := { dst := some 165, op := Op.indexAddr 23 (Operand.tmp 160) (Operand.tmp 164), type := 0, pos := "law.go:153", after := #[{ on := 12, ground := Ground.data }, { on := 16, ground := Ground.data }], guard := none }) (v := ?_) rfl (by kernel_rfl) (by kernel_rfl) (by kernel_rfl) (fun _ _ _ h => h) (Or.inl ⟨by rfl, ?_⟩) (by assumption) ?_; rotate_left; (· (intro w hSw; (try dsimp only at hSw); go_simp; try with_reducible rfl)); (try simp only [Act.put, sA, sB, sC])
          refine wpAnyH_take (i := 18) (oi := { dst := some 166, op := Op.load 22 (Operand.tmp 165), type := 22, pos := "law.go:153", after := #[{ on := 17, ground := Ground.data }], guard := none }) (v := ?_) rfl (by kernel_rfl) (by kernel_rfl) (by kernel_rfl) (fun _ _ _ h => h) (Or.inl ⟨by rfl, ?_⟩) (by assumption) ?_; rotate_left; (· (intro w hSw; (try dsimp only at hSw); go_simp; try with_reducible rfl)); (try simp only [Act.put, sA, sB, sC])
          refine wpAnyH_ready (rs := [19]) (by kernel_rfl) (by simp) ?_
          refine AllReadyH.cons (o := { dst := some 167, op := Op.call { callee := Callee.value (Operand.func 20), args := #[Operand.tmp 156, Operand.tmp 166], argTypes := #[28, 22] }, type := 36, pos := "law.go:153", after := #[{ on := 8, ground := Ground.data }, { on := 18, ground := Ground.data }], guard := none }) rfl (fun K hK => ?_) AllReadyH.nil
          go_simp
          refine Calls.mono (HPU.out _ (by (repeat' (first | (with_reducible first | exact Below.refl _ _ | assumption | refine Below.setCell ?_ ?_ _ | refine Below.alloc ?_ ?_ _ | refine below_drewN ?_ _ | refine Below.drew ?_) | go_size)))) ?_
          rintro e w5 ⟨rfl, htc, hrr, hI5⟩
          have HTC : Tch (fun y => y = rbs kx) wr w5 := (Tch.of_below (by (repeat' (first | (with_reducible first | exact Below.refl _ _ | assumption | refine Below.setCell ?_ ?_ _ | refine Below.alloc ?_ ?_ _ | refine below_drewN ?_ _ | refine Below.drew ?_) | go_size)))).trans htc
          have cn5 : w5.cell? ⟨r1, kx, none⟩ = some (.pointer none) := (HTC.cell (p := ⟨r1, kx, none⟩) hrw (by have := HR.out.1; show ¬ r1 = rbs kx; omega)).trans cn
          have fn5 : w5.frozen? ⟨r1, kx, none⟩ = false := (World.frozen?_of_block (HTC.block r1 hrw (by have := HR.out.1; show ¬ r1 = rbs kx; omega))).trans fn
          refine hK.out _ _ ?_ (fun hHeld => ?_)
          ·
           (try dsimp only)
           exact KK _ HTC
          clear hK K; (try simp only [Act.put, sA, sB, sC])
          refine wpAnyH_take (i := 20) (oi := { dst := some 168, op := Op.indexAddr 50 (Operand.tmp 148) (Operand.tmp 149), type := 0, pos := "law.go:153", after := #[{ on := 0, ground := Ground.data }, { on := 1, ground := Ground.data }, { on := 0, ground := Ground.phase }, { on := 1, ground := Ground.phase }, { on := 2, ground := Ground.phase }, { on := 3, ground := Ground.phase }, { on := 4, ground := Ground.phase }, { on := 5, ground := Ground.phase }, { on := 6, ground := Ground.phase }, { on := 7, ground := Ground.phase }, { on := 8, ground := Ground.phase }, { on := 9, ground := Ground.phase }, { on := 10, ground := Ground.phase }, { on := 11, ground := Ground.phase }, { on := 12, ground := Ground.phase }, { on := 13, ground := Ground.phase }, { on := 14, ground := Ground.phase }, { on := 15, ground := Ground.phase }, { on := 16, ground := Ground.phase }, { on := 17, ground := Ground.phase }, { on := 18, ground := Ground.phase }, { on := 19, ground := Ground.phase }], guard := none }) (v := ?_) rfl (by kernel_rfl) (by kernel_rfl) (by kernel_rfl) (fun _ _ _ h => h) (Or.inl ⟨by rfl, ?_⟩) (by assumption) ?_; rotate_left; (· (intro w hSw; (try dsimp only at hSw); go_simp; try with_reducible rfl)); (try simp only [Act.put, sA, sB, sC])
          refine wpAnyH_ready (rs := [21]) (by kernel_rfl) (by simp) ?_
          refine AllReadyH.cons (o := { dst := none, op := Op.store 36 (Operand.tmp 168) (Operand.tmp 167), type := 0, pos := "law.go:153", after := #[{ on := 20, ground := Ground.data }, { on := 19, ground := Ground.data }, { on := 19, ground := Ground.chain }, { on := 0, ground := Ground.phase }, { on := 1, ground := Ground.phase }, { on := 2, ground := Ground.phase }, { on := 3, ground := Ground.phase }, { on := 4, ground := Ground.phase }, { on := 5, ground := Ground.phase }, { on := 6, ground := Ground.phase }, { on := 7, ground := Ground.phase }, { on := 8, ground := Ground.phase }, { on := 9, ground := Ground.phase }, { on := 10, ground := Ground.phase }, { on := 11, ground := Ground.phase }, { on := 12, ground := Ground.phase }, { on := 13, ground := Ground.phase }, { on := 14, ground := Ground.phase }, { on := 15, ground := Ground.phase }, { on := 16, ground := Ground.phase }, { on := 17, ground := Ground.phase }, { on := 18, ground := Ground.phase }, { on := 19, ground := Ground.phase }], guard := none }) rfl (fun K hK => ?_) AllReadyH.nil
          go_simp
          refine hK.out _ _ ?_ (fun hHeld => ?_)
          ·
           (try dsimp only)
           exact (by
            obtain ⟨z1, z2, z3, z4, z5⟩ := KK w5 HTC
            exact ⟨cell_farB z1 hfar1, cell_farB z2 hfar2, cell_farB z3 hfar3, cell_farB z4 hfar4, cell_farB z5 hfar5⟩)
          clear hK K; (try simp only [Act.put, sA, sB, sC])
          refine wpAnyH_done (by kernel_rfl) ?_ _
          obtain ⟨pk, hpk⟩ : ∃ x, x = wr.heap.size := ⟨_, rfl⟩
          have hI6 : LtI W (w5.setCell ⟨r + 1, kx, none⟩ (.pointer (some ⟨pk, 0, none⟩))) wb b lb g cap n v rbs r i (i + 1) st at_ (upd nb kx (some pk)) qv ql (updG G1 kx { G1 kx with pu := true }) c m1 p t q (upd pa kx ⟨true, 1, 0, X7, false, 0⟩) T L N := by rw [hpk]; exact hI5
          rw [← hpk]
          obtain ⟨wp, hwp⟩ : ∃ x, x = w5.setCell ⟨r1, kx, none⟩ (.pointer (some ⟨pk, 0, none⟩)) := ⟨_, rfl⟩
          rw [← hwp]
          rw [← HR.out.1, ← hwp] at hI6
          obtain ⟨nb2, G2, pa2, hnb2, HP⟩ : ∃ nb2 G2 pa2, nb2 kx = some pk ∧ Hid (LtI W wp wb b lb g cap n v rbs r i (i + 1) st at_ nb2 qv ql G2 c m1 p t q pa2 T L N) := ⟨_, _, _, upd_same _ _ _, hI6⟩
          clear hI5 hI6 hwp hpk htc HTC cn5 fn5 hHeld KK HPU HX7 HI clu hucell cwv crp clx ca cn fn hne1
          clear hHeld
          as_aux_lemma =>
           have cnp : wp.cell? ⟨r1, kx, none⟩ = some (.pointer (some ⟨pk, 0, none⟩)) := by
            have := HP.out.ro.nows.cell (i := kx) hkx
            rw [HR.out.1, this]; unfold actV; rw [hnb2]; rfl
           have HST := Lib.hid (HP.out.pstep hkx hnb2 (by omega) (by omega))
           go_wp2_with fail
           refine (HST.out).mono ?_
           rintro e w6 ⟨G', m', a', p', q', rfl, hw', ha', hq', hal, ht, hres, hsta⟩
           clear HST cnp
           have HRO := Lib.hid (HP.out.grows hkx hnb2 ht)
           have hrc : ∀ (w : World) (nbx : Nat → Option Nat) (qx : Nat → Value) (qy : Nat → List Int) (ax : Nat → Nat), RoL w r n ax nbx qx qy → nbx kx = some pk → w.cell? ⟨r1, kx, none⟩ = some (.pointer (some ⟨pk, 0, none⟩)) ∧ w.frozen? ⟨r1, kx, none⟩ = false := fun w nbx qx qy ax h e => by
            have := h.nows.cell (i := kx) hkx
            rw [HR.out.1]
            exact ⟨by rw [this]; unfold actV; rw [e]; rfl, h.nows.frozen kx⟩
           have HRC := Lib.hid hrc
           have cwb6 : w6.cell? ⟨wb, 0, none⟩ = some (.pointer (some ⟨b, 0, none⟩)) := hw'.row.cell (i := 0) (by omega)
           have hTM' : m'.t = TM + 1 := by rw [hal.tm, HTMe.out]
           have HTM' := Lib.hid hTM'
           have e9 : decide (TM + 1 > TM + 1) = false := by simp
           clear hTM'
           clear hrc
           rcases hres with ⟨h0, hpk, hpu, hp, hqq, hnm⟩ | ⟨h0, hok, hpu, hqq, hp⟩ | ⟨h0, hok, hpu, hp, hqq⟩
           ·
            have hz : decide (a'.stage = 0) = false := decide_eq_false h0
            have HI3 := Lib.hid (HP.out.putting hkx hnb2 hw' ha' hq' hal ht hpu hpk hp hqq hnm)
            have HTM2 := HI3.out.time
            rw [HTM'.out] at HTM2
            have HTM2 := Lib.hid HTM2
            clear hsta h0 hpk hpu hp hqq hnm hw' ha' hq' hal ht HRO HRC HP
            rw [hz]
            go_wp2_with (first
             | (go_at_call 27; (with_reducible refine Calls.mono HTM2.out ?_); rintro e wq ⟨rfl, rfl⟩)
             | fail)
            go_roundw
            case rel => exact ⟨i + 1, st, by omega, by go_num, rfl, _, _, _, _, _, _, _, _, _, _, _, T, rfl, HI3⟩
            case measure => simp [intOf]; omega
           ·
            have hz : decide (a'.stage = 0) = true := decide_eq_true h0
            have HOK := act_Ok ha'
            rw [hok] at HOK
            have HOK := Lib.hid HOK
            obtain ⟨cn6, fn6⟩ := HRC.out _ _ _ _ _ HRO.out hnb2
            obtain ⟨_, hatN⟩ := HP.out.num kx pk hkx hnb2
            have hkl : kx < ln := by
             by_cases e : kx < ln
             ·
              exact e
             ·
              have := HL0.out kx (by omega); omega
            have B6 := HP.out.pbel hkx hnb2 ht
            obtain ⟨b9, off9, u, hA9, hb9, hcu, hrow⟩ := HLS.out kx hkl
            cases hA9
            obtain ⟨Au, capu, rfl, hu1, hu2, hucell⟩ := hrow
            unfold maxLen at hu2
            obtain ⟨bu, ou, rfl, hbu, hcells⟩ := hucell (by omega)
            have clu := (B6.cell (p := ⟨b9, off9 + kx, none⟩) hb9).trans hcu
            have clx := (B6.cell (p := ⟨bu, ou + at_ kx, none⟩) hbu).trans (hcells (at_ kx) hatN)
            have ca6 : w6.cell? ⟨r, kx, none⟩ = some (.int .i64 (at_ kx : Nat)) := HRO.out.ats.cell (i := kx) hkx
            have hrs : r < w6.heap.size := HRO.out.ats.lt
            have hwr : W.heap.size ≤ r := by have := HP.out.high; have := (HP.out.ln.lows (x := lb) (.inr (.inr rfl))).1; omega
            have HWB : Hid (wb < w6.heap.size ∧ wb < r) := ⟨hw'.row.lt, by have h1 := HP.out.high; have h2 := hw'.gt kx hkx; have h3 := hw'.lane.rlt kx hkx; have h4 := hw'.lane.glt; omega⟩
            have hsz2 : r + 2 ≤ w6.heap.size := Nat.le_of_lt HRO.out.pc.lt
            have hrs4 : r3 < w6.heap.size ∧ r2 < w6.heap.size := by rw [HR.out.2.2, HR.out.2.1]; exact ⟨HRO.out.gc.lt, HRO.out.pc.lt⟩
            have HDID := Lib.hid (fun (wz : World) (v' : Value) hr htz => HP.out.putDid hkx hnb2 hw' ha' hq' hal ht hpu hp hqq (wz := wz) (v' := v') hr htz)
            have hlg := (HP.out.len2 hkx).1
            obtain ⟨Ag, cg, hvg, hgc, hgm⟩ := (Sl.of_own (HRO.out.own kx (by omega))).form
            have HVG := Lib.hid hvg
            obtain ⟨Lg, hLg⟩ : ∃ l, l = (ql kx).length := ⟨_, rfl⟩
            have HLG := Lib.hid hLg
            obtain ⟨B7, hB7⟩ : ∃ x, x = at_ kx + 1 := ⟨_, rfl⟩
            have hw7 : wrap64 ((at_ kx : Int) + 1) = (B7 : Int) := by
             rw [show (at_ kx : Int) + 1 = (B7 : Int) by omega]; exact IntWalk.wrap64_in _ (by omega)
            rw [← hB7] at HDID
            obtain ⟨A7, hA7⟩ : ∃ x, x = at_ kx := ⟨_, rfl⟩
            obtain ⟨N7, hN7⟩ : ∃ x, x = N kx := ⟨_, rfl⟩
            obtain ⟨X7, hX7⟩ : ∃ x, x = L kx (at_ kx) := ⟨_, rfl⟩
            rw [← hX7] at clx HDID
            rw [← hA7] at ca6 clx hatN hw7
            rw [← hN7] at clu hu1 hatN
            have ck : w6.cell? ⟨r2, kx, none⟩ = some (.slice Ag Lg cg) := by
             have := HRO.out.pc.cell (i := kx) hkx
             rw [hvg, ← hLg, ← HR.out.2.1] at this
             exact this
            have cf : w6.frozen? ⟨r2, kx, none⟩ = false := by rw [HR.out.2.1]; exact HRO.out.pc.frozen kx
            rw [← hLg] at hlg hgc
            unfold maxLen at hgm
            have HOW : Hid (w6.ownsRow (r + 4) 22 1 (.slice Ag Lg cg) Lg (kv .u64 (ql kx))) := by
             have := HRO.out.own kx (by omega)
             rw [hvg, ← hLg] at this
             exact this
            have HKL : Hid ((ql kx ++ [X7]).length = Lg + 1 ∧ kv .u64 (ql kx ++ [X7]) = kv .u64 (ql kx) ++ [.int .u64 X7]) := ⟨by rw [hLg]; simp, by simp [kv]⟩
            have HLW : Hid (r2 < w6.heap.size) := hrs4.2
            have HK38 : Hid (∀ w', Below (r + 2) w6 w' → w'.cell? ⟨b9, off9 + kx, none⟩ = some (.slice (some ⟨bu, ou, none⟩) N7 capu) ∧ w'.cell? ⟨r, kx, none⟩ = some (.int .i64 (A7 : Nat)) ∧ w'.cell? ⟨bu, ou + A7, none⟩ = some (.int .u64 X7)) := fun w' hb => ⟨(hb.cell (p := ⟨b9, off9 + kx, none⟩) (by show b9 < _; omega)).trans clu, (hb.cell (p := ⟨r, kx, none⟩) (by show r < _; omega)).trans ca6, (hb.cell (p := ⟨bu, ou + A7, none⟩) (by show bu < _; omega)).trans clx⟩
            have HLA9 : Hid (∀ w7, Below w6.heap.size w6 w7 → ∀ w9 v9, w9.ownsRow (r + 4) 22 1 v9 (Lg + 1) (kv .u64 (ql kx) ++ [.int .u64 X7]) → (w7.alloc (.cells #[.int .u64 X7] 22)).grownBy w9 (Value.slice Ag Lg cg).ownBlock → (v9.ownBlock = (Value.slice Ag Lg cg).ownBlock ∨ v9.ownBlock = some (w7.alloc (.cells #[.int .u64 X7] 22)).heap.size) → RoL (w9.setCell ⟨r2, kx, none⟩ v9) r n at_ nb2 (upd qv kx v9) (upd ql kx (ql kx ++ [X7])) ∧ Tch (RoD r n qv) w6 (w9.setCell ⟨r2, kx, none⟩ v9)) := fun w7 hb w9 v9 a1 a2 a3 => by
             obtain ⟨y1, y2⟩ := (HRO.out.below hb).app (k := kx) (by omega) (l' := ql kx ++ [X7]) (by rw [HKL.out.1, HKL.out.2]; exact a1) (by rw [HVG.out, ← HLG.out]; exact a2) (by rw [HVG.out, ← HLG.out]; exact a3) (x := r2) (y := kx) (.inl ⟨hkx, HR.out.2.1, rfl⟩)
             exact ⟨y1, (Tch.of_below hb).trans y2⟩
            have hal1 : ∀ w7 o, Below w6.heap.size w6 w7 → (w7.alloc o).cell? ⟨r2, kx, none⟩ = some (.slice Ag Lg cg) := fun w7 o hb => (((hb.alloc hb.size o)).cell (p := ⟨r2, kx, none⟩) HLW.out).trans ck
            have hal2 : ∀ w7 o, Below w6.heap.size w6 w7 → (w7.alloc o).frozen? ⟨r2, kx, none⟩ = false := fun w7 o hb => (((hb.alloc hb.size o)).frozen (p := ⟨r2, kx, none⟩) HLW.out).trans cf
            clear hsta h0 hok hpu hp hqq hw' ha' hq' hal ht hvg hLg hA7 hN7 hX7 hB7 hcells hucell hcu B6 cf
            rw [hz]
            go_wp2_with (first
             | (go_at_call 18; (with_reducible refine Calls.mono HOK.out ?_); rintro e wq ⟨rfl, rfl⟩)
             | fail)
            clear HOK
            refine wp_region_held_drew (S := fun w' => w'.cell? ⟨b9, off9 + kx, none⟩ = some (.slice (some ⟨bu, ou, none⟩) N7 capu) ∧ w'.cell? ⟨r, kx, none⟩ = some (.int .i64 (A7 : Nat)) ∧ w'.cell? ⟨bu, ou + A7, none⟩ = some (.int .u64 X7)) (by kernel_rfl) ?_ (fun hHeld => ?_)
            ·
             exact HK38.out _ (by (repeat' (first | (exact (show r + 2 ≤ r2 from Nat.le_of_eq HR.out.2.1.symm)) | (with_reducible first | exact Below.refl _ _ | assumption | refine Below.setCell ?_ ?_ _ | refine Below.alloc ?_ ?_ _ | refine below_drewN ?_ _ | refine Below.drew ?_) | go_size | omega)))
            refine wpAnyH_take (i := 0) (oi := { dst := some 184, op := Op.move (Operand.tmp 11), type := 62, pos := "law.go:160", after := #[], guard := none }) (v := ?_) rfl (by kernel_rfl) (by kernel_rfl) (by kernel_rfl) (fun _ _ _ h => h) (Or.inl ⟨by rfl, ?_⟩) (by assumption) ?_; rotate_left; (· (intro w hSw; (try dsimp only at hSw); go_simp; try with_reducible rfl)); (try simp only [Act.put, sA, sB, sC])
            refine wpAnyH_take (i := 1) (oi := { dst := some 185, op := Op.move (Operand.tmp 16), type := 3, pos := "law.go:160", after := #[], guard := none }) (v := ?_) rfl (by kernel_rfl) (by kernel_rfl) (by kernel_rfl) (fun _ _ _ h => h) (Or.inl ⟨by rfl, ?_⟩) (by assumption) ?_; rotate_left; (· (intro w hSw; (try dsimp only at hSw); go_simp; try with_reducible rfl)); (try simp only [Act.put, sA, sB, sC])
            refine wpAnyH_take (i := 2) (oi := { dst := some 186, op := Op.move (Operand.tmp 11), type := 62, pos := "law.go:160", after := #[], guard := none }) (v := ?_) rfl (by kernel_rfl) (by kernel_rfl) (by kernel_rfl) (fun _ _ _ h => h) (Or.inl ⟨by rfl, ?_⟩) (by assumption) ?_; rotate_left; (· (intro w hSw; (try dsimp only at hSw); go_simp; try with_reducible rfl)); (try simp only [Act.put, sA, sB, sC])
            refine wpAnyH_take (i := 3) (oi := { dst := some 187, op := Op.move (Operand.tmp 16), type := 3, pos := "law.go:160", after := #[], guard := none }) (v := ?_) rfl (by kernel_rfl) (by kernel_rfl) (by kernel_rfl) (fun _ _ _ h => h) (Or.inl ⟨by rfl, ?_⟩) (by assumption) ?_; rotate_left; (· (intro w hSw; (try dsimp only at hSw); go_simp; try with_reducible rfl)); (try simp only [Act.put, sA, sB, sC])
            refine wpAnyH_take (i := 4) (oi := { dst := some 188, op := Op.indexAddr 62 (Operand.tmp 186) (Operand.tmp 187), type := 0, pos := "law.go:160", after := #[{ on := 2, ground := Ground.data }, { on := 3, ground := Ground.data }], guard := none }) (v := ?_) rfl (by kernel_rfl) (by kernel_rfl) (by kernel_rfl) (fun _ _ _ h => h) (Or.inl ⟨by rfl, ?_⟩) (by assumption) ?_; rotate_left; (· (intro w hSw; (try dsimp only at hSw); go_simp; try with_reducible rfl)); (try simp only [Act.put, sA, sB, sC])
            refine wpAnyH_take (i := 6) (oi := { dst := some 190, op := Op.move (Operand.tmp 1), type := 62, pos := "law.go:160", after := #[], guard := none }) (v := ?_) rfl (by kernel_rfl) (by kernel_rfl) (by kernel_rfl) (fun _ _ _ h => h) (Or.inl ⟨by rfl, ?_⟩) (by assumption) ?_; rotate_left; (· (intro w hSw; (try dsimp only at hSw); go_simp; try with_reducible rfl)); (try simp only [Act.put, sA, sB, sC])
            refine wpAnyH_take (i := 7) (oi := { dst := some 191, op := Op.move (Operand.tmp 16), type := 3, pos := "law.go:160", after := #[], guard := none }) (v := ?_) rfl (by kernel_rfl) (by kernel_rfl) (by kernel_rfl) (fun _ _ _ h => h) (Or.inl ⟨by rfl, ?_⟩) (by assumption) ?_; rotate_left; (· (intro w hSw; (try dsimp only at hSw); go_simp; try with_reducible rfl)); (try simp only [Act.put, sA, sB, sC])
            refine wpAnyH_take (i := 8) (oi := { dst := some 192, op := Op.indexAddr 62 (Operand.tmp 190) (Operand.tmp 191), type := 0, pos := "law.go:160", after := #[{ on := 6, ground := Ground.data }, { on := 7, ground := Ground.data }], guard := none }) (v := ?_) rfl (by kernel_rfl) (by kernel_rfl) (by kernel_rfl) (fun _ _ _ h => h) (Or.inl ⟨by rfl, ?_⟩) (by assumption) ?_; rotate_left; (· (intro w hSw; (try dsimp only at hSw); go_simp; try with_reducible rfl)); (try simp only [Act.put, sA, sB, sC])
            refine wpAnyH_take (i := 9) (oi := { dst := some 193, op := Op.load 23 (Operand.tmp 192), type := 23, pos := "law.go:160", after := #[{ on := 8, ground := Ground.data }], guard := none }) (v := ?_) rfl (by kernel_rfl) (by kernel_rfl) (by kernel_rfl) (fun _ _ _ h => h) (Or.inl ⟨by rfl, ?_⟩) (by assumption) ?_; rotate_left; (· (intro w hSw; (try dsimp only at hSw); go_simp; try with_reducible rfl)); (try simp only [Act.put, sA, sB, sC])
            refine wpAnyH_take (i := 10) (oi := { dst := some 194, op := Op.move (Operand.tmp 9), type := 49, pos := "law.go:160", after := #[], guard := none }) (v := ?_) rfl (by kernel_rfl) (by kernel_rfl) (by kernel_rfl) (fun _ _ _ h => h) (Or.inl ⟨by rfl, ?_⟩) (by assumption) ?_; rotate_left; (· (intro w hSw; (try dsimp only at hSw); go_simp; try with_reducible rfl)); (try simp only [Act.put, sA, sB, sC])
            refine wpAnyH_take (i := 11) (oi := { dst := some 195, op := Op.move (Operand.tmp 16), type := 3, pos := "law.go:160", after := #[], guard := none }) (v := ?_) rfl (by kernel_rfl) (by kernel_rfl) (by kernel_rfl) (fun _ _ _ h => h) (Or.inl ⟨by rfl, ?_⟩) (by assumption) ?_; rotate_left; (· (intro w hSw; (try dsimp only at hSw); go_simp; try with_reducible rfl)); (try simp only [Act.put, sA, sB, sC])
            refine wpAnyH_take (i := 12) (oi := { dst := some 196, op := Op.indexAddr 49 (Operand.tmp 194) (Operand.tmp 195), type := 0, pos := "law.go:160", after := #[{ on := 10, ground := Ground.data }, { on := 11, ground := Ground.data }], guard := none }) (v := ?_) rfl (by kernel_rfl) (by kernel_rfl) (by kernel_rfl) (fun _ _ _ h => h) (Or.inl ⟨by rfl, ?_⟩) (by assumption) ?_; rotate_left; (· (intro w hSw; (try dsimp only at hSw); go_simp; try with_reducible rfl)); (try simp only [Act.put, sA, sB, sC])
            refine wpAnyH_take (i := 13) (oi := { dst := some 197, op := Op.load 3 (Operand.tmp 196), type := 3, pos := "law.go:160", after := #[{ on := 12, ground := Ground.data }], guard := none }) (v := ?_) rfl (by kernel_rfl) (by kernel_rfl) (by kernel_rfl) (fun _ _ _ h => h) (Or.inl ⟨by rfl, ?_⟩) (by assumption) ?_; rotate_left; (· (intro w hSw; (try dsimp only at hSw); go_simp; try with_reducible rfl)); (try simp only [Act.put, sA, sB, sC])
            refine wpAnyH_take (i := 14) (oi := { dst := some 198, op := Op.indexAddr 23 (Operand.tmp 193) (Operand.tmp 197), type := 0, pos := "law.go:160", after := #[{ on := 9, ground := Ground.data }, { on := 13, ground := Ground.data }], guard := none }) (v := ?_) rfl (by kernel_rfl) (by kernel_rfl) (by kernel_rfl) (fun _ _ _ h => h) (Or.inl ⟨by rfl, ?_⟩) (by assumption) ?_; rotate_left; (· (intro w hSw; (try dsimp only at hSw); go_simp; try with_reducible rfl)); (try simp only [Act.put, sA, sB, sC])
            refine wpAnyH_take (i := 15) (oi := { dst := some 199, op := Op.load 22 (Operand.tmp 198), type := 22, pos := "law.go:160", after := #[{ on := 14, ground := Ground.data }], guard := none }) (v := ?_) rfl (by kernel_rfl) (by kernel_rfl) (by kernel_rfl) (fun _ _ _ h => h) (Or.inl ⟨by rfl, ?_⟩) (by assumption) ?_; rotate_left; (· (intro w hSw; (try dsimp only at hSw); go_simp; try with_reducible rfl)); (try simp only [Act.put, sA, sB, sC])
            refine wpAnyH_ready (rs := [5, 16]) (by kernel_rfl) (by simp) ?_
            refine (AllReadyH.cons (o := { dst := some 189, op := Op.load 23 (Operand.tmp 188), type := 23, pos := "law.go:160", after := #[{ on := 4, ground := Ground.data }], guard := none }) rfl (fun K hK => ?_) (AllReadyH.cons (o := { dst := some 200, op := Op.buildSlice 23 1 #[(0, Operand.tmp 199)], type := 23, pos := "law.go:160", after := #[{ on := 15, ground := Ground.data }], guard := none }) rfl (fun K hK => ?_) AllReadyH.nil))
            ·
             go_simp
             (try (rw [hal1 _ _ (by (repeat' (first | (with_reducible first | exact Below.refl _ _ | assumption | refine Below.setCell ?_ ?_ _ | refine Below.alloc ?_ ?_ _ | refine below_drewN ?_ _ | refine Below.drew ?_) | go_size)))]; go_simp))
             refine hK.out _ _ ?_ (fun hHeld => ?_)
             ·
              (try dsimp only)
              exact HK38.out _ (by (repeat' (first | (exact (show r + 2 ≤ r2 from Nat.le_of_eq HR.out.2.1.symm)) | (with_reducible first | exact Below.refl _ _ | assumption | refine Below.setCell ?_ ?_ _ | refine Below.alloc ?_ ?_ _ | refine below_drewN ?_ _ | refine Below.drew ?_) | go_size | omega)))
             clear hK K; (try simp only [Act.put, sA, sB, sC])
             refine wpAnyH_ready (rs := [16]) (by kernel_rfl) (by simp) ?_
             refine (AllReadyH.cons (o := { dst := some 200, op := Op.buildSlice 23 1 #[(0, Operand.tmp 199)], type := 23, pos := "law.go:160", after := #[{ on := 15, ground := Ground.data }], guard := none }) rfl (fun K hK => ?_) AllReadyH.nil)
             go_simp
             refine hK.out _ _ ?_ (fun hHeld => ?_)
             ·
              (try dsimp only)
              exact HK38.out _ (by (repeat' (first | (exact (show r + 2 ≤ r2 from Nat.le_of_eq HR.out.2.1.symm)) | (with_reducible first | exact Below.refl _ _ | assumption | refine Below.setCell ?_ ?_ _ | refine Below.alloc ?_ ?_ _ | refine below_drewN ?_ _ | refine Below.drew ?_) | go_size | omega)))
             clear hK K; (try simp only [Act.put, sA, sB, sC])
             refine wpAnyH_ready (rs := [17]) (by kernel_rfl) (by simp) ?_
             refine (AllReadyH.cons (o := { dst := some 201, op := Op.call { callee := Callee.builtin Builtin.append, args := #[Operand.tmp 189, Operand.tmp 200], argTypes := #[23, 23] }, type := 23, pos := "law.go:160", after := #[{ on := 5, ground := Ground.data }, { on := 16, ground := Ground.data }], guard := none }) rfl (fun K hK => ?_) AllReadyH.nil)
             refine step_app _ (by rfl) stU64s _ _ (by rfl) (r + 4) (.slice Ag Lg cg) Lg (kv .u64 (ql kx)) (by rfl) (own_below HOW.out (by (repeat' (first | (with_reducible first | exact Below.refl _ _ | assumption | refine Below.setCell ?_ ?_ _ | refine Below.alloc ?_ ?_ _ | refine below_drewN ?_ _ | refine Below.drew ?_) | go_size)))) _ _ 1 [.int .u64 X7] (by rfl) (Sl.lit_at (by simp) rfl (by decide)) (by simp [Value.oneCell']) (by omega) (by have := HLW.out; have := HR.out.2.1; simp; omega) ?_
             intro v9 w9 hown9 hgr9 hat9 hbel9
             obtain ⟨A9, c9, hv9, _, _⟩ := (Sl.of_own hown9).form
             subst hv9
             have HN9 := Lib.hid (HLA9.out w6.drew (by (repeat' (first | (with_reducible first | exact Below.refl _ _ | assumption | refine Below.setCell ?_ ?_ _ | refine Below.alloc ?_ ?_ _ | refine below_drewN ?_ _ | refine Below.drew ?_) | go_size))) w9 _ hown9 hgr9 hat9)
             have h9f : w9.frozen? ⟨r2, kx, none⟩ = false := (hbel9.frozen (p := ⟨r2, kx, none⟩) (by have := HR.out.2.1; show r2 < r + 4; omega)).trans (hal2 _ _ (by (repeat' (first | (with_reducible first | exact Below.refl _ _ | assumption | refine Below.setCell ?_ ?_ _ | refine Below.alloc ?_ ?_ _ | refine below_drewN ?_ _ | refine Below.drew ?_) | go_size))))
             have h9g := (hbel9.cell (p := ⟨r2, kx, none⟩) (by have := HR.out.2.1; show r2 < r + 4; omega)).trans (hal1 _ _ (by (repeat' (first | (with_reducible first | exact Below.refl _ _ | assumption | refine Below.setCell ?_ ?_ _ | refine Below.alloc ?_ ?_ _ | refine below_drewN ?_ _ | refine Below.drew ?_) | go_size))))
             have hb9 : Below (r + 2) w6 w9 := Below.trans (by (repeat' (first | (exact (show r + 2 ≤ r2 from Nat.le_of_eq HR.out.2.1.symm)) | (with_reducible first | exact Below.refl _ _ | assumption | refine Below.setCell ?_ ?_ _ | refine Below.alloc ?_ ?_ _ | refine below_drewN ?_ _ | refine Below.drew ?_) | go_size | omega))) (hbel9.mono (by omega))
             clear hown9 hgr9 hat9 hbel9
             refine hK.out _ _ ?_ (fun hHeld => ?_)
             ·
              (try dsimp only)
              exact HK38.out _ (by (repeat' (first | (exact (show r + 2 ≤ r2 from Nat.le_of_eq HR.out.2.1.symm)) | (with_reducible first | exact Below.refl _ _ | assumption | refine Below.setCell ?_ ?_ _ | refine Below.alloc ?_ ?_ _ | refine below_drewN ?_ _ | refine Below.drew ?_) | go_size | omega)))
             clear hK K; (try simp only [Act.put, sA, sB, sC])
             refine wpAnyH_take (i := 18) (oi := { dst := some 202, op := Op.indexAddr 62 (Operand.tmp 184) (Operand.tmp 185), type := 0, pos := "law.go:160", after := #[{ on := 0, ground := Ground.data }, { on := 1, ground := Ground.data }, { on := 0, ground := Ground.phase }, { on := 1, ground := Ground.phase }, { on := 2, ground := Ground.phase }, { on := 3, ground := Ground.phase }, { on := 4, ground := Ground.phase }, { on := 5, ground := Ground.phase }, { on := 6, ground := Ground.phase }, { on := 7, ground := Ground.phase }, { on := 8, ground := Ground.phase }, { on := 9, ground := Ground.phase }, { on := 10, ground := Ground.phase }, { on := 11, ground := Ground.phase }, { on := 12, ground := Ground.phase }, { on := 13, ground := Ground.phase }, { on := 14, ground := Ground.phase }, { on := 15, ground := Ground.phase }, { on := 16, ground := Ground.phase }, { on := 17, ground := Ground.phase }], guard := none }) (v := ?_) rfl (by kernel_rfl) (by kernel_rfl) (by kernel_rfl) (fun _ _ _ h => h) (Or.inl ⟨by rfl, ?_⟩) (by assumption) ?_; rotate_left; (· (intro w hSw; (try dsimp only at hSw); go_simp; try with_reducible rfl)); (try simp only [Act.put, sA, sB, sC])
             refine wpAnyH_ready (rs := [19]) (by kernel_rfl) (by simp) ?_
             refine (AllReadyH.cons (o := { dst := none, op := Op.store 23 (Operand.tmp 202) (Operand.tmp 201), type := 0, pos := "law.go:160", after := #[{ on := 18, ground := Ground.data }, { on := 17, ground := Ground.data }, { on := 17, ground := Ground.chain }, { on := 0, ground := Ground.phase }, { on := 1, ground := Ground.phase }, { on := 2, ground := Ground.phase }, { on := 3, ground := Ground.phase }, { on := 4, ground := Ground.phase }, { on := 5, ground := Ground.phase }, { on := 6, ground := Ground.phase }, { on := 7, ground := Ground.phase }, { on := 8, ground := Ground.phase }, { on := 9, ground := Ground.phase }, { on := 10, ground := Ground.phase }, { on := 11, ground := Ground.phase }, { on := 12, ground := Ground.phase }, { on := 13, ground := Ground.phase }, { on := 14, ground := Ground.phase }, { on := 15, ground := Ground.phase }, { on := 16, ground := Ground.phase }, { on := 17, ground := Ground.phase }], guard := none }) rfl (fun K hK => ?_) AllReadyH.nil)
             go_simp
             refine hK.out _ _ ?_ (fun hHeld => ?_)
             ·
              (try dsimp only)
              exact HK38.out _ (by (repeat' (first | (exact (show r + 2 ≤ r2 from Nat.le_of_eq HR.out.2.1.symm)) | (with_reducible first | exact Below.refl _ _ | assumption | refine Below.setCell ?_ ?_ _ | refine Below.alloc ?_ ?_ _ | refine below_drewN ?_ _ | refine Below.drew ?_) | go_size | omega)))
             clear hK K; (try simp only [Act.put, sA, sB, sC])
             refine wpAnyH_done (by kernel_rfl) ?_ _
             have HNz0 := HN9.out
             obtain ⟨wz, hwz⟩ : ∃ wz, wz = w9.setCell ⟨r2, kx, none⟩ (.slice A9 (Lg + 1) c9) := ⟨_, rfl⟩
             rw [← hwz] at HNz0 ⊢
             obtain ⟨hRz, hTz⟩ := HNz0
             have HI3 := Lib.hid (HDID.out wz _ hRz hTz)
             have HTM2 := HI3.out.time
             rw [HTM'.out] at HTM2
             have HTM2 := Lib.hid HTM2
             obtain ⟨cnz, fnz⟩ := HRC.out _ _ _ _ _ hRz hnb2
             have caz : wz.cell? ⟨r, kx, none⟩ = some (.int .i64 (A7 : Nat)) := by rw [hwz]; exact hHeld.2.1
             have faz : wz.frozen? ⟨r, kx, none⟩ = false := hRz.ats.frozen kx
             have cwz : wz.cell? ⟨wb, 0, none⟩ = some (.pointer (some ⟨b, 0, none⟩)) := (hTz.cell (p := ⟨wb, 0, none⟩) HWB.out.1 (fun hd => by have := HRO.out.ge hd; have h2 : r ≤ wb := this; have := HWB.out.2; omega)).trans cwb6
             have hn0 : r ≠ r1 := by rw [HR.out.1]; omega
             have hn1 : wb ≠ r1 := by rw [HR.out.1]; have := HWB.out; omega
             have hn2 : wb ≠ r := by have := HWB.out; omega
             rw [← HR.out.1] at HI3 HTM2
             clear hwz hHeld HN9 hRz hTz h9g h9f ck hal1 hal2 HLA9 HOW HRO HVG HLG HKL cwb6 HDID HRC HK38 HP hb9 hatN hu1 hu2
             go_wp2_with (first
              | (go_at_call 27; (with_reducible refine Calls.mono HTM2.out ?_); rintro e wq ⟨rfl, rfl⟩)
              | fail)
             go_roundw
             case rel => exact ⟨i + 1, st, by omega, by go_num, rfl, _, _, _, _, _, _, _, _, _, _, _, T, rfl, HI3⟩
             case measure => simp [intOf]; omega
            ·
             go_simp
             refine hK.out _ _ ?_ (fun hHeld => ?_)
             ·
              (try dsimp only)
              exact HK38.out _ (by (repeat' (first | (exact (show r + 2 ≤ r2 from Nat.le_of_eq HR.out.2.1.symm)) | (with_reducible first | exact Below.refl _ _ | assumption | refine Below.setCell ?_ ?_ _ | refine Below.alloc ?_ ?_ _ | refine below_drewN ?_ _ | refine Below.drew ?_) | go_size | omega)))
             clear hK K; (try simp only [Act.put, sA, sB, sC])
             refine wpAnyH_ready (rs := [5]) (by kernel_rfl) (by simp) ?_
             refine (AllReadyH.cons (o := { dst := some 189, op := Op.load 23 (Operand.tmp 188), type := 23, pos := "law.go:160", after := #[{ on := 4, ground := Ground.data }], guard := none }) rfl (fun K hK => ?_) AllReadyH.nil)
             go_simp
             (try (rw [hal1 _ _ (by (repeat' (first | (with_reducible first | exact Below.refl _ _ | assumption | refine Below.setCell ?_ ?_ _ | refine Below.alloc ?_ ?_ _ | refine below_drewN ?_ _ | refine Below.drew ?_) | go_size)))]; go_simp))
             refine hK.out _ _ ?_ (fun hHeld => ?_)
             ·
              (try dsimp only)
              exact HK38.out _ (by (repeat' (first | (exact (show r + 2 ≤ r2 from Nat.le_of_eq HR.out.2.1.symm)) | (with_reducible first | exact Below.refl _ _ | assumption | refine Below.setCell ?_ ?_ _ | refine Below.alloc ?_ ?_ _ | refine below_drewN ?_ _ | refine Below.drew ?_) | go_size | omega)))
             clear hK K; (try simp only [Act.put, sA, sB, sC])
             refine wpAnyH_ready (rs := [17]) (by kernel_rfl) (by simp) ?_
             refine (AllReadyH.cons (o := { dst := some 201, op := Op.call { callee := Callee.builtin Builtin.append, args := #[Operand.tmp 189, Operand.tmp 200], argTypes := #[23, 23] }, type := 23, pos := "law.go:160", after := #[{ on := 5, ground := Ground.data }, { on := 16, ground := Ground.data }], guard := none }) rfl (fun K hK => ?_) AllReadyH.nil)
             refine step_app _ (by rfl) stU64s _ _ (by rfl) (r + 4) (.slice Ag Lg cg) Lg (kv .u64 (ql kx)) (by rfl) (own_below HOW.out (by (repeat' (first | (with_reducible first | exact Below.refl _ _ | assumption | refine Below.setCell ?_ ?_ _ | refine Below.alloc ?_ ?_ _ | refine below_drewN ?_ _ | refine Below.drew ?_) | go_size)))) _ _ 1 [.int .u64 X7] (by rfl) (Sl.lit_at (by simp) rfl (by decide)) (by simp [Value.oneCell']) (by omega) (by have := HLW.out; have := HR.out.2.1; simp; omega) ?_
             intro v9 w9 hown9 hgr9 hat9 hbel9
             obtain ⟨A9, c9, hv9, _, _⟩ := (Sl.of_own hown9).form
             subst hv9
             have HN9 := Lib.hid (HLA9.out w6.drew (by (repeat' (first | (with_reducible first | exact Below.refl _ _ | assumption | refine Below.setCell ?_ ?_ _ | refine Below.alloc ?_ ?_ _ | refine below_drewN ?_ _ | refine Below.drew ?_) | go_size))) w9 _ hown9 hgr9 hat9)
             have h9f : w9.frozen? ⟨r2, kx, none⟩ = false := (hbel9.frozen (p := ⟨r2, kx, none⟩) (by have := HR.out.2.1; show r2 < r + 4; omega)).trans (hal2 _ _ (by (repeat' (first | (with_reducible first | exact Below.refl _ _ | assumption | refine Below.setCell ?_ ?_ _ | refine Below.alloc ?_ ?_ _ | refine below_drewN ?_ _ | refine Below.drew ?_) | go_size))))
             have h9g := (hbel9.cell (p := ⟨r2, kx, none⟩) (by have := HR.out.2.1; show r2 < r + 4; omega)).trans (hal1 _ _ (by (repeat' (first | (with_reducible first | exact Below.refl _ _ | assumption | refine Below.setCell ?_ ?_ _ | refine Below.alloc ?_ ?_ _ | refine below_drewN ?_ _ | refine Below.drew ?_) | go_size))))
             have hb9 : Below (r + 2) w6 w9 := Below.trans (by (repeat' (first | (exact (show r + 2 ≤ r2 from Nat.le_of_eq HR.out.2.1.symm)) | (with_reducible first | exact Below.refl _ _ | assumption | refine Below.setCell ?_ ?_ _ | refine Below.alloc ?_ ?_ _ | refine below_drewN ?_ _ | refine Below.drew ?_) | go_size | omega))) (hbel9.mono (by omega))
             clear hown9 hgr9 hat9 hbel9
             refine hK.out _ _ ?_ (fun hHeld => ?_)
             ·
              (try dsimp only)
              exact HK38.out _ (by (repeat' (first | (exact (show r + 2 ≤ r2 from Nat.le_of_eq HR.out.2.1.symm)) | (with_reducible first | exact Below.refl _ _ | assumption | refine Below.setCell ?_ ?_ _ | refine Below.alloc ?_ ?_ _ | refine below_drewN ?_ _ | refine Below.drew ?_) | go_size | omega)))
             clear hK K; (try simp only [Act.put, sA, sB, sC])
             refine wpAnyH_take (i := 18) (oi := { dst := some 202, op := Op.indexAddr 62 (Operand.tmp 184) (Operand.tmp 185), type := 0, pos := "law.go:160", after := #[{ on := 0, ground := Ground.data }, { on := 1, ground := Ground.data }, { on := 0, ground := Ground.phase }, { on := 1, ground := Ground.phase }, { on := 2, ground := Ground.phase }, { on := 3, ground := Ground.phase }, { on := 4, ground := Ground.phase }, { on := 5, ground := Ground.phase }, { on := 6, ground := Ground.phase }, { on := 7, ground := Ground.phase }, { on := 8, ground := Ground.phase }, { on := 9, ground := Ground.phase }, { on := 10, ground := Ground.phase }, { on := 11, ground := Ground.phase }, { on := 12, ground := Ground.phase }, { on := 13, ground := Ground.phase }, { on := 14, ground := Ground.phase }, { on := 15, ground := Ground.phase }, { on := 16, ground := Ground.phase }, { on := 17, ground := Ground.phase }], guard := none }) (v := ?_) rfl (by kernel_rfl) (by kernel_rfl) (by kernel_rfl) (fun _ _ _ h => h) (Or.inl ⟨by rfl, ?_⟩) (by assumption) ?_; rotate_left; (· (intro w hSw; (try dsimp only at hSw); go_simp; try with_reducible rfl)); (try simp only [Act.put, sA, sB, sC])
             refine wpAnyH_ready (rs := [19]) (by kernel_rfl) (by simp) ?_
             refine (AllReadyH.cons (o := { dst := none, op := Op.store 23 (Operand.tmp 202) (Operand.tmp 201), type := 0, pos := "law.go:160", after := #[{ on := 18, ground := Ground.data }, { on := 17, ground := Ground.data }, { on := 17, ground := Ground.chain }, { on := 0, ground := Ground.phase }, { on := 1, ground := Ground.phase }, { on := 2, ground := Ground.phase }, { on := 3, ground := Ground.phase }, { on := 4, ground := Ground.phase }, { on := 5, ground := Ground.phase }, { on := 6, ground := Ground.phase }, { on := 7, ground := Ground.phase }, { on := 8, ground := Ground.phase }, { on := 9, ground := Ground.phase }, { on := 10, ground := Ground.phase }, { on := 11, ground := Ground.phase }, { on := 12, ground := Ground.phase }, { on := 13, ground := Ground.phase }, { on := 14, ground := Ground.phase }, { on := 15, ground := Ground.phase }, { on := 16, ground := Ground.phase }, { on := 17, ground := Ground.phase }], guard := none }) rfl (fun K hK => ?_) AllReadyH.nil)
             go_simp
             refine hK.out _ _ ?_ (fun hHeld => ?_)
             ·
              (try dsimp only)
              exact HK38.out _ (by (repeat' (first | (exact (show r + 2 ≤ r2 from Nat.le_of_eq HR.out.2.1.symm)) | (with_reducible first | exact Below.refl _ _ | assumption | refine Below.setCell ?_ ?_ _ | refine Below.alloc ?_ ?_ _ | refine below_drewN ?_ _ | refine Below.drew ?_) | go_size | omega)))
             clear hK K; (try simp only [Act.put, sA, sB, sC])
             refine wpAnyH_done (by kernel_rfl) ?_ _
             have HNz0 := HN9.out
             obtain ⟨wz, hwz⟩ : ∃ wz, wz = w9.setCell ⟨r2, kx, none⟩ (.slice A9 (Lg + 1) c9) := ⟨_, rfl⟩
             rw [← hwz] at HNz0 ⊢
             obtain ⟨hRz, hTz⟩ := HNz0
             have HI3 := Lib.hid (HDID.out wz _ hRz hTz)
             have HTM2 := HI3.out.time
             rw [HTM'.out] at HTM2
             have HTM2 := Lib.hid HTM2
             obtain ⟨cnz, fnz⟩ := HRC.out _ _ _ _ _ hRz hnb2
             have caz : wz.cell? ⟨r, kx, none⟩ = some (.int .i64 (A7 : Nat)) := by rw [hwz]; exact hHeld.2.1
             have faz : wz.frozen? ⟨r, kx, none⟩ = false := hRz.ats.frozen kx
             have cwz : wz.cell? ⟨wb, 0, none⟩ = some (.pointer (some ⟨b, 0, none⟩)) := (hTz.cell (p := ⟨wb, 0, none⟩) HWB.out.1 (fun hd => by have := HRO.out.ge hd; have h2 : r ≤ wb := this; have := HWB.out.2; omega)).trans cwb6
             have hn0 : r ≠ r1 := by rw [HR.out.1]; omega
             have hn1 : wb ≠ r1 := by rw [HR.out.1]; have := HWB.out; omega
             have hn2 : wb ≠ r := by have := HWB.out; omega
             rw [← HR.out.1] at HI3 HTM2
             clear hwz hHeld HN9 hRz hTz h9g h9f ck hal1 hal2 HLA9 HOW HRO HVG HLG HKL cwb6 HDID HRC HK38 HP hb9 hatN hu1 hu2
             go_wp2_with (first
              | (go_at_call 27; (with_reducible refine Calls.mono HTM2.out ?_); rintro e wq ⟨rfl, rfl⟩)
              | fail)
             go_roundw
             case rel => exact ⟨i + 1, st, by omega, by go_num, rfl, _, _, _, _, _, _, _, _, _, _, _, T, rfl, HI3⟩
             case measure => simp [intOf]; omega
           ·
            have hz : decide (a'.stage = 0) = true := decide_eq_true h0
            have HOK := act_Ok ha'
            rw [hok] at HOK
            have HOK := Lib.hid HOK
            obtain ⟨cn6, fn6⟩ := HRC.out _ _ _ _ _ HRO.out hnb2
            obtain ⟨_, hatN⟩ := HP.out.num kx pk hkx hnb2
            have hNm : N kx ≤ 9223372036854775807 := by
             by_cases e : kx < ln
             ·
              obtain ⟨b9, off9, u, hA9, hb9, hcu, hrow⟩ := HLS.out kx e
              obtain ⟨Au, capu, _, hu1, hu2, _⟩ := hrow
              unfold maxLen at hu2
              omega
             ·
              have := HL0.out kx (by omega); omega
            obtain ⟨B7, hB7⟩ : ∃ x, x = at_ kx + 1 := ⟨_, rfl⟩
            have hw7 : wrap64 ((at_ kx : Int) + 1) = (B7 : Int) := by
             rw [show (at_ kx : Int) + 1 = (B7 : Int) by omega]; exact IntWalk.wrap64_in _ (by omega)
            have ca6 : w6.cell? ⟨r, kx, none⟩ = some (.int .i64 (at_ kx : Nat)) := HRO.out.ats.cell (i := kx) hkx
            have fa6 : w6.frozen? ⟨r, kx, none⟩ = false := HRO.out.ats.frozen kx
            have HI3 := Lib.hid (HP.out.putVain hkx hnb2 hw' ha' hq' hal ht hpu hp hqq)
            have HTM2 := HI3.out.time
            have cwz := HI3.out.ln.at_.row.cell (i := 0) (by omega)
            rw [HTM'.out] at HTM2
            rw [← hB7] at HI3 HTM2 cwz
            obtain ⟨A7, hA7⟩ : ∃ x, x = at_ kx := ⟨_, rfl⟩
            rw [← hA7] at ca6 hatN hw7
            rw [← HR.out.1] at HI3 HTM2 cwz
            have HTM2 := Lib.hid HTM2
            have hcwz := Lib.hid cwz
            have hn0 : r ≠ r1 := by rw [HR.out.1]; omega
            have hwbr : wb < r := by have h1 := HP.out.high; have h2 := hw'.gt kx hkx; have h3 := hw'.lane.rlt kx hkx; have h4 := hw'.lane.glt; omega
            have hn1 : wb ≠ r1 := by rw [HR.out.1]; omega
            have hn2 : wb ≠ r := by omega
            clear hsta h0 hok hpu hp hqq hw' ha' hq' hal ht HRO HRC HP hA7 hB7 hatN hNm cwz hwbr
            rw [hz]
            go_wp2_with (first
             | (go_at_call 18; (with_reducible refine Calls.mono HOK.out ?_); rintro e wq ⟨rfl, rfl⟩)
             | (go_at_call 27; (with_reducible refine Calls.mono HTM2.out ?_); rintro e wq ⟨rfl, rfl⟩)
             | fail)
            go_roundw
            case rel => exact ⟨i + 1, st, by omega, by go_num, rfl, _, _, _, _, _, _, _, _, _, _, _, T, rfl, HI3⟩
            case measure => simp [intOf]; omega
         ·
          have d7 : decide (N kx ≤ at_ kx) = true := by simp; omega
          have HLT := Lib.hid HI.out.later
          obtain ⟨A7, hA7⟩ : ∃ x, x = at_ kx := ⟨_, rfl⟩
          obtain ⟨N7, hN7⟩ : ∃ x, x = N kx := ⟨_, rfl⟩
          rw [← hA7] at ca d7
          rw [← hN7] at clu d7 hu1
          clear hA7 hN7 hucell cwl fn
          go_wp2_with fail
          refine wp_region_held_drew (S := fun w' => w'.cell? ⟨r, kx, none⟩ = some (.int .i64 (A7 : Nat)) ∧ w'.cell? ⟨b9, off9 + kx, none⟩ = some (.slice Au N7 capu)) (by kernel_rfl) ?_ (fun hHeld => ?_)
          ·
           exact ⟨ca, clu⟩
          refine wpAnyH_take (i := 0) (oi := { dst := some 132, op := Op.move (Operand.tmp 16), type := 3, pos := "law.go:150", after := #[], guard := none }) (v := ?_) rfl (by kernel_rfl) (by kernel_rfl) (by kernel_rfl) (fun _ _ _ h => h) (Or.inl ⟨by rfl, ?_⟩) (by assumption) ?_; rotate_left; (· (intro w hSw; (try dsimp only at hSw); go_simp; try with_reducible rfl)); (try simp only [Act.put, sA, sB, sC])
          refine wpAnyH_take (i := 1) (oi := { dst := some 133, op := Op.move (Operand.tmp 1), type := 62, pos := "law.go:150", after := #[], guard := none }) (v := ?_) rfl (by kernel_rfl) (by kernel_rfl) (by kernel_rfl) (fun _ _ _ h => h) (Or.inl ⟨by rfl, ?_⟩) (by assumption) ?_; rotate_left; (· (intro w hSw; (try dsimp only at hSw); go_simp; try with_reducible rfl)); (try simp only [Act.put, sA, sB, sC])
          refine wpAnyH_take (i := 2) (oi := { dst := some 134, op := Op.call { callee := Callee.builtin Builtin.len, args := #[Operand.tmp 133], argTypes := #[62] }, type := 3, pos := "law.go:150", after := #[{ on := 1, ground := Ground.data }], guard := none }) (v := ?_) rfl (by kernel_rfl) (by kernel_rfl) (by kernel_rfl) (fun _ _ _ h => h) (Or.inl ⟨by rfl, ?_⟩) (by assumption) ?_; rotate_left; (· (intro w hSw; (try dsimp only at hSw); go_simp; try with_reducible rfl)); (try simp only [Act.put, sA, sB, sC])
          refine wpAnyH_take (i := 3) (oi := { dst := some 135, op := Op.binOp BinOp.geq 3 (Operand.tmp 132) (Operand.tmp 134) 3, type := 4, pos := "law.go:150", after := #[{ on := 0, ground := Ground.data }, { on := 2, ground := Ground.data }], guard := none }) (v := ?_) rfl (by kernel_rfl) (by kernel_rfl) (by kernel_rfl) (fun _ _ _ h => h) (Or.inl ⟨by rfl, ?_⟩) (by assumption) ?_; rotate_left; (· (intro w hSw; (try dsimp only at hSw); go_simp; try with_reducible rfl)); (try simp only [Act.put, sA, sB, sC])
          refine wpAnyH_take (i := 4) (oi := { dst := some 136, op := Op.move (Operand.tmp 135), type := 4, pos := "law.go:150", after := #[{ on := 3, ground := Ground.data }], guard := none }) (v := ?_) rfl (by kernel_rfl) (by kernel_rfl) (by kernel_rfl) (fun _ _ _ h => h) (Or.inl ⟨by rfl, ?_⟩) (by assumption) ?_; rotate_left; (· (intro w hSw; (try dsimp only at hSw); go_simp; try with_reducible rfl)); (try simp only [Act.put, sA, sB, sC])
          refine wpAnyH_take (i := 5) (oi := { dst := some 137, op := Op.move (Operand.tmp 9), type := 49, pos := "law.go:150", after := #[{ on := 4, ground := Ground.guard }], guard := some (4, false) }) (v := ?_) rfl (by kernel_rfl) (by kernel_rfl) (by kernel_rfl) (fun _ _ _ h => h) (Or.inl ⟨by rfl, ?_⟩) (by assumption) ?_; rotate_left; (· (intro w hSw; (try dsimp only at hSw); go_simp; try with_reducible rfl)); (try simp only [Act.put, sA, sB, sC])
          refine wpAnyH_take (i := 6) (oi := { dst := some 138, op := Op.move (Operand.tmp 16), type := 3, pos := "law.go:150", after := #[{ on := 4, ground := Ground.guard }], guard := some (4, false) }) (v := ?_) rfl (by kernel_rfl) (by kernel_rfl) (by kernel_rfl) (fun _ _ _ h => h) (Or.inl ⟨by rfl, ?_⟩) (by assumption) ?_; rotate_left; (· (intro w hSw; (try dsimp only at hSw); go_simp; try with_reducible rfl)); (try simp only [Act.put, sA, sB, sC])
          refine wpAnyH_take (i := 7) (oi := { dst := some 139, op := Op.indexAddr 49 (Operand.tmp 137) (Operand.tmp 138), type := 0, pos := "law.go:150", after := #[{ on := 5, ground := Ground.data }, { on := 6, ground := Ground.data }, { on := 4, ground := Ground.guard }], guard := some (4, false) }) (v := ?_) rfl (by kernel_rfl) (by kernel_rfl) (by kernel_rfl) (fun _ _ _ h => h) (Or.inl ⟨by rfl, ?_⟩) (by assumption) ?_; rotate_left; (· (intro w hSw; (try dsimp only at hSw); go_simp; try with_reducible rfl)); (try simp only [Act.put, sA, sB, sC])
          refine wpAnyH_take (i := 8) (oi := { dst := some 140, op := Op.load 3 (Operand.tmp 139), type := 3, pos := "law.go:150", after := #[{ on := 7, ground := Ground.data }, { on := 4, ground := Ground.guard }], guard := some (4, false) }) (v := ?_) rfl (by kernel_rfl) (by kernel_rfl) (by kernel_rfl) (fun _ _ _ h => h) (Or.inl ⟨by rfl, ?_⟩) (by assumption) ?_; rotate_left; (· (intro w hSw; (try dsimp only at hSw); go_simp; try with_reducible rfl)); (try simp only [Act.put, sA, sB, sC])
          refine wpAnyH_take (i := 9) (oi := { dst := some 141, op := Op.move (Operand.tmp 1), type := 62, pos := "law.go:150", after := #[{ on := 4, ground := Ground.guard }], guard := some (4, false) }) (v := ?_) rfl (by kernel_rfl) (by kernel_rfl) (by kernel_rfl) (fun _ _ _ h => h) (Or.inl ⟨by rfl, ?_⟩) (by assumption) ?_; rotate_left; (· (intro w hSw; (try dsimp only at hSw); go_simp; try with_reducible rfl)); (try simp only [Act.put, sA, sB, sC])
          refine wpAnyH_take (i := 10) (oi := { dst := some 142, op := Op.move (Operand.tmp 16), type := 3, pos := "law.go:150", after := #[{ on := 4, ground := Ground.guard }], guard := some (4, false) }) (v := ?_) rfl (by kernel_rfl) (by kernel_rfl) (by kernel_rfl) (fun _ _ _ h => h) (Or.inl ⟨by rfl, ?_⟩) (by assumption) ?_; rotate_left; (· (intro w hSw; (try dsimp only at hSw); go_simp; try with_reducible rfl)); (try simp only [Act.put, sA, sB, sC])
          refine wpAnyH_take (i := 11) (oi := { dst := some 143, op := Op.indexAddr 62 (Operand.tmp 141) (Operand.tmp 142), type := 0, pos := "law.go:150", after := #[{ on := 9, ground := Ground.data }, { on := 10, ground := Ground.data }, { on := 4, ground := Ground.guard }], guard := some (4, false) }) (v := ?_) rfl (by kernel_rfl) (by kernel_rfl) (by kernel_rfl) (fun _ _ _ h => h) (Or.inl ⟨by rfl, ?_⟩) (by assumption) ?_; rotate_left; (· (intro w hSw; (try dsimp only at hSw); go_simp; try with_reducible rfl)); (try simp only [Act.put, sA, sB, sC])
          refine wpAnyH_take (i := 12) (oi := { dst := some 144, op := Op.load 23 (Operand.tmp 143), type := 23, pos := "law.go:150", after := #[{ on := 11, ground := Ground.data }, { on := 4, ground := Ground.guard }], guard := some (4, false) }) (v := ?_) rfl (by kernel_rfl) (by kernel_rfl) (by kernel_rfl) (fun _ _ _ h => h) (Or.inl ⟨by rfl, ?_⟩) (by assumption) ?_; rotate_left; (· (intro w hSw; (try dsimp only at hSw); go_simp; try with_reducible rfl)); (try simp only [Act.put, sA, sB, sC])
          refine wpAnyH_take (i := 13) (oi := { dst := some 145, op := Op.call { callee := Callee.builtin Builtin.len, args := #[Operand.tmp 144], argTypes := #[23] }, type := 3, pos := "law.go:150", after := #[{ on := 12, ground := Ground.data }, { on := 4, ground := Ground.guard }], guard := some (4, false) }) (v := ?_) rfl (by kernel_rfl) (by kernel_rfl) (by kernel_rfl) (fun _ _ _ h => h) (Or.inl ⟨by rfl, ?_⟩) (by assumption) ?_; rotate_left; (· (intro w hSw; (try dsimp only at hSw); go_simp; try with_reducible rfl)); (try simp only [Act.put, sA, sB, sC])
          refine wpAnyH_take (i := 14) (oi := { dst := some 146, op := Op.binOp BinOp.geq 3 (Operand.tmp 140) (Operand.tmp 145) 3, type := 4, pos := "law.go:150", after := #[{ on := 8, ground := Ground.data }, { on := 13, ground := Ground.data }, { on := 4, ground := Ground.guard }], guard := some (4, false) }) (v := ?_) rfl (by kernel_rfl) (by kernel_rfl) (by kernel_rfl) (fun _ _ _ h => h) (Or.inl ⟨by rfl, ?_⟩) (by assumption) ?_; rotate_left; (· (intro w hSw; (try dsimp only at hSw); go_simp; try with_reducible rfl)); (try simp only [Act.put, sA, sB, sC])
          refine wpAnyH_take (i := 15) (oi := { dst := some 147, op := Op.pick (Operand.tmp 136) (Operand.const (Value.bool true)) (Operand.tmp 146), type := 4, pos := "law.go:150", after := #[{ on := 4, ground := Ground.data }, { on := 14, ground := Ground.data }], guard := none }) (v := ?_) rfl (by kernel_rfl) (by kernel_rfl) (by kernel_rfl) (fun _ _ _ h => h) (Or.inl ⟨by rfl, ?_⟩) (by assumption) ?_; rotate_left; (· (intro w hSw; (try dsimp only at hSw); go_simp; try with_reducible rfl)); (try simp only [Act.put, sA, sB, sC])
          refine wpAnyH_done (by kernel_rfl) ?_ _
          go_wp2
          go_roundw
          case rel => exact ⟨i + 1, st, by omega, by go_num, rfl, _, _, _, _, _, _, _, _, _, _, _, T, rfl, Lib.hid (HLT.out.below (below_drewN (Below.refl _ _) _))⟩
          case measure => simp [intOf]; omega
        ·
         have d6 : decide (kx ≥ ln) = true := by simp; omega
         have d6' : decide (ln ≤ kx) = true := by simp; omega
         have HLT := Lib.hid HI.out.later
         clear cwl fn
         go_wp2_with fail
         refine wp_region_held_drew (S := fun w' => True) (by kernel_rfl) ?_ (fun hHeld => ?_)
         ·
          trivial
         refine wpAnyH_take (i := 0) (oi := { dst := some 132, op := Op.move (Operand.tmp 16), type := 3, pos := "law.go:150", after := #[], guard := none }) (v := ?_) rfl (by kernel_rfl) (by kernel_rfl) (by kernel_rfl) (fun _ _ _ h => h) (Or.inl ⟨by rfl, ?_⟩) (by assumption) ?_; rotate_left; (· (intro w hSw; (try dsimp only at hSw); go_simp; try with_reducible rfl)); (try simp only [Act.put, sA, sB, sC])
         refine wpAnyH_take (i := 1) (oi := { dst := some 133, op := Op.move (Operand.tmp 1), type := 62, pos := "law.go:150", after := #[], guard := none }) (v := ?_) rfl (by kernel_rfl) (by kernel_rfl) (by kernel_rfl) (fun _ _ _ h => h) (Or.inl ⟨by rfl, ?_⟩) (by assumption) ?_; rotate_left; (· (intro w hSw; (try dsimp only at hSw); go_simp; try with_reducible rfl)); (try simp only [Act.put, sA, sB, sC])
         refine wpAnyH_take (i := 2) (oi := { dst := some 134, op := Op.call { callee := Callee.builtin Builtin.len, args := #[Operand.tmp 133], argTypes := #[62] }, type := 3, pos := "law.go:150", after := #[{ on := 1, ground := Ground.data }], guard := none }) (v := ?_) rfl (by kernel_rfl) (by kernel_rfl) (by kernel_rfl) (fun _ _ _ h => h) (Or.inl ⟨by rfl, ?_⟩) (by assumption) ?_; rotate_left; (· (intro w hSw; (try dsimp only at hSw); go_simp; try with_reducible rfl)); (try simp only [Act.put, sA, sB, sC])
         refine wpAnyH_take (i := 3) (oi := { dst := some 135, op := Op.binOp BinOp.geq 3 (Operand.tmp 132) (Operand.tmp 134) 3, type := 4, pos := "law.go:150", after := #[{ on := 0, ground := Ground.data }, { on := 2, ground := Ground.data }], guard := none }) (v := ?_) rfl (by kernel_rfl) (by kernel_rfl) (by kernel_rfl) (fun _ _ _ h => h) (Or.inl ⟨by rfl, ?_⟩) (by assumption) ?_; rotate_left; (· (intro w hSw; (try dsimp only at hSw); go_simp; try with_reducible rfl)); (try simp only [Act.put, sA, sB, sC])
         refine wpAnyH_take (i := 4) (oi := { dst := some 136, op := Op.move (Operand.tmp 135), type := 4, pos := "law.go:150", after := #[{ on := 3, ground := Ground.data }], guard := none }) (v := ?_) rfl (by kernel_rfl) (by kernel_rfl) (by kernel_rfl) (fun _ _ _ h => h) (Or.inl ⟨by rfl, ?_⟩) (by assumption) ?_; rotate_left; (· (intro w hSw; (try dsimp only at hSw); go_simp; try with_reducible rfl)); (try simp only [Act.put, sA, sB, sC])
         refine wpAnyH_take (i := 5) (oi := { dst := some 137, op := Op.move (Operand.tmp 9), type := 49, pos := "law.go:150", after := #[{ on := 4, ground := Ground.guard }], guard := some (4, false) }) (v := undef) rfl (by kernel_rfl) (by kernel_rfl) (by kernel_rfl) (fun _ _ _ h => h) (Or.inr ⟨by rfl, rfl⟩) (by assumption) ?_; (try simp only [Act.put, sA, sB, sC])
         refine wpAnyH_take (i := 6) (oi := { dst := some 138, op := Op.move (Operand.tmp 16), type := 3, pos := "law.go:150", after := #[{ on := 4, ground := Ground.guard }], guard := some (4, false) }) (v := undef) rfl (by kernel_rfl) (by kernel_rfl) (by kernel_rfl) (fun _ _ _ h => h) (Or.inr ⟨by rfl, rfl⟩) (by assumption) ?_; (try simp only [Act.put, sA, sB, sC])
         refine wpAnyH_take (i := 7) (oi := { dst := some 139, op := Op.indexAddr 49 (Operand.tmp 137) (Operand.tmp 138), type := 0, pos := "law.go:150", after := #[{ on := 5, ground := Ground.data }, { on := 6, ground := Ground.data }, { on := 4, ground := Ground.guard }], guard := some (4, false) }) (v := undef) rfl (by kernel_rfl) (by kernel_rfl) (by kernel_rfl) (fun _ _ _ h => h) (Or.inr ⟨by rfl, rfl⟩) (by assumption) ?_; (try simp only [Act.put, sA, sB, sC])
         refine wpAnyH_take (i := 8) (oi := { dst := some 140, op := Op.load 3 (Operand.tmp 139), type := 3, pos := "law.go:150", after := #[{ on := 7, ground := Ground.data }, { on := 4, ground := Ground.guard }], guard := some (4, false) }) (v := undef) rfl (by kernel_rfl) (by kernel_rfl) (by kernel_rfl) (fun _ _ _ h => h) (Or.inr ⟨by rfl, rfl⟩) (by assumption) ?_; (try simp only [Act.put, sA, sB, sC])
         refine wpAnyH_take (i := 9) (oi := { dst := some 141, op := Op.move (Operand.tmp 1), type := 62, pos := "law.go:150", after := #[{ on := 4, ground := Ground.guard }], guard := some (4, false) }) (v := undef) rfl (by kernel_rfl) (by kernel_rfl) (by kernel_rfl) (fun _ _ _ h => h) (Or.inr ⟨by rfl, rfl⟩) (by assumption) ?_; (try simp only [Act.put, sA, sB, sC])
         refine wpAnyH_take (i := 10) (oi := { dst := some 142, op := Op.move (Operand.tmp 16), type := 3, pos := "law.go:150", after := #[{ on := 4, ground := Ground.guard }], guard := some (4, false) }) (v := undef) rfl (by kernel_rfl) (by kernel_rfl) (by kernel_rfl) (fun _ _ _ h => h) (Or.inr ⟨by rfl, rfl⟩) (by assumption) ?_; (try simp only [Act.put, sA, sB, sC])
         refine wpAnyH_take (i := 11) (oi := { dst := some 143, op := Op.indexAddr 62 (Operand.tmp 141) (Operand.tmp 142), type := 0, pos := "law.go:150", after := #[{ on := 9, ground := Ground.data }, { on := 10, ground := Ground.data }, { on := 4, ground := Ground.guard }], guard := some (4, false) }) (v := undef) rfl (by kernel_rfl) (by kernel_rfl) (by kernel_rfl) (fun _ _ _ h => h) (Or.inr ⟨by rfl, rfl⟩) (by assumption) ?_; (try simp only [Act.put, sA, sB, sC])
         refine wpAnyH_take (i := 12) (oi := { dst := some 144, op := Op.load 23 (Operand.tmp 143), type := 23, pos := "law.go:150", after := #[{ on := 11, ground := Ground.data }, { on := 4, ground := Ground.guard }], guard := some (4, false) }) (v := undef) rfl (by kernel_rfl) (by kernel_rfl) (by kernel_rfl) (fun _ _ _ h => h) (Or.inr ⟨by rfl, rfl⟩) (by assumption) ?_; (try simp only [Act.put, sA, sB, sC])
         refine wpAnyH_take (i := 13) (oi := { dst := some 145, op := Op.call { callee := Callee.builtin Builtin.len, args := #[Operand.tmp 144], argTypes := #[23] }, type := 3, pos := "law.go:150", after := #[{ on := 12, ground := Ground.data }, { on := 4, ground := Ground.guard }], guard := some (4, false) }) (v := undef) rfl (by kernel_rfl) (by kernel_rfl) (by kernel_rfl) (fun _ _ _ h => h) (Or.inr ⟨by rfl, rfl⟩) (by assumption) ?_; (try simp only [Act.put, sA, sB, sC])
         refine wpAnyH_take (i := 14) (oi := { dst := some 146, op := Op.binOp BinOp.geq 3 (Operand.tmp 140) (Operand.tmp 145) 3, type := 4, pos := "law.go:150", after := #[{ on := 8, ground := Ground.data }, { on := 13, ground := Ground.data }, { on := 4, ground := Ground.guard }], guard := some (4, false) }) (v := undef) rfl (by kernel_rfl) (by kernel_rfl) (by kernel_rfl) (fun _ _ _ h => h) (Or.inr ⟨by rfl, rfl⟩) (by assumption) ?_; (try simp only [Act.put, sA, sB, sC])
         refine wpAnyH_take (i := 15) (oi := { dst := some 147, op := Op.pick (Operand.tmp 136) (Operand.const (Value.bool true)) (Operand.tmp 146), type := 4, pos := "law.go:150", after := #[{ on := 4, ground := Ground.data }, { on := 14, ground := Ground.data }], guard := none }) (v := ?_) rfl (by kernel_rfl) (by kernel_rfl) (by kernel_rfl) (fun _ _ _ h => h) (Or.inl ⟨by rfl, ?_⟩) (by assumption) ?_; rotate_left; (· (intro w hSw; (try dsimp only at hSw); go_simp; try with_reducible rfl)); (try simp only [Act.put, sA, sB, sC])
         refine wpAnyH_done (by kernel_rfl) ?_ _
         go_wp2
         go_roundw
         case rel => exact ⟨i + 1, st, by omega, by go_num, rfl, _, _, _, _, _, _, _, _, _, _, _, T, rfl, Lib.hid (HLT.out.below (below_drewN (Below.refl _ _) _))⟩
         case measure => simp [intOf]; omega
       | some pk =>
        obtain ⟨nb2, hnb2, HP⟩ : ∃ nb2, nb2 kx = some pk ∧ Hid (LtI W wr wb b lb g cap n v rbs r i (i + 1) st at_ nb2 qv ql G1 c m1 p t q pa T L N) := ⟨nb, hnb, HI.out.up (Nat.le_refl i) (Nat.le_succ i)⟩
        clear hnb HI cwl
        as_aux_lemma =>
         have cnp : wr.cell? ⟨r1, kx, none⟩ = some (.pointer (some ⟨pk, 0, none⟩)) := by
          have := HP.out.ro.nows.cell (i := kx) hkx
          rw [HR.out.1, this]; unfold actV; rw [hnb2]; rfl
         have HST := Lib.hid (HP.out.pstep hkx hnb2 (by omega) (by omega))
         go_wp2_with fail
         refine (HST.out).mono ?_
         rintro e w6 ⟨G', m', a', p', q', rfl, hw', ha', hq', hal, ht, hres, hsta⟩
         clear HST cnp
         have HRO := Lib.hid (HP.out.grows hkx hnb2 ht)
         have hrc : ∀ (w : World) (nbx : Nat → Option Nat) (qx : Nat → Value) (qy : Nat → List Int) (ax : Nat → Nat), RoL w r n ax nbx qx qy → nbx kx = some pk → w.cell? ⟨r1, kx, none⟩ = some (.pointer (some ⟨pk, 0, none⟩)) ∧ w.frozen? ⟨r1, kx, none⟩ = false := fun w nbx qx qy ax h e => by
          have := h.nows.cell (i := kx) hkx
          rw [HR.out.1]
          exact ⟨by rw [this]; unfold actV; rw [e]; rfl, h.nows.frozen kx⟩
         have HRC := Lib.hid hrc
         have cwb6 : w6.cell? ⟨wb, 0, none⟩ = some (.pointer (some ⟨b, 0, none⟩)) := hw'.row.cell (i := 0) (by omega)
         have hTM' : m'.t = TM + 1 := by rw [hal.tm, HTMe.out]
         have HTM' := Lib.hid hTM'
         have e9 : decide (TM + 1 > TM + 1) = false := by simp
         clear hTM'
         clear hrc
         rcases hres with ⟨h0, hpk, hpu, hp, hqq, hnm⟩ | ⟨h0, hok, hpu, hqq, hp⟩ | ⟨h0, hok, hpu, hp, hqq⟩
         ·
          have hz : decide (a'.stage = 0) = false := decide_eq_false h0
          have HI3 := Lib.hid (HP.out.putting hkx hnb2 hw' ha' hq' hal ht hpu hpk hp hqq hnm)
          have HTM2 := HI3.out.time
          rw [HTM'.out] at HTM2
          have HTM2 := Lib.hid HTM2
          clear hsta h0 hpk hpu hp hqq hnm hw' ha' hq' hal ht HRO HRC HP
          rw [hz]
          go_wp2_with (first
           | (go_at_call 27; (with_reducible refine Calls.mono HTM2.out ?_); rintro e wq ⟨rfl, rfl⟩)
           | fail)
          go_roundw
          case rel => exact ⟨i + 1, st, by omega, by go_num, rfl, _, _, _, _, _, _, _, _, _, _, _, T, rfl, HI3⟩
          case measure => simp [intOf]; omega
         ·
          have hz : decide (a'.stage = 0) = true := decide_eq_true h0
          have HOK := act_Ok ha'
          rw [hok] at HOK
          have HOK := Lib.hid HOK
          obtain ⟨cn6, fn6⟩ := HRC.out _ _ _ _ _ HRO.out hnb2
          obtain ⟨_, hatN⟩ := HP.out.num kx pk hkx hnb2
          have hkl : kx < ln := by
           by_cases e : kx < ln
           ·
            exact e
           ·
            have := HL0.out kx (by omega); omega
          have B6 := HP.out.pbel hkx hnb2 ht
          obtain ⟨b9, off9, u, hA9, hb9, hcu, hrow⟩ := HLS.out kx hkl
          cases hA9
          obtain ⟨Au, capu, rfl, hu1, hu2, hucell⟩ := hrow
          unfold maxLen at hu2
          obtain ⟨bu, ou, rfl, hbu, hcells⟩ := hucell (by omega)
          have clu := (B6.cell (p := ⟨b9, off9 + kx, none⟩) hb9).trans hcu
          have clx := (B6.cell (p := ⟨bu, ou + at_ kx, none⟩) hbu).trans (hcells (at_ kx) hatN)
          have ca6 : w6.cell? ⟨r, kx, none⟩ = some (.int .i64 (at_ kx : Nat)) := HRO.out.ats.cell (i := kx) hkx
          have hrs : r < w6.heap.size := HRO.out.ats.lt
          have hwr : W.heap.size ≤ r := by have := HP.out.high; have := (HP.out.ln.lows (x := lb) (.inr (.inr rfl))).1; omega
          have HWB : Hid (wb < w6.heap.size ∧ wb < r) := ⟨hw'.row.lt, by have h1 := HP.out.high; have h2 := hw'.gt kx hkx; have h3 := hw'.lane.rlt kx hkx; have h4 := hw'.lane.glt; omega⟩
          have hsz2 : r + 2 ≤ w6.heap.size := Nat.le_of_lt HRO.out.pc.lt
          have hrs4 : r3 < w6.heap.size ∧ r2 < w6.heap.size := by rw [HR.out.2.2, HR.out.2.1]; exact ⟨HRO.out.gc.lt, HRO.out.pc.lt⟩
          have HDID := Lib.hid (fun (wz : World) (v' : Value) hr htz => HP.out.putDid hkx hnb2 hw' ha' hq' hal ht hpu hp hqq (wz := wz) (v' := v') hr htz)
          have hlg := (HP.out.len2 hkx).1
          obtain ⟨Ag, cg, hvg, hgc, hgm⟩ := (Sl.of_own (HRO.out.own kx (by omega))).form
          have HVG := Lib.hid hvg
          obtain ⟨Lg, hLg⟩ : ∃ l, l = (ql kx).length := ⟨_, rfl⟩
          have HLG := Lib.hid hLg
          obtain ⟨B7, hB7⟩ : ∃ x, x = at_ kx + 1 := ⟨_, rfl⟩
          have hw7 : wrap64 ((at_ kx : Int) + 1) = (B7 : Int) := by
           rw [show (at_ kx : Int) + 1 = (B7 : Int) by omega]; exact IntWalk.wrap64_in _ (by omega)
          rw [← hB7] at HDID
          obtain ⟨A7, hA7⟩ : ∃ x, x = at_ kx := ⟨_, rfl⟩
          obtain ⟨N7, hN7⟩ : ∃ x, x = N kx := ⟨_, rfl⟩
          obtain ⟨X7, hX7⟩ : ∃ x, x = L kx (at_ kx) := ⟨_, rfl⟩
          rw [← hX7] at clx HDID
          rw [← hA7] at ca6 clx hatN hw7
          rw [← hN7] at clu hu1 hatN
          have ck : w6.cell? ⟨r2, kx, none⟩ = some (.slice Ag Lg cg) := by
           have := HRO.out.pc.cell (i := kx) hkx
           rw [hvg, ← hLg, ← HR.out.2.1] at this
           exact this
          have cf : w6.frozen? ⟨r2, kx, none⟩ = false := by rw [HR.out.2.1]; exact HRO.out.pc.frozen kx
          rw [← hLg] at hlg hgc
          unfold maxLen at hgm
          have HOW : Hid (w6.ownsRow (r + 4) 22 1 (.slice Ag Lg cg) Lg (kv .u64 (ql kx))) := by
           have := HRO.out.own kx (by omega)
           rw [hvg, ← hLg] at this
           exact this
          have HKL : Hid ((ql kx ++ [X7]).length = Lg + 1 ∧ kv .u64 (ql kx ++ [X7]) = kv .u64 (ql kx) ++ [.int .u64 X7]) := ⟨by rw [hLg]; simp, by simp [kv]⟩
          have HLW : Hid (r2 < w6.heap.size) := hrs4.2
          have HK38 : Hid (∀ w', Below (r + 2) w6 w' → w'.cell? ⟨b9, off9 + kx, none⟩ = some (.slice (some ⟨bu, ou, none⟩) N7 capu) ∧ w'.cell? ⟨r, kx, none⟩ = some (.int .i64 (A7 : Nat)) ∧ w'.cell? ⟨bu, ou + A7, none⟩ = some (.int .u64 X7)) := fun w' hb => ⟨(hb.cell (p := ⟨b9, off9 + kx, none⟩) (by show b9 < _; omega)).trans clu, (hb.cell (p := ⟨r, kx, none⟩) (by show r < _; omega)).trans ca6, (hb.cell (p := ⟨bu, ou + A7, none⟩) (by show bu < _; omega)).trans clx⟩
          have HLA9 : Hid (∀ w7, Below w6.heap.size w6 w7 → ∀ w9 v9, w9.ownsRow (r + 4) 22 1 v9 (Lg + 1) (kv .u64 (ql kx) ++ [.int .u64 X7]) → (w7.alloc (.cells #[.int .u64 X7] 22)).grownBy w9 (Value.slice Ag Lg cg).ownBlock → (v9.ownBlock = (Value.slice Ag Lg cg).ownBlock ∨ v9.ownBlock = some (w7.alloc (.cells #[.int .u64 X7] 22)).heap.size) → RoL (w9.setCell ⟨r2, kx, none⟩ v9) r n at_ nb2 (upd qv kx v9) (upd ql kx (ql kx ++ [X7])) ∧ Tch (RoD r n qv) w6 (w9.setCell ⟨r2, kx, none⟩ v9)) := fun w7 hb w9 v9 a1 a2 a3 => by
           obtain ⟨y1, y2⟩ := (HRO.out.below hb).app (k := kx) (by omega) (l' := ql kx ++ [X7]) (by rw [HKL.out.1, HKL.out.2]; exact a1) (by rw [HVG.out, ← HLG.out]; exact a2) (by rw [HVG.out, ← HLG.out]; exact a3) (x := r2) (y := kx) (.inl ⟨hkx, HR.out.2.1, rfl⟩)
           exact ⟨y1, (Tch.of_below hb).trans y2⟩
          have hal1 : ∀ w7 o, Below w6.heap.size w6 w7 → (w7.alloc o).cell? ⟨r2, kx, none⟩ = some (.slice Ag Lg cg) := fun w7 o hb => (((hb.alloc hb.size o)).cell (p := ⟨r2, kx, none⟩) HLW.out).trans ck
          have hal2 : ∀ w7 o, Below w6.heap.size w6 w7 → (w7.alloc o).frozen? ⟨r2, kx, none⟩ = false := fun w7 o hb => (((hb.alloc hb.size o)).frozen (p := ⟨r2, kx, none⟩) HLW.out).trans cf
          clear hsta h0 hok hpu hp hqq hw' ha' hq' hal ht hvg hLg hA7 hN7 hX7 hB7 hcells hucell hcu B6 cf
          rw [hz]
          go_wp2_with (first
           | (go_at_call 18; (with_reducible refine Calls.mono HOK.out ?_); rintro e wq ⟨rfl, rfl⟩)
           | fail)
          clear HOK
          refine wp_region_held_drew (S := fun w' => w'.cell? ⟨b9, off9 + kx, none⟩ = some (.slice (some ⟨bu, ou, none⟩) N7 capu) ∧ w'.cell? ⟨r, kx, none⟩ = some (.int .i64 (A7 : Nat)) ∧ w'.cell? ⟨bu, ou + A7, none⟩ = some (.int .u64 X7)) (by kernel_rfl) ?_ (fun hHeld => ?_)
          ·
           exact HK38.out _ (by (repeat' (first | (exact (show r + 2 ≤ r2 from Nat.le_of_eq HR.out.2.1.symm)) | (with_reducible first | exact Below.refl _ _ | assumption | refine Below.setCell ?_ ?_ _ | refine Below.alloc ?_ ?_ _ | refine below_drewN ?_ _ | refine Below.drew ?_) | go_size | omega)))
          refine wpAnyH_take (i := 0) (oi := { dst := some 184, op := Op.move (Operand.tmp 11), type := 62, pos := "law.go:160", after := #[], guard := none }) (v := ?_) rfl (by kernel_rfl) (by kernel_rfl) (by kernel_rfl) (fun _ _ _ h => h) (Or.inl ⟨by rfl, ?_⟩) (by assumption) ?_; rotate_left; (· (intro w hSw; (try dsimp only at hSw); go_simp; try with_reducible rfl)); (try simp only [Act.put, sA, sB, sC])
          refine wpAnyH_take (i := 1) (oi := { dst := some 185, op := Op.move (Operand.tmp 16), type := 3, pos := "law.go:160", after := #[], guard := none }) (v := ?_) rfl (by kernel_rfl) (by kernel_rfl) (by kernel_rfl) (fun _ _ _ h => h) (Or.inl ⟨by rfl, ?_⟩) (by assumption) ?_; rotate_left; (· (intro w hSw; (try dsimp only at hSw); go_simp; try with_reducible rfl)); (try simp only [Act.put, sA, sB, sC])
          refine wpAnyH_take (i := 2) (oi := { dst := some 186, op := Op.move (Operand.tmp 11), type := 62, pos := "law.go:160", after := #[], guard := none }) (v := ?_) rfl (by kernel_rfl) (by kernel_rfl) (by kernel_rfl) (fun _ _ _ h => h) (Or.inl ⟨by rfl, ?_⟩) (by assumption) ?_; rotate_left; (· (intro w hSw; (try dsimp only at hSw); go_simp; try with_reducible rfl)); (try simp only [Act.put, sA, sB, sC])
          refine wpAnyH_take (i := 3) (oi := { dst := some 187, op := Op.move (Operand.tmp 16), type := 3, pos := "law.go:160", after := #[], guard := none }) (v := ?_) rfl (by kernel_rfl) (by kernel_rfl) (by kernel_rfl) (fun _ _ _ h => h) (Or.inl ⟨by rfl, ?_⟩) (by assumption) ?_; rotate_left; (· (intro w hSw; (try dsimp only at hSw); go_simp; try with_reducible rfl)); (try simp only [Act.put, sA, sB, sC])
          refine wpAnyH_take (i := 4) (oi := { dst := some 188, op := Op.indexAddr 62 (Operand.tmp 186) (Operand.tmp 187), type := 0, pos := "law.go:160", after := #[{ on := 2, ground := Ground.data }, { on := 3, ground := Ground.data }], guard := none }) (v := ?_) rfl (by kernel_rfl) (by kernel_rfl) (by kernel_rfl) (fun _ _ _ h => h) (Or.inl ⟨by rfl, ?_⟩) (by assumption) ?_; rotate_left; (· (intro w hSw; (try dsimp only at hSw); go_simp; try with_reducible rfl)); (try simp only [Act.put, sA, sB, sC])
          refine wpAnyH_take (i := 6) (oi := { dst := some 190, op := Op.move (Operand.tmp 1), type := 62, pos := "law.go:160", after := #[], guard := none }) (v := ?_) rfl (by kernel_rfl) (by kernel_rfl) (by kernel_rfl) (fun _ _ _ h => h) (Or.inl ⟨by rfl, ?_⟩) (by assumption) ?_; rotate_left; (· (intro w hSw; (try dsimp only at hSw); go_simp; try with_reducible rfl)); (try simp only [Act.put, sA, sB, sC])
          refine wpAnyH_take (i := 7) (oi := { dst := some 191, op := Op.move (Operand.tmp 16), type := 3, pos := "law.go:160", after := #[], guard := none }) (v := ?_) rfl (by kernel_rfl) (by kernel_rfl) (by kernel_rfl) (fun _ _ _ h => h) (Or.inl ⟨by rfl, ?_⟩) (by assumption) ?_; rotate_left; (· (intro w hSw; (try dsimp only at hSw); go_simp; try with_reducible rfl)); (try simp only [Act.put, sA, sB, sC])
          refine wpAnyH_take (i := 8) (oi := { dst := some 192, op := Op.indexAddr 62 (Operand.tmp 190) (Operand.tmp 191), type := 0, pos := "law.go:160", after := #[{ on := 6, ground := Ground.data }, { on := 7, ground := Ground.data }], guard := none }) (v := ?_) rfl (by kernel_rfl) (by kernel_rfl) (by kernel_rfl) (fun _ _ _ h => h) (Or.inl ⟨by rfl, ?_⟩) (by assumption) ?_; rotate_left; (· (intro w hSw; (try dsimp only at hSw); go_simp; try with_reducible rfl)); (try simp only [Act.put, sA, sB, sC])
          refine wpAnyH_take (i := 9) (oi := { dst := some 193, op := Op.load 23 (Operand.tmp 192), type := 23, pos := "law.go:160", after := #[{ on := 8, ground := Ground.data }], guard := none }) (v := ?_) rfl (by kernel_rfl) (by kernel_rfl) (by kernel_rfl) (fun _ _ _ h => h) (Or.inl ⟨by rfl, ?_⟩) (by assumption) ?_; rotate_left; (· (intro w hSw; (try dsimp only at hSw); go_simp; try with_reducible rfl)); (try simp only [Act.put, sA, sB, sC])
          refine wpAnyH_take (i := 10) (oi := { dst := some 194, op := Op.move (Operand.tmp 9), type := 49, pos := "law.go:160", after := #[], guard := none }) (v := ?_) rfl (by kernel_rfl) (by kernel_rfl) (by kernel_rfl) (fun _ _ _ h => h) (Or.inl ⟨by rfl, ?_⟩) (by assumption) ?_; rotate_left; (· (intro w hSw; (try dsimp only at hSw); go_simp; try with_reducible rfl)); (try simp only [Act.put, sA, sB, sC])
          refine wpAnyH_take (i := 11) (oi := { dst := some 195, op := Op.move (Operand.tmp 16), type := 3, pos := "law.go:160", after := #[], guard := none }) (v := ?_) rfl (by kernel_rfl) (by kernel_rfl) (by kernel_rfl) (fun _ _ _ h => h) (Or.inl ⟨by rfl, ?_⟩) (by assumption) ?_; rotate_left; (· (intro w hSw; (try dsimp only at hSw); go_simp; try with_reducible rfl)); (try simp only [Act.put, sA, sB, sC])
          refine wpAnyH_take (i := 12) (oi := { dst := some 196, op := Op.indexAddr 49 (Operand.tmp 194) (Operand.tmp 195), type := 0, pos := "law.go:160", after := #[{ on := 10, ground := Ground.data }, { on := 11, ground := Ground.data }], guard := none }) (v := ?_) rfl (by kernel_rfl) (by kernel_rfl) (by kernel_rfl) (fun _ _ _ h => h) (Or.inl ⟨by rfl, ?_⟩) (by assumption) ?_; rotate_left; (· (intro w hSw; (try dsimp only at hSw); go_simp; try with_reducible rfl)); (try simp only [Act.put, sA, sB, sC])
          refine wpAnyH_take (i := 13) (oi := { dst := some 197, op := Op.load 3 (Operand.tmp 196), type := 3, pos := "law.go:160", after := #[{ on := 12, ground := Ground.data }], guard := none }) (v := ?_) rfl (by kernel_rfl) (by kernel_rfl) (by kernel_rfl) (fun _ _ _ h => h) (Or.inl ⟨by rfl, ?_⟩) (by assumption) ?_; rotate_left; (· (intro w hSw; (try dsimp only at hSw); go_simp; try with_reducible rfl)); (try simp only [Act.put, sA, sB, sC])
          refine wpAnyH_take (i := 14) (oi := { dst := some 198, op := Op.indexAddr 23 (Operand.tmp 193) (Operand.tmp 197), type := 0, pos := "law.go:160", after := #[{ on := 9, ground := Ground.data }, { on := 13, ground := Ground.data }], guard := none }) (v := ?_) rfl (by kernel_rfl) (by kernel_rfl) (by kernel_rfl) (fun _ _ _ h => h) (Or.inl ⟨by rfl, ?_⟩) (by assumption) ?_; rotate_left; (· (intro w hSw; (try dsimp only at hSw); go_simp; try with_reducible rfl)); (try simp only [Act.put, sA, sB, sC])
          refine wpAnyH_take (i := 15) (oi := { dst := some 199, op := Op.load 22 (Operand.tmp 198), type := 22, pos := "law.go:160", after := #[{ on := 14, ground := Ground.data }], guard := none }) (v := ?_) rfl (by kernel_rfl) (by kernel_rfl) (by kernel_rfl) (fun _ _ _ h => h) (Or.inl ⟨by rfl, ?_⟩) (by assumption) ?_; rotate_left; (· (intro w hSw; (try dsimp only at hSw); go_simp; try with_reducible rfl)); (try simp only [Act.put, sA, sB, sC])
          refine wpAnyH_ready (rs := [5, 16]) (by kernel_rfl) (by simp) ?_
          refine (AllReadyH.cons (o := { dst := some 189, op := Op.load 23 (Operand.tmp 188), type := 23, pos := "law.go:160", after := #[{ on := 4, ground := Ground.data }], guard := none }) rfl (fun K hK => ?_) (AllReadyH.cons (o := { dst := some 200, op := Op.buildSlice 23 1 #[(0, Operand.tmp 199)], type := 23, pos := "law.go:160", after := #[{ on := 15, ground := Ground.data }], guard := none }) rfl (fun K hK => ?_) AllReadyH.nil))
          ·
           go_simp
           (try (rw [hal1 _ _ (by (repeat' (first | (with_reducible first | exact Below.refl _ _ | assumption | refine Below.setCell ?_ ?_ _ | refine Below.alloc ?_ ?_ _ | refine below_drewN ?_ _ | refine Below.drew ?_) | go_size)))]; go_simp))
           refine hK.out _ _ ?_ (fun hHeld => ?_)
           ·
            (try dsimp only)
            exact HK38.out _ (by (repeat' (first | (exact (show r + 2 ≤ r2 from Nat.le_of_eq HR.out.2.1.symm)) | (with_reducible first | exact Below.refl _ _ | assumption | refine Below.setCell ?_ ?_ _ | refine Below.alloc ?_ ?_ _ | refine below_drewN ?_ _ | refine Below.drew ?_) | go_size | omega)))
           clear hK K; (try simp only [Act.put, sA, sB, sC])
           refine wpAnyH_ready (rs := [16]) (by kernel_rfl) (by simp) ?_
           refine (AllReadyH.cons (o := { dst := some 200, op := Op.buildSlice 23 1 #[(0, Operand.tmp 199)], type := 23, pos := "law.go:160", after := #[{ on := 15, ground := Ground.data }], guard := none }) rfl (fun K hK => ?_) AllReadyH.nil)
           go_simp
           refine hK.out _ _ ?_ (fun hHeld => ?_)
           ·
            (try dsimp only)
            exact HK38.out _ (by (repeat' (first | (exact (show r + 2 ≤ r2 from Nat.le_of_eq HR.out.2.1.symm)) | (with_reducible first | exact Below.refl _ _ | assumption | refine Below.setCell ?_ ?_ _ | refine Below.alloc ?_ ?_ _ | refine below_drewN ?_ _ | refine Below.drew ?_) | go_size | omega)))
           clear hK K; (try simp only [Act.put, sA, sB, sC])
           refine wpAnyH_ready (rs := [17]) (by kernel_rfl) (by simp) ?_
           refine (AllReadyH.cons (o := { dst := some 201, op := Op.call { callee := Callee.builtin Builtin.append, args := #[Operand.tmp 189, Operand.tmp 200], argTypes := #[23, 23] }, type := 23, pos := "law.go:160", after := #[{ on := 5, ground := Ground.data }, { on := 16, ground := Ground.data }], guard := none }) rfl (fun K hK => ?_) AllReadyH.nil)
           refine step_app _ (by rfl) stU64s _ _ (by rfl) (r + 4) (.slice Ag Lg cg) Lg (kv .u64 (ql kx)) (by rfl) (own_below HOW.out (by (repeat' (first | (with_reducible first | exact Below.refl _ _ | assumption | refine Below.setCell ?_ ?_ _ | refine Below.alloc ?_ ?_ _ | refine below_drewN ?_ _ | refine Below.drew ?_) | go_size)))) _ _ 1 [.int .u64 X7] (by rfl) (Sl.lit_at (by simp) rfl (by decide)) (by simp [Value.oneCell']) (by omega) (by have := HLW.out; have := HR.out.2.1; simp; omega) ?_
           intro v9 w9 hown9 hgr9 hat9 hbel9
           obtain ⟨A9, c9, hv9, _, _⟩ := (Sl.of_own hown9).form
           subst hv9
           have HN9 := Lib.hid (HLA9.out w6.drew (by (repeat' (first | (with_reducible first | exact Below.refl _ _ | assumption | refine Below.setCell ?_ ?_ _ | refine Below.alloc ?_ ?_ _ | refine below_drewN ?_ _ | refine Below.drew ?_) | go_size))) w9 _ hown9 hgr9 hat9)
           have h9f : w9.frozen? ⟨r2, kx, none⟩ = false := (hbel9.frozen (p := ⟨r2, kx, none⟩) (by have := HR.out.2.1; show r2 < r + 4; omega)).trans (hal2 _ _ (by (repeat' (first | (with_reducible first | exact Below.refl _ _ | assumption | refine Below.setCell ?_ ?_ _ | refine Below.alloc ?_ ?_ _ | refine below_drewN ?_ _ | refine Below.drew ?_) | go_size))))
           have h9g := (hbel9.cell (p := ⟨r2, kx, none⟩) (by have := HR.out.2.1; show r2 < r + 4; omega)).trans (hal1 _ _ (by (repeat' (first | (with_reducible first | exact Below.refl _ _ | assumption | refine Below.setCell ?_ ?_ _ | refine Below.alloc ?_ ?_ _ | refine below_drewN ?_ _ | refine Below.drew ?_) | go_size))))
           have hb9 : Below (r + 2) w6 w9 := Below.trans (by (repeat' (first | (exact (show r + 2 ≤ r2 from Nat.le_of_eq HR.out.2.1.symm)) | (with_reducible first | exact Below.refl _ _ | assumption | refine Below.setCell ?_ ?_ _ | refine Below.alloc ?_ ?_ _ | refine below_drewN ?_ _ | refine Below.drew ?_) | go_size | omega))) (hbel9.mono (by omega))
           clear hown9 hgr9 hat9 hbel9
           refine hK.out _ _ ?_ (fun hHeld => ?_)
           ·
            (try dsimp only)
            exact HK38.out _ (by (repeat' (first | (exact (show r + 2 ≤ r2 from Nat.le_of_eq HR.out.2.1.symm)) | (with_reducible first | exact Below.refl _ _ | assumption | refine Below.setCell ?_ ?_ _ | refine Below.alloc ?_ ?_ _ | refine below_drewN ?_ _ | refine Below.drew ?_) | go_size | omega)))
           clear hK K; (try simp only [Act.put, sA, sB, sC])
           refine wpAnyH_take (i := 18) (oi := { dst := some 202, op := Op.indexAddr 62 (Operand.tmp 184) (Operand.tmp 185), type := 0, pos := "law.go:160", after := #[{ on := 0, ground := Ground.data }, { on := 1, ground := Ground.data }, { on := 0, ground := Ground.phase }, { on := 1, ground := Ground.phase }, { on := 2, ground := Ground.phase }, { on := 3, ground := Ground.phase }, { on := 4, ground := Ground.phase }, { on := 5, ground := Ground.phase }, { on := 6, ground := Ground.phase }, { on := 7, ground := Ground.phase }, { on := 8, ground := Ground.phase }, { on := 9, ground := Ground.phase }, { on := 10, ground := Ground.phase }, { on := 11, ground := Ground.phase }, { on := 12, ground := Ground.phase }, { on := 13, ground := Ground.phase }, { on := 14, ground := Ground.phase }, { on := 15, ground := Ground.phase }, { on := 16, ground := Ground.phase }, { on := 17, ground := Ground.phase }], guard := none }) (v := ?_) rfl (by kernel_rfl) (by kernel_rfl) (by kernel_rfl) (fun _ _ _ h => h) (Or.inl ⟨by rfl, ?_⟩) (by assumption) ?_; rotate_left; (· (intro w hSw; (try dsimp only at hSw); go_simp; try with_reducible rfl)); (try simp only [Act.put, sA, sB, sC])
           refine wpAnyH_ready (rs := [19]) (by kernel_rfl) (by simp) ?_
           refine (AllReadyH.cons (o := { dst := none, op := Op.store 23 (Operand.tmp 202) (Operand.tmp 201), type := 0, pos := "law.go:160", after := #[{ on := 18, ground := Ground.data }, { on := 17, ground := Ground.data }, { on := 17, ground := Ground.chain }, { on := 0, ground := Ground.phase }, { on := 1, ground := Ground.phase }, { on := 2, ground := Ground.phase }, { on := 3, ground := Ground.phase }, { on := 4, ground := Ground.phase }, { on := 5, ground := Ground.phase }, { on := 6, ground := Ground.phase }, { on := 7, ground := Ground.phase }, { on := 8, ground := Ground.phase }, { on := 9, ground := Ground.phase }, { on := 10, ground := Ground.phase }, { on := 11, ground := Ground.phase }, { on := 12, ground := Ground.phase }, { on := 13, ground := Ground.phase }, { on := 14, ground := Ground.phase }, { on := 15, ground := Ground.phase }, { on := 16, ground := Ground.phase }, { on := 17, ground := Ground.phase }], guard := none }) rfl (fun K hK => ?_) AllReadyH.nil)
           go_simp
           refine hK.out _ _ ?_ (fun hHeld => ?_)
           ·
            (try dsimp only)
            exact HK38.out _ (by (repeat' (first | (exact (show r + 2 ≤ r2 from Nat.le_of_eq HR.out.2.1.symm)) | (with_reducible first | exact Below.refl _ _ | assumption | refine Below.setCell ?_ ?_ _ | refine Below.alloc ?_ ?_ _ | refine below_drewN ?_ _ | refine Below.drew ?_) | go_size | omega)))
           clear hK K; (try simp only [Act.put, sA, sB, sC])
           refine wpAnyH_done (by kernel_rfl) ?_ _
           have HNz0 := HN9.out
           obtain ⟨wz, hwz⟩ : ∃ wz, wz = w9.setCell ⟨r2, kx, none⟩ (.slice A9 (Lg + 1) c9) := ⟨_, rfl⟩
           rw [← hwz] at HNz0 ⊢
           obtain ⟨hRz, hTz⟩ := HNz0
           have HI3 := Lib.hid (HDID.out wz _ hRz hTz)
           have HTM2 := HI3.out.time
           rw [HTM'.out] at HTM2
           have HTM2 := Lib.hid HTM2
           obtain ⟨cnz, fnz⟩ := HRC.out _ _ _ _ _ hRz hnb2
           have caz : wz.cell? ⟨r, kx, none⟩ = some (.int .i64 (A7 : Nat)) := by rw [hwz]; exact hHeld.2.1
           have faz : wz.frozen? ⟨r, kx, none⟩ = false := hRz.ats.frozen kx
           have cwz : wz.cell? ⟨wb, 0, none⟩ = some (.pointer (some ⟨b, 0, none⟩)) := (hTz.cell (p := ⟨wb, 0, none⟩) HWB.out.1 (fun hd => by have := HRO.out.ge hd; have h2 : r ≤ wb := this; have := HWB.out.2; omega)).trans cwb6
           have hn0 : r ≠ r1 := by rw [HR.out.1]; omega
           have hn1 : wb ≠ r1 := by rw [HR.out.1]; have := HWB.out; omega
           have hn2 : wb ≠ r := by have := HWB.out; omega
           rw [← HR.out.1] at HI3 HTM2
           clear hwz hHeld HN9 hRz hTz h9g h9f ck hal1 hal2 HLA9 HOW HRO HVG HLG HKL cwb6 HDID HRC HK38 HP hb9 hatN hu1 hu2
           go_wp2_with (first
            | (go_at_call 27; (with_reducible refine Calls.mono HTM2.out ?_); rintro e wq ⟨rfl, rfl⟩)
            | fail)
           go_roundw
           case rel => exact ⟨i + 1, st, by omega, by go_num, rfl, _, _, _, _, _, _, _, _, _, _, _, T, rfl, HI3⟩
           case measure => simp [intOf]; omega
          ·
           go_simp
           refine hK.out _ _ ?_ (fun hHeld => ?_)
           ·
            (try dsimp only)
            exact HK38.out _ (by (repeat' (first | (exact (show r + 2 ≤ r2 from Nat.le_of_eq HR.out.2.1.symm)) | (with_reducible first | exact Below.refl _ _ | assumption | refine Below.setCell ?_ ?_ _ | refine Below.alloc ?_ ?_ _ | refine below_drewN ?_ _ | refine Below.drew ?_) | go_size | omega)))
           clear hK K; (try simp only [Act.put, sA, sB, sC])
           refine wpAnyH_ready (rs := [5]) (by kernel_rfl) (by simp) ?_
           refine (AllReadyH.cons (o := { dst := some 189, op := Op.load 23 (Operand.tmp 188), type := 23, pos := "law.go:160", after := #[{ on := 4, ground := Ground.data }], guard := none }) rfl (fun K hK => ?_) AllReadyH.nil)
           go_simp
           (try (rw [hal1 _ _ (by (repeat' (first | (with_reducible first | exact Below.refl _ _ | assumption | refine Below.setCell ?_ ?_ _ | refine Below.alloc ?_ ?_ _ | refine below_drewN ?_ _ | refine Below.drew ?_) | go_size)))]; go_simp))
           refine hK.out _ _ ?_ (fun hHeld => ?_)
           ·
            (try dsimp only)
            exact HK38.out _ (by (repeat' (first | (exact (show r + 2 ≤ r2 from Nat.le_of_eq HR.out.2.1.symm)) | (with_reducible first | exact Below.refl _ _ | assumption | refine Below.setCell ?_ ?_ _ | refine Below.alloc ?_ ?_ _ | refine below_drewN ?_ _ | refine Below.drew ?_) | go_size | omega)))
           clear hK K; (try simp only [Act.put, sA, sB, sC])
           refine wpAnyH_ready (rs := [17]) (by kernel_rfl) (by simp) ?_
           refine (AllReadyH.cons (o := { dst := some 201, op := Op.call { callee := Callee.builtin Builtin.append, args := #[Operand.tmp 189, Operand.tmp 200], argTypes := #[23, 23] }, type := 23, pos := "law.go:160", after := #[{ on := 5, ground := Ground.data }, { on := 16, ground := Ground.data }], guard := none }) rfl (fun K hK => ?_) AllReadyH.nil)
           refine step_app _ (by rfl) stU64s _ _ (by rfl) (r + 4) (.slice Ag Lg cg) Lg (kv .u64 (ql kx)) (by rfl) (own_below HOW.out (by (repeat' (first | (with_reducible first | exact Below.refl _ _ | assumption | refine Below.setCell ?_ ?_ _ | refine Below.alloc ?_ ?_ _ | refine below_drewN ?_ _ | refine Below.drew ?_) | go_size)))) _ _ 1 [.int .u64 X7] (by rfl) (Sl.lit_at (by simp) rfl (by decide)) (by simp [Value.oneCell']) (by omega) (by have := HLW.out; have := HR.out.2.1; simp; omega) ?_
           intro v9 w9 hown9 hgr9 hat9 hbel9
           obtain ⟨A9, c9, hv9, _, _⟩ := (Sl.of_own hown9).form
           subst hv9
           have HN9 := Lib.hid (HLA9.out w6.drew (by (repeat' (first | (with_reducible first | exact Below.refl _ _ | assumption | refine Below.setCell ?_ ?_ _ | refine Below.alloc ?_ ?_ _ | refine below_drewN ?_ _ | refine Below.drew ?_) | go_size))) w9 _ hown9 hgr9 hat9)
           have h9f : w9.frozen? ⟨r2, kx, none⟩ = false := (hbel9.frozen (p := ⟨r2, kx, none⟩) (by have := HR.out.2.1; show r2 < r + 4; omega)).trans (hal2 _ _ (by (repeat' (first | (with_reducible first | exact Below.refl _ _ | assumption | refine Below.setCell ?_ ?_ _ | refine Below.alloc ?_ ?_ _ | refine below_drewN ?_ _ | refine Below.drew ?_) | go_size))))
           have h9g := (hbel9.cell (p := ⟨r2, kx, none⟩) (by have := HR.out.2.1; show r2 < r + 4; omega)).trans (hal1 _ _ (by (repeat' (first | (with_reducible first | exact Below.refl _ _ | assumption | refine Below.setCell ?_ ?_ _ | refine Below.alloc ?_ ?_ _ | refine below_drewN ?_ _ | refine Below.drew ?_) | go_size))))
           have hb9 : Below (r + 2) w6 w9 := Below.trans (by (repeat' (first | (exact (show r + 2 ≤ r2 from Nat.le_of_eq HR.out.2.1.symm)) | (with_reducible first | exact Below.refl _ _ | assumption | refine Below.setCell ?_ ?_ _ | refine Below.alloc ?_ ?_ _ | refine below_drewN ?_ _ | refine Below.drew ?_) | go_size | omega))) (hbel9.mono (by omega))
           clear hown9 hgr9 hat9 hbel9
           refine hK.out _ _ ?_ (fun hHeld => ?_)
           ·
            (try dsimp only)
            exact HK38.out _ (by (repeat' (first | (exact (show r + 2 ≤ r2 from Nat.le_of_eq HR.out.2.1.symm)) | (with_reducible first | exact Below.refl _ _ | assumption | refine Below.setCell ?_ ?_ _ | refine Below.alloc ?_ ?_ _ | refine below_drewN ?_ _ | refine Below.drew ?_) | go_size | omega)))
           clear hK K; (try simp only [Act.put, sA, sB, sC])
           refine wpAnyH_take (i := 18) (oi := { dst := some 202, op := Op.indexAddr 62 (Operand.tmp 184) (Operand.tmp 185), type := 0, pos := "law.go:160", after := #[{ on := 0, ground := Ground.data }, { on := 1, ground := Ground.data }, { on := 0, ground := Ground.phase }, { on := 1, ground := Ground.phase }, { on := 2, ground := Ground.phase }, { on := 3, ground := Ground.phase }, { on := 4, ground := Ground.phase }, { on := 5, ground := Ground.phase }, { on := 6, ground := Ground.phase }, { on := 7, ground := Ground.phase }, { on := 8, ground := Ground.phase }, { on := 9, ground := Ground.phase }, { on := 10, ground := Ground.phase }, { on := 11, ground := Ground.phase }, { on := 12, ground := Ground.phase }, { on := 13, ground := Ground.phase }, { on := 14, ground := Ground.phase }, { on := 15, ground := Ground.phase }, { on := 16, ground := Ground.phase }, { on := 17, ground := Ground.phase }], guard := none }) (v := ?_) rfl (by kernel_rfl) (by kernel_rfl) (by kernel_rfl) (fun _ _ _ h => h) (Or.inl ⟨by rfl, ?_⟩) (by assumption) ?_; rotate_left; (· (intro w hSw; (try dsimp only at hSw); go_simp; try with_reducible rfl)); (try simp only [Act.put, sA, sB, sC])
           refine wpAnyH_ready (rs := [19]) (by kernel_rfl) (by simp) ?_
           refine (AllReadyH.cons (o := { dst := none, op := Op.store 23 (Operand.tmp 202) (Operand.tmp 201), type := 0, pos := "law.go:160", after := #[{ on := 18, ground := Ground.data }, { on := 17, ground := Ground.data }, { on := 17, ground := Ground.chain }, { on := 0, ground := Ground.phase }, { on := 1, ground := Ground.phase }, { on := 2, ground := Ground.phase }, { on := 3, ground := Ground.phase }, { on := 4, ground := Ground.phase }, { on := 5, ground := Ground.phase }, { on := 6, ground := Ground.phase }, { on := 7, ground := Ground.phase }, { on := 8, ground := Ground.phase }, { on := 9, ground := Ground.phase }, { on := 10, ground := Ground.phase }, { on := 11, ground := Ground.phase }, { on := 12, ground := Ground.phase }, { on := 13, ground := Ground.phase }, { on := 14, ground := Ground.phase }, { on := 15, ground := Ground.phase }, { on := 16, ground := Ground.phase }, { on := 17, ground := Ground.phase }], guard := none }) rfl (fun K hK => ?_) AllReadyH.nil)
           go_simp
           refine hK.out _ _ ?_ (fun hHeld => ?_)
           ·
            (try dsimp only)
            exact HK38.out _ (by (repeat' (first | (exact (show r + 2 ≤ r2 from Nat.le_of_eq HR.out.2.1.symm)) | (with_reducible first | exact Below.refl _ _ | assumption | refine Below.setCell ?_ ?_ _ | refine Below.alloc ?_ ?_ _ | refine below_drewN ?_ _ | refine Below.drew ?_) | go_size | omega)))
           clear hK K; (try simp only [Act.put, sA, sB, sC])
           refine wpAnyH_done (by kernel_rfl) ?_ _
           have HNz0 := HN9.out
           obtain ⟨wz, hwz⟩ : ∃ wz, wz = w9.setCell ⟨r2, kx, none⟩ (.slice A9 (Lg + 1) c9) := ⟨_, rfl⟩
           rw [← hwz] at HNz0 ⊢
           obtain ⟨hRz, hTz⟩ := HNz0
           have HI3 := Lib.hid (HDID.out wz _ hRz hTz)
           have HTM2 := HI3.out.time
           rw [HTM'.out] at HTM2
           have HTM2 := Lib.hid HTM2
           obtain ⟨cnz, fnz⟩ := HRC.out _ _ _ _ _ hRz hnb2
           have caz : wz.cell? ⟨r, kx, none⟩ = some (.int .i64 (A7 : Nat)) := by rw [hwz]; exact hHeld.2.1
           have faz : wz.frozen? ⟨r, kx, none⟩ = false := hRz.ats.frozen kx
           have cwz : wz.cell? ⟨wb, 0, none⟩ = some (.pointer (some ⟨b, 0, none⟩)) := (hTz.cell (p := ⟨wb, 0, none⟩) HWB.out.1 (fun hd => by have := HRO.out.ge hd; have h2 : r ≤ wb := this; have := HWB.out.2; omega)).trans cwb6
           have hn0 : r ≠ r1 := by rw [HR.out.1]; omega
           have hn1 : wb ≠ r1 := by rw [HR.out.1]; have := HWB.out; omega
           have hn2 : wb ≠ r := by have := HWB.out; omega
           rw [← HR.out.1] at HI3 HTM2
           clear hwz hHeld HN9 hRz hTz h9g h9f ck hal1 hal2 HLA9 HOW HRO HVG HLG HKL cwb6 HDID HRC HK38 HP hb9 hatN hu1 hu2
           go_wp2_with (first
            | (go_at_call 27; (with_reducible refine Calls.mono HTM2.out ?_); rintro e wq ⟨rfl, rfl⟩)
            | fail)
           go_roundw
           case rel => exact ⟨i + 1, st, by omega, by go_num, rfl, _, _, _, _, _, _, _, _, _, _, _, T, rfl, HI3⟩
           case measure => simp [intOf]; omega
         ·
          have hz : decide (a'.stage = 0) = true := decide_eq_true h0
          have HOK := act_Ok ha'
          rw [hok] at HOK
          have HOK := Lib.hid HOK
          obtain ⟨cn6, fn6⟩ := HRC.out _ _ _ _ _ HRO.out hnb2
          obtain ⟨_, hatN⟩ := HP.out.num kx pk hkx hnb2
          have hNm : N kx ≤ 9223372036854775807 := by
           by_cases e : kx < ln
           ·
            obtain ⟨b9, off9, u, hA9, hb9, hcu, hrow⟩ := HLS.out kx e
            obtain ⟨Au, capu, _, hu1, hu2, _⟩ := hrow
            unfold maxLen at hu2
            omega
           ·
            have := HL0.out kx (by omega); omega
          obtain ⟨B7, hB7⟩ : ∃ x, x = at_ kx + 1 := ⟨_, rfl⟩
          have hw7 : wrap64 ((at_ kx : Int) + 1) = (B7 : Int) := by
           rw [show (at_ kx : Int) + 1 = (B7 : Int) by omega]; exact IntWalk.wrap64_in _ (by omega)
          have ca6 : w6.cell? ⟨r, kx, none⟩ = some (.int .i64 (at_ kx : Nat)) := HRO.out.ats.cell (i := kx) hkx
          have fa6 : w6.frozen? ⟨r, kx, none⟩ = false := HRO.out.ats.frozen kx
          have HI3 := Lib.hid (HP.out.putVain hkx hnb2 hw' ha' hq' hal ht hpu hp hqq)
          have HTM2 := HI3.out.time
          have cwz := HI3.out.ln.at_.row.cell (i := 0) (by omega)
          rw [HTM'.out] at HTM2
          rw [← hB7] at HI3 HTM2 cwz
          obtain ⟨A7, hA7⟩ : ∃ x, x = at_ kx := ⟨_, rfl⟩
          rw [← hA7] at ca6 hatN hw7
          rw [← HR.out.1] at HI3 HTM2 cwz
          have HTM2 := Lib.hid HTM2
          have hcwz := Lib.hid cwz
          have hn0 : r ≠ r1 := by rw [HR.out.1]; omega
          have hwbr : wb < r := by have h1 := HP.out.high; have h2 := hw'.gt kx hkx; have h3 := hw'.lane.rlt kx hkx; have h4 := hw'.lane.glt; omega
          have hn1 : wb ≠ r1 := by rw [HR.out.1]; omega
          have hn2 : wb ≠ r := by omega
          clear hsta h0 hok hpu hp hqq hw' ha' hq' hal ht HRO HRC HP hA7 hB7 hatN hNm cwz hwbr
          rw [hz]
          go_wp2_with (first
           | (go_at_call 18; (with_reducible refine Calls.mono HOK.out ?_); rintro e wq ⟨rfl, rfl⟩)
           | (go_at_call 27; (with_reducible refine Calls.mono HTM2.out ?_); rintro e wq ⟨rfl, rfl⟩)
           | fail)
          go_roundw
          case rel => exact ⟨i + 1, st, by omega, by go_num, rfl, _, _, _, _, _, _, _, _, _, _, _, T, rfl, HI3⟩
          case measure => simp [intOf]; omega
     ·
      have d9 : decide ((i : Int) < 1500) = false := by simp; omega
      go_wp2
      go_meet
      exact ⟨i, st, at_, nb, qv, ql, G1, c, m1, p, t, q, pa, T, hi, rfl, rfl, HI⟩
    ·
     go_wp2
     go_meet
     exact ⟨i, st, at_, nb, qv, ql, G1, c, m1, p, t, q, pa, T, hi, rfl, rfl, HI⟩
  case rest =>
   obtain ⟨i, st, at_, nb, qv, ql, G1, c, m1, p, t, q, pa, T, hi, rfl, rfl, HI⟩ := hcut
   clear HI0
   as_aux_lemma =>
    go_wp2
    go_loopw [18] (fun kv wr => ∃ (k i2 : Nat) (nb : Nat → Option Nat) (qv : Nat → Value) (ql : Nat → List Int) (G : Nat → RgS) (m : MemS) (p : Nat → Nat) (q : Nat → List Int) (pa : Nat → AcS), kv = .int .i64 k ∧ k ≤ n ∧ i2 ≤ 1500 + 9 * k ∧ (∀ j', j' < k → nb j' = none) ∧ Hid (LtI W wr wb b lb g cap n v rbs r i2 i st at_ nb qv ql G c m p t q pa T L N)) (fun kv _ => n - (intOf kv).toNat)
    case atStart => exact ⟨0, i, _, _, _, _, _, _, _, _, rfl, by omega, by omega, fun j' hj' => by omega, HI⟩
    case round =>
     clear HI
     obtain ⟨k, i2, nb, qv, ql, G1, m1, p, q, pa, rfl, hk, hi2, hnn, HI⟩ := hrel
     by_cases hkx : k < n
     ·
      have d1 : decide (k < n) = true := by simp; omega
      cases hnb : nb k with
      | none =>
       have cn : wr.cell? ⟨r1, k, none⟩ = some (.pointer none) := by
        have := HI.out.ro.nows.cell (i := k) hkx
        rw [HR.out.1, this]; unfold actV; rw [hnb]; rfl
       cases T with
       | none =>
        have HN1 : Hid (∀ j', j' < k + 1 → nb j' = none) := fun j' hj' => by
         by_cases e : j' = k
         ·
          rw [e]; exact hnb
         ·
          exact hnn j' (by omega)
        clear hnn hnb
        go_wp2
        go_roundw
        case rel => exact ⟨k + 1, i2, _, _, _, _, _, _, _, _, by go_num, by omega, by omega, HN1.out, HI⟩
        case measure => simp [intOf]; omega
       | some x =>
        have HN1 : Hid (∀ j', j' < k + 1 → nb j' = none) := fun j' hj' => by
         by_cases e : j' = k
         ·
          rw [e]; exact hnb
         ·
          exact hnn j' (by omega)
        have hrw9 : r1 < wr.heap.size := by rw [HR.out.1]; exact HI.out.ro.nows.lt
        clear hnn hnb
        go_wp2
        go_loopw [19] (fun jv w9 => jv = .int .i64 (0 : Nat) ∧ Hid (Below wr.heap.size wr w9)) (fun jv _ => 9 - (intOf jv).toNat)
        case atStart => exact ⟨rfl, Below.refl _ _⟩
        case round =>
         obtain ⟨rfl, HB9⟩ := hrel
         have cn9 := (HB9.out.cell (p := ⟨r1, k, none⟩) hrw9).trans cn
         have HI9 := Lib.hid (HI.out.below HB9.out)
         clear cn HI
         go_wp2
         go_roundw
         case rel => exact ⟨k + 1, i2, _, _, _, _, _, _, _, _, by go_num, by omega, by omega, HN1.out, HI9⟩
         case measure => simp [intOf]; omega
      | some pk =>
       have cn : wr.cell? ⟨r1, k, none⟩ = some (.pointer (some ⟨pk, 0, none⟩)) := by
        have := HI.out.ro.nows.cell (i := k) hkx
        rw [HR.out.1, this]; unfold actV; rw [hnb]; rfl
       have hst0 : ∀ pk', nb k = some pk' → 0 + 1 ≤ (pa k).stage := fun pk' e => (HI.out.way hkx e).2.2.2.2.2.1
       clear hnb
       as_aux_lemma =>
        go_wp2
        go_loopw [19] (fun jv wr => ∃ (j i3 : Nat) (nb : Nat → Option Nat) (qv : Nat → Value) (ql : Nat → List Int) (G : Nat → RgS) (m : MemS) (p : Nat → Nat) (q : Nat → List Int) (pa : Nat → AcS), jv = .int .i64 j ∧ j ≤ 9 ∧ i3 ≤ i2 + j ∧ (∀ j', j' < k → nb j' = none) ∧ (∀ pk', nb k = some pk' → j + 1 ≤ (pa k).stage) ∧ Hid (LtI W wr wb b lb g cap n v rbs r i3 i st at_ nb qv ql G c m p t q pa T L N)) (fun jv _ => 9 - (intOf jv).toNat)
        case atStart => exact ⟨0, i2, _, _, _, _, _, _, _, _, rfl, by omega, by omega, hnn, hst0, HI⟩
        case round =>
         obtain ⟨j, i3, nb, qv, ql, G1, m1, p, q, pa, rfl, hj, hi3, hnn, hst, HI⟩ := hrel
         have HNN := Lib.hid hnn
         clear hnn
         cases hnb : nb k with
         | none =>
          have cn : wr.cell? ⟨r1, k, none⟩ = some (.pointer none) := by
           have := HI.out.ro.nows.cell (i := k) hkx
           rw [HR.out.1, this]; unfold actV; rw [hnb]; rfl
          have HN1 : Hid (∀ j', j' < k + 1 → nb j' = none) := fun j' hj' => by
           by_cases e : j' = k
           ·
            rw [e]; exact hnb
           ·
            exact HNN.out j' (by omega)
          clear hst hnb
          by_cases hj9 : j < 9
          ·
           go_wp2
           go_roundw
           case rel => exact ⟨k + 1, i3, _, _, _, _, _, _, _, _, by go_num, by omega, by omega, HN1.out, HI⟩
           case measure => simp [intOf]; omega
          ·
           have d9 : decide ((j : Int) < 9) = false := by simp; omega
           go_wp2
           go_roundw
           case rel => exact ⟨k + 1, i3, _, _, _, _, _, _, _, _, by go_num, by omega, by omega, HN1.out, HI⟩
           case measure => simp [intOf]; omega
         | some pk =>
          obtain ⟨_, _, _, _, _, _, hs4⟩ := HI.out.way hkx hnb
          have hs5 := hst pk hnb
          have d9 : decide ((j : Int) < 9) = true := by simp; omega
          have hj4 : j ≤ 3 := by omega
          obtain ⟨nb2, G2, pa2, hnb2, HNN2, hst2, HP⟩ : ∃ nb2 G2 pa2, nb2 k = some pk ∧ Hid (∀ j', j' < k → nb2 j' = none) ∧ j + 1 ≤ (pa2 k).stage ∧ Hid (LtI W wr wb b lb g cap n v rbs r i3 i st at_ nb2 qv ql G2 c m1 p t q pa2 T L N) := ⟨nb, G1, pa, hnb, HNN, hs5, HI⟩
          have HNN := HNN2
          have HSTG := Lib.hid hst2
          clear hnb hst hs4 hs5 hst2 HNN2 HI
          have cnp : wr.cell? ⟨r1, k, none⟩ = some (.pointer (some ⟨pk, 0, none⟩)) := by
           have := HP.out.ro.nows.cell (i := k) hkx
           rw [HR.out.1, this]; unfold actV; rw [hnb2]; rfl
          have HST := Lib.hid (HP.out.pstep hkx hnb2 (by omega) (by omega))
          go_wp2_with fail
          refine (HST.out).mono ?_
          rintro e w6 ⟨G', m', a', p', q', rfl, hw', ha', hq', hal, ht, hres, hsta⟩
          clear HST cnp
          have HRO := Lib.hid (HP.out.grows hkx hnb2 ht)
          have hrc : ∀ (w : World) (nbx : Nat → Option Nat) (qx : Nat → Value) (qy : Nat → List Int) (ax : Nat → Nat), RoL w r n ax nbx qx qy → nbx k = some pk → w.cell? ⟨r1, k, none⟩ = some (.pointer (some ⟨pk, 0, none⟩)) ∧ w.frozen? ⟨r1, k, none⟩ = false := fun w nbx qx qy ax h e => by
           have := h.nows.cell (i := k) hkx
           rw [HR.out.1]
           exact ⟨by rw [this]; unfold actV; rw [e]; rfl, h.nows.frozen k⟩
          have HRC := Lib.hid hrc
          have cwb6 : w6.cell? ⟨wb, 0, none⟩ = some (.pointer (some ⟨b, 0, none⟩)) := hw'.row.cell (i := 0) (by omega)
          clear hrc
          rcases hres with ⟨h0, hpk, hpu, hp, hqq, hnm⟩ | ⟨h0, hok, hpu, hqq, hp⟩ | ⟨h0, hok, hpu, hp, hqq⟩
          ·
           have hz : decide (a'.stage = 0) = false := decide_eq_false h0
           have HI3 := Lib.hid (HP.out.putting hkx hnb2 hw' ha' hq' hal ht hpu hpk hp hqq hnm)
           have hst9 : ∀ pk', nb2 k = some pk' → j + 1 + 1 ≤ (upd pa2 k a' k).stage := fun pk' _ => by
            rw [upd_same]; have := HSTG.out; omega
           have HS9 := Lib.hid (And.intro HNN.out hst9)
           clear hst9 h0 hpk hpu hp hqq hnm hw' ha' hq' hal ht HRO HRC HP
           rw [hz]
           go_wp2
           go_roundw
           case rel => exact ⟨j + 1, i3 + 1, _, _, _, _, _, _, _, _, by go_num, by omega, by omega, HS9.out.1, HS9.out.2, HI3⟩
           case measure => simp [intOf]; omega
          ·
           have hz : decide (a'.stage = 0) = true := decide_eq_true h0
           have HOK := act_Ok ha'
           rw [hok] at HOK
           have HOK := Lib.hid HOK
           obtain ⟨cn6, fn6⟩ := HRC.out _ _ _ _ _ HRO.out hnb2
           obtain ⟨_, hatN⟩ := HP.out.num k pk hkx hnb2
           have hkl : k < ln := by
            by_cases e : k < ln
            ·
             exact e
            ·
             have := HL0.out k (by omega); omega
           have B6 := HP.out.pbel hkx hnb2 ht
           obtain ⟨b9, off9, u, hA9, hb9, hcu, hrow⟩ := HLS.out k hkl
           cases hA9
           obtain ⟨Au, capu, rfl, hu1, hu2, hucell⟩ := hrow
           unfold maxLen at hu2
           obtain ⟨bu, ou, rfl, hbu, hcells⟩ := hucell (by omega)
           have clu := (B6.cell (p := ⟨b9, off9 + k, none⟩) hb9).trans hcu
           have clx := (B6.cell (p := ⟨bu, ou + at_ k, none⟩) hbu).trans (hcells (at_ k) hatN)
           have ca6 : w6.cell? ⟨r, k, none⟩ = some (.int .i64 (at_ k : Nat)) := HRO.out.ats.cell (i := k) hkx
           have hrs : r < w6.heap.size := HRO.out.ats.lt
           have hwr : W.heap.size ≤ r := by have := HP.out.high; have := (HP.out.ln.lows (x := lb) (.inr (.inr rfl))).1; omega
           have HWB : Hid (wb < w6.heap.size ∧ wb < r) := ⟨hw'.row.lt, by have h1 := HP.out.high; have h2 := hw'.gt k hkx; have h3 := hw'.lane.rlt k hkx; have h4 := hw'.lane.glt; omega⟩
           have hsz2 : r + 2 ≤ w6.heap.size := Nat.le_of_lt HRO.out.pc.lt
           have hrs4 : r3 < w6.heap.size ∧ r2 < w6.heap.size := by rw [HR.out.2.2, HR.out.2.1]; exact ⟨HRO.out.gc.lt, HRO.out.pc.lt⟩
           have HDID := Lib.hid (fun (wz : World) (v' : Value) hr htz => HP.out.endDid hkx hnb2 hw' ha' hq' hal ht hpu hp hqq (wz := wz) (v' := v') hr htz)
           have hlg := (HP.out.len2 hkx).1
           obtain ⟨Ag, cg, hvg, hgc, hgm⟩ := (Sl.of_own (HRO.out.own k (by omega))).form
           have HVG := Lib.hid hvg
           obtain ⟨Lg, hLg⟩ : ∃ l, l = (ql k).length := ⟨_, rfl⟩
           have HLG := Lib.hid hLg
           obtain ⟨B7, hB7⟩ : ∃ x, x = at_ k + 1 := ⟨_, rfl⟩
           have hw7 : wrap64 ((at_ k : Int) + 1) = (B7 : Int) := by
            rw [show (at_ k : Int) + 1 = (B7 : Int) by omega]; exact IntWalk.wrap64_in _ (by omega)
           skip
           obtain ⟨A7, hA7⟩ : ∃ x, x = at_ k := ⟨_, rfl⟩
           obtain ⟨N7, hN7⟩ : ∃ x, x = N k := ⟨_, rfl⟩
           obtain ⟨X7, hX7⟩ : ∃ x, x = L k (at_ k) := ⟨_, rfl⟩
           rw [← hX7] at clx HDID
           rw [← hA7] at ca6 clx hatN hw7
           rw [← hN7] at clu hu1 hatN
           have ck : w6.cell? ⟨r2, k, none⟩ = some (.slice Ag Lg cg) := by
            have := HRO.out.pc.cell (i := k) hkx
            rw [hvg, ← hLg, ← HR.out.2.1] at this
            exact this
           have cf : w6.frozen? ⟨r2, k, none⟩ = false := by rw [HR.out.2.1]; exact HRO.out.pc.frozen k
           rw [← hLg] at hlg hgc
           unfold maxLen at hgm
           have HOW : Hid (w6.ownsRow (r + 4) 22 1 (.slice Ag Lg cg) Lg (kv .u64 (ql k))) := by
            have := HRO.out.own k (by omega)
            rw [hvg, ← hLg] at this
            exact this
           have HKL : Hid ((ql k ++ [X7]).length = Lg + 1 ∧ kv .u64 (ql k ++ [X7]) = kv .u64 (ql k) ++ [.int .u64 X7]) := ⟨by rw [hLg]; simp, by simp [kv]⟩
           have HLW : Hid (r2 < w6.heap.size) := hrs4.2
           have HK38 : Hid (∀ w', Below (r + 2) w6 w' → w'.cell? ⟨b9, off9 + k, none⟩ = some (.slice (some ⟨bu, ou, none⟩) N7 capu) ∧ w'.cell? ⟨r, k, none⟩ = some (.int .i64 (A7 : Nat)) ∧ w'.cell? ⟨bu, ou + A7, none⟩ = some (.int .u64 X7)) := fun w' hb => ⟨(hb.cell (p := ⟨b9, off9 + k, none⟩) (by show b9 < _; omega)).trans clu, (hb.cell (p := ⟨r, k, none⟩) (by show r < _; omega)).trans ca6, (hb.cell (p := ⟨bu, ou + A7, none⟩) (by show bu < _; omega)).trans clx⟩
           have HLA9 : Hid (∀ w7, Below w6.heap.size w6 w7 → ∀ w9 v9, w9.ownsRow (r + 4) 22 1 v9 (Lg + 1) (kv .u64 (ql k) ++ [.int .u64 X7]) → (w7.alloc (.cells #[.int .u64 X7] 22)).grownBy w9 (Value.slice Ag Lg cg).ownBlock → (v9.ownBlock = (Value.slice Ag Lg cg).ownBlock ∨ v9.ownBlock = some (w7.alloc (.cells #[.int .u64 X7] 22)).heap.size) → RoL (w9.setCell ⟨r2, k, none⟩ v9) r n at_ nb2 (upd qv k v9) (upd ql k (ql k ++ [X7])) ∧ Tch (RoD r n qv) w6 (w9.setCell ⟨r2, k, none⟩ v9)) := fun w7 hb w9 v9 a1 a2 a3 => by
            obtain ⟨y1, y2⟩ := (HRO.out.below hb).app (k := k) (by omega) (l' := ql k ++ [X7]) (by rw [HKL.out.1, HKL.out.2]; exact a1) (by rw [HVG.out, ← HLG.out]; exact a2) (by rw [HVG.out, ← HLG.out]; exact a3) (x := r2) (y := k) (.inl ⟨hkx, HR.out.2.1, rfl⟩)
            exact ⟨y1, (Tch.of_below hb).trans y2⟩
           have hal1 : ∀ w7 o, Below w6.heap.size w6 w7 → (w7.alloc o).cell? ⟨r2, k, none⟩ = some (.slice Ag Lg cg) := fun w7 o hb => (((hb.alloc hb.size o)).cell (p := ⟨r2, k, none⟩) HLW.out).trans ck
           have hal2 : ∀ w7 o, Below w6.heap.size w6 w7 → (w7.alloc o).frozen? ⟨r2, k, none⟩ = false := fun w7 o hb => (((hb.alloc hb.size o)).frozen (p := ⟨r2, k, none⟩) HLW.out).trans cf
           clear hsta h0 hok hpu hp hqq hw' ha' hq' hal ht hvg hLg hA7 hN7 hX7 hB7 hcells hucell hcu B6 cf
           rw [hz]
           go_wp2_with (first
            | (go_at_call 18; (with_reducible refine Calls.mono HOK.out ?_); rintro e wq ⟨rfl, rfl⟩)
            | fail)
           clear HOK
           refine wp_region_held_drew (S := fun w' => w'.cell? ⟨b9, off9 + k, none⟩ = some (.slice (some ⟨bu, ou, none⟩) N7 capu) ∧ w'.cell? ⟨r, k, none⟩ = some (.int .i64 (A7 : Nat)) ∧ w'.cell? ⟨bu, ou + A7, none⟩ = some (.int .u64 X7)) (by kernel_rfl) ?_ (fun hHeld => ?_)
           ·
            exact HK38.out _ (by (repeat' (first | (exact (show r + 2 ≤ r2 from Nat.le_of_eq HR.out.2.1.symm)) | (with_reducible first | exact Below.refl _ _ | assumption | refine Below.setCell ?_ ?_ _ | refine Below.alloc ?_ ?_ _ | refine below_drewN ?_ _ | refine Below.drew ?_) | go_size | omega)))
           refine wpAnyH_take (i := 0) (oi := { dst := some 255, op := Op.move (Operand.tmp 11), type := 62, pos := "law.go:176", after := #[], guard := none }) (v := ?_) rfl (by kernel_rfl) (by kernel_rfl) (by kernel_rfl) (fun _ _ _ h => h) (Or.inl ⟨by rfl, ?_⟩) (by assumption) ?_; rotate_left; (· (intro w hSw; (try dsimp only at hSw); go_simp; try with_reducible rfl)); (try simp only [Act.put, sA, sB, sC])
           refine wpAnyH_take (i := 1) (oi := { dst := some 256, op := Op.move (Operand.tmp 18), type := 3, pos := "law.go:176", after := #[], guard := none }) (v := ?_) rfl (by kernel_rfl) (by kernel_rfl) (by kernel_rfl) (fun _ _ _ h => h) (Or.inl ⟨by rfl, ?_⟩) (by assumption) ?_; rotate_left; (· (intro w hSw; (try dsimp only at hSw); go_simp; try with_reducible rfl)); (try simp only [Act.put, sA, sB, sC])
           refine wpAnyH_take (i := 2) (oi := { dst := some 257, op := Op.move (Operand.tmp 11), type := 62, pos := "law.go:176", after := #[], guard := none }) (v := ?_) rfl (by kernel_rfl) (by kernel_rfl) (by kernel_rfl) (fun _ _ _ h => h) (Or.inl ⟨by rfl, ?_⟩) (by assumption) ?_; rotate_left; (· (intro w hSw; (try dsimp only at hSw); go_simp; try with_reducible rfl)); (try simp only [Act.put, sA, sB, sC])
           refine wpAnyH_take (i := 3) (oi := { dst := some 258, op := Op.move (Operand.tmp 18), type := 3, pos := "law.go:176", after := #[], guard := none }) (v := ?_) rfl (by kernel_rfl) (by kernel_rfl) (by kernel_rfl) (fun _ _ _ h => h) (Or.inl ⟨by rfl, ?_⟩) (by assumption) ?_; rotate_left; (· (intro w hSw; (try dsimp only at hSw); go_simp; try with_reducible rfl)); (try simp only [Act.put, sA, sB, sC])
           refine wpAnyH_take (i := 4) (oi := { dst := some 259, op := Op.indexAddr 62 (Operand.tmp 257) (Operand.tmp 258), type := 0, pos := "law.go:176", after := #[{ on := 2, ground := Ground.data }, { on := 3, ground := Ground.data }], guard := none }) (v := ?_) rfl (by kernel_rfl) (by kernel_rfl) (by kernel_rfl) (fun _ _ _ h => h) (Or.inl ⟨by rfl, ?_⟩) (by assumption) ?_; rotate_left; (· (intro w hSw; (try dsimp only at hSw); go_simp; try with_reducible rfl)); (try simp only [Act.put, sA, sB, sC])
           refine wpAnyH_take (i := 6) (oi := { dst := some 261, op := Op.move (Operand.tmp 1), type := 62, pos := "law.go:176", after := #[], guard := none }) (v := ?_) rfl (by kernel_rfl) (by kernel_rfl) (by kernel_rfl) (fun _ _ _ h => h) (Or.inl ⟨by rfl, ?_⟩) (by assumption) ?_; rotate_left; (· (intro w hSw; (try dsimp only at hSw); go_simp; try with_reducible rfl)); (try simp only [Act.put, sA, sB, sC])
           refine wpAnyH_take (i := 7) (oi := { dst := some 262, op := Op.move (Operand.tmp 18), type := 3, pos := "law.go:176", after := #[], guard := none }) (v := ?_) rfl (by kernel_rfl) (by kernel_rfl) (by kernel_rfl) (fun _ _ _ h => h) (Or.inl ⟨by rfl, ?_⟩) (by assumption) ?_; rotate_left; (· (intro w hSw; (try dsimp only at hSw); go_simp; try with_reducible rfl)); (try simp only [Act.put, sA, sB, sC])
           refine wpAnyH_take (i := 8) (oi := { dst := some 263, op := Op.indexAddr 62 (Operand.tmp 261) (Operand.tmp 262), type := 0, pos := "law.go:176", after := #[{ on := 6, ground := Ground.data }, { on := 7, ground := Ground.data }], guard := none }) (v := ?_) rfl (by kernel_rfl) (by kernel_rfl) (by kernel_rfl) (fun _ _ _ h => h) (Or.inl ⟨by rfl, ?_⟩) (by assumption) ?_; rotate_left; (· (intro w hSw; (try dsimp only at hSw); go_simp; try with_reducible rfl)); (try simp only [Act.put, sA, sB, sC])
           refine wpAnyH_take (i := 9) (oi := { dst := some 264, op := Op.load 23 (Operand.tmp 263), type := 23, pos := "law.go:176", after := #[{ on := 8, ground := Ground.data }], guard := none }) (v := ?_) rfl (by kernel_rfl) (by kernel_rfl) (by kernel_rfl) (fun _ _ _ h => h) (Or.inl ⟨by rfl, ?_⟩) (by assumption) ?_; rotate_left; (· (intro w hSw; (try dsimp only at hSw); go_simp; try with_reducible rfl)); (try simp only [Act.put, sA, sB, sC])
           refine wpAnyH_take (i := 10) (oi := { dst := some 265, op := Op.move (Operand.tmp 9), type := 49, pos := "law.go:176", after := #[], guard := none }) (v := ?_) rfl (by kernel_rfl) (by kernel_rfl) (by kernel_rfl) (fun _ _ _ h => h) (Or.inl ⟨by rfl, ?_⟩) (by assumption) ?_; rotate_left; (· (intro w hSw; (try dsimp only at hSw); go_simp; try with_reducible rfl)); (try simp only [Act.put, sA, sB, sC])
           refine wpAnyH_take (i := 11) (oi := { dst := some 266, op := Op.move (Operand.tmp 18), type := 3, pos := "law.go:176", after := #[], guard := none }) (v := ?_) rfl (by kernel_rfl) (by kernel_rfl) (by kernel_rfl) (fun _ _ _ h => h) (Or.inl ⟨by rfl, ?_⟩) (by assumption) ?_; rotate_left; (· (intro w hSw; (try dsimp only at hSw); go_simp; try with_reducible rfl)); (try simp only [Act.put, sA, sB, sC])
           refine wpAnyH_take (i := 12) (oi := { dst := some 267, op := Op.indexAddr 49 (Operand.tmp 265) (Operand.tmp 266), type := 0, pos := "law.go:176", after := #[{ on := 10, ground := Ground.data }, { on := 11, ground := Ground.data }], guard := none }) (v := ?_) rfl (by kernel_rfl) (by kernel_rfl) (by kernel_rfl) (fun _ _ _ h => h) (Or.inl ⟨by rfl, ?_⟩) (by assumption) ?_; rotate_left; (· (intro w hSw; (try dsimp only at hSw); go_simp; try with_reducible rfl)); (try simp only [Act.put, sA, sB, sC])
           refine wpAnyH_take (i := 13) (oi := { dst := some 268, op := Op.load 3 (Operand.tmp 267), type := 3, pos := "law.go:176", after := #[{ on := 12, ground := Ground.data }], guard := none }) (v := ?_) rfl (by kernel_rfl) (by kernel_rfl) (by kernel_rfl) (fun _ _ _ h => h) (Or.inl ⟨by rfl, ?_⟩) (by assumption) ?_; rotate_left; (· (intro w hSw; (try dsimp only at hSw); go_simp; try with_reducible rfl)); (try simp only [Act.put, sA, sB, sC])
           refine wpAnyH_take (i := 14) (oi := { dst := some 269, op := Op.indexAddr 23 (Operand.tmp 264) (Operand.tmp 268), type := 0, pos := "law.go:176", after := #[{ on := 9, ground := Ground.data }, { on := 13, ground := Ground.data }], guard := none }) (v := ?_) rfl (by kernel_rfl) (by kernel_rfl) (by kernel_rfl) (fun _ _ _ h => h) (Or.inl ⟨by rfl, ?_⟩) (by assumption) ?_; rotate_left; (· (intro w hSw; (try dsimp only at hSw); go_simp; try with_reducible rfl)); (try simp only [Act.put, sA, sB, sC])
           refine wpAnyH_take (i := 15) (oi := { dst := some 270, op := Op.load 22 (Operand.tmp 269), type := 22, pos := "law.go:176", after := #[{ on := 14, ground := Ground.data }], guard := none }) (v := ?_) rfl (by kernel_rfl) (by kernel_rfl) (by kernel_rfl) (fun _ _ _ h => h) (Or.inl ⟨by rfl, ?_⟩) (by assumption) ?_; rotate_left; (· (intro w hSw; (try dsimp only at hSw); go_simp; try with_reducible rfl)); (try simp only [Act.put, sA, sB, sC])
           refine wpAnyH_ready (rs := [5, 16]) (by kernel_rfl) (by simp) ?_
           refine (AllReadyH.cons (o := { dst := some 260, op := Op.load 23 (Operand.tmp 259), type := 23, pos := "law.go:176", after := #[{ on := 4, ground := Ground.data }], guard := none }) rfl (fun K hK => ?_) (AllReadyH.cons (o := { dst := some 271, op := Op.buildSlice 23 1 #[(0, Operand.tmp 270)], type := 23, pos := "law.go:176", after := #[{ on := 15, ground := Ground.data }], guard := none }) rfl (fun K hK => ?_) AllReadyH.nil))
           ·
            go_simp
            (try (rw [hal1 _ _ (by (repeat' (first | (with_reducible first | exact Below.refl _ _ | assumption | refine Below.setCell ?_ ?_ _ | refine Below.alloc ?_ ?_ _ | refine below_drewN ?_ _ | refine Below.drew ?_) | go_size)))]; go_simp))
            refine hK.out _ _ ?_ (fun hHeld => ?_)
            ·
             (try dsimp only)
             exact HK38.out _ (by (repeat' (first | (exact (show r + 2 ≤ r2 from Nat.le_of_eq HR.out.2.1.symm)) | (with_reducible first | exact Below.refl _ _ | assumption | refine Below.setCell ?_ ?_ _ | refine Below.alloc ?_ ?_ _ | refine below_drewN ?_ _ | refine Below.drew ?_) | go_size | omega)))
            clear hK K; (try simp only [Act.put, sA, sB, sC])
            refine wpAnyH_ready (rs := [16]) (by kernel_rfl) (by simp) ?_
            refine (AllReadyH.cons (o := { dst := some 271, op := Op.buildSlice 23 1 #[(0, Operand.tmp 270)], type := 23, pos := "law.go:176", after := #[{ on := 15, ground := Ground.data }], guard := none }) rfl (fun K hK => ?_) AllReadyH.nil)
            go_simp
            refine hK.out _ _ ?_ (fun hHeld => ?_)
            ·
             (try dsimp only)
             exact HK38.out _ (by (repeat' (first | (exact (show r + 2 ≤ r2 from Nat.le_of_eq HR.out.2.1.symm)) | (with_reducible first | exact Below.refl _ _ | assumption | refine Below.setCell ?_ ?_ _ | refine Below.alloc ?_ ?_ _ | refine below_drewN ?_ _ | refine Below.drew ?_) | go_size | omega)))
            clear hK K; (try simp only [Act.put, sA, sB, sC])
            refine wpAnyH_ready (rs := [17]) (by kernel_rfl) (by simp) ?_
            refine (AllReadyH.cons (o := { dst := some 272, op := Op.call { callee := Callee.builtin Builtin.append, args := #[Operand.tmp 260, Operand.tmp 271], argTypes := #[23, 23] }, type := 23, pos := "law.go:176", after := #[{ on := 5, ground := Ground.data }, { on := 16, ground := Ground.data }], guard := none }) rfl (fun K hK => ?_) AllReadyH.nil)
            refine step_app _ (by rfl) stU64s _ _ (by rfl) (r + 4) (.slice Ag Lg cg) Lg (kv .u64 (ql k)) (by rfl) (own_below HOW.out (by (repeat' (first | (with_reducible first | exact Below.refl _ _ | assumption | refine Below.setCell ?_ ?_ _ | refine Below.alloc ?_ ?_ _ | refine below_drewN ?_ _ | refine Below.drew ?_) | go_size)))) _ _ 1 [.int .u64 X7] (by rfl) (Sl.lit_at (by simp) rfl (by decide)) (by simp [Value.oneCell']) (by omega) (by have := HLW.out; have := HR.out.2.1; simp; omega) ?_
            intro v9 w9 hown9 hgr9 hat9 hbel9
            obtain ⟨A9, c9, hv9, _, _⟩ := (Sl.of_own hown9).form
            subst hv9
            have HN9 := Lib.hid (HLA9.out w6.drew (by (repeat' (first | (with_reducible first | exact Below.refl _ _ | assumption | refine Below.setCell ?_ ?_ _ | refine Below.alloc ?_ ?_ _ | refine below_drewN ?_ _ | refine Below.drew ?_) | go_size))) w9 _ hown9 hgr9 hat9)
            have h9f : w9.frozen? ⟨r2, k, none⟩ = false := (hbel9.frozen (p := ⟨r2, k, none⟩) (by have := HR.out.2.1; show r2 < r + 4; omega)).trans (hal2 _ _ (by (repeat' (first | (with_reducible first | exact Below.refl _ _ | assumption | refine Below.setCell ?_ ?_ _ | refine Below.alloc ?_ ?_ _ | refine below_drewN ?_ _ | refine Below.drew ?_) | go_size))))
            have h9g := (hbel9.cell (p := ⟨r2, k, none⟩) (by have := HR.out.2.1; show r2 < r + 4; omega)).trans (hal1 _ _ (by (repeat' (first | (with_reducible first | exact Below.refl _ _ | assumption | refine Below.setCell ?_ ?_ _ | refine Below.alloc ?_ ?_ _ | refine below_drewN ?_ _ | refine Below.drew ?_) | go_size))))
            have hb9 : Below (r + 2) w6 w9 := Below.trans (by (repeat' (first | (exact (show r + 2 ≤ r2 from Nat.le_of_eq HR.out.2.1.symm)) | (with_reducible first | exact Below.refl _ _ | assumption | refine Below.setCell ?_ ?_ _ | refine Below.alloc ?_ ?_ _ | refine below_drewN ?_ _ | refine Below.drew ?_) | go_size | omega))) (hbel9.mono (by omega))
            clear hown9 hgr9 hat9 hbel9
            refine hK.out _ _ ?_ (fun hHeld => ?_)
            ·
             (try dsimp only)
             exact HK38.out _ (by (repeat' (first | (exact (show r + 2 ≤ r2 from Nat.le_of_eq HR.out.2.1.symm)) | (with_reducible first | exact Below.refl _ _ | assumption | refine Below.setCell ?_ ?_ _ | refine Below.alloc ?_ ?_ _ | refine below_drewN ?_ _ | refine Below.drew ?_) | go_size | omega)))
            clear hK K; (try simp only [Act.put, sA, sB, sC])
            refine wpAnyH_take (i := 18) (oi := { dst := some 273, op := Op.indexAddr 62 (Operand.tmp 255) (Operand.tmp 256), type := 0, pos := "law.go:176", after := #[{ on := 0, ground := Ground.data }, { on := 1, ground := Ground.data }, { on := 0, ground := Ground.phase }, { on := 1, ground := Ground.phase }, { on := 2, ground := Ground.phase }, { on := 3, ground := Ground.phase }, { on := 4, ground := Ground.phase }, { on := 5, ground := Ground.phase }, { on := 6, ground := Ground.phase }, { on := 7, ground := Ground.phase }, { on := 8, ground := Ground.phase }, { on := 9, ground := Ground.phase }, { on := 10, ground := Ground.phase }, { on := 11, ground := Ground.phase }, { on := 12, ground := Ground.phase }, { on := 13, ground := Ground.phase }, { on := 14, ground := Ground.phase }, { on := 15, ground := Ground.phase }, { on := 16, ground := Ground.phase }, { on := 17, ground := Ground.phase }], guard := none }) (v := ?_) rfl (by kernel_rfl) (by kernel_rfl) (by kernel_rfl) (fun _ _ _ h => h) (Or.inl ⟨by rfl, ?_⟩) (by assumption) ?_; rotate_left; (· (intro w hSw; (try dsimp only at hSw); go_simp; try with_reducible rfl)); (try simp only [Act.put, sA, sB, sC])
            refine wpAnyH_ready (rs := [19]) (by kernel_rfl) (by simp) ?_
            refine (AllReadyH.cons (o := { dst := none, op := Op.store 23 (Operand.tmp 273) (Operand.tmp 272), type := 0, pos := "law.go:176", after := #[{ on := 18, ground := Ground.data }, { on := 17, ground := Ground.data }, { on := 17, ground := Ground.chain }, { on := 0, ground := Ground.phase }, { on := 1, ground := Ground.phase }, { on := 2, ground := Ground.phase }, { on := 3, ground := Ground.phase }, { on := 4, ground := Ground.phase }, { on := 5, ground := Ground.phase }, { on := 6, ground := Ground.phase }, { on := 7, ground := Ground.phase }, { on := 8, ground := Ground.phase }, { on := 9, ground := Ground.phase }, { on := 10, ground := Ground.phase }, { on := 11, ground := Ground.phase }, { on := 12, ground := Ground.phase }, { on := 13, ground := Ground.phase }, { on := 14, ground := Ground.phase }, { on := 15, ground := Ground.phase }, { on := 16, ground := Ground.phase }, { on := 17, ground := Ground.phase }], guard := none }) rfl (fun K hK => ?_) AllReadyH.nil)
            go_simp
            refine hK.out _ _ ?_ (fun hHeld => ?_)
            ·
             (try dsimp only)
             exact HK38.out _ (by (repeat' (first | (exact (show r + 2 ≤ r2 from Nat.le_of_eq HR.out.2.1.symm)) | (with_reducible first | exact Below.refl _ _ | assumption | refine Below.setCell ?_ ?_ _ | refine Below.alloc ?_ ?_ _ | refine below_drewN ?_ _ | refine Below.drew ?_) | go_size | omega)))
            clear hK K; (try simp only [Act.put, sA, sB, sC])
            refine wpAnyH_done (by kernel_rfl) ?_ _
            have HNz0 := HN9.out
            obtain ⟨wz, hwz⟩ : ∃ wz, wz = w9.setCell ⟨r2, k, none⟩ (.slice A9 (Lg + 1) c9) := ⟨_, rfl⟩
            rw [← hwz] at HNz0 ⊢
            obtain ⟨hRz, hTz⟩ := HNz0
            have HI3 := Lib.hid (HDID.out wz _ hRz hTz)
            obtain ⟨cnz, fnz⟩ := HRC.out _ _ _ _ _ hRz hnb2
            have caz : wz.cell? ⟨r, k, none⟩ = some (.int .i64 (A7 : Nat)) := by rw [hwz]; exact hHeld.2.1
            have faz : wz.frozen? ⟨r, k, none⟩ = false := hRz.ats.frozen k
            have cwz : wz.cell? ⟨wb, 0, none⟩ = some (.pointer (some ⟨b, 0, none⟩)) := (hTz.cell (p := ⟨wb, 0, none⟩) HWB.out.1 (fun hd => by have := HRO.out.ge hd; have h2 : r ≤ wb := this; have := HWB.out.2; omega)).trans cwb6
            have hn0 : r ≠ r1 := by rw [HR.out.1]; omega
            have hn1 : wb ≠ r1 := by rw [HR.out.1]; have := HWB.out; omega
            have hn2 : wb ≠ r := by have := HWB.out; omega
            rw [← HR.out.1] at HI3
            clear hwz hHeld HN9 hRz hTz h9g h9f ck hal1 hal2 HLA9 HOW HRO HVG HLG HKL cwb6 HDID HRC HK38 HP hb9 hatN hu1 hu2
            have hst9 : ∀ pk', upd nb2 k none k = some pk' → j + 1 + 1 ≤ (upd pa2 k a' k).stage := fun pk' e => by
             rw [upd_same] at e; cases e
            have hnn9 : ∀ j', j' < k → upd nb2 k none j' = none := fun j' hj' => by rw [upd_other _ (by omega)]; exact HNN.out j' hj'
            have HS9 := Lib.hid (And.intro hnn9 hst9)
            clear hst9 hnn9
            (try go_wp2)
            go_roundw
            case rel => exact ⟨j + 1, i3 + 1, _, _, _, _, _, _, _, _, by go_num, by omega, by omega, HS9.out.1, HS9.out.2, HI3⟩
            case measure => simp [intOf]; omega
           ·
            go_simp
            refine hK.out _ _ ?_ (fun hHeld => ?_)
            ·
             (try dsimp only)
             exact HK38.out _ (by (repeat' (first | (exact (show r + 2 ≤ r2 from Nat.le_of_eq HR.out.2.1.symm)) | (with_reducible first | exact Below.refl _ _ | assumption | refine Below.setCell ?_ ?_ _ | refine Below.alloc ?_ ?_ _ | refine below_drewN ?_ _ | refine Below.drew ?_) | go_size | omega)))
            clear hK K; (try simp only [Act.put, sA, sB, sC])
            refine wpAnyH_ready (rs := [5]) (by kernel_rfl) (by simp) ?_
            refine (AllReadyH.cons (o := { dst := some 260, op := Op.load 23 (Operand.tmp 259), type := 23, pos := "law.go:176", after := #[{ on := 4, ground := Ground.data }], guard := none }) rfl (fun K hK => ?_) AllReadyH.nil)
            go_simp
            (try (rw [hal1 _ _ (by (repeat' (first | (with_reducible first | exact Below.refl _ _ | assumption | refine Below.setCell ?_ ?_ _ | refine Below.alloc ?_ ?_ _ | refine below_drewN ?_ _ | refine Below.drew ?_) | go_size)))]; go_simp))
            refine hK.out _ _ ?_ (fun hHeld => ?_)
            ·
             (try dsimp only)
             exact HK38.out _ (by (repeat' (first | (exact (show r + 2 ≤ r2 from Nat.le_of_eq HR.out.2.1.symm)) | (with_reducible first | exact Below.refl _ _ | assumption | refine Below.setCell ?_ ?_ _ | refine Below.alloc ?_ ?_ _ | refine below_drewN ?_ _ | refine Below.drew ?_) | go_size | omega)))
            clear hK K; (try simp only [Act.put, sA, sB, sC])
            refine wpAnyH_ready (rs := [17]) (by kernel_rfl) (by simp) ?_
            refine (AllReadyH.cons (o := { dst := some 272, op := Op.call { callee := Callee.builtin Builtin.append, args := #[Operand.tmp 260, Operand.tmp 271], argTypes := #[23, 23] }, type := 23, pos := "law.go:176", after := #[{ on := 5, ground := Ground.data }, { on := 16, ground := Ground.data }], guard := none }) rfl (fun K hK => ?_) AllReadyH.nil)
            refine step_app _ (by rfl) stU64s _ _ (by rfl) (r + 4) (.slice Ag Lg cg) Lg (kv .u64 (ql k)) (by rfl) (own_below HOW.out (by (repeat' (first | (with_reducible first | exact Below.refl _ _ | assumption | refine Below.setCell ?_ ?_ _ | refine Below.alloc ?_ ?_ _ | refine below_drewN ?_ _ | refine Below.drew ?_) | go_size)))) _ _ 1 [.int .u64 X7] (by rfl) (Sl.lit_at (by simp) rfl (by decide)) (by simp [Value.oneCell']) (by omega) (by have := HLW.out; have := HR.out.2.1; simp; omega) ?_
            intro v9 w9 hown9 hgr9 hat9 hbel9
            obtain ⟨A9, c9, hv9, _, _⟩ := (Sl.of_own hown9).form
            subst hv9
            have HN9 := Lib.hid (HLA9.out w6.drew (by (repeat' (first | (with_reducible first | exact Below.refl _ _ | assumption | refine Below.setCell ?_ ?_ _ | refine Below.alloc ?_ ?_ _ | refine below_drewN ?_ _ | refine Below.drew ?_) | go_size))) w9 _ hown9 hgr9 hat9)
            have h9f : w9.frozen? ⟨r2, k, none⟩ = false := (hbel9.frozen (p := ⟨r2, k, none⟩) (by have := HR.out.2.1; show r2 < r + 4; omega)).trans (hal2 _ _ (by (repeat' (first | (with_reducible first | exact Below.refl _ _ | assumption | refine Below.setCell ?_ ?_ _ | refine Below.alloc ?_ ?_ _ | refine below_drewN ?_ _ | refine Below.drew ?_) | go_size))))
            have h9g := (hbel9.cell (p := ⟨r2, k, none⟩) (by have := HR.out.2.1; show r2 < r + 4; omega)).trans (hal1 _ _ (by (repeat' (first | (with_reducible first | exact Below.refl _ _ | assumption | refine Below.setCell ?_ ?_ _ | refine Below.alloc ?_ ?_ _ | refine below_drewN ?_ _ | refine Below.drew ?_) | go_size))))
            have hb9 : Below (r + 2) w6 w9 := Below.trans (by (repeat' (first | (exact (show r + 2 ≤ r2 from Nat.le_of_eq HR.out.2.1.symm)) | (with_reducible first | exact Below.refl _ _ | assumption | refine Below.setCell ?_ ?_ _ | refine Below.alloc ?_ ?_ _ | refine below_drewN ?_ _ | refine Below.drew ?_) | go_size | omega))) (hbel9.mono (by omega))
            clear hown9 hgr9 hat9 hbel9
            refine hK.out _ _ ?_ (fun hHeld => ?_)
            ·
             (try dsimp only)
             exact HK38.out _ (by (repeat' (first | (exact (show r + 2 ≤ r2 from Nat.le_of_eq HR.out.2.1.symm)) | (with_reducible first | exact Below.refl _ _ | assumption | refine Below.setCell ?_ ?_ _ | refine Below.alloc ?_ ?_ _ | refine below_drewN ?_ _ | refine Below.drew ?_) | go_size | omega)))
            clear hK K; (try simp only [Act.put, sA, sB, sC])
            refine wpAnyH_take (i := 18) (oi := { dst := some 273, op := Op.indexAddr 62 (Operand.tmp 255) (Operand.tmp 256), type := 0, pos := "law.go:176", after := #[{ on := 0, ground := Ground.data }, { on := 1, ground := Ground.data }, { on := 0, ground := Ground.phase }, { on := 1, ground := Ground.phase }, { on := 2, ground := Ground.phase }, { on := 3, ground := Ground.phase }, { on := 4, ground := Ground.phase }, { on := 5, ground := Ground.phase }, { on := 6, ground := Ground.phase }, { on := 7, ground := Ground.phase }, { on := 8, ground := Ground.phase }, { on := 9, ground := Ground.phase }, { on := 10, ground := Ground.phase }, { on := 11, ground := Ground.phase }, { on := 12, ground := Ground.phase }, { on := 13, ground := Ground.phase }, { on := 14, ground := Ground.phase }, { on := 15, ground := Ground.phase }, { on := 16, ground := Ground.phase }, { on := 17, ground := Ground.phase }], guard := none }) (v := ?_) rfl (by kernel_rfl) (by kernel_rfl) (by kernel_rfl) (fun _ _ _ h => h) (Or.inl ⟨by rfl, ?_⟩) (by assumption) ?_; rotate_left; (· (intro w hSw; (try dsimp only at hSw); go_simp; try with_reducible rfl)); (try simp only [Act.put, sA, sB, sC])
            refine wpAnyH_ready (rs := [19]) (by kernel_rfl) (by simp) ?_
            refine (AllReadyH.cons (o := { dst := none, op := Op.store 23 (Operand.tmp 273) (Operand.tmp 272), type := 0, pos := "law.go:176", after := #[{ on := 18, ground := Ground.data }, { on := 17, ground := Ground.data }, { on := 17, ground := Ground.chain }, { on := 0, ground := Ground.phase }, { on := 1, ground := Ground.phase }, { on := 2, ground := Ground.phase }, { on := 3, ground := Ground.phase }, { on := 4, ground := Ground.phase }, { on := 5, ground := Ground.phase }, { on := 6, ground := Ground.phase }, { on := 7, ground := Ground.phase }, { on := 8, ground := Ground.phase }, { on := 9, ground := Ground.phase }, { on := 10, ground := Ground.phase }, { on := 11, ground := Ground.phase }, { on := 12, ground := Ground.phase }, { on := 13, ground := Ground.phase }, { on := 14, ground := Ground.phase }, { on := 15, ground := Ground.phase }, { on := 16, ground := Ground.phase }, { on := 17, ground := Ground.phase }], guard := none }) rfl (fun K hK => ?_) AllReadyH.nil)
            go_simp
            refine hK.out _ _ ?_ (fun hHeld => ?_)
            ·
             (try dsimp only)
             exact HK38.out _ (by (repeat' (first | (exact (show r + 2 ≤ r2 from Nat.le_of_eq HR.out.2.1.symm)) | (with_reducible first | exact Below.refl _ _ | assumption | refine Below.setCell ?_ ?_ _ | refine Below.alloc ?_ ?_ _ | refine below_drewN ?_ _ | refine Below.drew ?_) | go_size | omega)))
            clear hK K; (try simp only [Act.put, sA, sB, sC])
            refine wpAnyH_done (by kernel_rfl) ?_ _
            have HNz0 := HN9.out
            obtain ⟨wz, hwz⟩ : ∃ wz, wz = w9.setCell ⟨r2, k, none⟩ (.slice A9 (Lg + 1) c9) := ⟨_, rfl⟩
            rw [← hwz] at HNz0 ⊢
            obtain ⟨hRz, hTz⟩ := HNz0
            have HI3 := Lib.hid (HDID.out wz _ hRz hTz)
            obtain ⟨cnz, fnz⟩ := HRC.out _ _ _ _ _ hRz hnb2
            have caz : wz.cell? ⟨r, k, none⟩ = some (.int .i64 (A7 : Nat)) := by rw [hwz]; exact hHeld.2.1
            have faz : wz.frozen? ⟨r, k, none⟩ = false := hRz.ats.frozen k
            have cwz : wz.cell? ⟨wb, 0, none⟩ = some (.pointer (some ⟨b, 0, none⟩)) := (hTz.cell (p := ⟨wb, 0, none⟩) HWB.out.1 (fun hd => by have := HRO.out.ge hd; have h2 : r ≤ wb := this; have := HWB.out.2; omega)).trans cwb6
            have hn0 : r ≠ r1 := by rw [HR.out.1]; omega
            have hn1 : wb ≠ r1 := by rw [HR.out.1]; have := HWB.out; omega
            have hn2 : wb ≠ r := by have := HWB.out; omega
            rw [← HR.out.1] at HI3
            clear hwz hHeld HN9 hRz hTz h9g h9f ck hal1 hal2 HLA9 HOW HRO HVG HLG HKL cwb6 HDID HRC HK38 HP hb9 hatN hu1 hu2
            have hst9 : ∀ pk', upd nb2 k none k = some pk' → j + 1 + 1 ≤ (upd pa2 k a' k).stage := fun pk' e => by
             rw [upd_same] at e; cases e
            have hnn9 : ∀ j', j' < k → upd nb2 k none j' = none := fun j' hj' => by rw [upd_other _ (by omega)]; exact HNN.out j' hj'
            have HS9 := Lib.hid (And.intro hnn9 hst9)
            clear hst9 hnn9
            (try go_wp2)
            go_roundw
            case rel => exact ⟨j + 1, i3 + 1, _, _, _, _, _, _, _, _, by go_num, by omega, by omega, HS9.out.1, HS9.out.2, HI3⟩
            case measure => simp [intOf]; omega
          ·
           have hz : decide (a'.stage = 0) = true := decide_eq_true h0
           have HOK := act_Ok ha'
           rw [hok] at HOK
           have HOK := Lib.hid HOK
           obtain ⟨cn6, fn6⟩ := HRC.out _ _ _ _ _ HRO.out hnb2
           obtain ⟨_, hatN⟩ := HP.out.num k pk hkx hnb2
           have hNm : N k ≤ 9223372036854775807 := by
            by_cases e : k < ln
            ·
             obtain ⟨b9, off9, u, hA9, hb9, hcu, hrow⟩ := HLS.out k e
             obtain ⟨Au, capu, _, hu1, hu2, _⟩ := hrow
             unfold maxLen at hu2
             omega
            ·
             have := HL0.out k (by omega); omega
           obtain ⟨B7, hB7⟩ : ∃ x, x = at_ k + 1 := ⟨_, rfl⟩
           have hw7 : wrap64 ((at_ k : Int) + 1) = (B7 : Int) := by
            rw [show (at_ k : Int) + 1 = (B7 : Int) by omega]; exact IntWalk.wrap64_in _ (by omega)
           have ca6 : w6.cell? ⟨r, k, none⟩ = some (.int .i64 (at_ k : Nat)) := HRO.out.ats.cell (i := k) hkx
           have fa6 : w6.frozen? ⟨r, k, none⟩ = false := HRO.out.ats.frozen k
           have HI3 := Lib.hid (HP.out.endVain hkx hnb2 hw' ha' hq' hal ht hpu hp hqq)
           obtain ⟨A7, hA7⟩ : ∃ x, x = at_ k := ⟨_, rfl⟩
           rw [← hA7] at ca6 hatN hw7
           rw [← HR.out.1] at HI3
           have hn0 : r ≠ r1 := by rw [HR.out.1]; omega
           have hwbr : wb < r := by have h1 := HP.out.high; have h2 := hw'.gt k hkx; have h3 := hw'.lane.rlt k hkx; have h4 := hw'.lane.glt; omega
           have hn1 : wb ≠ r1 := by rw [HR.out.1]; omega
           have hn2 : wb ≠ r := by omega
           clear hsta h0 hok hpu hp hqq hw' ha' hq' hal ht HRO HRC HP hA7 hB7 hatN hNm hwbr
           rw [hz]
           go_wp2_with (first
            | (go_at_call 18; (with_reducible refine Calls.mono HOK.out ?_); rintro e wq ⟨rfl, rfl⟩)
            | fail)
           have hst9 : ∀ pk', upd nb2 k none k = some pk' → j + 1 + 1 ≤ (upd pa2 k a' k).stage := fun pk' e => by
            rw [upd_same] at e; cases e
           have hnn9 : ∀ j', j' < k → upd nb2 k none j' = none := fun j' hj' => by rw [upd_other _ (by omega)]; exact HNN.out j' hj'
           have HS9 := Lib.hid (And.intro hnn9 hst9)
           clear hst9 hnn9
           (try go_wp2)
           go_roundw
           case rel => exact ⟨j + 1, i3 + 1, _, _, _, _, _, _, _, _, by go_num, by omega, by omega, HS9.out.1, HS9.out.2, HI3⟩
           case measure => simp [intOf]; omega
     ·
      have d1 : decide (k < n) = false := by simp; omega
      obtain rfl : k = n := by omega
      have HNN := Lib.hid hnn
      clear hnn d1 hkx
      as_aux_lemma =>
       go_wp2
       go_loopw [13, 20] (fun av iv wr => ∃ (i4 st4 i5 ip5 c : Nat) (qv : Nat → Value) (ql : Nat → List Int) (G : Nat → RgS) (m : MemS) (t : Nat → Nat) (q : Nat → List Int) (T : Option TkN), av = .pointer (T.map fun (x : TkN) => (⟨x.ab, 0, none⟩ : Addr)) ∧ iv = .int .i64 i4 ∧ i4 ≤ 4 * k ∧ i4 ≤ st4 ∧ i5 ≤ 1600 + i4 ∧ ip5 ≤ 1500 + i4 ∧ Hid (LtI W wr wb b lb g cap k v rbs r i5 ip5 st4 at_ nb qv ql G c m p t q pa T L N)) (fun _ iv _ => 8 * k - (intOf iv).toNat)
       case atStart => exact ⟨0, st, i2, i, _, _, _, _, _, _, _, T, rfl, rfl, by omega, by omega, by omega, by omega, HI⟩
       case round =>
        clear HI
        obtain ⟨i4, st4, i5, ip5, c, qv, ql, G1, m1, t, q, T, rfl, rfl, hi4, hst4, hi5, hip5, HI⟩ := hrel
        have d8 : decide ((i4 : Int) < 8 * (k : Int)) = true := by simp; omega
        cases T with
        | none =>
         obtain ⟨wA, hwA⟩ : ∃ x, x = wr := ⟨_, rfl⟩
         subst hwA
         have HNB : Hid (∀ j', j' < k → nb j' = none) := HNN
         (try simp only [Option.map_none])
         clear HNN
         as_aux_lemma =>
          go_wp2
          go_loopw [21] (fun kv w => ∃ k5 : Nat, kv = .int .i64 k5 ∧ k5 ≤ k ∧ Hid (Below wA.heap.size wA w)) (fun kv _ => k - (intOf kv).toNat)
          case atStart => exact ⟨0, rfl, by omega, Below.refl _ _⟩
          case round =>
           obtain ⟨k5, rfl, hk5, HB⟩ := hrel
           by_cases hkn : k5 < k
           ·
            have d1 : decide (k5 < k) = true := by simp; omega
            have HI5 := Lib.hid (HI.out.below HB.out)
            have cwv : wr.cell? ⟨wb, 1, none⟩ = some v := HI5.out.ln.at_.row.cell (i := 1) (by omega)
            obtain ⟨gr, cgr, hv, hv1, hv2, _, hgr, hvc⟩ := own_cells HI5.out.ln.at_.own (by omega)
            rw [hv] at cwv
            have crp : wr.cell? ⟨gr, k5, none⟩ = some (.pointer (some ⟨rbs k5, 0, none⟩)) := (hvc k5 hkn).trans (ptv_at _ hkn)
            unfold maxLen at hv2
            have HLS6 := Lib.hid (ring_List (HI5.out.ln.at_.rings.ring k5 hkn) (HI5.out.ln.que.que k5 hkn))
            clear hv hvc hgr
            go_wp2_with fail
            refine (HLS6.out).mono ?_
            rintro e w2 ⟨u, rfl, hu, hb2⟩
            have HI6 := Lib.hid (HI5.out.below hb2)
            have HB6 := Lib.hid (HB.out.trans (hb2.mono HB.out.size))
            obtain ⟨Au, cu, hue, hcu, hcx⟩ := (Sl.of_own hu).form
            subst hue
            unfold maxLen at hcx
            obtain ⟨Ag, cg, hvg, hgc, hgm⟩ := (Sl.of_own (HI6.out.ro.own (k + k5) (by omega))).form
            obtain ⟨Ap, cp, hvp, hpc, hpm⟩ := (Sl.of_own (HI6.out.ro.own k5 (by omega))).form
            unfold maxLen at hgm hpm
            have hlen := HI6.out.len2 hkn
            have hsum := HI6.out.sum k5 hkn
            have cn2 : w2.cell? ⟨r1, k5, none⟩ = some (.pointer none) := by
             have := HI6.out.ro.nows.cell (i := k5) hkn
             rw [HR.out.1, this]; unfold actV; rw [HNB.out k5 hkn]; rfl
            obtain ⟨Lr, hLr⟩ : ∃ x, x = (q k5).length := ⟨_, rfl⟩
            obtain ⟨Lg, hLg⟩ : ∃ x, x = (ql (k + k5)).length := ⟨_, rfl⟩
            obtain ⟨Lp, hLp⟩ : ∃ x, x = (ql k5).length := ⟨_, rfl⟩
            have hll : Lp = Lg + Lr := by rw [hLp, hLg, hLr, hsum, List.length_append]
            have cg2 : w2.cell? ⟨r3, k5, none⟩ = some (.slice Ag Lg cg) := by
             have := HI6.out.ro.gc.cell (i := k5) hkn
             rw [hvg, ← hLg, ← HR.out.2.2] at this
             exact this
            have cp2 : w2.cell? ⟨r2, k5, none⟩ = some (.slice Ap Lp cp) := by
             have := HI6.out.ro.pc.cell (i := k5) hkn
             rw [hvp, ← hLp, ← HR.out.2.1] at this
             exact this
            have SG : Hid (Sl w2 w2.heap.size 1 (.slice Ag Lg cg) Lg (kv .u64 (ql (k + k5)))) := by
             have := Sl.of_own (HI6.out.ro.own (k + k5) (by omega))
             rw [hvg, ← hLg] at this
             exact this
            have SP : Hid (Sl w2 w2.heap.size 1 (.slice Ap Lp cp) Lp (kv .u64 (ql k5))) := by
             have := Sl.of_own (HI6.out.ro.own k5 (by omega))
             rw [hvp, ← hLp] at this
             exact this
            have SR : Hid (Sl w2 w2.heap.size 1 (.slice Au Lr cu) Lr (kv .u64 (q k5))) := by
             have := Sl.of_own hu
             rw [← hLr] at this
             exact this
            have hsm : kv .u64 (ql (k + k5)) ++ kv .u64 (q k5) = kv .u64 (ql k5) := by rw [hsum, kv_append]
            have HSM := Lib.hid hsm
            clear hsm
            have HLP := Lib.hid hLp
            have hr3l : r3 < w2.heap.size := by rw [HR.out.2.2]; exact HI6.out.ro.gc.lt
            have hr2l : r2 < w2.heap.size := by rw [HR.out.2.1]; exact HI6.out.ro.pc.lt
            rw [← hLg, ← hLp] at hlen
            rw [← hLr]
            have hww : IntKind.i64.wrap ((Lg : Int) + (Lr : Int)) = (Lg : Int) + (Lr : Int) := IntWalk.i64_in _ (by omega)
            have hne : (IntKind.i64.wrap ((Lg : Int) + (Lr : Int)) != (Lp : Int)) = false := by rw [hww]; simp; omega
            clear hww
            have hLg2 : Lg ≤ 3000 := by omega
            have hLp2 : Lp ≤ 3000 := by omega
            have hLr2 : Lr ≤ 3000 := by omega
            have HLL := Lib.hid hll
            clear hu hb2 hvg hvp hsum hLr HB hLg hLp hll HI5 HLS6 cwv crp hlen hcu hgc hpc
            go_wp2_with fail
            refine wp_region_held_drew (S := fun w' => w'.cell? ⟨r1, k5, none⟩ = some (.pointer none) ∧ w'.cell? ⟨r3, k5, none⟩ = some (.slice Ag Lg cg) ∧ w'.cell? ⟨r2, k5, none⟩ = some (.slice Ap Lp cp)) (by kernel_rfl) ?_ (fun hHeld => ?_)
            ·
             exact ⟨cn2, cg2, cp2⟩
            refine wpAnyH_take (i := 0) (oi := { dst := some 328, op := Op.move (Operand.tmp 13), type := 67, pos := "law.go:193", after := #[], guard := none }) (v := ?_) rfl (by kernel_rfl) (by kernel_rfl) (by kernel_rfl) (fun _ _ _ h => h) (Or.inl ⟨by rfl, ?_⟩) (by assumption) ?_; rotate_left; (· (intro w hSw; (try dsimp only at hSw); go_simp; try with_reducible rfl)); (try simp only [Act.put, sA, sB, sC])
            refine wpAnyH_take (i := 1) (oi := { dst := some 329, op := Op.binOp BinOp.neq 67 (Operand.tmp 328) (Operand.const (Value.pointer none)) 67, type := 4, pos := "law.go:193", after := #[{ on := 0, ground := Ground.data }], guard := none }) (v := ?_) rfl (by kernel_rfl) (by kernel_rfl) (by kernel_rfl) (fun _ _ _ h => h) (Or.inl ⟨by rfl, ?_⟩) (by assumption) ?_; rotate_left; (· (intro w hSw; (try dsimp only at hSw); go_simp; try with_reducible rfl)); (try simp only [Act.put, sA, sB, sC])
            refine wpAnyH_take (i := 2) (oi := { dst := some 330, op := Op.move (Operand.tmp 329), type := 4, pos := "law.go:193", after := #[{ on := 1, ground := Ground.data }], guard := none }) (v := ?_) rfl (by kernel_rfl) (by kernel_rfl) (by kernel_rfl) (fun _ _ _ h => h) (Or.inl ⟨by rfl, ?_⟩) (by assumption) ?_; rotate_left; (· (intro w hSw; (try dsimp only at hSw); go_simp; try with_reducible rfl)); (try simp only [Act.put, sA, sB, sC])
            refine wpAnyH_take (i := 3) (oi := { dst := some 331, op := Op.move (Operand.tmp 10), type := 50, pos := "law.go:193", after := #[{ on := 2, ground := Ground.guard }], guard := some (2, false) }) (v := ?_) rfl (by kernel_rfl) (by kernel_rfl) (by kernel_rfl) (fun _ _ _ h => h) (Or.inl ⟨by rfl, ?_⟩) (by assumption) ?_; rotate_left; (· (intro w hSw; (try dsimp only at hSw); go_simp; try with_reducible rfl)); (try simp only [Act.put, sA, sB, sC])
            refine wpAnyH_take (i := 4) (oi := { dst := some 332, op := Op.move (Operand.tmp 21), type := 3, pos := "law.go:193", after := #[{ on := 2, ground := Ground.guard }], guard := some (2, false) }) (v := ?_) rfl (by kernel_rfl) (by kernel_rfl) (by kernel_rfl) (fun _ _ _ h => h) (Or.inl ⟨by rfl, ?_⟩) (by assumption) ?_; rotate_left; (· (intro w hSw; (try dsimp only at hSw); go_simp; try with_reducible rfl)); (try simp only [Act.put, sA, sB, sC])
            refine wpAnyH_take (i := 5) (oi := { dst := some 333, op := Op.indexAddr 50 (Operand.tmp 331) (Operand.tmp 332), type := 0, pos := "law.go:193", after := #[{ on := 3, ground := Ground.data }, { on := 4, ground := Ground.data }, { on := 2, ground := Ground.guard }], guard := some (2, false) }) (v := ?_) rfl (by kernel_rfl) (by kernel_rfl) (by kernel_rfl) (fun _ _ _ h => h) (Or.inl ⟨by rfl, ?_⟩) (by assumption) ?_; rotate_left; (· (intro w hSw; (try dsimp only at hSw); go_simp; try with_reducible rfl)); (try simp only [Act.put, sA, sB, sC])
            refine wpAnyH_take (i := 6) (oi := { dst := some 334, op := Op.load 36 (Operand.tmp 333), type := 36, pos := "law.go:193", after := #[{ on := 5, ground := Ground.data }, { on := 2, ground := Ground.guard }], guard := some (2, false) }) (v := ?_) rfl (by kernel_rfl) (by kernel_rfl) (by kernel_rfl) (fun _ _ _ h => h) (Or.inl ⟨by rfl, ?_⟩) (by assumption) ?_; rotate_left; (· (intro w hSw; (try dsimp only at hSw); go_simp; try with_reducible rfl)); (try simp only [Act.put, sA, sB, sC])
            refine wpAnyH_take (i := 7) (oi := { dst := some 335, op := Op.binOp BinOp.neq 36 (Operand.tmp 334) (Operand.const (Value.pointer none)) 36, type := 4, pos := "law.go:193", after := #[{ on := 6, ground := Ground.data }, { on := 2, ground := Ground.guard }], guard := some (2, false) }) (v := ?_) rfl (by kernel_rfl) (by kernel_rfl) (by kernel_rfl) (fun _ _ _ h => h) (Or.inl ⟨by rfl, ?_⟩) (by assumption) ?_; rotate_left; (· (intro w hSw; (try dsimp only at hSw); go_simp; try with_reducible rfl)); (try simp only [Act.put, sA, sB, sC])
            refine wpAnyH_take (i := 8) (oi := { dst := some 336, op := Op.pick (Operand.tmp 330) (Operand.const (Value.bool true)) (Operand.tmp 335), type := 4, pos := "law.go:193", after := #[{ on := 2, ground := Ground.data }, { on := 7, ground := Ground.data }], guard := none }) (v := ?_) rfl (by kernel_rfl) (by kernel_rfl) (by kernel_rfl) (fun _ _ _ h => h) (Or.inl ⟨by rfl, ?_⟩) (by assumption) ?_; rotate_left; (· (intro w hSw; (try dsimp only at hSw); go_simp; try with_reducible rfl)); (try simp only [Act.put, sA, sB, sC])
            refine wpAnyH_take (i := 9) (oi := { dst := some 337, op := Op.move (Operand.tmp 336), type := 4, pos := "law.go:193", after := #[{ on := 8, ground := Ground.data }, { on := 2, ground := Ground.chain }], guard := none }) (v := ?_) rfl (by kernel_rfl) (by kernel_rfl) (by kernel_rfl) (fun _ _ _ h => h) (Or.inl ⟨by rfl, ?_⟩) (by assumption) ?_; rotate_left; (· (intro w hSw; (try dsimp only at hSw); go_simp; try with_reducible rfl)); (try simp only [Act.put, sA, sB, sC])
            refine wpAnyH_take (i := 10) (oi := { dst := some 338, op := Op.move (Operand.tmp 12), type := 62, pos := "law.go:193", after := #[{ on := 9, ground := Ground.guard }], guard := some (9, false) }) (v := ?_) rfl (by kernel_rfl) (by kernel_rfl) (by kernel_rfl) (fun _ _ _ h => h) (Or.inl ⟨by rfl, ?_⟩) (by assumption) ?_; rotate_left; (· (intro w hSw; (try dsimp only at hSw); go_simp; try with_reducible rfl)); (try simp only [Act.put, sA, sB, sC])
            refine wpAnyH_take (i := 11) (oi := { dst := some 339, op := Op.move (Operand.tmp 21), type := 3, pos := "law.go:193", after := #[{ on := 9, ground := Ground.guard }], guard := some (9, false) }) (v := ?_) rfl (by kernel_rfl) (by kernel_rfl) (by kernel_rfl) (fun _ _ _ h => h) (Or.inl ⟨by rfl, ?_⟩) (by assumption) ?_; rotate_left; (· (intro w hSw; (try dsimp only at hSw); go_simp; try with_reducible rfl)); (try simp only [Act.put, sA, sB, sC])
            refine wpAnyH_take (i := 12) (oi := { dst := some 340, op := Op.indexAddr 62 (Operand.tmp 338) (Operand.tmp 339), type := 0, pos := "law.go:193", after := #[{ on := 10, ground := Ground.data }, { on := 11, ground := Ground.data }, { on := 9, ground := Ground.guard }], guard := some (9, false) }) (v := ?_) rfl (by kernel_rfl) (by kernel_rfl) (by kernel_rfl) (fun _ _ _ h => h) (Or.inl ⟨by rfl, ?_⟩) (by assumption) ?_; rotate_left; (· (intro w hSw; (try dsimp only at hSw); go_simp; try with_reducible rfl)); (try simp only [Act.put, sA, sB, sC])
            refine wpAnyH_take (i := 13) (oi := { dst := some 341, op := Op.load 23 (Operand.tmp 340), type := 23, pos := "law.go:193", after := #[{ on := 12, ground := Ground.data }, { on := 9, ground := Ground.guard }], guard := some (9, false) }) (v := ?_) rfl (by kernel_rfl) (by kernel_rfl) (by kernel_rfl) (fun _ _ _ h => h) (Or.inl ⟨by rfl, ?_⟩) (by assumption) ?_; rotate_left; (· (intro w hSw; (try dsimp only at hSw); go_simp; try with_reducible rfl)); (try simp only [Act.put, sA, sB, sC])
            refine wpAnyH_take (i := 14) (oi := { dst := some 342, op := Op.call { callee := Callee.builtin Builtin.len, args := #[Operand.tmp 341], argTypes := #[23] }, type := 3, pos := "law.go:193", after := #[{ on := 13, ground := Ground.data }, { on := 9, ground := Ground.guard }], guard := some (9, false) }) (v := ?_) rfl (by kernel_rfl) (by kernel_rfl) (by kernel_rfl) (fun _ _ _ h => h) (Or.inl ⟨by rfl, ?_⟩) (by assumption) ?_; rotate_left; (· (intro w hSw; (try dsimp only at hSw); go_simp; try with_reducible rfl)); (try simp only [Act.put, sA, sB, sC])
            refine wpAnyH_take (i := 15) (oi := { dst := some 343, op := Op.move (Operand.tmp 22), type := 23, pos := "law.go:193", after := #[{ on := 9, ground := Ground.guard }], guard := some (9, false) }) (v := ?_) rfl (by kernel_rfl) (by kernel_rfl) (by kernel_rfl) (fun _ _ _ h => h) (Or.inl ⟨by rfl, ?_⟩) (by assumption) ?_; rotate_left; (· (intro w hSw; (try dsimp only at hSw); go_simp; try with_reducible rfl)); (try simp only [Act.put, sA, sB, sC])
            refine wpAnyH_take (i := 16) (oi := { dst := some 344, op := Op.call { callee := Callee.builtin Builtin.len, args := #[Operand.tmp 343], argTypes := #[23] }, type := 3, pos := "law.go:193", after := #[{ on := 15, ground := Ground.data }, { on := 9, ground := Ground.guard }], guard := some (9, false) }) (v := ?_) rfl (by kernel_rfl) (by kernel_rfl) (by kernel_rfl) (fun _ _ _ h => h) (Or.inl ⟨by rfl, ?_⟩) (by assumption) ?_; rotate_left; (· (intro w hSw; (try dsimp only at hSw); go_simp; try with_reducible rfl)); (try simp only [Act.put, sA, sB, sC])
            refine wpAnyH_take (i := 17) (oi := { dst := some 345, op := Op.binOp BinOp.add 3 (Operand.tmp 342) (Operand.tmp 344) 3, type := 3, pos := "law.go:193", after := #[{ on := 14, ground := Ground.data }, { on := 16, ground := Ground.data }, { on := 9, ground := Ground.guard }], guard := some (9, false) }) (v := ?_) rfl (by kernel_rfl) (by kernel_rfl) (by kernel_rfl) (fun _ _ _ h => h) (Or.inl ⟨by rfl, ?_⟩) (by assumption) ?_; rotate_left; (· (intro w hSw; (try dsimp only at hSw); go_simp; try with_reducible rfl)); (try simp only [Act.put, sA, sB, sC])
            refine wpAnyH_take (i := 18) (oi := { dst := some 346, op := Op.move (Operand.tmp 11), type := 62, pos := "law.go:193", after := #[{ on := 9, ground := Ground.guard }], guard := some (9, false) }) (v := ?_) rfl (by kernel_rfl) (by kernel_rfl) (by kernel_rfl) (fun _ _ _ h => h) (Or.inl ⟨by rfl, ?_⟩) (by assumption) ?_; rotate_left; (· (intro w hSw; (try dsimp only at hSw); go_simp; try with_reducible rfl)); (try simp only [Act.put, sA, sB, sC])
            refine wpAnyH_take (i := 19) (oi := { dst := some 347, op := Op.move (Operand.tmp 21), type := 3, pos := "law.go:193", after := #[{ on := 9, ground := Ground.guard }], guard := some (9, false) }) (v := ?_) rfl (by kernel_rfl) (by kernel_rfl) (by kernel_rfl) (fun _ _ _ h => h) (Or.inl ⟨by rfl, ?_⟩) (by assumption) ?_; rotate_left; (· (intro w hSw; (try dsimp only at hSw); go_simp; try with_reducible rfl)); (try simp only [Act.put, sA, sB, sC])
            refine wpAnyH_take (i := 20) (oi := { dst := some 348, op := Op.indexAddr 62 (Operand.tmp 346) (Operand.tmp 347), type := 0, pos := "law.go:193", after := #[{ on := 18, ground := Ground.data }, { on := 19, ground := Ground.data }, { on := 9, ground := Ground.guard }], guard := some (9, false) }) (v := ?_) rfl (by kernel_rfl) (by kernel_rfl) (by kernel_rfl) (fun _ _ _ h => h) (Or.inl ⟨by rfl, ?_⟩) (by assumption) ?_; rotate_left; (· (intro w hSw; (try dsimp only at hSw); go_simp; try with_reducible rfl)); (try simp only [Act.put, sA, sB, sC])
            refine wpAnyH_take (i := 21) (oi := { dst := some 349, op := Op.load 23 (Operand.tmp 348), type := 23, pos := "law.go:193", after := #[{ on := 20, ground := Ground.data }, { on := 9, ground := Ground.guard }], guard := some (9, false) }) (v := ?_) rfl (by kernel_rfl) (by kernel_rfl) (by kernel_rfl) (fun _ _ _ h => h) (Or.inl ⟨by rfl, ?_⟩) (by assumption) ?_; rotate_left; (· (intro w hSw; (try dsimp only at hSw); go_simp; try with_reducible rfl)); (try simp only [Act.put, sA, sB, sC])
            refine wpAnyH_take (i := 22) (oi := { dst := some 350, op := Op.call { callee := Callee.builtin Builtin.len, args := #[Operand.tmp 349], argTypes := #[23] }, type := 3, pos := "law.go:193", after := #[{ on := 21, ground := Ground.data }, { on := 9, ground := Ground.guard }], guard := some (9, false) }) (v := ?_) rfl (by kernel_rfl) (by kernel_rfl) (by kernel_rfl) (fun _ _ _ h => h) (Or.inl ⟨by rfl, ?_⟩) (by assumption) ?_; rotate_left; (· (intro w hSw; (try dsimp only at hSw); go_simp; try with_reducible rfl)); (try simp only [Act.put, sA, sB, sC])
            refine wpAnyH_take (i := 23) (oi := { dst := some 351, op := Op.binOp BinOp.neq 3 (Operand.tmp 345) (Operand.tmp 350) 3, type := 4, pos := "law.go:193", after := #[{ on := 17, ground := Ground.data }, { on := 22, ground := Ground.data }, { on := 9, ground := Ground.guard }], guard := some (9, false) }) (v := ?_) rfl (by kernel_rfl) (by kernel_rfl) (by kernel_rfl) (fun _ _ _ h => h) (Or.inl ⟨by rfl, ?_⟩) (by assumption) ?_; rotate_left; (· (intro w hSw; (try dsimp only at hSw); go_simp; try with_reducible rfl)); (try simp only [Act.put, sA, sB, sC])
            refine wpAnyH_take (i := 24) (oi := { dst := some 352, op := Op.pick (Operand.tmp 337) (Operand.const (Value.bool true)) (Operand.tmp 351), type := 4, pos := "law.go:193", after := #[{ on := 9, ground := Ground.data }, { on := 23, ground := Ground.data }], guard := none }) (v := ?_) rfl (by kernel_rfl) (by kernel_rfl) (by kernel_rfl) (fun _ _ _ h => h) (Or.inl ⟨by rfl, ?_⟩) (by assumption) ?_; rotate_left; (· (intro w hSw; (try dsimp only at hSw); go_simp; try with_reducible rfl)); (try simp only [Act.put, sA, sB, sC])
            refine wpAnyH_done (by kernel_rfl) ?_ _
            (try clear hHeld)
            go_wp2_with (first
             | (at_builtin; (refine wpList_apv _ rfl stU64s _ _ rfl w2.heap.size (.slice (some ⟨w2.heap.size, 0, none⟩) 0 0) 0 [] rfl (own_empty_at rfl (by omega)) _ _ Lg (kv .u64 (ql (k + k5))) rfl (SG.out.alloc (Nat.le_refl _) _) (kv_ones _ _) (by omega) (by go_size) ?_; intro A7 c7 w7 hown7 hg7 hat7 hbel7; (have HO7 : Hid (w7.ownsRow w2.heap.size 22 1 (.slice A7 Lg c7) Lg (kv .u64 (ql (k + k5)))) := (by (rw [Nat.zero_add, List.nil_append] at hown7; exact hown7))); (have HB7 : Hid (Below w2.heap.size w2 w7) := (Below.trans (by (repeat' (first | (with_reducible first | exact Below.refl _ _ | assumption | refine Below.setCell ?_ ?_ _ | refine Below.alloc ?_ ?_ _ | refine below_drewN ?_ _ | refine Below.drew ?_) | go_size))) hbel7)); clear hg7 hat7 hown7 hbel7))
             | (at_builtin; (refine wpList_apv _ rfl stU64s _ _ rfl w2.heap.size (.slice A7 Lg c7) Lg (kv .u64 (ql (k + k5))) rfl HO7.out _ _ Lr (kv .u64 (q k5)) rfl (SR.out.below (Below.trans HB7.out (by (repeat' (first | (with_reducible exact Below.refl _ _) | (with_reducible refine below_drewN ?_ _) | (with_reducible refine Below.drew ?_)))))) (kv_ones _ _) (by omega) (by have := HB7.out.size; first | omega | (simp; omega) | go_size) ?_; intro A8 c8 w8 hown8 hg8 hat8 hbel8; clear hg8 hat8))
             | fail)
            rw [HSM.out, ← HLL.out] at hown8
            rw [← HLL.out]
            have SA := Lib.hid (Sl.of_own hown8)
            have hb7 := HB7.out
            have HB68 : Hid (Below w2.heap.size w2 w8) := Below.trans (by (repeat' (first | (with_reducible first | exact Below.refl _ _ | assumption | refine Below.setCell ?_ ?_ _ | refine Below.alloc ?_ ?_ _ | refine below_drewN ?_ _ | refine Below.drew ?_) | go_size))) hbel8
            clear hb7
            have HB8 := Lib.hid (HB6.out.trans (HB68.out.mono HB6.out.size))
            have SP8 := Lib.hid (SP.out.below HB68.out)
            have cp8 : w8.cell? ⟨r2, k5, none⟩ = some (.slice Ap Lp cp) := (HB68.out.cell (p := ⟨r2, k5, none⟩) hr2l).trans cp2
            have h28 := HB68.out.size
            have hr2m : r2 < w8.heap.size := by omega
            clear hown8 hbel8 HO7 HB7 HB68 SG SP SR HSM HLL cn2 cg2 cp2 hne hLg2 hLr2 HI6 HB6
            go_wp2
            go_loopw [24] (fun iv w => ∃ i6 : Nat, iv = .int .i64 i6 ∧ i6 ≤ Lp ∧ Hid (Below w8.heap.size w8 w)) (fun iv _ => Lp - (intOf iv).toNat)
            case atStart => exact ⟨0, rfl, by omega, Below.refl _ _⟩
            case round =>
             obtain ⟨i6, rfl, hi6, HB9⟩ := hrel
             by_cases hil : i6 < Lp
             ·
              have d6 : decide (i6 < Lp) = true := by simp; omega
              obtain ⟨ba, oa, ca', ea, _, hca, hba, hcella⟩ := SA.out.at_ (by omega)
              obtain ⟨bp, op, cp', ep, _, hcp', hbp, hcellp⟩ := SP8.out.at_ (by omega)
              cases ea
              cases ep
              have hX := kv_getElem? .u64 (ql k5) i6 (by rw [← HLP.out]; exact hil)
              have k1 := (HB9.out.cell (p := ⟨ba, oa + i6, none⟩) hba).trans ((hcella i6 (by omega)).trans hX)
              have k2 := (HB9.out.cell (p := ⟨bp, op + i6, none⟩) (by show bp < _; omega)).trans ((hcellp i6 (by omega)).trans hX)
              have k3 := (HB9.out.cell (p := ⟨r2, k5, none⟩) hr2m).trans cp8
              clear hX hcella hcellp
              generalize (ql k5).getD i6 0 = X at k1 k2
              have hXX : (X != X) = false := by simp
              unfold maxLen at hca hcp'
              go_wp2_with fail
              refine wp_region_held_drew (S := fun w' => w'.cell? ⟨ba, oa + i6, none⟩ = some (.int .u64 X) ∧ w'.cell? ⟨bp, op + i6, none⟩ = some (.int .u64 X) ∧ w'.cell? ⟨r2, k5, none⟩ = some (.slice (some ⟨bp, op, none⟩) Lp cp)) (by kernel_rfl) ?_ (fun hHeld => ?_)
              ·
               exact ⟨k1, k2, k3⟩
              refine wpAnyH_take (i := 0) (oi := { dst := some 367, op := Op.move (Operand.tmp 23), type := 23, pos := "law.go:198", after := #[], guard := none }) (v := ?_) rfl (by kernel_rfl) (by kernel_rfl) (by kernel_rfl) (fun _ _ _ h => h) (Or.inl ⟨by rfl, ?_⟩) (by assumption) ?_; rotate_left; (· (intro w hSw; (try dsimp only at hSw); go_simp; try with_reducible rfl)); (try simp only [Act.put, sA, sB, sC])
              refine wpAnyH_take (i := 1) (oi := { dst := some 368, op := Op.move (Operand.tmp 24), type := 3, pos := "law.go:198", after := #[], guard := none }) (v := ?_) rfl (by kernel_rfl) (by kernel_rfl) (by kernel_rfl) (fun _ _ _ h => h) (Or.inl ⟨by rfl, ?_⟩) (by assumption) ?_; rotate_left; (· (intro w hSw; (try dsimp only at hSw); go_simp; try with_reducible rfl)); (try simp only [Act.put, sA, sB, sC])
              refine wpAnyH_take (i := 2) (oi := { dst := some 369, op := Op.indexAddr 23 (Operand.tmp 367) (Operand.tmp 368), type := 0, pos := "law.go:198", after := #[{ on := 0, ground := Ground.data }, { on := 1, ground := Ground.data }], guard := none }) (v := ?_) rfl (by kernel_rfl) (by kernel_rfl) (by kernel_rfl) (fun _ _ _ h => h) (Or.inl ⟨by rfl, ?_⟩) (by assumption) ?_; rotate_left; (· (intro w hSw; (try dsimp only at hSw); go_simp; try with_reducible rfl)); (try simp only [Act.put, sA, sB, sC])
              refine wpAnyH_take (i := 3) (oi := { dst := some 370, op := Op.load 22 (Operand.tmp 369), type := 22, pos := "law.go:198", after := #[{ on := 2, ground := Ground.data }], guard := none }) (v := ?_) rfl (by kernel_rfl) (by kernel_rfl) (by kernel_rfl) (fun _ _ _ h => h) (Or.inl ⟨by rfl, ?_⟩) (by assumption) ?_; rotate_left; (· (intro w hSw; (try dsimp only at hSw); go_simp; try with_reducible rfl)); (try simp only [Act.put, sA, sB, sC])
              refine wpAnyH_take (i := 4) (oi := { dst := some 371, op := Op.move (Operand.tmp 11), type := 62, pos := "law.go:198", after := #[], guard := none }) (v := ?_) rfl (by kernel_rfl) (by kernel_rfl) (by kernel_rfl) (fun _ _ _ h => h) (Or.inl ⟨by rfl, ?_⟩) (by assumption) ?_; rotate_left; (· (intro w hSw; (try dsimp only at hSw); go_simp; try with_reducible rfl)); (try simp only [Act.put, sA, sB, sC])
              refine wpAnyH_take (i := 5) (oi := { dst := some 372, op := Op.move (Operand.tmp 21), type := 3, pos := "law.go:198", after := #[], guard := none }) (v := ?_) rfl (by kernel_rfl) (by kernel_rfl) (by kernel_rfl) (fun _ _ _ h => h) (Or.inl ⟨by rfl, ?_⟩) (by assumption) ?_; rotate_left; (· (intro w hSw; (try dsimp only at hSw); go_simp; try with_reducible rfl)); (try simp only [Act.put, sA, sB, sC])
              refine wpAnyH_take (i := 6) (oi := { dst := some 373, op := Op.indexAddr 62 (Operand.tmp 371) (Operand.tmp 372), type := 0, pos := "law.go:198", after := #[{ on := 4, ground := Ground.data }, { on := 5, ground := Ground.data }], guard := none }) (v := ?_) rfl (by kernel_rfl) (by kernel_rfl) (by kernel_rfl) (fun _ _ _ h => h) (Or.inl ⟨by rfl, ?_⟩) (by assumption) ?_; rotate_left; (· (intro w hSw; (try dsimp only at hSw); go_simp; try with_reducible rfl)); (try simp only [Act.put, sA, sB, sC])
              refine wpAnyH_take (i := 7) (oi := { dst := some 374, op := Op.load 23 (Operand.tmp 373), type := 23, pos := "law.go:198", after := #[{ on := 6, ground := Ground.data }], guard := none }) (v := ?_) rfl (by kernel_rfl) (by kernel_rfl) (by kernel_rfl) (fun _ _ _ h => h) (Or.inl ⟨by rfl, ?_⟩) (by assumption) ?_; rotate_left; (· (intro w hSw; (try dsimp only at hSw); go_simp; try with_reducible rfl)); (try simp only [Act.put, sA, sB, sC])
              refine wpAnyH_take (i := 8) (oi := { dst := some 375, op := Op.move (Operand.tmp 24), type := 3, pos := "law.go:198", after := #[], guard := none }) (v := ?_) rfl (by kernel_rfl) (by kernel_rfl) (by kernel_rfl) (fun _ _ _ h => h) (Or.inl ⟨by rfl, ?_⟩) (by assumption) ?_; rotate_left; (· (intro w hSw; (try dsimp only at hSw); go_simp; try with_reducible rfl)); (try simp only [Act.put, sA, sB, sC])
              refine wpAnyH_take (i := 9) (oi := { dst := some 376, op := Op.indexAddr 23 (Operand.tmp 374) (Operand.tmp 375), type := 0, pos := "law.go:198", after := #[{ on := 7, ground := Ground.data }, { on := 8, ground := Ground.data }], guard := none }) (v := ?_) rfl (by kernel_rfl) (by kernel_rfl) (by kernel_rfl) (fun _ _ _ h => h) (Or.inl ⟨by rfl, ?_⟩) (by assumption) ?_; rotate_left; (· (intro w hSw; (try dsimp only at hSw); go_simp; try with_reducible rfl)); (try simp only [Act.put, sA, sB, sC])
              refine wpAnyH_take (i := 10) (oi := { dst := some 377, op := Op.load 22 (Operand.tmp 376), type := 22, pos := "law.go:198", after := #[{ on := 9, ground := Ground.data }], guard := none }) (v := ?_) rfl (by kernel_rfl) (by kernel_rfl) (by kernel_rfl) (fun _ _ _ h => h) (Or.inl ⟨by rfl, ?_⟩) (by assumption) ?_; rotate_left; (· (intro w hSw; (try dsimp only at hSw); go_simp; try with_reducible rfl)); (try simp only [Act.put, sA, sB, sC])
              refine wpAnyH_take (i := 11) (oi := { dst := some 378, op := Op.binOp BinOp.neq 22 (Operand.tmp 370) (Operand.tmp 377) 22, type := 4, pos := "law.go:198", after := #[{ on := 3, ground := Ground.data }, { on := 10, ground := Ground.data }], guard := none }) (v := ?_) rfl (by kernel_rfl) (by kernel_rfl) (by kernel_rfl) (fun _ _ _ h => h) (Or.inl ⟨by rfl, ?_⟩) (by assumption) ?_; rotate_left; (· (intro w hSw; (try dsimp only at hSw); go_simp; try with_reducible rfl)); (try simp only [Act.put, sA, sB, sC])
              refine wpAnyH_done (by kernel_rfl) ?_ _
              (try clear hHeld)
              go_wp2
              go_roundw
              case rel => exact ⟨i6 + 1, by go_num, by omega, (below_drewN HB9.out _)⟩
              case measure => simp [intOf]; omega
             ·
              have d6 : decide (i6 < Lp) = false := by simp; omega
              have HBZ := Lib.hid (HB8.out.trans (HB9.out.mono HB8.out.size))
              go_wp2
              go_roundw
              case rel => exact ⟨k5 + 1, by go_num, by omega, HBZ.out⟩
              case measure => simp [intOf]; omega
           ·
            have d1 : decide (k5 < k) = false := by simp; omega
            have HBZ := Lib.hid (HI.out.ln.bel.trans (HB.out.mono HI.out.ln.bel.size))
            clear HI
            go_wp2
            go_ret
            exact ⟨rfl, HBZ.out⟩
        | some x =>
         have HI2 := HI
         clear HI
         have hsteps := HI2.out.steps x rfl
         obtain ⟨hb1, _⟩ := HI2.out.ln.busy _ rfl
         have hs4 := hb1.know.2.2.1
         have hjn := hb1.jn
         have HTL := Lib.hid (tl_step hb1 (by have := HI2.out.tm; omega))
         have hi4b : i4 + 1 ≤ 4 * k := by omega
         clear hb1 hsteps hs4 hjn hi4
         go_wp2_with fail
         refine (HTL.out).mono ?_
         rintro e w4 hres
         clear HTL
         rcases hres with ⟨rfl, j', G', m', pb', a', hk9, hj, hal, hpb, ht⟩ | ⟨rfl, kk, jj, a', G', m', t', q', c', hk9, hal, ht⟩
         ·
          have HI3 := Lib.hid (HI2.out.goes hk9 hj hal hpb ht)
          clear hk9 hj hal hpb ht HI2
          go_wp2
          go_roundw
          case rel => exact ⟨i4 + 1, st4 + 1, i5 + 1, ip5 + 1, _, _, _, _, _, _, _, some ⟨x.ab, j', pb', a'⟩, rfl, by go_num, by omega, by omega, by omega, by omega, HI3⟩
          case measure => simp [intOf]; omega
         ·
          have HOK := lact_Ok hk9.act hk9.ract
          have HKK := Lib.hid hk9
          have HAL := Lib.hid hal
          have HTT := Lib.hid ht
          cases hok : a'.ok
          ·
           rw [hok] at HOK
           have HOK := Lib.hid HOK
           have HI3 := Lib.hid (HI2.out.vain hk9 hok hal ht (st4 + 1))
           clear hk9 hal ht HI2 hok HKK HAL HTT
           go_wp2_with (first
            | (go_at_call 36; (with_reducible refine Calls.mono HOK.out ?_); rintro e wq ⟨rfl, rfl⟩)
            | fail)
           go_roundw
           case rel => exact ⟨i4 + 1, st4 + 1, i5 + 1, ip5 + 1, _, _, _, _, _, _, _, none, rfl, by go_num, by omega, by omega, by omega, by omega, HI3⟩
           case measure => simp [intOf]; omega
          ·
           as_aux_lemma =>
            rw [hok] at HOK
            have HOK := Lib.hid HOK
            have HFR := lact_From hk9.act hk9.ract
            rw [if_pos hok] at HFR
            have HFR := Lib.hid HFR
            have HVA := lact_Value hk9.act hk9.ract
            rw [if_pos hok] at HVA
            have HVA := Lib.hid HVA
            have hkn := hk9.kn
            have HRO := Lib.hid (HI2.out.ro.tch ht (fun y hy => HI2.out.tk_far hy))
            have hlg := (HI2.out.len2 hkn).2
            obtain ⟨Ag, cg, hvg, hgc, hgm⟩ := (Sl.of_own (HRO.out.own (k + kk) (by omega))).form
            have HVG := Lib.hid hvg
            have HOK2 := Lib.hid hok
            obtain ⟨Lg, hLg⟩ : ∃ l, l = (ql (k + kk)).length := ⟨_, rfl⟩
            have HLG := Lib.hid hLg
            have ck : w4.cell? ⟨r3, kk, none⟩ = some (.slice Ag Lg cg) := by
             have := HRO.out.gc.cell (i := kk) hkn
             rw [hvg, ← hLg, ← HR.out.2.2] at this
             exact this
            have cf : w4.frozen? ⟨r3, kk, none⟩ = false := by rw [HR.out.2.2]; exact HRO.out.gc.frozen kk
            rw [← hLg] at hlg hgc
            unfold maxLen at hgm
            have HOW : Hid (w4.ownsRow (r + 4) 22 1 (.slice Ag Lg cg) Lg (kv .u64 (ql (k + kk)))) := by
             have := HRO.out.own (k + kk) (by omega)
             rw [hvg, ← hLg] at this
             exact this
            have HKL : Hid ((ql (k + kk) ++ [a'.num]).length = Lg + 1 ∧ kv .u64 (ql (k + kk) ++ [a'.num]) = kv .u64 (ql (k + kk)) ++ [.int .u64 a'.num]) := ⟨by rw [hLg]; simp, by simp [kv]⟩
            have HLW : Hid (r3 < w4.heap.size) := by rw [HR.out.2.2]; exact HRO.out.gc.lt
            have HLA9 : Hid (∀ w7, Below w4.heap.size w4 w7 → ∀ w9 v9, w9.ownsRow (r + 4) 22 1 v9 (Lg + 1) (kv .u64 (ql (k + kk)) ++ [.int .u64 a'.num]) → (w7.alloc (.cells #[.int .u64 a'.num] 22)).grownBy w9 (Value.slice Ag Lg cg).ownBlock → (v9.ownBlock = (Value.slice Ag Lg cg).ownBlock ∨ v9.ownBlock = some (w7.alloc (.cells #[.int .u64 a'.num] 22)).heap.size) → RoL (w9.setCell ⟨r3, kk, none⟩ v9) r k at_ nb (upd qv (k + kk) v9) (upd ql (k + kk) (ql (k + kk) ++ [a'.num])) ∧ Tch (RoD r k qv) w4 (w9.setCell ⟨r3, kk, none⟩ v9)) := fun w7 hb w9 v9 a1 a2 a3 => by
             obtain ⟨y1, y2⟩ := (HRO.out.below hb).app (k := k + kk) (by omega) (l' := ql (k + kk) ++ [a'.num]) (by rw [HKL.out.1, HKL.out.2]; exact a1) (by rw [HVG.out, ← HLG.out]; exact a2) (by rw [HVG.out, ← HLG.out]; exact a3) (x := r3) (y := kk) (.inr ⟨by omega, HR.out.2.2, by omega⟩)
             exact ⟨y1, (Tch.of_below hb).trans y2⟩
            have hal1 : ∀ w7 o, Below w4.heap.size w4 w7 → (w7.alloc o).cell? ⟨r3, kk, none⟩ = some (.slice Ag Lg cg) := fun w7 o hb => (((hb.alloc hb.size o)).cell (p := ⟨r3, kk, none⟩) HLW.out).trans ck
            have hal2 : ∀ w7 o, Below w4.heap.size w4 w7 → (w7.alloc o).frozen? ⟨r3, kk, none⟩ = false := fun w7 o hb => (((hb.alloc hb.size o)).frozen (p := ⟨r3, kk, none⟩) HLW.out).trans cf
            have g1 : decide ((kk : Int) ≥ 0) = true := by simp
            have g2 : decide ((kk : Int) < (k : Int)) = true := by simp; omega
            have g2' : decide (kk < k) = true := by simp; omega
            clear hvg hLg hk9 hal ht cf
            go_wp2_with (first
             | (go_at_call 36; (with_reducible refine Calls.mono HOK.out ?_); rintro e wq ⟨rfl, rfl⟩)
             | fail)
            go_wp2_with (first
             | (go_at_call 38; (with_reducible refine Calls.mono HFR.out ?_); rintro e wq ⟨rfl, rfl⟩)
             | fail)
            have HFRD : Hid (∀ w', Below w4.heap.size w4 w' → Calls Try.prog 38 #[.pointer (some ⟨x.ab, 0, none⟩)] w' fun e w2 => e = .returned (.int .i64 (kk : Int)) ∧ w' = w2) := fun w' hb => by
             have := lact_From (HKK.out.act.below hb) (HKK.out.ract.below hb)
             rw [if_pos HOK2.out] at this
             exact this
            have HVAD : Hid (∀ w', Below w4.heap.size w4 w' → Calls Try.prog 37 #[.pointer (some ⟨x.ab, 0, none⟩)] w' fun e w2 => e = .returned (.int .u64 a'.num) ∧ w' = w2) := fun w' hb => by
             have := lact_Value (HKK.out.act.below hb) (HKK.out.ract.below hb)
             rw [if_pos HOK2.out] at this
             exact this
            clear HOK HFR HVA
            refine wp_region_held_drew (S := fun w' => True) (by kernel_rfl) ?_ (fun hHeld => ?_)
            ·
             trivial
            refine wpAnyH_take (i := 0) (oi := { dst := some 302, op := Op.move (Operand.tmp 12), type := 62, pos := "law.go:186", after := #[], guard := none }) (v := ?_) rfl (by kernel_rfl) (by kernel_rfl) (by kernel_rfl) (fun _ _ _ h => h) (Or.inl ⟨by rfl, ?_⟩) (by assumption) ?_; rotate_left; (· (intro w hSw; (try dsimp only at hSw); go_simp; try with_reducible rfl)); (try simp only [Act.put, sA, sB, sC])
            refine wpAnyH_take (i := 1) (oi := { dst := some 303, op := Op.move (Operand.tmp 13), type := 67, pos := "law.go:186", after := #[], guard := none }) (v := ?_) rfl (by kernel_rfl) (by kernel_rfl) (by kernel_rfl) (fun _ _ _ h => h) (Or.inl ⟨by rfl, ?_⟩) (by assumption) ?_; rotate_left; (· (intro w hSw; (try dsimp only at hSw); go_simp; try with_reducible rfl)); (try simp only [Act.put, sA, sB, sC])
            refine wpAnyH_take (i := 3) (oi := { dst := some 305, op := Op.move (Operand.tmp 12), type := 62, pos := "law.go:186", after := #[], guard := none }) (v := ?_) rfl (by kernel_rfl) (by kernel_rfl) (by kernel_rfl) (fun _ _ _ h => h) (Or.inl ⟨by rfl, ?_⟩) (by assumption) ?_; rotate_left; (· (intro w hSw; (try dsimp only at hSw); go_simp; try with_reducible rfl)); (try simp only [Act.put, sA, sB, sC])
            refine wpAnyH_take (i := 4) (oi := { dst := some 306, op := Op.move (Operand.tmp 13), type := 67, pos := "law.go:186", after := #[], guard := none }) (v := ?_) rfl (by kernel_rfl) (by kernel_rfl) (by kernel_rfl) (fun _ _ _ h => h) (Or.inl ⟨by rfl, ?_⟩) (by assumption) ?_; rotate_left; (· (intro w hSw; (try dsimp only at hSw); go_simp; try with_reducible rfl)); (try simp only [Act.put, sA, sB, sC])
            refine wpAnyH_take (i := 8) (oi := { dst := some 310, op := Op.move (Operand.tmp 13), type := 67, pos := "law.go:186", after := #[], guard := none }) (v := ?_) rfl (by kernel_rfl) (by kernel_rfl) (by kernel_rfl) (fun _ _ _ h => h) (Or.inl ⟨by rfl, ?_⟩) (by assumption) ?_; rotate_left; (· (intro w hSw; (try dsimp only at hSw); go_simp; try with_reducible rfl)); (try simp only [Act.put, sA, sB, sC])
            refine wpAnyH_ready (rs := [2]) (by kernel_rfl) (by simp) ?_
            refine (AllReadyH.cons (o := { dst := some 304, op := Op.call { callee := Callee.value (Operand.func 38), args := #[Operand.tmp 303], argTypes := #[67] }, type := 3, pos := "law.go:186", after := #[{ on := 1, ground := Ground.data }], guard := none }) rfl (fun K hK => ?_) AllReadyH.nil)
            go_simp
            refine Calls.mono (HFRD.out _ (by (repeat' (first | (with_reducible first | exact Below.refl _ _ | assumption | refine Below.setCell ?_ ?_ _ | refine Below.alloc ?_ ?_ _ | refine below_drewN ?_ _ | refine Below.drew ?_) | go_size)))) ?_
            rintro e wq ⟨rfl, rfl⟩
            refine hK.out _ _ ?_ (fun hHeld => ?_)
            ·
             (try dsimp only)
             try trivial
            clear hK K; (try simp only [Act.put, sA, sB, sC])
            refine wpAnyH_ready (rs := [5]) (by kernel_rfl) (by simp) ?_
            refine (AllReadyH.cons (o := { dst := some 307, op := Op.call { callee := Callee.value (Operand.func 38), args := #[Operand.tmp 306], argTypes := #[67] }, type := 3, pos := "law.go:186", after := #[{ on := 4, ground := Ground.data }, { on := 2, ground := Ground.chain }], guard := none }) rfl (fun K hK => ?_) AllReadyH.nil)
            go_simp
            refine Calls.mono (HFRD.out _ (by (repeat' (first | (with_reducible first | exact Below.refl _ _ | assumption | refine Below.setCell ?_ ?_ _ | refine Below.alloc ?_ ?_ _ | refine below_drewN ?_ _ | refine Below.drew ?_) | go_size)))) ?_
            rintro e wq ⟨rfl, rfl⟩
            refine hK.out _ _ ?_ (fun hHeld => ?_)
            ·
             (try dsimp only)
             try trivial
            clear hK K; (try simp only [Act.put, sA, sB, sC])
            refine wpAnyH_take (i := 6) (oi := { dst := some 308, op := Op.indexAddr 62 (Operand.tmp 305) (Operand.tmp 307), type := 0, pos := "law.go:186", after := #[{ on := 3, ground := Ground.data }, { on := 5, ground := Ground.data }], guard := none }) (v := ?_) rfl (by kernel_rfl) (by kernel_rfl) (by kernel_rfl) (fun _ _ _ h => h) (Or.inl ⟨by rfl, ?_⟩) (by assumption) ?_; rotate_left; (· (intro w hSw; (try dsimp only at hSw); go_simp; try with_reducible rfl)); (try simp only [Act.put, sA, sB, sC])
            refine wpAnyH_ready (rs := [7, 9]) (by kernel_rfl) (by simp) ?_
            refine (AllReadyH.cons (o := { dst := some 309, op := Op.load 23 (Operand.tmp 308), type := 23, pos := "law.go:186", after := #[{ on := 6, ground := Ground.data }], guard := none }) rfl (fun K hK => ?_) (AllReadyH.cons (o := { dst := some 311, op := Op.call { callee := Callee.value (Operand.func 37), args := #[Operand.tmp 310], argTypes := #[67] }, type := 22, pos := "law.go:186", after := #[{ on := 8, ground := Ground.data }, { on := 5, ground := Ground.chain }], guard := none }) rfl (fun K hK => ?_) AllReadyH.nil))
            ·
             go_simp
             (try (rw [hal1 _ _ (by (repeat' (first | (with_reducible first | exact Below.refl _ _ | assumption | refine Below.setCell ?_ ?_ _ | refine Below.alloc ?_ ?_ _ | refine below_drewN ?_ _ | refine Below.drew ?_) | go_size)))]; go_simp))
             refine hK.out _ _ ?_ (fun hHeld => ?_)
             ·
              (try dsimp only)
              try trivial
             clear hK K; (try simp only [Act.put, sA, sB, sC])
             refine wpAnyH_ready (rs := [9]) (by kernel_rfl) (by simp) ?_
             refine (AllReadyH.cons (o := { dst := some 311, op := Op.call { callee := Callee.value (Operand.func 37), args := #[Operand.tmp 310], argTypes := #[67] }, type := 22, pos := "law.go:186", after := #[{ on := 8, ground := Ground.data }, { on := 5, ground := Ground.chain }], guard := none }) rfl (fun K hK => ?_) AllReadyH.nil)
             go_simp
             refine Calls.mono (HVAD.out _ (by (repeat' (first | (with_reducible first | exact Below.refl _ _ | assumption | refine Below.setCell ?_ ?_ _ | refine Below.alloc ?_ ?_ _ | refine below_drewN ?_ _ | refine Below.drew ?_) | go_size)))) ?_
             rintro e wq ⟨rfl, rfl⟩
             refine hK.out _ _ ?_ (fun hHeld => ?_)
             ·
              (try dsimp only)
              try trivial
             clear hK K; (try simp only [Act.put, sA, sB, sC])
             refine wpAnyH_ready (rs := [10]) (by kernel_rfl) (by simp) ?_
             refine (AllReadyH.cons (o := { dst := some 312, op := Op.buildSlice 23 1 #[(0, Operand.tmp 311)], type := 23, pos := "law.go:186", after := #[{ on := 9, ground := Ground.data }], guard := none }) rfl (fun K hK => ?_) AllReadyH.nil)
             go_simp
             refine hK.out _ _ ?_ (fun hHeld => ?_)
             ·
              (try dsimp only)
              try trivial
             clear hK K; (try simp only [Act.put, sA, sB, sC])
             refine wpAnyH_ready (rs := [11]) (by kernel_rfl) (by simp) ?_
             refine (AllReadyH.cons (o := { dst := some 313, op := Op.call { callee := Callee.builtin Builtin.append, args := #[Operand.tmp 309, Operand.tmp 312], argTypes := #[23, 23] }, type := 23, pos := "law.go:186", after := #[{ on := 7, ground := Ground.data }, { on := 10, ground := Ground.data }, { on := 9, ground := Ground.chain }], guard := none }) rfl (fun K hK => ?_) AllReadyH.nil)
             refine step_app _ (by rfl) stU64s _ _ (by rfl) (r + 4) (.slice Ag Lg cg) Lg (kv .u64 (ql (k + kk))) (by rfl) (own_below HOW.out (by (repeat' (first | (with_reducible first | exact Below.refl _ _ | assumption | refine Below.setCell ?_ ?_ _ | refine Below.alloc ?_ ?_ _ | refine below_drewN ?_ _ | refine Below.drew ?_) | go_size)))) _ _ 1 [.int .u64 a'.num] (by rfl) (Sl.lit_at (by simp) rfl (by decide)) (by simp [Value.oneCell']) (by omega) (by have := HLW.out; have := HR.out.2.2; simp; omega) ?_
             intro v9 w9 hown9 hgr9 hat9 hbel9
             obtain ⟨A9, c9, hv9, _, _⟩ := (Sl.of_own hown9).form
             subst hv9
             have HN9 := Lib.hid (HLA9.out w4.drew (by (repeat' (first | (with_reducible first | exact Below.refl _ _ | assumption | refine Below.setCell ?_ ?_ _ | refine Below.alloc ?_ ?_ _ | refine below_drewN ?_ _ | refine Below.drew ?_) | go_size))) w9 _ hown9 hgr9 hat9)
             have h9f : w9.frozen? ⟨r3, kk, none⟩ = false := (hbel9.frozen (p := ⟨r3, kk, none⟩) (by have := HR.out.2.2; show r3 < r + 4; omega)).trans (hal2 _ _ (by (repeat' (first | (with_reducible first | exact Below.refl _ _ | assumption | refine Below.setCell ?_ ?_ _ | refine Below.alloc ?_ ?_ _ | refine below_drewN ?_ _ | refine Below.drew ?_) | go_size))))
             have h9g := (hbel9.cell (p := ⟨r3, kk, none⟩) (by have := HR.out.2.2; show r3 < r + 4; omega)).trans (hal1 _ _ (by (repeat' (first | (with_reducible first | exact Below.refl _ _ | assumption | refine Below.setCell ?_ ?_ _ | refine Below.alloc ?_ ?_ _ | refine below_drewN ?_ _ | refine Below.drew ?_) | go_size))))
             clear hown9 hgr9 hat9 hbel9
             refine hK.out _ _ ?_ (fun hHeld => ?_)
             ·
              (try dsimp only)
              try trivial
             clear hK K; (try simp only [Act.put, sA, sB, sC])
             refine wpAnyH_take (i := 12) (oi := { dst := some 314, op := Op.indexAddr 62 (Operand.tmp 302) (Operand.tmp 304), type := 0, pos := "law.go:186", after := #[{ on := 0, ground := Ground.data }, { on := 2, ground := Ground.data }, { on := 0, ground := Ground.phase }, { on := 1, ground := Ground.phase }, { on := 2, ground := Ground.phase }, { on := 3, ground := Ground.phase }, { on := 4, ground := Ground.phase }, { on := 5, ground := Ground.phase }, { on := 6, ground := Ground.phase }, { on := 7, ground := Ground.phase }, { on := 8, ground := Ground.phase }, { on := 9, ground := Ground.phase }, { on := 10, ground := Ground.phase }, { on := 11, ground := Ground.phase }], guard := none }) (v := ?_) rfl (by kernel_rfl) (by kernel_rfl) (by kernel_rfl) (fun _ _ _ h => h) (Or.inl ⟨by rfl, ?_⟩) (by assumption) ?_; rotate_left; (· (intro w hSw; (try dsimp only at hSw); go_simp; try with_reducible rfl)); (try simp only [Act.put, sA, sB, sC])
             refine wpAnyH_ready (rs := [13]) (by kernel_rfl) (by simp) ?_
             refine (AllReadyH.cons (o := { dst := none, op := Op.store 23 (Operand.tmp 314) (Operand.tmp 313), type := 0, pos := "law.go:186", after := #[{ on := 12, ground := Ground.data }, { on := 11, ground := Ground.data }, { on := 11, ground := Ground.chain }, { on := 0, ground := Ground.phase }, { on := 1, ground := Ground.phase }, { on := 2, ground := Ground.phase }, { on := 3, ground := Ground.phase }, { on := 4, ground := Ground.phase }, { on := 5, ground := Ground.phase }, { on := 6, ground := Ground.phase }, { on := 7, ground := Ground.phase }, { on := 8, ground := Ground.phase }, { on := 9, ground := Ground.phase }, { on := 10, ground := Ground.phase }, { on := 11, ground := Ground.phase }], guard := none }) rfl (fun K hK => ?_) AllReadyH.nil)
             go_simp
             refine hK.out _ _ ?_ (fun hHeld => ?_)
             ·
              (try dsimp only)
              try trivial
             clear hK K; (try simp only [Act.put, sA, sB, sC])
             refine wpAnyH_done (by kernel_rfl) ?_ _
             have HNz0 := HN9.out
             obtain ⟨wz, hwz⟩ : ∃ wz, wz = w9.setCell ⟨r3, kk, none⟩ (.slice A9 (Lg + 1) c9) := ⟨_, rfl⟩
             rw [← hwz] at HNz0 ⊢
             have HI3 := Lib.hid (HI2.out.got HKK.out HOK2.out HAL.out HTT.out HNz0.1 HNz0.2 (st4 + 1))
             clear hwz hHeld HN9 HNz0 h9g h9f ck hal1 hal2 HLA9 HOW HKK HAL HTT HI2 HFRD HVAD HRO HVG HLG HKL
             go_wp2
             go_roundw
             case rel => exact ⟨i4 + 1, st4 + 1, i5 + 1, ip5 + 1, _, _, _, _, _, _, _, none, rfl, by go_num, by omega, by omega, by omega, by omega, HI3⟩
             case measure => simp [intOf]; omega
            ·
             go_simp
             refine Calls.mono (HVAD.out _ (by (repeat' (first | (with_reducible first | exact Below.refl _ _ | assumption | refine Below.setCell ?_ ?_ _ | refine Below.alloc ?_ ?_ _ | refine below_drewN ?_ _ | refine Below.drew ?_) | go_size)))) ?_
             rintro e wq ⟨rfl, rfl⟩
             refine hK.out _ _ ?_ (fun hHeld => ?_)
             ·
              (try dsimp only)
              try trivial
             clear hK K; (try simp only [Act.put, sA, sB, sC])
             refine wpAnyH_ready (rs := [7, 10]) (by kernel_rfl) (by simp) ?_
             refine (AllReadyH.cons (o := { dst := some 309, op := Op.load 23 (Operand.tmp 308), type := 23, pos := "law.go:186", after := #[{ on := 6, ground := Ground.data }], guard := none }) rfl (fun K hK => ?_) (AllReadyH.cons (o := { dst := some 312, op := Op.buildSlice 23 1 #[(0, Operand.tmp 311)], type := 23, pos := "law.go:186", after := #[{ on := 9, ground := Ground.data }], guard := none }) rfl (fun K hK => ?_) AllReadyH.nil))
             ·
              go_simp
              (try (rw [hal1 _ _ (by (repeat' (first | (with_reducible first | exact Below.refl _ _ | assumption | refine Below.setCell ?_ ?_ _ | refine Below.alloc ?_ ?_ _ | refine below_drewN ?_ _ | refine Below.drew ?_) | go_size)))]; go_simp))
              refine hK.out _ _ ?_ (fun hHeld => ?_)
              ·
               (try dsimp only)
               try trivial
              clear hK K; (try simp only [Act.put, sA, sB, sC])
              refine wpAnyH_ready (rs := [10]) (by kernel_rfl) (by simp) ?_
              refine (AllReadyH.cons (o := { dst := some 312, op := Op.buildSlice 23 1 #[(0, Operand.tmp 311)], type := 23, pos := "law.go:186", after := #[{ on := 9, ground := Ground.data }], guard := none }) rfl (fun K hK => ?_) AllReadyH.nil)
              go_simp
              refine hK.out _ _ ?_ (fun hHeld => ?_)
              ·
               (try dsimp only)
               try trivial
              clear hK K; (try simp only [Act.put, sA, sB, sC])
              refine wpAnyH_ready (rs := [11]) (by kernel_rfl) (by simp) ?_
              refine (AllReadyH.cons (o := { dst := some 313, op := Op.call { callee := Callee.builtin Builtin.append, args := #[Operand.tmp 309, Operand.tmp 312], argTypes := #[23, 23] }, type := 23, pos := "law.go:186", after := #[{ on := 7, ground := Ground.data }, { on := 10, ground := Ground.data }, { on := 9, ground := Ground.chain }], guard := none }) rfl (fun K hK => ?_) AllReadyH.nil)
              refine step_app _ (by rfl) stU64s _ _ (by rfl) (r + 4) (.slice Ag Lg cg) Lg (kv .u64 (ql (k + kk))) (by rfl) (own_below HOW.out (by (repeat' (first | (with_reducible first | exact Below.refl _ _ | assumption | refine Below.setCell ?_ ?_ _ | refine Below.alloc ?_ ?_ _ | refine below_drewN ?_ _ | refine Below.drew ?_) | go_size)))) _ _ 1 [.int .u64 a'.num] (by rfl) (Sl.lit_at (by simp) rfl (by decide)) (by simp [Value.oneCell']) (by omega) (by have := HLW.out; have := HR.out.2.2; simp; omega) ?_
              intro v9 w9 hown9 hgr9 hat9 hbel9
              obtain ⟨A9, c9, hv9, _, _⟩ := (Sl.of_own hown9).form
              subst hv9
              have HN9 := Lib.hid (HLA9.out w4.drew (by (repeat' (first | (with_reducible first | exact Below.refl _ _ | assumption | refine Below.setCell ?_ ?_ _ | refine Below.alloc ?_ ?_ _ | refine below_drewN ?_ _ | refine Below.drew ?_) | go_size))) w9 _ hown9 hgr9 hat9)
              have h9f : w9.frozen? ⟨r3, kk, none⟩ = false := (hbel9.frozen (p := ⟨r3, kk, none⟩) (by have := HR.out.2.2; show r3 < r + 4; omega)).trans (hal2 _ _ (by (repeat' (first | (with_reducible first | exact Below.refl _ _ | assumption | refine Below.setCell ?_ ?_ _ | refine Below.alloc ?_ ?_ _ | refine below_drewN ?_ _ | refine Below.drew ?_) | go_size))))
              have h9g := (hbel9.cell (p := ⟨r3, kk, none⟩) (by have := HR.out.2.2; show r3 < r + 4; omega)).trans (hal1 _ _ (by (repeat' (first | (with_reducible first | exact Below.refl _ _ | assumption | refine Below.setCell ?_ ?_ _ | refine Below.alloc ?_ ?_ _ | refine below_drewN ?_ _ | refine Below.drew ?_) | go_size))))
              clear hown9 hgr9 hat9 hbel9
              refine hK.out _ _ ?_ (fun hHeld => ?_)
              ·
               (try dsimp only)
               try trivial
              clear hK K; (try simp only [Act.put, sA, sB, sC])
              refine wpAnyH_take (i := 12) (oi := { dst := some 314, op := Op.indexAddr 62 (Operand.tmp 302) (Operand.tmp 304), type := 0, pos := "law.go:186", after := #[{ on := 0, ground := Ground.data }, { on := 2, ground := Ground.data }, { on := 0, ground := Ground.phase }, { on := 1, ground := Ground.phase }, { on := 2, ground := Ground.phase }, { on := 3, ground := Ground.phase }, { on := 4, ground := Ground.phase }, { on := 5, ground := Ground.phase }, { on := 6, ground := Ground.phase }, { on := 7, ground := Ground.phase }, { on := 8, ground := Ground.phase }, { on := 9, ground := Ground.phase }, { on := 10, ground := Ground.phase }, { on := 11, ground := Ground.phase }], guard := none }) (v := ?_) rfl (by kernel_rfl) (by kernel_rfl) (by kernel_rfl) (fun _ _ _ h => h) (Or.inl ⟨by rfl, ?_⟩) (by assumption) ?_; rotate_left; (· (intro w hSw; (try dsimp only at hSw); go_simp; try with_reducible rfl)); (try simp only [Act.put, sA, sB, sC])
              refine wpAnyH_ready (rs := [13]) (by kernel_rfl) (by simp) ?_
              refine (AllReadyH.cons (o := { dst := none, op := Op.store 23 (Operand.tmp 314) (Operand.tmp 313), type := 0, pos := "law.go:186", after := #[{ on := 12, ground := Ground.data }, { on := 11, ground := Ground.data }, { on := 11, ground := Ground.chain }, { on := 0, ground := Ground.phase }, { on := 1, ground := Ground.phase }, { on := 2, ground := Ground.phase }, { on := 3, ground := Ground.phase }, { on := 4, ground := Ground.phase }, { on := 5, ground := Ground.phase }, { on := 6, ground := Ground.phase }, { on := 7, ground := Ground.phase }, { on := 8, ground := Ground.phase }, { on := 9, ground := Ground.phase }, { on := 10, ground := Ground.phase }, { on := 11, ground := Ground.phase }], guard := none }) rfl (fun K hK => ?_) AllReadyH.nil)
              go_simp
              refine hK.out _ _ ?_ (fun hHeld => ?_)
              ·
               (try dsimp only)
               try trivial
              clear hK K; (try simp only [Act.put, sA, sB, sC])
              refine wpAnyH_done (by kernel_rfl) ?_ _
              have HNz0 := HN9.out
              obtain ⟨wz, hwz⟩ : ∃ wz, wz = w9.setCell ⟨r3, kk, none⟩ (.slice A9 (Lg + 1) c9) := ⟨_, rfl⟩
              rw [← hwz] at HNz0 ⊢
              have HI3 := Lib.hid (HI2.out.got HKK.out HOK2.out HAL.out HTT.out HNz0.1 HNz0.2 (st4 + 1))
              clear hwz hHeld HN9 HNz0 h9g h9f ck hal1 hal2 HLA9 HOW HKK HAL HTT HI2 HFRD HVAD HRO HVG HLG HKL
              go_wp2
              go_roundw
              case rel => exact ⟨i4 + 1, st4 + 1, i5 + 1, ip5 + 1, _, _, _, _, _, _, _, none, rfl, by go_num, by omega, by omega, by omega, by omega, HI3⟩
              case measure => simp [intOf]; omega
             ·
              go_simp
              refine hK.out _ _ ?_ (fun hHeld => ?_)
              ·
               (try dsimp only)
               try trivial
              clear hK K; (try simp only [Act.put, sA, sB, sC])
              refine wpAnyH_ready (rs := [7]) (by kernel_rfl) (by simp) ?_
              refine (AllReadyH.cons (o := { dst := some 309, op := Op.load 23 (Operand.tmp 308), type := 23, pos := "law.go:186", after := #[{ on := 6, ground := Ground.data }], guard := none }) rfl (fun K hK => ?_) AllReadyH.nil)
              go_simp
              (try (rw [hal1 _ _ (by (repeat' (first | (with_reducible first | exact Below.refl _ _ | assumption | refine Below.setCell ?_ ?_ _ | refine Below.alloc ?_ ?_ _ | refine below_drewN ?_ _ | refine Below.drew ?_) | go_size)))]; go_simp))
              refine hK.out _ _ ?_ (fun hHeld => ?_)
              ·
               (try dsimp only)
               try trivial
              clear hK K; (try simp only [Act.put, sA, sB, sC])
              refine wpAnyH_ready (rs := [11]) (by kernel_rfl) (by simp) ?_
              refine (AllReadyH.cons (o := { dst := some 313, op := Op.call { callee := Callee.builtin Builtin.append, args := #[Operand.tmp 309, Operand.tmp 312], argTypes := #[23, 23] }, type := 23, pos := "law.go:186", after := #[{ on := 7, ground := Ground.data }, { on := 10, ground := Ground.data }, { on := 9, ground := Ground.chain }], guard := none }) rfl (fun K hK => ?_) AllReadyH.nil)
              refine step_app _ (by rfl) stU64s _ _ (by rfl) (r + 4) (.slice Ag Lg cg) Lg (kv .u64 (ql (k + kk))) (by rfl) (own_below HOW.out (by (repeat' (first | (with_reducible first | exact Below.refl _ _ | assumption | refine Below.setCell ?_ ?_ _ | refine Below.alloc ?_ ?_ _ | refine below_drewN ?_ _ | refine Below.drew ?_) | go_size)))) _ _ 1 [.int .u64 a'.num] (by rfl) (Sl.lit_at (by simp) rfl (by decide)) (by simp [Value.oneCell']) (by omega) (by have := HLW.out; have := HR.out.2.2; simp; omega) ?_
              intro v9 w9 hown9 hgr9 hat9 hbel9
              obtain ⟨A9, c9, hv9, _, _⟩ := (Sl.of_own hown9).form
              subst hv9
              have HN9 := Lib.hid (HLA9.out w4.drew (by (repeat' (first | (with_reducible first | exact Below.refl _ _ | assumption | refine Below.setCell ?_ ?_ _ | refine Below.alloc ?_ ?_ _ | refine below_drewN ?_ _ | refine Below.drew ?_) | go_size))) w9 _ hown9 hgr9 hat9)
              have h9f : w9.frozen? ⟨r3, kk, none⟩ = false := (hbel9.frozen (p := ⟨r3, kk, none⟩) (by have := HR.out.2.2; show r3 < r + 4; omega)).trans (hal2 _ _ (by (repeat' (first | (with_reducible first | exact Below.refl _ _ | assumption | refine Below.setCell ?_ ?_ _ | refine Below.alloc ?_ ?_ _ | refine below_drewN ?_ _ | refine Below.drew ?_) | go_size))))
              have h9g := (hbel9.cell (p := ⟨r3, kk, none⟩) (by have := HR.out.2.2; show r3 < r + 4; omega)).trans (hal1 _ _ (by (repeat' (first | (with_reducible first | exact Below.refl _ _ | assumption | refine Below.setCell ?_ ?_ _ | refine Below.alloc ?_ ?_ _ | refine below_drewN ?_ _ | refine Below.drew ?_) | go_size))))
              clear hown9 hgr9 hat9 hbel9
              refine hK.out _ _ ?_ (fun hHeld => ?_)
              ·
               (try dsimp only)
               try trivial
              clear hK K; (try simp only [Act.put, sA, sB, sC])
              refine wpAnyH_take (i := 12) (oi := { dst := some 314, op := Op.indexAddr 62 (Operand.tmp 302) (Operand.tmp 304), type := 0, pos := "law.go:186", after := #[{ on := 0, ground := Ground.data }, { on := 2, ground := Ground.data }, { on := 0, ground := Ground.phase }, { on := 1, ground := Ground.phase }, { on := 2, ground := Ground.phase }, { on := 3, ground := Ground.phase }, { on := 4, ground := Ground.phase }, { on := 5, ground := Ground.phase }, { on := 6, ground := Ground.phase }, { on := 7, ground := Ground.phase }, { on := 8, ground := Ground.phase }, { on := 9, ground := Ground.phase }, { on := 10, ground := Ground.phase }, { on := 11, ground := Ground.phase }], guard := none }) (v := ?_) rfl (by kernel_rfl) (by kernel_rfl) (by kernel_rfl) (fun _ _ _ h => h) (Or.inl ⟨by rfl, ?_⟩) (by assumption) ?_; rotate_left; (· (intro w hSw; (try dsimp only at hSw); go_simp; try with_reducible rfl)); (try simp only [Act.put, sA, sB, sC])
              refine wpAnyH_ready (rs := [13]) (by kernel_rfl) (by simp) ?_
              refine (AllReadyH.cons (o := { dst := none, op := Op.store 23 (Operand.tmp 314) (Operand.tmp 313), type := 0, pos := "law.go:186", after := #[{ on := 12, ground := Ground.data }, { on := 11, ground := Ground.data }, { on := 11, ground := Ground.chain }, { on := 0, ground := Ground.phase }, { on := 1, ground := Ground.phase }, { on := 2, ground := Ground.phase }, { on := 3, ground := Ground.phase }, { on := 4, ground := Ground.phase }, { on := 5, ground := Ground.phase }, { on := 6, ground := Ground.phase }, { on := 7, ground := Ground.phase }, { on := 8, ground := Ground.phase }, { on := 9, ground := Ground.phase }, { on := 10, ground := Ground.phase }, { on := 11, ground := Ground.phase }], guard := none }) rfl (fun K hK => ?_) AllReadyH.nil)
              go_simp
              refine hK.out _ _ ?_ (fun hHeld => ?_)
              ·
               (try dsimp only)
               try trivial
              clear hK K; (try simp only [Act.put, sA, sB, sC])
              refine wpAnyH_done (by kernel_rfl) ?_ _
              have HNz0 := HN9.out
              obtain ⟨wz, hwz⟩ : ∃ wz, wz = w9.setCell ⟨r3, kk, none⟩ (.slice A9 (Lg + 1) c9) := ⟨_, rfl⟩
              rw [← hwz] at HNz0 ⊢
              have HI3 := Lib.hid (HI2.out.got HKK.out HOK2.out HAL.out HTT.out HNz0.1 HNz0.2 (st4 + 1))
              clear hwz hHeld HN9 HNz0 h9g h9f ck hal1 hal2 HLA9 HOW HKK HAL HTT HI2 HFRD HVAD HRO HVG HLG HKL
              go_wp2
              go_roundw
              case rel => exact ⟨i4 + 1, st4 + 1, i5 + 1, ip5 + 1, _, _, _, _, _, _, _, none, rfl, by go_num, by omega, by omega, by omega, by omega, HI3⟩
              case measure => simp [intOf]; omega

set_option maxRecDepth 100000 in
/-- What the walk gives, for every argument: the row's own words. -/
theorem contract (H : Type) (enc : TypeId × Value → H) (W : World) (base : Nat) (args : Array Value) (ds gs : List (DataW H)) (before : List MemPlace)
    (hval : ∀ (j : Nat) t v, Try.f8.params[j]? = some t → args[j]? = some v → Value.okWide Try.prog W .any base t v)
    (hW : DataW.Whole enc Try.prog Try.f8.params.toList Rows.laneTurnsSpec.vars false W args.toList ds gs before) :
    Calls Try.prog 8 args W fun e W' => ∃ v, e = .returned v ∧ Rows.laneTurnsSpec.post enc Try.prog Try.f8 false true false false W args v W' := by
  have hW' := hW
  obtain ⟨p, q, hA0, hV, rfl, hfz, hnd⟩ := hW
  have hA : DataW.TrodAll enc Try.prog W 0 (fun _ => true) true Try.f8.params.toList args.toList ds p := hA0
  rw [Try.params8] at hA hval
  obtain ⟨v0, vs0, d0, ds0, p0, q0, hargs, rfl, rfl, h0, r0⟩ := trodAll_cons hA
  obtain ⟨v1, vs1, d1, ds1, p1, q1, rfl, rfl, rfl, h1, r1⟩ := trodAll_cons r0
  obtain ⟨v2, vs2, d2, ds2, p2, q2, rfl, rfl, rfl, h2, r2⟩ := trodAll_cons r1
  obtain ⟨rfl, rfl, rfl⟩ := trodAll_nil r2
  obtain rfl : args = #[v0, v1, v2] := by cases args; simp_all
  obtain ⟨a0, rfl, b0⟩ := open_i64 Try.underlying3 (hval 0 3 v0 rfl rfl) h0
  have b1 := open_u64rows Try.underlying62 (e := 23) (e2 := 22) (by kernel_rfl) (by kernel_rfl) Try.underlying23 (by kernel_rfl) (by kernel_rfl) Try.underlying22 (hval 1 62 v1 rfl rfl) h1
  obtain ⟨l2, b2, c2⟩ := open_i64s Try.underlying49 Try.underlying3 (by kernel_rfl) (hval 2 49 v2 rfl rfl) h2
  refine (walk W a0 b0 v1 b1 v2 l2 b2 c2).mono fun e W' ⟨he, hb⟩ => ?_
  subst he
  exact close_true (by kernel_rfl) Try.underlying4 (by kernel_rfl) (by kernel_rfl) rfl rfl hW' hb

set_option maxRecDepth 100000 in
theorem lifted (os : Os) (started : os.Started) (H : Type) (enc : TypeId × Value → H) :
    ReturnsInHanded {} Try.checked os 8 .any (Rows.laneTurnsSpec.pre6 enc Try.prog Try.f8 Rows.laneTurnsRow.domain false) (Rows.laneTurnsSpec.post enc Try.prog Try.f8 false true false false) := by
  refine returnsInHanded_of_change (C := Try.checked) own started (by kernel_rfl) Try.func8
    (ChangeSpec.witness6 (enc := enc) (C := Try.checked) false ⟨#[], #[.int .i64 0, .slice none 0 0, .slice none 0 0], []⟩ 8 (by kernel_rfl) (by kernel_rfl) (by kernel_rfl) (by kernel_rfl)) ?_
  intro W base args ds gs before hval hW _ _
  exact contract H enc W base args ds gs before hval hW

theorem proved : Rows.LaneTurnsSaid :=
  OpenClaim.holds_of_wide 8 Try.f8 rfl rfl rfl rfl rfl rfl rfl ⟨rfl, rfl, rfl, rfl, rfl⟩ rfl rfl rfl rfl rfl (by kernel_rfl) Try.func8 (by kernel_rfl)
    (of_decide_eq_true (by kernel_rfl)) (by unfold Func.isWrapper; first | (rw [if_pos (by decide +kernel)]; kernel_rfl) | (rw [if_neg (by decide +kernel)]; exact ⟨rfl, rfl⟩))
    (fun os started H enc _ => lifted os started H enc)
#print axioms proved
end Go.Proofs.Ytpojnknhmpmhjaa.laneTurns
