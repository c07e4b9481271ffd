/-
  Rows of pointers to rings: looked through, cloned; a lane is made, or isn't. No statement is proved here.
-/
import Derived.Test.YtpojnknhmpmhjaaLnA
import Derived.WalkSpells
set_option linter.unusedVariables false
namespace Go.Proofs.Ytpojnknhmpmhjaa
open Go.RowKit

/-- Pointers, of a row. -/
def ptv (f : Nat → Option Addr) (n : Nat) : List Value := (List.range n).map fun i => Value.pointer (f i)
theorem ptv_length (f : Nat → Option Addr) (n : Nat) : (ptv f n).length = n := by simp [ptv]
theorem ptv_at (f : Nat → Option Addr) {n i : Nat} (h : i < n) : (ptv f n)[i]? = some (.pointer (f i)) := by simp [ptv, List.getElem?_range h]
theorem ptv_one (f : Nat → Option Addr) (n : Nat) : ∀ u ∈ ptv f n, u.oneCell' = true := by
  intro u hu
  simp only [ptv, List.mem_map] at hu
  obtain ⟨x, _, rfl⟩ := hu
  rfl
theorem ptv_succ (f : Nat → Option Addr) (n : Nat) : ptv f (n + 1) = ptv f n ++ [.pointer (f n)] := by simp [ptv, List.range_succ]
theorem ptv_congr {f g : Nat → Option Addr} {n : Nat} (h : ∀ i, i < n → f i = g i) : ptv f n = ptv g n := by
  unfold ptv
  exact List.map_congr_left fun i hi => by rw [h i (List.mem_range.1 hi)]
theorem stRings : ST Try.prog 72 28 (.pointer none) 1 8 := ST.mk Try.underlying72 (by kernel_rfl) rfl (by omega) (by omega)
def rp (rbs : Nat → Nat) (i : Nat) : Option Addr := some ⟨rbs i, 0, none⟩

theorem isNone_of {w : World} {p : Option Addr} {x : Int} (h : ∀ n, Calls Try.prog 14 #[.pointer p] (w.drewN n) fun e w' => e = .returned (.int .i64 x) ∧ (w.drewN n) = w') {z : Bool} (hz : (x == 0) = z) (n : Nat) :
    Calls Try.prog 60 #[.pointer p] (w.drewN n) fun e w' => e = .returned (.bool z) ∧ (w.drewN n) = w' := by
  have HS := Lib.hid (h n)
  clear h
  generalize w.drewN n = w at *
  go_enter Try.func60, Try.ntmps60
  go_wp2_with fail
  refine (HS.out).mono ?_
  rintro e w1 ⟨rfl, rfl⟩
  go_wp2
  go_ret
  exact ⟨by first | rfl | (simp; done), rfl⟩
/-- What is asked of each place of a row: is it no ring? -/
def Asks (w : World) (n : Nat) (f : Nat → Option Addr) (d : Nat → Bool) : Prop :=
  ∀ i, i < n → ∀ k, Calls Try.prog 60 #[.pointer (f i)] (w.drewN k) fun e w' => e = .returned (.bool (d i)) ∧ (w.drewN k) = w'
set_option maxRecDepth 20000 in
set_option maxHeartbeats 1600000 in
theorem index_rings {w : World} {B n : Nat} {v : Value} {f : Nat → Option Addr} {d : Nat → Bool} (hv : Sl w B 1 v n (ptv f n)) (hn : n ≤ 1000000) (ha : Asks w n f d) (m : Nat) (hm : m ≤ n) (h0 : ∀ i, i < m → d i = false) (h1 : m < n → d m = true) :
    Calls Try.prog 63 #[v, .func (.func 60) #[] #[]] w (Quiet (.int .i64 (if m < n then (m : Int) else -1)) w) := by
  obtain ⟨_, A, cap, rfl, hcap, hmx, hA⟩ := hv
  unfold maxLen at hmx
  have HA := Lib.hid hA
  have HD := Lib.hid ha
  have H0 := Lib.hid h0
  have H1 := Lib.hid h1
  obtain ⟨X, hX⟩ : ∃ X : Int, X = if m < n then (m : Int) else -1 := ⟨_, rfl⟩
  rw [← hX]
  have HX := Lib.hid hX
  clear hA ha h0 h1 hX
  go_enter Try.func63, Try.ntmps63
  go_wp2
  go_loopw [8] (fun i wr => ∃ k : Nat, k ≤ m ∧ i = .int .i64 k ∧ ∃ q, wr = w.drewN q) (fun i _ => n - (intOf i).toNat)
  case atStart => exact ⟨0, by omega, rfl, 0, by rw [World.drewN_zero]⟩
  case round =>
    obtain ⟨k, hk, rfl, q, rfl⟩ := hrel
    by_cases hlt : k < n
    · obtain ⟨b, off, rfl, hb, hc⟩ := HA.out (by omega)
      have hcell := (hc k (by omega)).trans (ptv_at f hlt)
      have hcq : (w.drewN q).cell? ⟨b, off + k, none⟩ = some (.pointer (f k)) := hcell
      have HK := Lib.hid (HD.out k hlt q)
      clear hc hcell HA
      by_cases hkm : k = m
      · subst hkm
        rw [H1.out hlt] at HK
        have hx : X = (k : Int) := by rw [HX.out, if_pos hlt]
        clear H0 H1 HX HD
        go_wp2_with fail
        refine (HK.out).mono ?_
        rintro e w1 ⟨rfl, rfl⟩
        go_wp2
        go_ret
        exact ⟨by rw [hx]; rfl, _, rfl⟩
      · rw [H0.out k (by omega)] at HK
        clear H0 H1 HX HD
        go_wp2_with fail
        refine (HK.out).mono ?_
        rintro e w1 ⟨rfl, rfl⟩
        go_wp2
        go_roundw
        case rel => exact ⟨k + 1, by omega, by go_num, q, rfl⟩
        case measure => simp [intOf]; omega
    · have hkn : k = n := by omega
      subst hkn
      have hx : X = -1 := by rw [HX.out, if_neg (by omega)]
      clear H0 H1 HX HD HA
      go_wp2
      go_ret
      exact ⟨by rw [hx]; rfl, _, rfl⟩
theorem contains_rings {w : World} {B n : Nat} {v : Value} {f : Nat → Option Addr} {d : Nat → Bool} (hv : Sl w B 1 v n (ptv f n)) (hn : n ≤ 1000000) (ha : Asks w n f d) (m : Nat) (hm : m ≤ n) (h0 : ∀ i, i < m → d i = false) (h1 : m < n → d m = true) :
    Calls Try.prog 59 #[v, .func (.func 60) #[] #[]] w (Quiet (.bool (decide (m < n))) w) := by
  have HI := Lib.hid (index_rings hv hn ha m hm h0 h1)
  obtain ⟨A, cap, rfl, _, _⟩ := hv.form
  obtain ⟨X, hX⟩ : ∃ X : Int, X = if m < n then (m : Int) else -1 := ⟨_, rfl⟩
  rw [← hX] at HI
  have hd : decide (X ≥ 0) = decide (m < n) := by
    by_cases h : m < n
    · rw [hX, if_pos h]; simp [h]
    · rw [hX, if_neg h]; simp [h]
  have hd' : decide (0 ≤ X) = decide (m < n) := hd
  generalize decide (m < n) = z at *
  clear hX hv h0 h1 ha
  go_enter Try.func59, Try.ntmps59
  go_wp2_with fail
  refine (HI.out).mono ?_
  rintro e w1 ⟨rfl, q, rfl⟩
  go_wp2
  go_ret
  exact ⟨by first | rfl | (simp [hd']; done), _, rfl⟩
set_option maxRecDepth 20000 in
set_option maxHeartbeats 1600000 in
theorem clone_rings {w : World} {B n : Nat} {v : Value} {f : Nat → Option Addr} (hn0 : 0 < n) (hn : n ≤ 1000000) (hv : Sl w B 1 v n (ptv f n)) (hB : B ≤ w.heap.size) :
    Calls Try.prog 61 #[v] w fun e w' => ∃ u, e = .returned u ∧ w'.ownsRow w.heap.size 28 1 u n (ptv f n) ∧ Below w.heap.size w w' := by
  have HS := Lib.hid hv
  obtain ⟨b, off, cap, rfl, h1, h2, hb, hc⟩ := hv.at_ hn0
  have HONE := Lib.hid (ptv_one f n)
  generalize ptv f n = xs at *
  clear hc hv h2
  have hnil := fun (W : World) => Lib.run_eql_slice_nil (P := Try.prog) W 72 28 (some ⟨b, off, none⟩) n cap 0 0 Try.underlying72
  go_enter Try.func61, Try.ntmps61
  go_wp2_with (first
    | (at_builtin; refine wpList_apv _ rfl stRings _ _ rfl w.heap.size (.slice (some ⟨w.heap.size, 0, none⟩) 0 0) 0 [] rfl ⟨by simp, .inr ⟨w.heap.size, 0, #[], rfl, Nat.le_refl _, heap_alloc_new w _, Nat.le_refl _, by simp [maxLen], by simp, by simp⟩⟩ B _ n xs rfl (HS.out.below (by (repeat' (first | (with_reducible exact Below.refl _ _) | (with_reducible refine Below.alloc ?_ ?_ _) | go_size)))) HONE.out (by omega) (by go_size) ?_; intro A2 c2 w9 hown2 hgr2 hat2 hbel2; clear hgr2 hat2))
  have HO0 : w9.ownsRow w.heap.size 28 1 (.slice A2 n c2) n xs := by simpa using hown2
  have HO := Lib.hid HO0
  clear HO0
  have HB9 : Hid (Below w.heap.size w w9) := Below.trans ((Below.refl _ _).alloc (Nat.le_refl _) _) hbel2
  clear hown2 hbel2
  go_wp2
  go_ret
  exact ⟨_, by first | rfl | (simp; done), HO.out, HB9.out⟩
end Go.Proofs.Ytpojnknhmpmhjaa
