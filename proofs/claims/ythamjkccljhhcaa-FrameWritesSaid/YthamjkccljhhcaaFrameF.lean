/-
  Contracts of layer 2's writers of numbers and of noughts, the program's own and the document's: each appends onto a row of the call's own. No statement is proved here.
-/
import Derived.Test.YthamjkccljhhcaaFrameC
namespace Go.Proofs.Ythamjkccljhhcaa
open Go.RowKit

/-- The call gave back its row with something behind it, and turned nothing below the row's base. -/
def Onto (base : Nat) (n : Nat) (l : List Nat) (w : World) (e : Ending) (w' : World) : Prop :=
  ∃ A c, e = .returned (.slice A n c) ∧ w'.ownsRow base 5 1 (.slice A n c) n (bv l) ∧ Below base w w'

theorem by2_bv (k : Nat) : [Value.int .u8 ((k / 256 : Nat) : Int), .int .u8 ((k % 256 : Nat) : Int)] = bv (by2 k) := rfl

set_option maxHeartbeats 400000 in
theorem frame_appendNumber {base n k : Nat} {l : List Nat} (hk : k < 65536) {v : Value} {w : World} (hv : w.ownsRow base 5 1 v n (bv l)) (hb : base ≤ w.heap.size) (hn : n ≤ 1000000) :
    Calls Try.prog 58 #[v, .int .u16 (k : Int)] w (Onto base (n + 2) (l ++ by2 k) w) := by
  have HV := Lib.hid hv
  clear hv
  go_enter Try.func58, Try.ntmps58
  go_wp2_with (first
    | (at_builtin; refine wpList_apv _ rfl stBytes _ _ rfl base v n (bv l) rfl (HV.out.alloc _) (w.heap.size + 1) _ 2 (bv (by2 k)) rfl (Sl.lit w #[.int .u8 ((k : Int) / 256), .int .u8 ((k : Int) % 256)] _ 2 rfl (by decide)) (bv_one _) (by omega) (by simp; omega) ?_; intro A1 c1 w1 hown1 hg1 hat1 hbel1))
  go_ret
  refine ⟨A1, c1, rfl, by rw [bv_append]; exact hown1, ((Below.refl _ _).alloc hb _).trans hbel1⟩

set_option maxHeartbeats 400000 in
theorem frame_appendTag {base n k : Nat} {l : List Nat} (hk : k < 65536) {v : Value} {w : World} (hv : w.ownsRow base 5 1 v n (bv l)) (hb : base ≤ w.heap.size) (hn : n ≤ 100000) :
    Calls Try.prog 57 #[v, .int .u16 (k : Int)] w (Onto base (n + 4) (l ++ ([129, 0] ++ by2 k)) w) := by
  have HV := Lib.hid hv
  clear hv
  have c1 : ∀ W v n l, W.ownsRow base 5 1 v n (bv l) → base ≤ W.heap.size → n ≤ 1000000 → Calls Try.prog 58 #[v, .int .u16 33024] W (Onto base (n + 2) (l ++ [129, 0]) W) := fun W v n l h1 h2 h3 => frame_appendNumber (k := 33024) (by omega) h1 h2 h3
  have C1 := Lib.hid c1
  clear c1
  go_enter Try.func57, Try.ntmps57
  go_wp2_with fail
  refine Calls.mono (C1.out _ _ _ _ HV.out hb (by omega)) ?_
  rintro e w1 ⟨A1, p1, rfl, ho1, hb1⟩
  have HO1 := Lib.hid ho1
  have hz1 : base ≤ w1.heap.size := Nat.le_trans hb hb1.size
  have HB1 := Lib.hid hb1
  clear ho1 hb1
  go_wp2_with fail
  refine Calls.mono (frame_appendNumber hk HO1.out hz1 (by omega)) ?_
  rintro e w2 ⟨A2, p2, rfl, ho2, hb2⟩
  go_wp2
  go_ret
  refine ⟨A2, p2, rfl, by simpa using ho2, HB1.out.trans hb2⟩

theorem padL_eq (l : List Nat) (n : Nat) (h : l.length = n) (h2 : 60 ≤ n) : padL l = l := by
  unfold padL
  rw [show 60 - l.length = 0 by omega]
  simp
theorem padL_length (l : List Nat) : (padL l).length = if l.length < 60 then 60 else l.length := by
  unfold padL
  simp
  split <;> omega

set_option maxHeartbeats 1000000 in
theorem frame_pad {base n : Nat} {l : List Nat} {v : Value} {w : World} (hv : w.ownsRow base 5 1 v n (bv l)) (hb : base ≤ w.heap.size) (hn : n ≤ 1000000) :
    Calls Try.prog 59 #[v] w (Onto base (padL l).length (padL l) w) := by
  have hll : l.length = n := by have := hv.1; rw [bv_length] at this; omega
  subst hll
  have HV := Lib.hid hv
  obtain ⟨A, c, rfl, _, _⟩ := (Sl.of_own hv).form
  clear hv
  go_enter Try.func59, Try.ntmps59
  go_wp2
  go_loopw [0] (fun u wr => ∃ (k : Nat) (A : Option Addr) (c : Nat), (k = 0 ∨ l.length + k ≤ 60) ∧ u = .slice A (l.length + k) c ∧ Hid (wr.ownsRow base 5 1 (.slice A (l.length + k) c) (l.length + k) (bv (l ++ List.replicate k 0))) ∧ Below base w wr) (fun u _ => 60 - (match u with | .slice _ n _ => n | _ => 0))
  case atStart => exact ⟨0, A, c, .inl rfl, rfl, by simpa using HV, Below.refl _ _⟩
  case round =>
    obtain ⟨k, A, c, hk, rfl, HO, hbel⟩ := hrel
    have hsz : base ≤ wr.heap.size := Nat.le_trans hb hbel.size
    by_cases hlt : l.length + k < 60
    · go_wp2_with (first
        | (at_builtin; refine wpList_apv _ rfl stBytes _ _ rfl base (.slice A (l.length + k) c) (l.length + k) (bv (l ++ List.replicate k 0)) rfl (HO.out.alloc _) (wr.heap.size + 1) _ 1 (bv [0]) rfl (Sl.lit wr #[.int .u8 0] _ 1 rfl (by decide)) (bv_one _) (by omega) (by simp; omega) ?_; intro A1 c1 w1 hown1 hg1 hat1 hbel1))
      have HR : bv (l ++ List.replicate (k + 1) 0) = bv (l ++ List.replicate k 0) ++ bv [0] := by
        rw [List.replicate_succ', ← List.append_assoc, bv_append]
      rw [← HR] at hown1
      have HO1 := Lib.hid hown1
      clear hown1 HR
      go_roundw
      case rel => exact ⟨k + 1, A1, c1, .inr (by omega), rfl, HO1.out, (hbel.alloc hsz _).trans hbel1⟩
      case measure => simp; omega
    · have hpl : padL l = l ++ List.replicate k 0 := by
        unfold padL
        rcases hk with rfl | hk
        · rw [show 60 - l.length = 0 by omega]
        · rw [show 60 - l.length = k by omega]
      have hpn : (padL l).length = l.length + k := by rw [hpl]; simp
      have HP := Lib.hid hpl
      have HPN := Lib.hid hpn
      clear hpl hpn
      go_wp2
      go_ret
      refine ⟨A, c, ?_, ?_, hbel⟩
      · rw [HPN.out]; rfl
      · rw [HPN.out, HP.out]; exact HO.out
set_option maxHeartbeats 1000000 in
theorem ref_pad {base n : Nat} {l : List Nat} {v : Value} {w : World} (hv : w.ownsRow base 5 1 v n (bv l)) (hb : base ≤ w.heap.size) (hn : n ≤ 1000000) :
    Calls Try.prog 63 #[v] w (Onto base (padL l).length (padL l) w) := by
  have hll : l.length = n := by have := hv.1; rw [bv_length] at this; omega
  subst hll
  have HV := Lib.hid hv
  obtain ⟨A, c, rfl, _, _⟩ := (Sl.of_own hv).form
  clear hv
  go_enter Try.func63, Try.ntmps63
  go_wp2
  go_loopw [0] (fun u wr => ∃ (k : Nat) (A : Option Addr) (c : Nat), (k = 0 ∨ l.length + k ≤ 60) ∧ u = .slice A (l.length + k) c ∧ Hid (wr.ownsRow base 5 1 (.slice A (l.length + k) c) (l.length + k) (bv (l ++ List.replicate k 0))) ∧ Below base w wr) (fun u _ => 60 - (match u with | .slice _ n _ => n | _ => 0))
  case atStart => exact ⟨0, A, c, .inl rfl, rfl, by simpa using HV, Below.refl _ _⟩
  case round =>
    obtain ⟨k, A, c, hk, rfl, HO, hbel⟩ := hrel
    have hsz : base ≤ wr.heap.size := Nat.le_trans hb hbel.size
    by_cases hlt : l.length + k < 60
    · go_wp2_with (first
        | (at_builtin; refine wpList_apv _ rfl stBytes _ _ rfl base (.slice A (l.length + k) c) (l.length + k) (bv (l ++ List.replicate k 0)) rfl (HO.out.alloc _) (wr.heap.size + 1) _ 1 (bv [0]) rfl (Sl.lit wr #[.int .u8 0] _ 1 rfl (by decide)) (bv_one _) (by omega) (by simp; omega) ?_; intro A1 c1 w1 hown1 hg1 hat1 hbel1))
      have HR : bv (l ++ List.replicate (k + 1) 0) = bv (l ++ List.replicate k 0) ++ bv [0] := by
        rw [List.replicate_succ', ← List.append_assoc, bv_append]
      rw [← HR] at hown1
      have HO1 := Lib.hid hown1
      clear hown1 HR
      go_roundw
      case rel => exact ⟨k + 1, A1, c1, .inr (by omega), rfl, HO1.out, (hbel.alloc hsz _).trans hbel1⟩
      case measure => simp; omega
    · have hpl : padL l = l ++ List.replicate k 0 := by
        unfold padL
        rcases hk with rfl | hk
        · rw [show 60 - l.length = 0 by omega]
        · rw [show 60 - l.length = k by omega]
      have hpn : (padL l).length = l.length + k := by rw [hpl]; simp
      have HP := Lib.hid hpl
      have HPN := Lib.hid hpn
      clear hpl hpn
      go_wp2
      go_ret
      refine ⟨A, c, ?_, ?_, hbel⟩
      · rw [HPN.out]; rfl
      · rw [HPN.out, HP.out]; exact HO.out

set_option maxHeartbeats 400000 in
theorem ref_bytes {k : Nat} (hk : k < 65536) {w : World} :
    Calls Try.prog 62 #[.int .u16 (k : Int)] w (Onto w.heap.size 2 (by2 k) w) := by
  go_enter Try.func62, Try.ntmps62
  go_wp2
  go_ret
  refine ⟨_, _, rfl, ?_, (Below.refl _ _).alloc (Nat.le_refl _) _⟩
  exact own_full (heap_alloc_new w _) (Nat.le_refl _) rfl (by decide) rfl
end Go.Proofs.Ythamjkccljhhcaa
