/-
  Contracts of layer 7's Counts, the program's own and the document's: how often each one's turn it was. No statement is proved here.
-/
import Derived.Test.YthamjkccljhhcabTurnC
set_option linter.unusedVariables false
namespace Go.Proofs.Ythamjkccljhhcab
open Go.RowKit

/-- How many of the picks are w's. -/
def cntN (m : Int) (w : Nat) (p : List Int) : Nat := p.countP fun x => whoN x m == (w : Int)
theorem cntN_le (m : Int) (w : Nat) (p : List Int) : cntN m w p ≤ p.length := List.countP_le_length
theorem cntN_nil (m : Int) (w : Nat) : cntN m w [] = 0 := rfl
theorem cntN_succ (m : Int) (w : Nat) (p : List Int) (k : Nat) (h : k < p.length) : cntN m w (p.take (k + 1)) = cntN m w (p.take k) + if whoN (p.getD k 0) m = (w : Int) then 1 else 0 := by
  unfold cntN
  rw [List.take_succ_eq_append_getElem h, List.countP_append]
  simp only [List.countP_cons, List.countP_nil, List.getD_eq_getElem?_getD, List.getElem?_eq_getElem h, Option.getD_some]
  by_cases hh : whoN p[k] m = (w : Int) <;> simp [hh]
/-- Of each one, of 64 at most. -/
def cntL (m : Int) (p : List Int) : List Int := if m < 1 then [] else (List.range (min m.toNat 64)).map fun (w : Nat) => ((cntN m w p : Nat) : Int)
theorem whoN_nat (x m : Int) (hm : 1 ≤ m) : ∃ q : Nat, whoN x m = (q : Int) ∧ (q : Int) < m := by
  unfold whoN
  rw [if_neg (by omega)]
  have h2 := Int.emod_nonneg (IntKind.u64.wrap x) (show m ≠ 0 by omega)
  have h3 := Int.emod_lt_of_pos (IntKind.u64.wrap x) (show 0 < m by omega)
  exact ⟨(IntKind.u64.wrap x % m).toNat, by omega, by omega⟩

set_option maxHeartbeats 1600000 in
theorem turn_Counts1 {p : List Int} {v : Value} {n : Nat} {B : Nat} {w : World} (m : Int) (hm : 1 ≤ m ∧ m ≤ 9223372036854775807) (hn : n ≤ 1000000) (hv : Sl w B 1 v n (kv .i64 p)) (hB : B ≤ w.heap.size) :
    Calls Try.prog 38 #[.int .i64 m, v] w (Ints (cntL m p) w) := by
  have hlen : p.length = n := by have := hv.len; rw [kv_length] at this; omega
  obtain ⟨M, hM⟩ : ∃ M : Nat, M = min m.toNat 64 := ⟨_, rfl⟩
  have hif : (if (64 : Int) < m then (64 : Int) else m) = (M : Int) := by split <;> omega
  have hM1 : M ≤ 64 := by omega
  have hL : cntL m p = (List.range M).map fun (w : Nat) => ((cntN m w p : Nat) : Int) := by
    unfold cntL
    rw [if_neg (by omega), hM]
  obtain ⟨_, A, cap, rfl, hA1, hA2, hA⟩ := hv
  unfold maxLen at hA2
  have hmk1 := run_mkFull (P := Try.prog) w stInts M (by omega)
  obtain ⟨w0, hw0⟩ : ∃ w0, w0 = w.alloc (.cells (mkC (.int .i64 0) 1 M) 3) := ⟨_, rfl⟩
  have HR0 : Hid (w0.rowIs w.heap.size 3 M (fun _ => .int .i64 0)) := by rw [hw0]; exact rowIs_mk rfl rfl
  have HB0 : Hid (Below w.heap.size w w0) := by rw [hw0]; exact (Below.refl _ _).alloc (Nat.le_refl _) _
  rw [← hw0] at hmk1
  have HL := Lib.hid hL
  have HA := Lib.hid hA
  have HN := Lib.hid hlen
  have HM := Lib.hid hm
  have HMM := Lib.hid hM
  have HB' := Lib.hid hB
  have hnm : ¬ m < 1 := by omega
  clear hL hA hlen hM hw0 hm hB
  go_enter Try.func38, Try.ntmps38
  go_wp2
  clear hif hmk1
  go_loopw [16] (fun i wr => ∃ k : Nat, k ≤ n ∧ i = .int .i64 k ∧ Hid (wr.rowIs w.heap.size 3 M (fun j => .int .i64 ((cntN m j (p.take k) : Nat) : Int))) ∧ Hid (Below w.heap.size w wr)) (fun i _ => n - (intOf i).toNat)
  case atStart => exact ⟨0, by omega, rfl, HR0.out.congr fun i hi => by simp [cntN_nil], HB0.out⟩
  case round =>
    obtain ⟨k, hk, rfl, HR, HB⟩ := hrel
    by_cases hlt : k < n
    · have hk1 : (k : Int) < (n : Int) := by omega
      have hk0 : (0 : Int) ≤ (k : Int) := Int.natCast_nonneg _
      obtain ⟨b, off, rfl, hb, hc⟩ := HA.out (by omega)
      have hkl : k < p.length := by have := HN.out; omega
      have hx := kv_getElem? .i64 p k hkl
      have hcell : wr.cell? ⟨b, off + k, none⟩ = some (.int .i64 (p.getD k 0)) := (HB.out.cell (p := ⟨b, off + k, none⟩) (by have := HB'.out; show b < _; omega)).trans ((hc k (by omega)).trans hx)
      have HS := Lib.hid fun j => cntN_succ m j p k hkl
      obtain ⟨q, hq, hqm⟩ := whoN_nat (p.getD k 0) m HM.out.1
      have hW := fun W => turn_Who (p.getD k 0) m HM.out.2 W
      rw [hq] at hW
      have HQ := Lib.hid hq
      have HW := Lib.hid hW
      clear hc hx hW hq HA
      generalize p.getD k 0 = x at *
      by_cases hqM : q < M
      · have hq1 : (q : Int) < (M : Int) := by omega
        have hq0 : (0 : Int) ≤ (q : Int) := Int.natCast_nonneg _
        have hcq : wr.cell? ⟨w.heap.size, q, none⟩ = some (.int .i64 ((cntN m q (p.take k) : Nat) : Int)) := by rw [HR.out.cell hqM]
        have hfr : wr.frozen? ⟨w.heap.size, q, none⟩ = false := HR.out.frozen q
        have hcl : cntN m q (p.take k) ≤ n := by have := cntN_le m q (p.take k); rw [List.length_take] at this; omega
        have HR2 : Hid ((wr.setCell ⟨w.heap.size, q, none⟩ (.int .i64 (((cntN m q (p.take k) : Nat) : Int) + 1))).rowIs w.heap.size 3 M (fun j => .int .i64 ((cntN m j (p.take (k + 1)) : Nat) : Int))) := by
          refine (HR.out.set q _).congr fun i hi => ?_
          rw [HS.out i, HQ.out]
          by_cases h1 : i = q
          · subst h1; simp
          · rw [if_neg h1, if_neg (by omega)]; simp
        have HB2 : Hid (Below w.heap.size w (wr.setCell ⟨w.heap.size, q, none⟩ (.int .i64 (((cntN m q (p.take k) : Nat) : Int) + 1)))) := HB.out.setCell (Nat.le_refl _) _
        generalize cntN m q (p.take k) = z at *
        clear HR HB HS HQ
        go_wp2_with fail
        refine (HW.out _).mono ?_
        rintro e w2 ⟨rfl, rfl⟩
        go_wp2
        clear hcell hcq hfr
        go_roundw
        case rel => exact ⟨k + 1, by omega, by go_num, HR2.out, HB2.out⟩
        case measure => simp [intOf]; omega
      · have hq1 : ¬ (q : Int) < (M : Int) := by omega
        have HR2 : Hid (wr.rowIs w.heap.size 3 M (fun j => .int .i64 ((cntN m j (p.take (k + 1)) : Nat) : Int))) := by
          refine HR.out.congr fun i hi => ?_
          rw [HS.out i, HQ.out, if_neg (by omega)]; simp
        clear HR HS HQ
        go_wp2_with fail
        refine (HW.out _).mono ?_
        rintro e w2 ⟨rfl, rfl⟩
        go_wp2
        clear hcell
        go_roundw
        case rel => exact ⟨k + 1, by omega, by go_num, HR2.out, HB.out⟩
        case measure => simp [intOf]; omega
    · have : k = n := by omega
      subst this
      go_wp2
      go_ret
      exact Ints.row (f := fun j => ((cntN m j (p.take k) : Nat) : Int)) HR.out (by rw [HL.out, List.take_of_length_le (by have := HN.out; omega)]) (by simp [maxLen]; omega) HB.out

def cntK (m : Int) (p : List Int) (k : Nat) : List Int := (List.range k).map fun (w : Nat) => ((cntN m w p : Nat) : Int)
theorem cntK_length (m : Int) (p : List Int) (k : Nat) : (cntK m p k).length = k := by simp [cntK]
theorem cntK_succ (m : Int) (p : List Int) (k : Nat) : kv .i64 (cntK m p (k + 1)) = kv .i64 (cntK m p k) ++ [.int .i64 ((cntN m k p : Nat) : Int)] := by
  unfold cntK kv
  rw [List.range_succ]
  simp
set_option maxHeartbeats 1600000 in
theorem ref7_Counts {p : List Int} {v : Value} {n : Nat} {B : Nat} {w : World} (m : Int) (hm : m ≤ 9223372036854775807) (hn : n ≤ 1000000) (hv : Sl w B 1 v n (kv .i64 p)) (hB : B ≤ w.heap.size) :
    Calls Try.prog 39 #[.int .i64 m, v] w (Ints (cntL m p) w) := by
  have hlen : p.length = n := by have := hv.len; rw [kv_length] at this; omega
  obtain ⟨M, hM⟩ : ∃ M : Nat, M = min m.toNat 64 := ⟨_, rfl⟩
  have hM1 : M ≤ 64 := by omega
  have hL : cntL m p = cntK m p M := by
    unfold cntL
    by_cases h : m < 1
    · rw [if_pos h, hM, show min m.toNat 64 = 0 by omega]; rfl
    · rw [if_neg h, hM]; rfl
  rw [hL]
  obtain ⟨_, A, cap, rfl, hA1, hA2, hA⟩ := hv
  unfold maxLen at hA2
  have HL := Lib.hid (cntK_length m p M)
  have HA := Lib.hid hA
  have HN := Lib.hid hlen
  have HM := Lib.hid hm
  have HMM := Lib.hid hM
  have HB' := Lib.hid hB
  clear hL hA hlen hM hm hB
  go_enter Try.func39, Try.ntmps39
  go_wp2
  go_loopw [5, 6] (fun o i wr => ∃ j : Nat, j ≤ M ∧ i = .int .i64 j ∧ Hid (wr.ownsRow w.heap.size 3 1 o j (kv .i64 (cntK m p j))) ∧ Hid (Below w.heap.size w wr)) (fun _ i _ => M - (intOf i).toNat)
  case atStart => exact ⟨0, by omega, rfl, ⟨by simp [kv, cntK], .inl ⟨rfl, rfl⟩⟩, Below.refl _ _⟩
  case round =>
    obtain ⟨j, hj, rfl, HO, HBW⟩ := hrel
    have hj0 : (0 : Int) ≤ (j : Int) := Int.natCast_nonneg _
    by_cases hlt : j < M
    · have hk1 : decide ((j : Int) < m) = true := by have := HMM.out; simp; omega
      have hk2 : (j : Int) < 64 := by omega
      have hsz := HBW.out.size
      have HU := Lib.hid (cntK_succ m p j)
      go_wp2
      go_loop [7, 8] (fun c i => ∃ k : Nat, k ≤ n ∧ i = .int .i64 k ∧ c = .int .i64 ((cntN m j (p.take k) : Nat) : Int)) (fun _ i => n - (intOf i).toNat)
      case atStart => exact ⟨0, by omega, rfl, by simp [cntN_nil]⟩
      case round =>
        obtain ⟨k, hk, rfl, rfl⟩ := hrel
        have hk0 : (0 : Int) ≤ (k : Int) := Int.natCast_nonneg _
        by_cases hkn : k < n
        · have hk1 : (k : Int) < (n : Int) := by omega
          obtain ⟨b, off, rfl, hb, hc⟩ := HA.out (by omega)
          have hkl : k < p.length := by have := HN.out; omega
          have hx := kv_getElem? .i64 p k hkl
          have hcell : wr.cell? ⟨b, off + k, none⟩ = some (.int .i64 (p.getD k 0)) := (HBW.out.cell (p := ⟨b, off + k, none⟩) (by have := HB'.out; show b < _; omega)).trans ((hc k (by omega)).trans hx)
          have HS := Lib.hid (cntN_succ m j p k hkl)
          have HW := Lib.hid fun W => ref7_Who (p.getD k 0) m HM.out W
          have hcl : cntN m j (p.take k) ≤ n := by have := cntN_le m j (p.take k); rw [List.length_take] at this; omega
          clear hc hx HA
          generalize p.getD k 0 = x at *
          by_cases hq : whoN x m = (j : Int)
          · have HS2 := Lib.hid (show ((cntN m j (p.take (k + 1)) : Nat) : Int) = ((cntN m j (p.take k) : Nat) : Int) + 1 by rw [HS.out, if_pos hq]; simp)
            have hb1 : (whoN x m == (j : Int)) = true := by simp [hq]
            have HHq := Lib.hid hq
            clear HS hq
            generalize cntN m j (p.take k) = z at *
            go_wp2_with fail
            refine (HW.out _).mono ?_
            rintro e w2 ⟨rfl, rfl⟩
            go_wp2
            go_round
            case rel => exact ⟨k + 1, by omega, by go_num, by rw [HS2.out]⟩
            case measure => simp [intOf]; omega
          · have HS2 := Lib.hid (show ((cntN m j (p.take (k + 1)) : Nat) : Int) = ((cntN m j (p.take k) : Nat) : Int) by rw [HS.out, if_neg hq]; simp)
            have hb1 : (whoN x m == (j : Int)) = false := by simp [hq]
            clear HS hq
            generalize cntN m j (p.take k) = z at *
            go_wp2_with fail
            refine (HW.out _).mono ?_
            rintro e w2 ⟨rfl, rfl⟩
            go_wp2
            go_round
            case rel => exact ⟨k + 1, by omega, by go_num, by rw [HS2.out]⟩
            case measure => simp [intOf]; omega
        · have : k = n := by omega
          subst this
          have HT := Lib.hid (show p.take k = p from List.take_of_length_le (by have := HN.out; omega))
          rw [HT.out]
          go_wp2_with (first
            | (at_builtin; refine wpList_app _ rfl stInts (.tmp 34) (.tmp 36) rfl w.heap.size u5 j _ rfl (HO.out.alloc _) (wr.heap.size + 1) _ 1 [.int .i64 ((cntN m j p : Nat) : Int)] rfl (Sl.lit wr #[.int .i64 ((cntN m j p : Nat) : Int)] _ 1 rfl (by decide)) (by simp [Value.oneCell']) (by omega) (by simp; omega) ?_; intro v2 w2 hown2 hgr2 hat2 hbel2))
          rw [← HU.out] at hown2
          have HO2 := Lib.hid hown2
          have HB2 := Lib.hid ((HBW.out.alloc hsz (.cells #[.int .i64 ((cntN m j p : Nat) : Int)] 3)).trans hbel2)
          clear hown2 hgr2 hat2 hbel2
          go_wp2
          go_roundw
          case rel => exact ⟨j + 1, by omega, by go_num, HO2.out, HB2.out⟩
          case measure => simp [intOf]; omega
    · have : j = M := by omega
      subst this
      by_cases hcc : (j : Int) < m
      · have hk1 : decide ((j : Int) < m) = true := by simpa using hcc
        have hk2 : decide ((j : Int) < 64) = false := by have := HMM.out; simp; omega
        clear hcc
        go_wp2
        go_ret
        exact Ints.own HO.out HL.out HBW.out
      · have hk1 : decide ((j : Int) < m) = false := by simpa using hcc
        clear hcc
        go_wp2
        go_ret
        exact Ints.own HO.out HL.out HBW.out
theorem turn_Counts0 (m : Int) (hm : m < 1) (v : Value) (w : World) :
    Calls Try.prog 38 #[.int .i64 m, v] w fun e w' => e = .returned (.slice none 0 0) ∧ w = w' := by
  go_enter Try.func38, Try.ntmps38
  go_wp2
  go_ret
  exact ⟨rfl, rfl⟩
theorem turn_Counts {p : List Int} {v : Value} {n : Nat} {B : Nat} {w : World} (m : Int) (hm : m ≤ 9223372036854775807) (hn : n ≤ 1000000) (hv : Sl w B 1 v n (kv .i64 p)) (hB : B ≤ w.heap.size) :
    Calls Try.prog 38 #[.int .i64 m, v] w (Ints (cntL m p) w) := by
  by_cases h : m < 1
  · rw [show cntL m p = [] from if_pos h]
    exact (turn_Counts0 m h v w).mono fun e w' hh => by obtain ⟨rfl, rfl⟩ := hh; exact Ints.nil _ _ (Below.refl _ _)
  · exact turn_Counts1 m ⟨by omega, hm⟩ hn hv hB
end Go.Proofs.Ythamjkccljhhcab
