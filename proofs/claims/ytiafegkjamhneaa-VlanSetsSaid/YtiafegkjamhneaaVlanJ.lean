/-
  How many ports a set has, and which: the program's Size and List, and the document's List. No statement is proved here.
-/
import Derived.Test.YtiafegkjamhneaaVlanG
import Derived.Test.YtiafegkjamhneaaPlainPop
import Derived.Test.YtiafegkjamhneaaKit2
import Derived.Test.YtiafegkjamhneaaBase2
import Derived.Laws.Bits128
namespace Go.Proofs.Ytiafegkjamhneaa
open Go.RowKit

theorem u64_and_mask {a : Int} {x m : Nat} (c n : Nat) (ha : a = (x : Int)) (hx : x < 18446744073709551616) (hm : mk8 c n = m) (hm2 : m < 18446744073709551616) : bits .and .u64 a (m : Int) = ((x &&& mk8 c n : Nat) : Int) := by
  subst ha hm
  exact u64_and_nat x _ hx hm2
theorem i64_and_nat127 (x : Nat) : bits .and .i64 (x : Int) 127 = ((x % 128 : Nat) : Int) := by
  rw [i64_and127]; omega
set_option maxHeartbeats 800000 in
theorem bits_OnesCount64 (x : Nat) (hx : x < 18446744073709551616) (w : World) :
    Calls Try.prog 76 #[.int .u64 (x : Int)] w fun e w' => e = .returned (.int .i64 (pcK x 64 : Nat)) ∧ w = w' := by
  obtain ⟨a, ha⟩ : ∃ a, a = sA 8 x := ⟨_, rfl⟩
  obtain ⟨b, hb⟩ : ∃ b, b = sB 8 a := ⟨_, rfl⟩
  obtain ⟨z, hz⟩ : ∃ z, z = sC 8 b := ⟨_, rfl⟩
  obtain ⟨z1, e1⟩ : ∃ z1, z1 = z + z / 256 := ⟨_, rfl⟩
  obtain ⟨z2, e2⟩ : ∃ z2, z2 = z1 + z1 / 65536 := ⟨_, rfl⟩
  obtain ⟨z3, e3⟩ : ∃ z3, z3 = z2 + z2 / 4294967296 := ⟨_, rfl⟩
  obtain ⟨hzl, hall⟩ := pop_all hx (by rw [hz, hb, ha]) e1 e2 e3
  have hal : a < 18446744073709551616 := by rw [ha]; exact sA_lt x
  have hbl : b < 18446744073709551616 := by rw [hb]; exact sB_lt a
  have hbs : b / 16 + b < 18446744073709551616 := by rw [hb, ha]; exact sB_small x
  have m5 : mk8 85 8 = 6148914691236517205 := by decide
  have m3 : mk8 51 8 = 3689348814741910323 := by decide
  have mF : mk8 15 8 = 1085102592571150095 := by decide
  have g1 : IntKind.u64.wrap (bits .and .u64 ((x : Int) / 2) 6148914691236517205 + bits .and .u64 (x : Int) 6148914691236517205) = (a : Int) := by
    have k1 := u64_and_mask (a := (x : Int) / 2) (x := x / 2) 85 8 (by omega) (by omega) m5 (by omega)
    have k2 := u64_and_mask (a := (x : Int)) 85 8 rfl hx m5 (by omega)
    have k3 : a = (x / 2 &&& mk8 85 8) + (x &&& mk8 85 8) := ha
    simp only [Int.cast_ofNat_Int] at k1 k2
    rw [k1, k2, IntWalk.u64_in _ (by omega)]; omega
  have g2 : IntKind.u64.wrap (bits .and .u64 ((a : Int) / 4) 3689348814741910323 + bits .and .u64 (a : Int) 3689348814741910323) = (b : Int) := by
    have k1 := u64_and_mask (a := (a : Int) / 4) (x := a / 4) 51 8 (by omega) (by omega) m3 (by omega)
    have k2 := u64_and_mask (a := (a : Int)) 51 8 rfl hal m3 (by omega)
    have k3 : b = (a / 4 &&& mk8 51 8) + (a &&& mk8 51 8) := hb
    simp only [Int.cast_ofNat_Int] at k1 k2
    rw [k1, k2, IntWalk.u64_in _ (by omega)]; omega
  have g3 : bits .and .u64 (IntKind.u64.wrap ((b : Int) / 16 + (b : Int))) 1085102592571150095 = (z : Int) := by
    have k0 : IntKind.u64.wrap ((b : Int) / 16 + (b : Int)) = ((b / 16 + b : Nat) : Int) := by rw [IntWalk.u64_in _ (by omega)]; omega
    have k1 := u64_and_mask (a := ((b / 16 + b : Nat) : Int)) 15 8 rfl hbs mF (by omega)
    have k3 : z = (b / 16 + b) &&& mk8 15 8 := hz
    simp only [Int.cast_ofNat_Int] at k1
    rw [k0, k1, k3]
  have g4 : IntKind.u64.wrap ((z : Int) + (z : Int) / 256) = (z1 : Int) := by rw [IntWalk.u64_in _ (by omega)]; omega
  have g5 : IntKind.u64.wrap ((z1 : Int) + (z1 : Int) / 65536) = (z2 : Int) := by rw [IntWalk.u64_in _ (by omega)]; omega
  have g6 : IntKind.u64.wrap ((z2 : Int) + (z2 : Int) / 4294967296) = (z3 : Int) := by rw [IntWalk.u64_in _ (by omega)]; omega
  have g7 := i64_and_nat127 z3
  rw [hall] at g7
  have g8 : wrap64 (z3 : Int) = (z3 : Int) := IntWalk.wrap64_in _ (by omega)
  generalize pcK x 64 = R at *
  have G1 := Lib.hid g1
  have G2 := Lib.hid g2
  have G3 := Lib.hid g3
  have G4 := Lib.hid g4
  have G5 := Lib.hid g5
  have G6 := Lib.hid g6
  have G7 := Lib.hid g7
  have G8 := Lib.hid g8
  clear g1 g2 g3 g4 g5 g6 g7 g8 hall ha hb hz e1 e2 e3 hal hbl hbs m5 m3 mF hzl
  go_enter Try.func76, Try.ntmps76
  go_wp2
  go_ret
  exact ⟨ret_i64 (by simp only [G1.out, G2.out, G3.out, G4.out, G5.out, G6.out, G8.out, G7.out]), rfl⟩

theorem stInts : ST Try.prog 77 3 (.int .i64 0) 1 8 := ST.mk Try.underlying77 (by kernel_rfl) rfl (by omega) (by omega)
/-- The ports of a set below k, and their row. -/
def portsK (s : Nat) : Nat → List Nat
  | 0 => []
  | k + 1 => portsK s k ++ (if s.testBit k = true then [k] else [])
def iv (l : List Nat) : List Value := l.map fun (n : Nat) => .int .i64 (n : Int)
theorem iv_append (a b : List Nat) : iv (a ++ b) = iv a ++ iv b := by simp [iv]
theorem iv_length (l : List Nat) : (iv l).length = l.length := by simp [iv]
theorem portsK_length (s : Nat) : ∀ k, (portsK s k).length = pcK s k
  | 0 => rfl
  | k + 1 => by
    rw [portsK, List.length_append, portsK_length s k, pcK]
    cases s.testBit k <;> rfl
theorem ports_yes {s k : Nat} (h : s.testBit k = true) : pcK s (k + 1) = pcK s k + 1 ∧ iv (portsK s (k + 1)) = iv (portsK s k) ++ [.int .i64 (k : Int)] := by
  refine ⟨by rw [pcK, h]; rfl, ?_⟩
  rw [portsK, if_pos h, iv_append]; rfl
theorem ports_no {s k : Nat} (h : s.testBit k = false) : pcK s (k + 1) = pcK s k ∧ portsK s (k + 1) = portsK s k := by
  refine ⟨by rw [pcK, h]; rfl, ?_⟩
  rw [portsK, if_neg (by rw [h]; simp), List.append_nil]
set_option maxHeartbeats 400000 in
theorem vlan_Size (s : Nat) (hs : s < 18446744073709551616) (w : World) :
    Calls Try.prog 46 #[.int .u64 (s : Int)] w fun e w' => e = .returned (.int .i64 (pcK s 64 : Nat)) ∧ w = w' := by
  have hB := Lib.hid fun W => bits_OnesCount64 s hs W
  generalize pcK s 64 = R at *
  go_enter Try.func46, Try.ntmps46
  go_wp2_with fail
  refine (hB.out _).mono ?_
  rintro e w1 ⟨rfl, rfl⟩
  go_wp2
  go_ret
  exact ⟨rfl, rfl⟩
/-- The ports of a set, as a row of the call's own. -/
def Lists (s : Nat) (w : World) (e : Ending) (w' : World) : Prop :=
  ∃ v, e = .returned v ∧ Sl w' w'.heap.size 1 v (pcK s 64) (iv (portsK s 64)) ∧ Below w.heap.size w w'
set_option maxHeartbeats 1600000 in
theorem vlan_List (s : Nat) (hs : s < 18446744073709551616) (w : World) :
    Calls Try.prog 45 #[.int .u64 (s : Int)] w (Lists s w) := by
  have hZ := fun W => vlan_Size s hs W
  have hH := Lib.hid fun (k : Nat) W => vlan_Has s hs (k : Int) W
  have hle := pcK_le s 64
  obtain ⟨M, hM⟩ : ∃ M, M = pcK s 64 := ⟨_, rfl⟩
  rw [← hM] at hZ hle
  have HZ := Lib.hid hZ
  have hmk := fun u : World => run_mk (P := Try.prog) u stInts M (by omega)
  clear hZ hM
  go_enter Try.func45, Try.ntmps45
  go_wp2_with fail
  refine (HZ.out _).mono ?_
  rintro e w1 ⟨rfl, rfl⟩
  go_wp2
  clear hmk
  go_loopw [3, 8] (fun o i wr => ∃ k : Nat, k ≤ 64 ∧ i = .int .i64 k ∧ Hid (wr.ownsRow w.heap.size 3 1 o (pcK s k) (iv (portsK s k))) ∧ Hid (Below w.heap.size w wr)) (fun _ i _ => 64 - (intOf i).toNat)
  case atStart => exact ⟨0, by omega, rfl, own_made_at rfl (Nat.le_refl _) (by simp [maxLen]; omega), (Below.refl _ _).alloc (Nat.le_refl _) _⟩
  case round =>
    obtain ⟨k, hk, rfl, HO, HBW⟩ := hrel
    by_cases hlt : k < 64
    · have hH1 := hH.out k
      rw [hasB_in s hlt] at hH1
      have h64 : (k : Int) < 64 := by omega
      have hpk := pcK_le s k
      have hsz := HBW.out.size
      cases hb : s.testBit k
      · rw [hb] at hH1
        have K1 := Lib.hid hH1
        have P0 := Lib.hid (ports_no hb)
        clear hH1 hb
        go_wp2_with fail
        refine (K1.out _).mono ?_
        rintro e w1 ⟨rfl, rfl⟩
        go_wp2
        go_roundw
        case rel => exact ⟨k + 1, by omega, by go_num, by have := HO.out; rw [← P0.out.1, ← P0.out.2] at this; exact this, HBW.out⟩
        case measure => simp [intOf]; omega
      · rw [hb] at hH1
        have K1 := Lib.hid hH1
        have P1 := Lib.hid (ports_yes hb)
        clear hH1 hb
        go_wp2_with fail
        refine (K1.out _).mono ?_
        rintro e w1 ⟨rfl, rfl⟩
        go_wp2_with (first
          | (at_builtin; refine wpList_app _ rfl stInts (.tmp 14) (.tmp 16) rfl w.heap.size u3 (pcK s k) _ rfl (HO.out.alloc _) (wr.heap.size + 1) _ 1 [.int .i64 (k : Int)] rfl (Sl.lit wr #[.int .i64 (k : Int)] _ 1 rfl (by decide)) (by simp [Value.oneCell']) (by omega) (by simp; omega) ?_; intro v2 w2 hown2 hgr2 hat2 hbel2))
        rw [← P1.out.1, ← P1.out.2] at hown2
        have HO2 := Lib.hid hown2
        have HB2 := Lib.hid ((HBW.out.alloc hsz (.cells #[.int .i64 (k : Int)] 3)).trans hbel2)
        clear hown2 hgr2 hat2 hbel2
        go_wp2
        go_roundw
        case rel => exact ⟨k + 1, by omega, by go_num, HO2.out, HB2.out⟩
        case measure => simp [intOf]; omega
    · have : k = 64 := by omega
      subst this
      go_wp2
      go_ret
      exact ⟨_, rfl, Sl.of_own HO.out, HBW.out⟩
set_option maxHeartbeats 1600000 in
theorem ref3_List (s : Nat) (hs : s < 18446744073709551616) (w : World) :
    Calls Try.prog 41 #[.int .u64 (s : Int)] w (Lists s w) := by
  have hH := Lib.hid fun (k : Nat) W => ref3_Has s hs (k : Int) W
  go_enter Try.func41, Try.ntmps41
  go_wp2
  go_loopw [3, 4] (fun o i wr => ∃ k : Nat, k ≤ 64 ∧ i = .int .i64 k ∧ Hid (wr.ownsRow w.heap.size 3 1 o (pcK s k) (iv (portsK s k))) ∧ Hid (Below w.heap.size w wr)) (fun _ i _ => 64 - (intOf i).toNat)
  case atStart => exact ⟨0, by omega, rfl, ⟨by simp [iv, portsK, pcK], .inl ⟨rfl, rfl⟩⟩, Below.refl _ _⟩
  case round =>
    obtain ⟨k, hk, rfl, HO, HBW⟩ := hrel
    by_cases hlt : k < 64
    · have hH1 := hH.out k
      rw [hasB_in s hlt] at hH1
      have h64 : (k : Int) < 64 := by omega
      have hpk := pcK_le s k
      have hsz := HBW.out.size
      cases hb : s.testBit k
      · rw [hb] at hH1
        have K1 := Lib.hid hH1
        have P0 := Lib.hid (ports_no hb)
        clear hH1 hb
        go_wp2_with fail
        refine (K1.out _).mono ?_
        rintro e w1 ⟨rfl, rfl⟩
        go_wp2
        go_roundw
        case rel => exact ⟨k + 1, by omega, by go_num, by have := HO.out; rw [← P0.out.1, ← P0.out.2] at this; exact this, HBW.out⟩
        case measure => simp [intOf]; omega
      · rw [hb] at hH1
        have K1 := Lib.hid hH1
        have P1 := Lib.hid (ports_yes hb)
        clear hH1 hb
        go_wp2_with fail
        refine (K1.out _).mono ?_
        rintro e w1 ⟨rfl, rfl⟩
        go_wp2_with (first
          | (at_builtin; refine wpList_app _ rfl stInts (.tmp 12) (.tmp 14) rfl w.heap.size u3 (pcK s k) _ rfl (HO.out.alloc _) (wr.heap.size + 1) _ 1 [.int .i64 (k : Int)] rfl (Sl.lit wr #[.int .i64 (k : Int)] _ 1 rfl (by decide)) (by simp [Value.oneCell']) (by omega) (by simp; omega) ?_; intro v2 w2 hown2 hgr2 hat2 hbel2))
        rw [← P1.out.1, ← P1.out.2] at hown2
        have HO2 := Lib.hid hown2
        have HB2 := Lib.hid ((HBW.out.alloc hsz (.cells #[.int .i64 (k : Int)] 3)).trans hbel2)
        clear hown2 hgr2 hat2 hbel2
        go_wp2
        go_roundw
        case rel => exact ⟨k + 1, by omega, by go_num, HO2.out, HB2.out⟩
        case measure => simp [intOf]; omega
    · have : k = 64 := by omega
      subst this
      go_wp2
      go_ret
      exact ⟨_, rfl, Sl.of_own HO.out, HBW.out⟩

set_option maxHeartbeats 800000 in
theorem law3_Ints {l : List Nat} {n : Nat} {u v : Value} {w : World} {B B' : Nat} (hu : Sl w B 1 u n (iv l)) (hv : Sl w B' 1 v n (iv l)) :
    Calls Try.prog 44 #[u, v] w (Quiet (.bool true) w) := by
  have hlen : l.length = n := by have := hu.len; rw [iv_length] at this; omega
  obtain ⟨_, A, cap, rfl, hA1, hA2, hA⟩ := hu
  obtain ⟨_, A', cap', rfl, hA1', hA2', hA'⟩ := hv
  unfold maxLen at hA2 hA2'
  have hne : ((n : Int) != (n : Int)) = false := by simp
  have HL := Lib.hid hlen
  have HA := Lib.hid hA
  have HA' := Lib.hid hA'
  clear hlen hA hA'
  go_enter Try.func44, Try.ntmps44
  go_wp2
  go_loopw [5] (fun i wr => ∃ k : Nat, k ≤ n ∧ i = .int .i64 k ∧ ∃ m, wr = w.drewN m) (fun i _ => n - (intOf i).toNat)
  case atStart => exact ⟨0, by omega, rfl, 0, rfl⟩
  case round =>
    obtain ⟨k, hk, rfl, m, rfl⟩ := hrel
    by_cases hlt : k < n
    · obtain ⟨b, off, rfl, _, hc⟩ := HA.out (by omega)
      obtain ⟨b', off', rfl, _, hc'⟩ := HA'.out (by omega)
      have hx : (iv l)[k]? = some (.int .i64 ((l.getD k 0 : Nat) : Int)) := by
        have : k < l.length := by have := HL.out; omega
        simp [iv, List.getD_eq_getElem?_getD, List.getElem?_eq_getElem this]
      have hcell := (hc k (by omega)).trans hx
      have hcell' := (hc' k (by omega)).trans hx
      clear hc hc' HA HA' hx
      have g0 : (0 : Int) ≤ (k : Int) := Int.natCast_nonneg _
      have g1 : (k : Int) < (n : Int) := by omega
      generalize l.getD k 0 = x at *
      go_wp2_with fail
      go_quiet (fail)
      go_wp2
      go_roundw
      case rel => exact ⟨k + 1, by omega, by go_num, _, (by first | rfl | exact World.drewN_drewN _ _ _)⟩
      case measure => simp [intOf]; omega
    · have : k = n := by omega
      subst this
      go_wp2
      go_ret
      exact ⟨rfl, _, rfl⟩
end Go.Proofs.Ytiafegkjamhneaa
