/-
  Contracts of layer 1's functions, the program's own and the document's: each answers what a plain function of natural numbers says, and turns nothing that was there. No statement is proved here.
-/
import Derived.Test.YthamjkccljhhcaaProg
import Derived.Test.YthamjkccljhhcaaBase
import Derived.Test.YthamjkccljhhcaaKit
import Derived.Test.YthamjkccljhhcaaPlain
import Derived.Test.YthamjkccljhhcaaPlainFrame
import Derived.Handy
import Derived.WalkLawsBesides
import Derived.Lib.Hide
import Derived.Laws.BitsAllLaws
import Derived.Deep.QuietTactic
import Derived.BigQuiet
namespace Go.Proofs.Ythamjkccljhhcaa
open Go.RowKit

theorem byte_lt {l : List Nat} (h : ∀ x ∈ l, x < 256) (k : Nat) : l.getD k 0 < 256 := by
  rw [List.getD_eq_getElem?_getD]
  rcases Nat.lt_or_ge k l.length with hk | hk
  · rw [List.getElem?_eq_getElem hk]; exact h _ (List.getElem_mem hk)
  · rw [List.getElem?_eq_none hk]; simp
theorem ofk_lt {l : List Nat} (h : ∀ x ∈ l, x < 256) (k : Nat) : ofk l k < 256 ^ k := by
  induction k with
  | zero => simp [ofk]
  | succ k ih =>
    have := byte_lt h k
    rw [ofk, Nat.pow_succ]
    omega
theorem ofk_small {l : List Nat} (h : ∀ x ∈ l, x < 256) {k : Nat} (hk : k ≤ 6) : ofk l k < 281474976710656 :=
  Nat.lt_of_lt_of_le (ofk_lt h k) (by
    have : 256 ^ k ≤ 256 ^ 6 := Nat.pow_le_pow_right (by omega) hk
    simpa using this)
theorem cell_bv {w : World} {b off : Nat} {l : List Nat} (h : ∀ j, j < l.length * 1 → w.cell? ⟨b, off + j, none⟩ = (bv l)[j]?) {k : Nat} (hk : k < l.length) : w.cell? ⟨b, off + k, none⟩ = some (.int .u8 ((l.getD k 0 : Nat) : Int)) := by
  rw [h k (by omega), bv_at l k hk]
  simp [List.getD_eq_getElem?_getD, List.getElem?_eq_getElem hk]

set_option maxHeartbeats 400000 in
theorem ref_Of {l : List Nat} (h6 : 6 ≤ l.length) (hl : ∀ x ∈ l, x < 256) {v : Value} {w : World} {B : Nat} (hv : Sl w B 1 v l.length (bv l)) :
    Calls Try.prog 51 #[v] w fun e w' => e = .returned (.int .u64 (ofk l 6 : Nat)) ∧ w = w' := by
  obtain ⟨b, off, cap, rfl, hcap, hmx, hB, hc⟩ := hv.at_ (by omega)
  unfold maxLen at hmx
  have HC := Lib.hid hc
  clear hc hv
  go_enter Try.func51, Try.ntmps51
  go_wp2
  go_loop [3, 4] (fun n i => ∃ k : Nat, k ≤ 6 ∧ i = .int .i64 k ∧ n = .int .u64 (ofk l k : Nat)) (fun _ i => 6 - (intOf i).toNat)
  case atStart => exact ⟨0, by omega, rfl, rfl⟩
  case round =>
    obtain ⟨k, hk, rfl, rfl⟩ := hrel
    have hs := ofk_small hl hk
    by_cases hlt : k < 6
    · obtain ⟨x, hx⟩ : ∃ x, x = l.getD k 0 := ⟨_, rfl⟩
      have hxl : x < 256 := by rw [hx]; exact byte_lt hl k
      have hcell := cell_bv HC.out (show k < l.length by omega)
      rw [← hx] at hcell
      have HX : Hid (ofk l (k + 1) = ofk l k * 256 + x) := by rw [hx]; exact rfl
      clear hx
      obtain ⟨y, hy⟩ : ∃ y, y = ofk l k := ⟨_, rfl⟩
      rw [← hy] at hs HX ⊢
      have HY := Lib.hid hy
      clear hy
      go_wp2
      go_round
      case rel => exact ⟨k + 1, by omega, by go_num, by rw [HX.out]; go_num⟩
      case measure => simp [intOf]; omega
    · have : k = 6 := by omega
      subst this
      go_wp2
      go_ret
      exact ⟨rfl, rfl⟩

/-- The same bytes? -/
def sameB (l m : List Nat) : Bool := decide (l = m)
theorem sameB_yes {l m : List Nat} (h : l = m) : sameB l m = true := by simp [sameB, h]
theorem sameB_no {l m : List Nat} (h : l ≠ m) : sameB l m = false := by simp [sameB, h]
theorem take_step {l m : List Nat} {k : Nat} (h : l.take k = m.take k) (hk : k < l.length) (hk' : k < m.length) (hx : l.getD k 0 = m.getD k 0) : l.take (k + 1) = m.take (k + 1) := by
  rw [List.take_succ_eq_append_getElem hk, List.take_succ_eq_append_getElem hk', h]
  simp [List.getD_eq_getElem?_getD, List.getElem?_eq_getElem hk, List.getElem?_eq_getElem hk'] at hx
  rw [hx]

set_option maxHeartbeats 800000 in
theorem ref_Same {l m : List Nat} {u v : Value} {w : World} {B B' : Nat} (hu : Sl w B 1 u l.length (bv l)) (hv : Sl w B' 1 v m.length (bv m)) :
    Calls Try.prog 20 #[u, v] w (Quiet (.bool (sameB l m)) w) := by
  have hu0 := hu
  have hv0 := hv
  obtain ⟨_, A, cap, rfl, hA1, hA2, hA⟩ := hu
  obtain ⟨_, A', cap', rfl, hA1', hA2', hA'⟩ := hv
  unfold maxLen at hA2 hA2'
  by_cases hlen : l.length = m.length
  · have hne : ((l.length : Int) != (m.length : Int)) = false := by simp [hlen]
    have HL := Lib.hid hlen
    have HA := Lib.hid hA
    have HA' := Lib.hid hA'
    clear hlen hA hA' hu0 hv0
    go_enter Try.func20, Try.ntmps20
    go_wp2
    go_loopw [5] (fun i wr => ∃ k : Nat, k ≤ l.length ∧ i = .int .i64 k ∧ Hid (l.take k = m.take k) ∧ ∃ n, wr = w.drewN n) (fun i _ => l.length - (intOf i).toNat)
    case atStart => exact ⟨0, by omega, rfl, by simp [Hid], 0, rfl⟩
    case round =>
      obtain ⟨k, hk, rfl, HT, n, rfl⟩ := hrel
      by_cases hlt : k < l.length
      · obtain ⟨b, off, rfl, _, hc⟩ := HA.out (by omega)
        obtain ⟨b', off', rfl, _, hc'⟩ := HA'.out (by have := HL.out; omega)
        have hcell := cell_bv hc hlt
        have hlt' : k < m.length := by have := HL.out; omega
        have hcell' := cell_bv hc' hlt'
        clear hc hc' HA HA'
        have g0 : (0 : Int) ≤ (k : Int) := Int.natCast_nonneg _
        have g1 : (k : Int) < (l.length : Int) := by omega
        have g2 : (k : Int) < (m.length : Int) := by omega
        obtain ⟨x, hx⟩ : ∃ x, x = l.getD k 0 := ⟨_, rfl⟩
        obtain ⟨y, hy⟩ : ∃ y, y = m.getD k 0 := ⟨_, rfl⟩
        rw [← hx] at hcell
        rw [← hy] at hcell'
        have HX := Lib.hid hx
        have HY := Lib.hid hy
        clear hx hy
        by_cases hxy : x = y
        · subst hxy
          go_wp2_with fail
          go_quiet (fail)
          go_wp2
          go_roundw
          case rel => exact ⟨k + 1, by omega, by go_num, take_step HT.out hlt hlt' (by rw [← HX.out, ← HY.out]), _, (by first | rfl | exact World.drewN_drewN _ _ _)⟩
          case measure => simp [intOf]; omega
        · have hne' : ((x : Int) != (y : Int)) = true := by simp; omega
          go_wp2_with fail
          go_quiet (fail)
          go_wp2
          go_ret
          refine ⟨ret_bool (sameB_no ?_).symm, _, (by first | rfl | exact World.drewN_drewN _ _ _)⟩
          rintro rfl
          exact hxy (by rw [HX.out, HY.out])
      · have : k = l.length := by omega
        subst this
        go_wp2
        go_ret
        refine ⟨ret_bool (sameB_yes ?_).symm, _, (by first | rfl | exact World.drewN_drewN _ _ _)⟩
        have := HT.out
        rw [List.take_of_length_le (Nat.le_refl _), List.take_of_length_le (by have := HL.out; omega)] at this
        exact this
  · have hne : ((l.length : Int) != (m.length : Int)) = true := by simp; omega
    go_enter Try.func20, Try.ntmps20
    go_wp2
    go_ret
    refine ⟨ret_bool (sameB_no ?_).symm, 0, rfl⟩
    rintro rfl
    exact hlen rfl


set_option maxHeartbeats 400000 in
theorem mac_Right (m : Nat) (hm : m < 18446744073709551616) (w : World) :
    Calls Try.prog 74 #[.int .u64 (m : Int)] w fun e w' => e = .returned (.bool (decide (m < 281474976710656))) ∧ w = w' := by
  go_enter Try.func74, Try.ntmps74
  go_wp2
  go_ret
  exact ⟨ret_bool (by rw [decide_eq_decide]; omega), rfl⟩
theorem ref_Low (m : Nat) (w : World) :
    Calls Try.prog 60 #[.int .u64 (m : Int)] w fun e w' => e = .returned (.int .u64 (m % 281474976710656 : Nat)) ∧ w = w' := by
  go_enter Try.func60, Try.ntmps60
  go_wp2
  go_ret
  exact ⟨ret_u64 (by omega), rfl⟩
/-- The call made a row of its own, that reads so, and turned nothing that was there. -/
def Made (e : TypeId) (size n : Nat) (xs : List Value) (w : World) (en : Ending) (w' : World) : Prop :=
  ∃ v, en = .returned v ∧ w'.ownsRow w.heap.size e size v n xs ∧ Below w.heap.size w w'
theorem stBytes : ST Try.prog 22 5 (.int .u8 0) 1 1 := ST.mk Try.underlying22 (by kernel_rfl) rfl (by omega) (by omega)

set_option maxHeartbeats 400000 in
theorem mac_Bytes (m : Nat) (w : World) :
    Calls Try.prog 56 #[.int .u64 (m : Int)] w (Made 5 1 6 (bv (mb m)) w) := by
  have hmk : ∀ w, (Instr.makeSlice 22 (.int .i64 6) (.int .i64 6)).run Try.prog w = .ok (.slice (some ⟨w.heap.size, 0, none⟩) 6 6) (w.alloc (.cells #[.int .u8 0, .int .u8 0, .int .u8 0, .int .u8 0, .int .u8 0, .int .u8 0] 5)) := fun _ => by kernel_rfl
  go_enter Try.func56, Try.ntmps56
  go_wp2
  go_rounds 7
  go_ret
  refine ⟨_, rfl, ?_, by go_grown⟩
  refine own_full (heap_alloc_new _ _) (Nat.le_refl _) rfl (by decide) ?_
  simp [bv, mb]
  refine ⟨?_, ?_, ?_, ?_⟩ <;> omega

set_option maxHeartbeats 400000 in
theorem ref_Bytes (m : Nat) (hm : m < 18446744073709551616) (w : World) :
    Calls Try.prog 61 #[.int .u64 (m : Int)] w (Made 5 1 6 (bv (mb m)) w) := by
  go_enter Try.func61, Try.ntmps61
  go_wp2
  go_loopw [0, 3, 4] (fun q v i wr => ∃ k : Nat, k ≤ 6 ∧ i = .int .i64 k ∧ q = .int .u64 (m / 256 ^ k : Nat) ∧ wr.ownsRow w.heap.size 5 1 v k (bv (lastk m k)) ∧ Below w.heap.size w wr) (fun _ _ i _ => 6 - (intOf i).toNat)
  case atStart => exact ⟨0, by omega, rfl, by simp, World.ownsRow_nil _ _ _ _, Below.refl _ _⟩
  case round =>
    obtain ⟨k, hk, rfl, rfl, hown, hbel⟩ := hrel
    have hsz := hbel.size
    by_cases hlt : k < 6
    · obtain ⟨q, hq⟩ : ∃ q, q = m / 256 ^ k := ⟨_, rfl⟩
      have hqb : q < 18446744073709551616 := by
        have := Nat.div_le_self m (256 ^ k)
        omega
      have HQ : Hid (bv (lastk m (k + 1)) = [.int .u8 ((q : Int) % 256)] ++ bv (lastk m k)) := by
        rw [hq]
        simp [Hid, lastk, bv]
      have HQ2 : Hid (m / 256 ^ (k + 1) = q / 256) := by
        show _ = _
        rw [Nat.pow_succ, ← Nat.div_div_eq_div_mul, hq]
      rw [← hq]
      clear hq
      go_wp2_with (first
        | (at_builtin; refine wpList_app _ rfl stBytes (.tmp 12) (.tmp 13) rfl w.heap.size _ 1 [.int .u8 ((q : Int) % 256)] rfl (World.ownsRow_lit wr #[.int .u8 ((q : Int) % 256)] 1 hsz (by decide) rfl) wr.heap.size _ k (bv (lastk m k)) rfl ((Sl.of_own hown).alloc (Nat.le_refl _) _) (bv_one _) (by omega) (by simp; omega) ?_; intro v1 w1 hown1 hg1 hat1 hbel1))
      go_roundw
      case rel =>
        refine ⟨k + 1, by omega, by go_num, by rw [HQ2.out]; go_num, ?_, ?_⟩
        · rw [HQ.out, Nat.add_comm]; exact hown1
        · exact (hbel.alloc hsz _).trans hbel1
      case measure => simp [intOf]; omega
    · have : k = 6 := by omega
      subst this
      go_wp2
      go_ret
      exact ⟨_, rfl, by rw [← lastk_six]; exact hown, hbel⟩

/-- The six cells of an address's bytes. -/
theorem six {w : World} {B : Nat} {v : Value} {m : Nat} {e : TypeId} (h : w.ownsRow B e 1 v 6 (bv (mb m))) : ∃ g cap, v = .slice (some ⟨g, 0, none⟩) 6 cap ∧ B ≤ g ∧ g < w.heap.size ∧ 6 ≤ cap ∧
    w.cell? ⟨g, 0, none⟩ = some (.int .u8 (m / 1099511627776 % 256 : Nat)) ∧ w.cell? ⟨g, 1, none⟩ = some (.int .u8 (m / 4294967296 % 256 : Nat)) ∧ w.cell? ⟨g, 2, none⟩ = some (.int .u8 (m / 16777216 % 256 : Nat)) ∧
    w.cell? ⟨g, 3, none⟩ = some (.int .u8 (m / 65536 % 256 : Nat)) ∧ w.cell? ⟨g, 4, none⟩ = some (.int .u8 (m / 256 % 256 : Nat)) ∧ w.cell? ⟨g, 5, none⟩ = some (.int .u8 (m % 256 : Nat)) := by
  rcases h.2 with ⟨_, h0⟩ | ⟨g, cap, cur, rfl, hb, hg, hc, _⟩
  · omega
  · refine ⟨g, cap, rfl, hb, (Array.getElem?_eq_some_iff.1 hg).1, hc, ?_, ?_, ?_, ?_, ?_, ?_⟩ <;> (rw [h.cellAt _ (by omega)]; simp [bv, mb])

set_option maxHeartbeats 400000 in
theorem mac_Of {l : List Nat} (h6 : 6 ≤ l.length) (hl : ∀ x ∈ l, x < 256) {v : Value} {w : World} {B : Nat} (hv : Sl w B 1 v l.length (bv l)) :
    Calls Try.prog 49 #[v] w fun e w' => e = .returned (.tuple #[.int .u64 (ofk l 6 : Nat), .int .i64 0]) ∧ w = w' := by
  obtain ⟨b, off, cap, rfl, hcap, hmx, hB, hc⟩ := hv.at_ (by omega)
  unfold maxLen at hmx
  have HC := Lib.hid hc
  clear hc hv
  go_enter Try.func49, Try.ntmps49
  go_wp2
  go_loop [4, 13] (fun n i => ∃ k : Nat, k ≤ 6 ∧ i = .int .i64 k ∧ n = .int .u64 (ofk l k : Nat)) (fun _ i => 6 - (intOf i).toNat)
  case atStart => exact ⟨0, by omega, rfl, rfl⟩
  case round =>
    obtain ⟨k, hk, rfl, rfl⟩ := hrel
    have hs := ofk_small hl hk
    by_cases hlt : k < 6
    · obtain ⟨x, hx⟩ : ∃ x, x = l.getD k 0 := ⟨_, rfl⟩
      have hxl : x < 256 := by rw [hx]; exact byte_lt hl k
      have hcell := cell_bv HC.out (show k < l.length by omega)
      rw [← hx] at hcell
      have HX : Hid (ofk l (k + 1) = ofk l k * 256 + x) := by rw [hx]; exact rfl
      clear hx
      obtain ⟨y, hy⟩ : ∃ y, y = ofk l k := ⟨_, rfl⟩
      rw [← hy] at hs HX ⊢
      have HY := Lib.hid hy
      clear hy
      have hor : bits .or .u64 ((y : Int) * 256) (x : Int) = (y : Int) * 256 + (x : Int) := by
        have := u64_or_nat (y * 256) x (by omega) (by omega)
        rw [or_byte y x hxl] at this
        simpa using this
      go_wp2
      go_round
      case rel => exact ⟨k + 1, by omega, by go_num, by rw [HX.out]; go_num⟩
      case measure => simp [intOf]; omega
    · have : k = 6 := by omega
      subst this
      go_wp2
      go_ret2
      exact ⟨rfl, rfl⟩
set_option maxHeartbeats 400000 in
theorem mac_Of_short {l : List Nat} (h6 : l.length < 6) {v : Value} {w : World} {B : Nat} (hv : Sl w B 1 v l.length (bv l)) :
    Calls Try.prog 49 #[v] w fun e w' => e = .returned (.tuple #[.int .u64 0, .int .i64 2]) ∧ w = w' := by
  obtain ⟨A, cap, rfl, hcap, hmx⟩ := hv.form
  go_enter Try.func49, Try.ntmps49
  go_wp2
  go_ret2
  exact ⟨rfl, rfl⟩
theorem ofk_take {l : List Nat} {n k : Nat} (hn : k ≤ n) : ofk (l.take n) k = ofk l k := by
  induction k with
  | zero => rfl
  | succ k ih =>
    rw [ofk, ofk, ih (by omega)]
    simp [List.getD_eq_getElem?_getD, show k < n by omega]
theorem mb_ofk {l : List Nat} (h6 : 6 ≤ l.length) (hl : ∀ x ∈ l, x < 256) : mb (ofk l 6) = l.take 6 := by
  match l, h6 with
  | a :: b :: c :: d :: e :: f :: r, _ =>
    have ha := hl a (by simp)
    have hb := hl b (by simp)
    have hc := hl c (by simp)
    have hd := hl d (by simp)
    have he := hl e (by simp)
    have hf := hl f (by simp)
    simp [mb, ofk]
    omega
end Go.Proofs.Ythamjkccljhhcaa
