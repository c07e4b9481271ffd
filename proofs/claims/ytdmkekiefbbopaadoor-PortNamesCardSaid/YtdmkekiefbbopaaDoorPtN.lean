/-
  The names of ports' states. No statement is proved here.
-/
import Derived.Test.YtdmkekiefbbopaaDoorPtB
import Derived.Test.YtdmkekiefbbopaaDoorRows
import Derived.ProofKit
import Derived.LaidMore
import Derived.OpenShut
import Derived.WalkKit
set_option linter.unusedVariables false
namespace Go.Proofs.YtdmkekiefbbopaaDoor
open Go.ChangeShapes Go.WideShapes Go.ChangeAt Go.RowKit
def nameB : Nat → ByteArray
  | 0 => ⟨#[100, 105, 115, 97, 98, 108, 101, 100]⟩
  | 1 => ⟨#[98, 108, 111, 99, 107, 105, 110, 103]⟩
  | 2 => ⟨#[108, 105, 115, 116, 101, 110, 105, 110, 103]⟩
  | 3 => ⟨#[108, 101, 97, 114, 110, 105, 110, 103]⟩
  | _ => ⟨#[102, 111, 114, 119, 97, 114, 100, 105, 110, 103]⟩
/-- The variable's five cells hold the names. -/
structure Names (w : World) : Prop where
  c0 : w.cell? ⟨0, 0, none⟩ = some (.string (⟨#[100, 105, 115, 97, 98, 108, 101, 100]⟩ : ByteArray))
  c1 : w.cell? ⟨0, 1, none⟩ = some (.string (⟨#[98, 108, 111, 99, 107, 105, 110, 103]⟩ : ByteArray))
  c2 : w.cell? ⟨0, 2, none⟩ = some (.string (⟨#[108, 105, 115, 116, 101, 110, 105, 110, 103]⟩ : ByteArray))
  c3 : w.cell? ⟨0, 3, none⟩ = some (.string (⟨#[108, 101, 97, 114, 110, 105, 110, 103]⟩ : ByteArray))
  c4 : w.cell? ⟨0, 4, none⟩ = some (.string (⟨#[102, 111, 114, 119, 97, 114, 100, 105, 110, 103]⟩ : ByteArray))
  size : 0 < w.heap.size
theorem Names.below {B : Nat} {w w' : World} (h : Names w) (hb : Below B w w') (h0 : 0 < B) : Names w' :=
  ⟨(hb.cell (p := ⟨0, 0, none⟩) h0).trans h.c0, (hb.cell (p := ⟨0, 1, none⟩) h0).trans h.c1, (hb.cell (p := ⟨0, 2, none⟩) h0).trans h.c2, (hb.cell (p := ⟨0, 3, none⟩) h0).trans h.c3, (hb.cell (p := ⟨0, 4, none⟩) h0).trans h.c4, Nat.lt_of_lt_of_le h.size hb.size⟩
theorem gNames : Tryd.prog.globalNamed "patchbay/port.names" = some 0 := by kernel_rfl
theorem tNames : (Tryd.prog.globals[0]?).map (·.type) = some 50 := by kernel_rfl
theorem str_of {w : World} {held : Bool} {fuel : Nat} {v : Value} {x : DataW Unit × List MemPlace} {bytes : List UInt8} (hd : DataW.trod (fun _ => ()) Tryd.prog w 0 (fun _ => true) held fuel 9 [v] = some x) (hx : x.1 = .lit (.string bytes)) : v = .string ⟨bytes.toArray⟩ := by
  obtain ⟨s, h1, h2, _⟩ := DataW.trod_string Tryd.underlying9 hd
  obtain rfl : v = .string s := by simpa using h1
  rw [h2] at hx
  have hx : s.data.toList = bytes := by simpa using hx
  subst hx
  rfl
theorem of_laid {W : World} (h : laidMetH Tryd.prog [("patchbay/port.names", Rows.laid_patchbay_port_names)] W) : Names W := by
  rw [MakeChecks.laidMetH_plain _ _ _ (by kernel_rfl)] at h
  obtain ⟨ps, ⟨g0, t0, cs0, f0, p0, q0, hg0, ht0, hv0, hd0, _, _⟩, _, _⟩ := h
  obtain rfl := Option.some.inj (gNames.symm.trans hg0)
  obtain rfl := Option.some.inj (tNames.symm.trans ht0)
  obtain ⟨xs, m1, rfl, hx1, hlen, hn3, hel⟩ := DataW.trod_array Tryd.underlying50 hd0
  have c9 : Tryd.prog.cellsOf 9 = 1 := by kernel_rfl
  have c50 : Tryd.prog.cellsOf 50 = 5 := by kernel_rfl
  rw [c9] at hel
  rw [c50] at hlen
  have hc := World.var?_cell hg0 hv0
  obtain ⟨L⟩ := cs0
  simp only at hlen hel hc
  match L, hlen, xs, hn3 with
  | [a0, a1, a2, a3, a4], _, [x0, x1, x2, x3, x4], _ =>
    unfold Rows.laid_patchbay_port_names at hx1
    simp only [List.map_cons, List.map_nil, Prod.mk.injEq, DataW.agg.injEq, List.cons.injEq, and_true] at hx1
    obtain ⟨⟨e0, e1, e2, e3, e4⟩, _⟩ := hx1
    have s0 := str_of (hel 0 (by decide)) e0.symm
    have s1 := str_of (hel 1 (by decide)) e1.symm
    have s2 := str_of (hel 2 (by decide)) e2.symm
    have s3 := str_of (hel 3 (by decide)) e3.symm
    have s4 := str_of (hel 4 (by decide)) e4.symm
    subst s0 s1 s2 s3 s4
    have hz : W.cell? ⟨0, 0, none⟩ = _ := hc 0
    refine ⟨hz, hc 1, hc 2, hc 3, hc 4, ?_⟩
    rcases Nat.lt_or_ge 0 W.heap.size with h | h
    · exact h
    · have : W.heap[0]? = none := Array.getElem?_eq_none h
      simp [World.cell?, this] at hz
def nameS (s : Int) : ByteArray := if rightS s then nameB s.toNat else ⟨#[]⟩
set_option maxHeartbeats 1600000 in
theorem port_Name {w : World} (hn : Names w) (s : Int) : Calls Tryd.prog 21 #[.int .i64 s] w fun e w' => e = .returned (.string (nameS s)) ∧ w = w' := by
  have hR := Lib.hid (port_Right s w)
  obtain ⟨n0, n1, n2, n3, n4, _⟩ := hn
  by_cases h : rightS s = true
  · have h' := rightS_iff.1 h
    rw [h] at hR
    clear h
    have h5 : s = 0 ∨ s = 1 ∨ s = 2 ∨ s = 3 ∨ s = 4 := by omega
    rcases h5 with rfl | rfl | rfl | rfl | rfl
    all_goals
      go_enter Tryd.func21, Tryd.ntmps21
      go_wp2_with fail
      refine (hR.out).mono ?_
      rintro e w1 ⟨rfl, rfl⟩
      go_wp2
      go_ret
      exact ⟨rfl, rfl⟩
  · have h : rightS s = false := by simpa using h
    rw [h] at hR
    have hh : nameS s = ⟨#[]⟩ := by unfold nameS; rw [h]; rfl
    rw [hh]
    clear h hh
    go_enter Tryd.func21, Tryd.ntmps21
    go_wp2_with fail
    refine (hR.out).mono ?_
    rintro e w1 ⟨rfl, rfl⟩
    go_wp2
    go_ret
    exact ⟨rfl, rfl⟩
/-- Whose name a text is, among the first k: the last one. -/
def wantN (s : ByteArray) : Nat → Int
  | 0 => 0
  | k + 1 => if nameB k = s then (k : Int) else wantN s k
def isN (s : ByteArray) : Nat → Bool
  | 0 => false
  | k + 1 => if nameB k = s then true else isN s k
theorem none_of {s : ByteArray} : ∀ k, (∀ j, j < k → ¬ nameB j = s) → wantN s k = 0 ∧ isN s k = false
  | 0, _ => ⟨rfl, rfl⟩
  | k + 1, h => by
    unfold wantN isN
    rw [if_neg (h k (by omega)), if_neg (h k (by omega))]
    exact none_of k fun j hj => h j (by omega)
theorem nameB_ne (i j : Nat) (hi : i < 5) (hj : j < 5) (h : i ≠ j) : nameB i ≠ nameB j := by
  have hi' : i = 0 ∨ i = 1 ∨ i = 2 ∨ i = 3 ∨ i = 4 := by omega
  have hj' : j = 0 ∨ j = 1 ∨ j = 2 ∨ j = 3 ∨ j = 4 := by omega
  rcases hi' with rfl | rfl | rfl | rfl | rfl <;> rcases hj' with rfl | rfl | rfl | rfl | rfl <;> first | exact absurd rfl h | (intro e; exact absurd (congrArg ByteArray.data e) (by decide))
theorem last_of_name {s : ByteArray} {k : Nat} (h : nameB k = s) : ∀ n, k < n → n ≤ 5 → wantN s n = (k : Int) ∧ isN s n = true
  | 0, hk, _ => absurd hk (Nat.not_lt_zero _)
  | n + 1, hk, hn => by
    unfold wantN isN
    by_cases e : n = k
    · subst e; rw [if_pos h, if_pos h]; exact ⟨rfl, rfl⟩
    · have hne : ¬ nameB n = s := fun e' => nameB_ne n k (by omega) (by omega) e (e'.trans h.symm)
      rw [if_neg hne, if_neg hne]
      exact last_of_name h n (by omega) (by omega)
def parseT (s : ByteArray) : Value := .tuple #[.int .i64 (wantN s 5), .int .i64 (if isN s 5 then 0 else 11)]
theorem parse_at {s : ByteArray} {k : Nat} (h : nameB k = s) (hk : k < 5) : parseT s = .tuple #[.int .i64 (k : Int), .int .i64 0] := by
  unfold parseT
  obtain ⟨e1, e2⟩ := last_of_name h 5 hk (Nat.le_refl _)
  rw [e1, e2]; rfl
theorem parse_none {s : ByteArray} (h : ∀ j, j < 5 → ¬ nameB j = s) : parseT s = .tuple #[.int .i64 0, .int .i64 11] := by
  unfold parseT
  obtain ⟨e1, e2⟩ := none_of 5 h
  rw [e1, e2]; rfl
theorem cmp_yes {s : ByteArray} (l : List UInt8) (h : (⟨l.toArray⟩ : ByteArray) = s) : (l == s.toList) = true := by
  subst h
  rw [ByteArray.toList_eq]
  simp
theorem cmp_no {s : ByteArray} (l : List UInt8) (h : ¬ (⟨l.toArray⟩ : ByteArray) = s) : (l == s.toList) = false := by
  rw [Bool.eq_false_iff]
  intro e
  apply h
  rw [ByteArray.toList_eq] at e
  obtain ⟨⟨s⟩⟩ := s
  simp at e
  subst e
  rfl
theorem cmp_ne {a b : ByteArray} (h : ¬ a = b) : (a.toList == b.toList) = false := by
  rw [ByteArray.toList_eq a]
  exact cmp_no _ (by simpa using h)
theorem index5_0 (W : World) : (Instr.index 50 (.agg #[.string ⟨#[100, 105, 115, 97, 98, 108, 101, 100]⟩, .string ⟨#[98, 108, 111, 99, 107, 105, 110, 103]⟩, .string ⟨#[108, 105, 115, 116, 101, 110, 105, 110, 103]⟩, .string ⟨#[108, 101, 97, 114, 110, 105, 110, 103]⟩, .string ⟨#[102, 111, 114, 119, 97, 114, 100, 105, 110, 103]⟩]) (.int .i64 0)).run Tryd.prog W = .ok (.string ⟨#[100, 105, 115, 97, 98, 108, 101, 100]⟩) W := by kernel_rfl
theorem index5_1 (W : World) : (Instr.index 50 (.agg #[.string ⟨#[100, 105, 115, 97, 98, 108, 101, 100]⟩, .string ⟨#[98, 108, 111, 99, 107, 105, 110, 103]⟩, .string ⟨#[108, 105, 115, 116, 101, 110, 105, 110, 103]⟩, .string ⟨#[108, 101, 97, 114, 110, 105, 110, 103]⟩, .string ⟨#[102, 111, 114, 119, 97, 114, 100, 105, 110, 103]⟩]) (.int .i64 1)).run Tryd.prog W = .ok (.string ⟨#[98, 108, 111, 99, 107, 105, 110, 103]⟩) W := by kernel_rfl
theorem index5_2 (W : World) : (Instr.index 50 (.agg #[.string ⟨#[100, 105, 115, 97, 98, 108, 101, 100]⟩, .string ⟨#[98, 108, 111, 99, 107, 105, 110, 103]⟩, .string ⟨#[108, 105, 115, 116, 101, 110, 105, 110, 103]⟩, .string ⟨#[108, 101, 97, 114, 110, 105, 110, 103]⟩, .string ⟨#[102, 111, 114, 119, 97, 114, 100, 105, 110, 103]⟩]) (.int .i64 2)).run Tryd.prog W = .ok (.string ⟨#[108, 105, 115, 116, 101, 110, 105, 110, 103]⟩) W := by kernel_rfl
theorem index5_3 (W : World) : (Instr.index 50 (.agg #[.string ⟨#[100, 105, 115, 97, 98, 108, 101, 100]⟩, .string ⟨#[98, 108, 111, 99, 107, 105, 110, 103]⟩, .string ⟨#[108, 105, 115, 116, 101, 110, 105, 110, 103]⟩, .string ⟨#[108, 101, 97, 114, 110, 105, 110, 103]⟩, .string ⟨#[102, 111, 114, 119, 97, 114, 100, 105, 110, 103]⟩]) (.int .i64 3)).run Tryd.prog W = .ok (.string ⟨#[108, 101, 97, 114, 110, 105, 110, 103]⟩) W := by kernel_rfl
theorem index5_4 (W : World) : (Instr.index 50 (.agg #[.string ⟨#[100, 105, 115, 97, 98, 108, 101, 100]⟩, .string ⟨#[98, 108, 111, 99, 107, 105, 110, 103]⟩, .string ⟨#[108, 105, 115, 116, 101, 110, 105, 110, 103]⟩, .string ⟨#[108, 101, 97, 114, 110, 105, 110, 103]⟩, .string ⟨#[102, 111, 114, 119, 97, 114, 100, 105, 110, 103]⟩]) (.int .i64 4)).run Tryd.prog W = .ok (.string ⟨#[102, 111, 114, 119, 97, 114, 100, 105, 110, 103]⟩) W := by kernel_rfl
set_option maxHeartbeats 1600000 in
theorem port_Parse {w : World} (hn : Names w) (s : ByteArray) : Calls Tryd.prog 20 #[.string s] w fun e w' => e = .returned (parseT s) ∧ w = w' := by
  obtain ⟨n0, n1, n2, n3, n4, _⟩ := hn
  have HP := Lib.hid (fun k (h : nameB k = s) hk => parse_at h hk)
  have HQ := Lib.hid (parse_none (s := s))
  generalize parseT s = T at *
  go_enter Tryd.func20, Tryd.ntmps20
  go_wp2
  go_loopw [7] (fun i wr => ∃ (k : Nat) (z : Int), k ≤ 5 ∧ z = k ∧ i = .int .i64 z ∧ Hid (∀ j, j < k → ¬ nameB j = s) ∧ wr = w) (fun i _ => 5 - (intOf i).toNat)
  case atStart => exact ⟨0, 0, by omega, rfl, rfl, fun i hi => by omega, rfl⟩
  case round =>
    obtain ⟨k, z, hk, hz, rfl, HF, rfl⟩ := hrel
    by_cases hk5 : k = 5
    · subst hk5
      obtain rfl : z = 5 := by omega
      have hq := HQ.out HF.out
      clear hz
      go_wp2
      exact bodyPost_ret (v := T) (by rw [hq]; simp [results, Tryd.results20, go_sem]) rfl ⟨rfl, rfl⟩
    · have hk4 : k = 0 ∨ k = 1 ∨ k = 2 ∨ k = 3 ∨ k = 4 := by omega
      clear hk5
      rcases hk4 with rfl | rfl | rfl | rfl | rfl
      · obtain rfl : z = 0 := by omega
        have hix := fun W => index5_0 W
        by_cases h : nameB 0 = s
        · have hp := HP.out 0 h (by omega)
          have hs : ([100, 105, 115, 97, 98, 108, 101, 100] == s.toList) = true := cmp_yes [100, 105, 115, 97, 98, 108, 101, 100] h
          clear h hz
          go_wp2
          exact bodyPost_ret (v := T) (by rw [hp]; simp [results, Tryd.results20, go_sem]) rfl ⟨rfl, rfl⟩
        · have hs : ([100, 105, 115, 97, 98, 108, 101, 100] == s.toList) = false := cmp_no [100, 105, 115, 97, 98, 108, 101, 100] h
          have HF2 : Hid (∀ j, j < 1 → ¬ nameB j = s) := fun j hj => by
            rcases Nat.lt_or_ge j 0 with g | g
            · exact HF.out j g
            · obtain rfl : j = 0 := by omega
              exact h
          clear h hz
          go_wp2
          go_roundw
          case rel => exact ⟨1, 1, by omega, rfl, rfl, HF2, trivial⟩
          case measure => simp [intOf]
      · obtain rfl : z = 1 := by omega
        have hix := fun W => index5_1 W
        by_cases h : nameB 1 = s
        · have hp := HP.out 1 h (by omega)
          have hs : ([98, 108, 111, 99, 107, 105, 110, 103] == s.toList) = true := cmp_yes [98, 108, 111, 99, 107, 105, 110, 103] h
          clear h hz
          go_wp2
          exact bodyPost_ret (v := T) (by rw [hp]; simp [results, Tryd.results20, go_sem]) rfl ⟨rfl, rfl⟩
        · have hs : ([98, 108, 111, 99, 107, 105, 110, 103] == s.toList) = false := cmp_no [98, 108, 111, 99, 107, 105, 110, 103] h
          have HF2 : Hid (∀ j, j < 2 → ¬ nameB j = s) := fun j hj => by
            rcases Nat.lt_or_ge j 1 with g | g
            · exact HF.out j g
            · obtain rfl : j = 1 := by omega
              exact h
          clear h hz
          go_wp2
          go_roundw
          case rel => exact ⟨2, 2, by omega, rfl, rfl, HF2, trivial⟩
          case measure => simp [intOf]
      · obtain rfl : z = 2 := by omega
        have hix := fun W => index5_2 W
        by_cases h : nameB 2 = s
        · have hp := HP.out 2 h (by omega)
          have hs : ([108, 105, 115, 116, 101, 110, 105, 110, 103] == s.toList) = true := cmp_yes [108, 105, 115, 116, 101, 110, 105, 110, 103] h
          clear h hz
          go_wp2
          exact bodyPost_ret (v := T) (by rw [hp]; simp [results, Tryd.results20, go_sem]) rfl ⟨rfl, rfl⟩
        · have hs : ([108, 105, 115, 116, 101, 110, 105, 110, 103] == s.toList) = false := cmp_no [108, 105, 115, 116, 101, 110, 105, 110, 103] h
          have HF2 : Hid (∀ j, j < 3 → ¬ nameB j = s) := fun j hj => by
            rcases Nat.lt_or_ge j 2 with g | g
            · exact HF.out j g
            · obtain rfl : j = 2 := by omega
              exact h
          clear h hz
          go_wp2
          go_roundw
          case rel => exact ⟨3, 3, by omega, rfl, rfl, HF2, trivial⟩
          case measure => simp [intOf]
      · obtain rfl : z = 3 := by omega
        have hix := fun W => index5_3 W
        by_cases h : nameB 3 = s
        · have hp := HP.out 3 h (by omega)
          have hs : ([108, 101, 97, 114, 110, 105, 110, 103] == s.toList) = true := cmp_yes [108, 101, 97, 114, 110, 105, 110, 103] h
          clear h hz
          go_wp2
          exact bodyPost_ret (v := T) (by rw [hp]; simp [results, Tryd.results20, go_sem]) rfl ⟨rfl, rfl⟩
        · have hs : ([108, 101, 97, 114, 110, 105, 110, 103] == s.toList) = false := cmp_no [108, 101, 97, 114, 110, 105, 110, 103] h
          have HF2 : Hid (∀ j, j < 4 → ¬ nameB j = s) := fun j hj => by
            rcases Nat.lt_or_ge j 3 with g | g
            · exact HF.out j g
            · obtain rfl : j = 3 := by omega
              exact h
          clear h hz
          go_wp2
          go_roundw
          case rel => exact ⟨4, 4, by omega, rfl, rfl, HF2, trivial⟩
          case measure => simp [intOf]
      · obtain rfl : z = 4 := by omega
        have hix := fun W => index5_4 W
        by_cases h : nameB 4 = s
        · have hp := HP.out 4 h (by omega)
          have hs : ([102, 111, 114, 119, 97, 114, 100, 105, 110, 103] == s.toList) = true := cmp_yes [102, 111, 114, 119, 97, 114, 100, 105, 110, 103] h
          clear h hz
          go_wp2
          exact bodyPost_ret (v := T) (by rw [hp]; simp [results, Tryd.results20, go_sem]) rfl ⟨rfl, rfl⟩
        · have hs : ([102, 111, 114, 119, 97, 114, 100, 105, 110, 103] == s.toList) = false := cmp_no [102, 111, 114, 119, 97, 114, 100, 105, 110, 103] h
          have HF2 : Hid (∀ j, j < 5 → ¬ nameB j = s) := fun j hj => by
            rcases Nat.lt_or_ge j 4 with g | g
            · exact HF.out j g
            · obtain rfl : j = 4 := by omega
              exact h
          clear h hz
          go_wp2
          go_roundw
          case rel => exact ⟨5, 5, by omega, rfl, rfl, HF2, trivial⟩
          case measure => simp [intOf]
set_option maxHeartbeats 1600000 in
theorem told16 {w : World} (hn : Names w) : Calls Tryd.prog 8 #[] w (Says (.bool true) w) := by
  have HW := Lib.hid (port_Word 4 2 (by omega) w)
  rw [show ((wordS 4 2 : Nat) : Int) = 516 from by decide] at HW
  have HN := Lib.hid (fun w' (hb : Below w.heap.size w w') => port_Name (hn.below hb hn.size) 3)
  rw [show nameS 3 = ⟨#[108, 101, 97, 114, 110, 105, 110, 103]⟩ from rfl] at HN
  have HL := Lib.hid (fun w => port_Learns 3 w)
  have HF := Lib.hid (fun w => port_Forwards 3 w)
  rw [show (decide ((3 : Int) = 3) || decide ((3 : Int) = 4)) = true from by decide] at HL
  rw [show decide ((3 : Int) = 4) = false from by decide] at HF
  clear hn
  go_enter Tryd.func8, Tryd.ntmps8
  go_wp2_with fail
  refine (HW.out).mono ?_
  rintro e w1 ⟨rfl, hb⟩
  go_wp2_with fail
  refine (HN.out _ hb).mono ?_
  rintro e w2 ⟨rfl, rfl⟩
  go_wp2_with fail
  refine (HL.out _).mono ?_
  rintro e w3 ⟨rfl, rfl⟩
  go_wp2_with fail
  refine (HF.out _).mono ?_
  rintro e w4 ⟨rfl, rfl⟩
  go_wp2
  go_ret
  exact ⟨by first | rfl | (simp; done), hb⟩
/-- A row of the five names. -/
structure NameRow (w : World) (g : Nat) : Prop where
  c0 : w.cell? ⟨g, 0, none⟩ = some (.string ⟨#[100, 105, 115, 97, 98, 108, 101, 100]⟩)
  c1 : w.cell? ⟨g, 1, none⟩ = some (.string ⟨#[98, 108, 111, 99, 107, 105, 110, 103]⟩)
  c2 : w.cell? ⟨g, 2, none⟩ = some (.string ⟨#[108, 105, 115, 116, 101, 110, 105, 110, 103]⟩)
  c3 : w.cell? ⟨g, 3, none⟩ = some (.string ⟨#[108, 101, 97, 114, 110, 105, 110, 103]⟩)
  c4 : w.cell? ⟨g, 4, none⟩ = some (.string ⟨#[102, 111, 114, 119, 97, 114, 100, 105, 110, 103]⟩)
  lt : g < w.heap.size
set_option maxHeartbeats 1600000 in
theorem ref16_Names (w : World) : Calls Tryd.prog 19 #[] w fun e w' => e = .returned (.slice (some ⟨w.heap.size, 0, none⟩) 5 5) ∧ NameRow w' w.heap.size ∧ Below w.heap.size w w' := by
  go_enter Tryd.func19, Tryd.ntmps19
  go_wp2
  go_ret
  refine ⟨rfl, ⟨?_, ?_, ?_, ?_, ?_, ?_⟩, (by (repeat' (first | (with_reducible exact Below.refl _ _) | (with_reducible assumption) | (with_reducible refine Below.setCell ?_ ?_ _) | (with_reducible refine Below.alloc ?_ ?_ _) | (with_reducible refine below_drewN ?_ _) | (with_reducible refine Below.drew ?_) | go_size)))⟩
  all_goals first | (simp [go_sem]; done) | go_size
end Go.Proofs.YtdmkekiefbbopaaDoor
