/-
  Of all lists of ticks the program tells the oldest one's place: none has a greater age, none ahead of it as great a one; of an empty list it tells -1. No condition.
-/
import Derived.Test.YtiafegkjamhneabRows
import Derived.Test.YtiafegkjamhneabTicksB
import Derived.Test.YtiafegkjamhneabCutTo
import Derived.WalkKit
import Derived.ProofKit
import Derived.OpenShut
namespace Go.Proofs.Ytiafegkjamhneab.ticksOldest
open Go.ChangeShapes Go.WideShapes Go.ChangeAt Go.RowKit
open Go.ChangeMaps (open_string)
set_option linter.unusedVariables false

theorem own : ownKnob Try.prog.godebug = none := by kernel_rfl

set_option maxHeartbeats 1600000 in
theorem walk (W : World) (a0 : Nat) (b0 : a0 < 4294967296) (a1 : Value) (l1 : List Nat) (b1 : Sl W W.heap.size 1 a1 l1.length (uv l1)) (c1 : ∀ x ∈ l1, x < 4294967296) :
    Calls Try.prog 5 #[.int .u32 (a0 : Int), a1] W (Says (.bool true) W) := by
  obtain ⟨A, cap, hv, hcap, hmx⟩ := b1.form
  subst hv
  obtain ⟨K, hK⟩ : ∃ K, K = min l1.length 100 := ⟨_, rfl⟩
  have hK1 : K ≤ l1.length := by omega
  have hif : (if (100 : Int) < (l1.length : Int) then (100 : Int) else (l1.length : Int)) = (K : Int) := by split <;> omega
  have hcut := fun u => run_cutTo (P := Try.prog) u stU32s A l1.length cap K (by omega)
  have hs0 := b1.cutTo hK1
  rw [Nat.mul_one, uv_take] at hs0
  have hc : ∀ x ∈ l1.take K, x < 4294967296 := fun x hx => c1 x (List.mem_of_mem_take hx)
  have hn1 : l1.length = 0 → K = 0 := by omega
  generalize l1.take K = L at *
  unfold maxLen at hmx
  obtain ⟨p, hp⟩ : ∃ p, p = oldestN a0 L K := ⟨_, rfl⟩
  have hR := fun w (h : Sl w W.heap.size 1 (.slice A K cap) K (uv L)) => ticks_Oldest hc b0 h
  have hS := fun w (h : Sl w W.heap.size 1 (.slice A K cap) K (uv L)) => ref4_Oldest hc b0 h
  rw [← hp] at hR hS
  have hbd := bestI_bd (ageAt a0 L) K
  change -1 ≤ oldestN a0 L K ∧ oldestN a0 L K < K at hbd
  rw [← hp] at hbd
  have HBEST : Hid (∀ i, i < K → ageAt a0 L i ≤ ageAt a0 L p.toNat ∧ ((i : Int) < p → ageAt a0 L i < ageAt a0 L p.toNat)) := fun i hi => by rw [hp]; exact bestI_best _ K i hi
  have HPOS : Hid (0 < K → 0 ≤ p) := fun h => by rw [hp]; exact bestI_pos _ K h
  have HM1 : Hid (K = 0 → p = -1) := fun h => by rw [hp, h]; rfl
  obtain ⟨hb1, hb2⟩ := hbd
  have HR := Lib.hid hR
  have HS := Lib.hid hS
  have S0 := Lib.hid hs0
  have HC := Lib.hid hc
  have B0 := Lib.hid b0
  have HCUT := Lib.hid hcut
  clear hR hS hs0 hc b0 b1 c1 hp hn1 hcut hK
  have hq := HCUT.out W
  clear HCUT
  go_enter Try.func5, Try.ntmps5
  go_wp2_with fail
  refine (HR.out _ S0.out).mono ?_
  rintro e w1 ⟨rfl, n1, rfl⟩
  clear hq hif hK1 hcap
  go_wp2_with fail
  refine (told04 _).mono ?_
  rintro e w1 ⟨rfl, n2, rfl⟩
  go_wp2_with fail
  refine (HS.out _ (S0.out.drewN _)).mono ?_
  rintro e w1 ⟨rfl, n3, rfl⟩
  go_wp2
  go_loopw [6] (fun i wr => ∃ k : Nat, k ≤ K ∧ i = .int .i64 k ∧ ∃ m, wr = W.drewN m) (fun i _ => K - (intOf i).toNat)
  case atStart => exact ⟨0, by omega, rfl, _, by first | rfl | (simp [World.drewN_drewN]; done)⟩
  case round =>
    obtain ⟨k, hk, rfl, m, rfl⟩ := hrel
    by_cases hlt : k < K
    · obtain ⟨b, off, cap', hv, h1, h2, h3, h4, hcell⟩ := S0.out.wordAt (show 0 < K by omega)
      obtain ⟨j, rfl⟩ := Int.eq_ofNat_of_zero_le (HPOS.out (by omega))
      injection hv with e1 _ e2
      subst e1 e2
      have g0 : (0 : Int) ≤ (k : Int) := Int.natCast_nonneg _
      have g1 : (k : Int) < (K : Int) := by omega
      have hjn : j < K := by omega
      have hck := hcell k hlt
      have hcj := hcell j hjn
      have hxk := word_lt HC.out k
      have hxj := word_lt HC.out j
      obtain ⟨ha1, ha2⟩ := HBEST.out k hlt
      rw [Int.toNat_natCast] at ha1 ha2
      have hA := fun W => ref4_Age a0 _ B0.out hxk W
      have hB := fun W => ref4_Age a0 _ B0.out hxj W
      change ∀ W, Calls Try.prog 17 #[.int .u32 (a0 : Int), .int .u32 ((L.getD k 0 : Nat) : Int)] W fun e w' => e = .returned (.int .u32 (ageAt a0 L k : Nat)) ∧ W = w' at hA
      change ∀ W, Calls Try.prog 17 #[.int .u32 (a0 : Int), .int .u32 ((L.getD j 0 : Nat) : Int)] W fun e w' => e = .returned (.int .u32 (ageAt a0 L j : Nat)) ∧ W = w' at hB
      obtain ⟨a, ha⟩ : ∃ a, a = ageAt a0 L k := ⟨_, rfl⟩
      obtain ⟨c, hc⟩ : ∃ c, c = ageAt a0 L j := ⟨_, rfl⟩
      obtain ⟨x, hx⟩ : ∃ x, x = L.getD k 0 := ⟨_, rfl⟩
      obtain ⟨y, hy⟩ : ∃ y, y = L.getD j 0 := ⟨_, rfl⟩
      rw [← ha] at hA ha1 ha2
      rw [← hc] at hB ha1 ha2
      rw [← hx] at hA hck
      rw [← hy] at hB hcj
      have KA := Lib.hid hA
      have KB := Lib.hid hB
      have hd1 : decide ((j : Int) < 0) = false := by simp
      have hd2 : decide (K ≤ j) = false := by simp; omega
      have hd3 : decide (c < a) = false := by simp; omega
      clear hA hB ha hc hx hy hcell hxk hxj HBEST HPOS HM1 HR HS S0 HC B0
      by_cases hkj : k < j
      · have hd4 : decide (k < j) = true := by simp; omega
        have hd5 : ((a : Int) == (c : Int)) = false := by have := ha2 (by omega); simp; omega
        clear ha2
        go_wp2_with fail
        go_quiet (first | (go_at_call 17; with_reducible exact still1 KA.out _ _ _) | (go_at_call 17; with_reducible exact still1 KB.out _ _ _))
        go_wp2
        go_roundw
        case rel => exact ⟨k + 1, by omega, by go_num, _, (by first | rfl | exact World.drewN_drewN _ _ _)⟩
        case measure => simp [intOf]; omega
      · have hd4 : decide (k < j) = false := by simp; omega
        clear ha2
        go_wp2_with fail
        go_quiet (first | (go_at_call 17; with_reducible exact still1 KA.out _ _ _) | (go_at_call 17; with_reducible exact still1 KB.out _ _ _))
        go_wp2
        go_roundw
        case rel => exact ⟨k + 1, by omega, by go_num, _, (by first | rfl | exact World.drewN_drewN _ _ _)⟩
        case measure => simp [intOf]; omega
    · have : k = K := by omega
      subst this
      rcases Nat.eq_zero_or_pos k with h0 | h0
      · obtain rfl := HM1.out h0
        subst h0
        go_wp2
        go_ret
        exact ⟨rfl, below_drewN (Below.refl _ _) _⟩
      · have hpos : (0 : Int) < (k : Int) := by omega
        go_wp2
        go_ret
        exact ⟨rfl, below_drewN (Below.refl _ _) _⟩

/-- What the walk gives, for every argument: the row's own words. -/
theorem contract (H : Type) (enc : TypeId × Value → H) (W : World) (base : Nat) (args : Array Value) (ds gs : List (DataW H)) (before : List MemPlace)
    (hval : ∀ (j : Nat) t v, Try.f5.params[j]? = some t → args[j]? = some v → Value.okWide Try.prog W .any base t v)
    (hW : DataW.Whole enc Try.prog Try.f5.params.toList Rows.ticksOldestSpec.vars false W args.toList ds gs before) :
    Calls Try.prog 5 args W fun e W' => ∃ v, e = .returned v ∧ Rows.ticksOldestSpec.post enc Try.prog Try.f5 false true false false W args v W' := by
  have hW' := hW
  obtain ⟨p, q, hA0, hV, rfl, hfz, hnd⟩ := hW
  have hA : DataW.TrodAll enc Try.prog W 0 (fun _ => true) true Try.f5.params.toList args.toList ds p := hA0
  rw [Try.params5] at hA hval
  obtain ⟨v0, vs0, d0, ds0, p0, q0, hargs, rfl, rfl, h0, r0⟩ := trodAll_cons hA
  obtain ⟨v1, vs1, d1, ds1, p1, q1, rfl, rfl, rfl, h1, r1⟩ := trodAll_cons r0
  obtain ⟨rfl, rfl, rfl⟩ := trodAll_nil r1
  obtain rfl : args = #[v0, v1] := by cases args; simp_all
  obtain ⟨a0, rfl, b0⟩ := open_u32 Try.underlying22 (hval 0 22 v0 rfl rfl) h0
  obtain ⟨l1, b1, c1⟩ := open_u32s Try.underlying27 Try.underlying22 (by kernel_rfl) (hval 1 27 v1 rfl rfl) h1
  refine (walk W a0 b0 v1 l1 b1 c1).mono fun e W' ⟨he, hb⟩ => ?_
  subst he
  exact close_true (by kernel_rfl) Try.underlying4 (by kernel_rfl) (by kernel_rfl) rfl rfl hW' hb

set_option maxRecDepth 100000 in
theorem lifted (os : Os) (started : os.Started) (H : Type) (enc : TypeId × Value → H) :
    ReturnsInHanded {} Try.checked os 5 .any (Rows.ticksOldestSpec.pre6 enc Try.prog Try.f5 Rows.ticksOldestRow.domain false) (Rows.ticksOldestSpec.post enc Try.prog Try.f5 false true false false) := by
  refine returnsInHanded_of_change (C := Try.checked) own started (by kernel_rfl) Try.func5
    (ChangeSpec.witness6 (enc := enc) (C := Try.checked) false ⟨#[], #[.int .u32 0, .slice none 0 0], []⟩ 8 (by kernel_rfl) (by kernel_rfl) (by kernel_rfl) (by kernel_rfl)) ?_
  intro W base args ds gs before hval hW _ _
  exact contract H enc W base args ds gs before hval hW

theorem proved : Rows.TicksOldestSaid :=
  OpenClaim.holds_of_wide 5 Try.f5 rfl rfl rfl rfl rfl rfl rfl ⟨rfl, rfl, rfl, rfl, rfl⟩ rfl rfl rfl rfl rfl (by kernel_rfl) Try.func5 (by kernel_rfl)
    (of_decide_eq_true (by kernel_rfl)) (by unfold Func.isWrapper; first | (rw [if_pos (by decide +kernel)]; kernel_rfl) | (rw [if_neg (by decide +kernel)]; exact ⟨rfl, rfl⟩))
    (fun os started H enc _ => lifted os started H enc)
#print axioms proved
end Go.Proofs.Ytiafegkjamhneab.ticksOldest
