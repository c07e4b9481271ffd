/-
  A lane and its acts in memory; its small calls; a lane is made. No statement is proved here.
-/
import Derived.Test.YtpojnknhmpmhjaaLnB
set_option linter.unusedVariables false
namespace Go.Proofs.Ytpojnknhmpmhjaa
open Go.RowKit

def laneF (g n cap c : Nat) (tk : Bool) : Nat → Value
  | 0 => .slice (some ⟨g, 0, none⟩) n cap
  | 1 => .int .i64 (c : Int)
  | _ => .bool tk
/-- A lane in block lb; its row of rings in block g. -/
structure LaneAt (w : World) (lb g n cap : Nat) (rbs : Nat → Nat) (c : Nat) (tk : Bool) : Prop where
  row : w.rowIs lb 94 3 (laneF g n cap c tk)
  cells : ∀ i, i < n → w.cell? ⟨g, i, none⟩ = some (.pointer (some ⟨rbs i, 0, none⟩))
  glt : g < lb
  rlt : ∀ i, i < n → rbs i < g
  one : 1 ≤ n
  few : n ≤ 64
  cur : c < n
  cap1 : n ≤ cap
  cap2 : cap ≤ maxLen
theorem LaneAt.lt {w : World} {lb g n cap : Nat} {rbs : Nat → Nat} {c : Nat} {tk : Bool} (h : LaneAt w lb g n cap rbs c tk) : lb < w.heap.size := h.row.lt
theorem LaneAt.at_ {w : World} {lb g n cap : Nat} {rbs : Nat → Nat} {c : Nat} {tk : Bool} (h : LaneAt w lb g n cap rbs c tk) :
    w.cell? ⟨lb, 0, none⟩ = some (.slice (some ⟨g, 0, none⟩) n cap) ∧ w.cell? ⟨lb, 1, none⟩ = some (.int .i64 (c : Int)) ∧ w.cell? ⟨lb, 2, none⟩ = some (.bool tk) ∧ ∀ o, w.frozen? ⟨lb, o, none⟩ = false :=
  ⟨h.row.cell (by omega), h.row.cell (by omega), h.row.cell (by omega), h.row.frozen⟩
theorem LaneAt.tch {D : Nat → Prop} {w w' : World} {lb g n cap : Nat} {rbs : Nat → Nat} {c : Nat} {tk : Bool} (h : LaneAt w lb g n cap rbs c tk) (ht : Tch D w w') (h1 : ¬ D lb) (h2 : ¬ D g) : LaneAt w' lb g n cap rbs c tk :=
  ⟨rowIs_tch h.row ht h1, fun i hi => (ht.cell (p := ⟨g, i, none⟩) (by have := h.lt; have := h.glt; show g < _; omega) h2).trans (h.cells i hi), h.glt, h.rlt, h.one, h.few, h.cur, h.cap1, h.cap2⟩
theorem LaneAt.below {w w' : World} {lb g n cap : Nat} {rbs : Nat → Nat} {c : Nat} {tk : Bool} (h : LaneAt w lb g n cap rbs c tk) (hb : Below w.heap.size w w') : LaneAt w' lb g n cap rbs c tk :=
  h.tch (D := fun _ => False) (Tch.of_below hb) (fun h => h) (fun h => h)
theorem LaneAt.setCur {w : World} {lb g n cap : Nat} {rbs : Nat → Nat} {c : Nat} {tk : Bool} (h : LaneAt w lb g n cap rbs c tk) {c' : Nat} (hc : c' < n) : LaneAt (w.setCell ⟨lb, 1, none⟩ (.int .i64 (c' : Int))) lb g n cap rbs c' tk :=
  ⟨(h.row.set 1 _).congr fun i hi => (by
    match i, hi with
    | 0, _ => rfl
    | 1, _ => rfl
    | 2, _ => rfl), fun i hi => (((Tch.refl (fun k => k = lb) w).setCell (p := ⟨lb, 1, none⟩) rfl _).cell (p := ⟨g, i, none⟩) (by have := h.lt; have := h.glt; show g < _; omega) (by have := h.glt; show ¬ g = lb; omega)).trans (h.cells i hi), h.glt, h.rlt, h.one, h.few, hc, h.cap1, h.cap2⟩
theorem LaneAt.setTk {w : World} {lb g n cap : Nat} {rbs : Nat → Nat} {c : Nat} {tk : Bool} (h : LaneAt w lb g n cap rbs c tk) (z : Bool) : LaneAt (w.setCell ⟨lb, 2, none⟩ (.bool z)) lb g n cap rbs c z :=
  ⟨(h.row.set 2 _).congr fun i hi => (by
    match i, hi with
    | 0, _ => rfl
    | 1, _ => rfl
    | 2, _ => rfl), fun i hi => (((Tch.refl (fun k => k = lb) w).setCell (p := ⟨lb, 2, none⟩) rfl _).cell (p := ⟨g, i, none⟩) (by have := h.lt; have := h.glt; show g < _; omega) (by have := h.glt; show ¬ g = lb; omega)).trans (h.cells i hi), h.glt, h.rlt, h.one, h.few, h.cur, h.cap1, h.cap2⟩
theorem LaneAt.setFar {w : World} {lb g n cap : Nat} {rbs : Nat → Nat} {c : Nat} {tk : Bool} (h : LaneAt w lb g n cap rbs c tk) {ab : Nat} (h1 : ab ≠ lb) (h2 : ab ≠ g) (o : Nat) (v : Value) : LaneAt (w.setCell ⟨ab, o, none⟩ v) lb g n cap rbs c tk :=
  h.tch (D := fun k => k = ab) ((Tch.refl (fun k => k = ab) w).setCell (p := ⟨ab, o, none⟩) rfl v) (fun e => h1 e.symm) (fun e => h2 e.symm)
/-- A taking in block ab: of which lane (none: it is over), by which act of a ring, of which place, at how many it looked. -/
def lactF (l pp : Option Addr) (k j : Nat) : Nat → Value
  | 0 => .pointer l
  | 1 => .pointer pp
  | 2 => .int .i64 (k : Int)
  | _ => .int .i64 (j : Int)
def LActAt (w : World) (ab : Nat) (l pp : Option Addr) (k j : Nat) : Prop := w.rowIs ab 92 4 (lactF l pp k j)
theorem LActAt.lt {w : World} {ab k j : Nat} {l pp : Option Addr} (h : LActAt w ab l pp k j) : ab < w.heap.size := World.rowIs.lt h
theorem LActAt.at_ {w : World} {ab k j : Nat} {l pp : Option Addr} (h : LActAt w ab l pp k j) :
    w.cell? ⟨ab, 0, none⟩ = some (.pointer l) ∧ w.cell? ⟨ab, 1, none⟩ = some (.pointer pp) ∧ w.cell? ⟨ab, 2, none⟩ = some (.int .i64 (k : Int)) ∧ w.cell? ⟨ab, 3, none⟩ = some (.int .i64 (j : Int)) ∧ ∀ o, w.frozen? ⟨ab, o, none⟩ = false :=
  ⟨World.rowIs.cell h (by omega), World.rowIs.cell h (by omega), World.rowIs.cell h (by omega), World.rowIs.cell h (by omega), World.rowIs.frozen h⟩
theorem LActAt.tch {D : Nat → Prop} {w w' : World} {ab k j : Nat} {l pp : Option Addr} (h : LActAt w ab l pp k j) (ht : Tch D w w') (hd : ¬ D ab) : LActAt w' ab l pp k j := rowIs_tch h ht hd
theorem LActAt.below {w w' : World} {ab k j : Nat} {l pp : Option Addr} (h : LActAt w ab l pp k j) (hb : Below w.heap.size w w') : LActAt w' ab l pp k j := World.rowIs.of_block h (hb.block _ h.lt)
theorem LActAt.setL {w : World} {ab k j : Nat} {l pp : Option Addr} (h : LActAt w ab l pp k j) (l' : Option Addr) : LActAt (w.setCell ⟨ab, 0, none⟩ (.pointer l')) ab l' pp k j :=
  (World.rowIs.set h 0 _).congr fun i hi => (by
    match i, hi with
    | 0, _ => rfl
    | 1, _ => rfl
    | 2, _ => rfl
    | 3, _ => rfl)
theorem LActAt.setP {w : World} {ab k j : Nat} {l pp : Option Addr} (h : LActAt w ab l pp k j) (p' : Option Addr) : LActAt (w.setCell ⟨ab, 1, none⟩ (.pointer p')) ab l p' k j :=
  (World.rowIs.set h 1 _).congr fun i hi => (by
    match i, hi with
    | 0, _ => rfl
    | 1, _ => rfl
    | 2, _ => rfl
    | 3, _ => rfl)
theorem LActAt.setK {w : World} {ab k j : Nat} {l pp : Option Addr} (h : LActAt w ab l pp k j) (k' : Nat) : LActAt (w.setCell ⟨ab, 2, none⟩ (.int .i64 (k' : Int))) ab l pp k' j :=
  (World.rowIs.set h 2 _).congr fun i hi => (by
    match i, hi with
    | 0, _ => rfl
    | 1, _ => rfl
    | 2, _ => rfl
    | 3, _ => rfl)
theorem LActAt.setJ {w : World} {ab k j : Nat} {l pp : Option Addr} (h : LActAt w ab l pp k j) (j' : Nat) : LActAt (w.setCell ⟨ab, 3, none⟩ (.int .i64 (j' : Int))) ab l pp k j' :=
  (World.rowIs.set h 3 _).congr fun i hi => (by
    match i, hi with
    | 0, _ => rfl
    | 1, _ => rfl
    | 2, _ => rfl
    | 3, _ => rfl)
theorem LActAt.setOther {w : World} {ab k j : Nat} {l pp : Option Addr} (h : LActAt w ab l pp k j) {p : Nat} (hp : p ≠ ab) (o : Nat) (v : Value) : LActAt (w.setCell ⟨p, o, none⟩ v) ab l pp k j := World.rowIs.setOther h (Ne.symm hp) v
theorem RingAt.setFar {w : World} {lo b rb : Nat} {g : RgS} (h : RingAt w lo b rb g) {ab : Nat} (h1 : rb < ab) (o : Nat) (v : Value) : RingAt (w.setCell ⟨ab, o, none⟩ v) lo b rb g :=
  h.setAct (by have := h.out; omega) (by omega) o v
/-- The row of rings, as the lane reads it. -/
theorem LaneAt.sl {w : World} {lb g n cap : Nat} {rbs : Nat → Nat} {c : Nat} {tk : Bool} (h : LaneAt w lb g n cap rbs c tk) : Sl w lb 1 (.slice (some ⟨g, 0, none⟩) n cap) n (ptv (rp rbs) n) :=
  ⟨by rw [ptv_length]; omega, _, cap, rfl, h.cap1, h.cap2, fun _ => ⟨g, 0, rfl, h.glt, fun j hj => by
    rw [ptv_at _ (by omega), Nat.zero_add]
    exact h.cells j (by omega)⟩⟩

theorem lane_behind {w : World} {lb g n cap : Nat} {rbs : Nat → Nat} {c : Nat} {tk : Bool} (h : LaneAt w lb g n cap rbs c tk) {k : Nat} (hk : k < n) (q : Nat) :
    Calls Try.prog 57 #[.pointer (some ⟨lb, 0, none⟩), .int .i64 (k : Int)] (w.drewN q) fun e w' => e = .returned (.int .i64 (((k + 1) % n : Nat) : Int)) ∧ w.drewN q = w' := by
  have h' := h.below (below_drewN (Below.refl _ _) q)
  generalize w.drewN q = w at *
  obtain ⟨s0, s1, s2, s3⟩ := h'.at_
  have hf := h.few
  have ho := h.one
  have e1 : wrap64 ((k : Int) + 1) = ((k + 1 : Nat) : Int) := by rw [show (k : Int) + 1 = ((k + 1 : Nat) : Int) by omega]; exact IntWalk.wrap64_in _ (by omega)
  have e2 : ((k + 1 : Nat) : Int).tmod (n : Int) = (((k + 1) % n : Nat) : Int) := by rw [Int.ofNat_tmod]
  have e3 : (n : Int) ≠ 0 := by omega
  have e5 : ((k : Int) + 1) % (n : Int) = (((k + 1) % n : Nat) : Int) := by simp
  have e4 : wrap64 (((k + 1) % n : Nat) : Int) = (((k + 1) % n : Nat) : Int) := IntWalk.wrap64_in _ (by have := Nat.mod_lt (k + 1) (show 0 < n by omega); omega)
  clear h h' s1 s2 s3
  generalize (((k + 1) % n : Nat) : Int) = X at *
  generalize ((k + 1 : Nat) : Int) = Y at *
  go_enter Try.func57, Try.ntmps57
  go_wp2
  go_ret
  exact ⟨by first | rfl | (simp; done) | (simp [e5]; done), rfl⟩
theorem lact_Over {w : World} {ab k j : Nat} {l pp : Option Addr} (h : LActAt w ab l pp k j) : Calls Try.prog 43 #[.pointer (some ⟨ab, 0, none⟩)] w fun e w' => e = .returned (.bool l.isNone) ∧ w = w' := by
  obtain ⟨s0, s1, s2, s3, s4⟩ := h.at_
  clear s1 s2 s3 s4 h
  cases l
  · go_enter Try.func43, Try.ntmps43
    go_wp2
    go_ret
    exact ⟨by first | rfl | (simp; done), rfl⟩
  · go_enter Try.func43, Try.ntmps43
    go_wp2
    go_ret
    exact ⟨by first | rfl | (simp; done), rfl⟩
theorem lact_Mark {w : World} {ab pb rb k j : Nat} {l : Option Addr} {a : AcS} (h : LActAt w ab l (some ⟨pb, 0, none⟩) k j) (ha : ActAt w rb pb a) : Calls Try.prog 39 #[.pointer (some ⟨ab, 0, none⟩)] w fun e w' => e = .returned (.int .i64 a.mark) ∧ w = w' := by
  have HM := Lib.hid (act_Mark ha)
  obtain ⟨s0, s1, s2, s3, s4⟩ := h.at_
  clear s0 s2 s3 s4 h ha
  go_enter Try.func39, Try.ntmps39
  go_wp2_with fail
  refine (HM.out).mono ?_
  rintro e w1 ⟨rfl, rfl⟩
  go_wp2
  go_ret
  exact ⟨rfl, rfl⟩
theorem lact_Ok {w : World} {ab pb rb k j : Nat} {l : Option Addr} {a : AcS} (h : LActAt w ab l (some ⟨pb, 0, none⟩) k j) (ha : ActAt w rb pb a) : Calls Try.prog 36 #[.pointer (some ⟨ab, 0, none⟩)] w fun e w' => e = .returned (.bool a.ok) ∧ w = w' := by
  have HM := Lib.hid (act_Ok ha)
  obtain ⟨s0, s1, s2, s3, s4⟩ := h.at_
  clear s0 s2 s3 s4 h ha
  go_enter Try.func36, Try.ntmps36
  go_wp2_with fail
  refine (HM.out).mono ?_
  rintro e w1 ⟨rfl, rfl⟩
  go_wp2
  go_ret
  exact ⟨by first | rfl | (simp; done), rfl⟩
theorem lact_From {w : World} {ab pb rb k j : Nat} {l : Option Addr} {a : AcS} (h : LActAt w ab l (some ⟨pb, 0, none⟩) k j) (ha : ActAt w rb pb a) : Calls Try.prog 38 #[.pointer (some ⟨ab, 0, none⟩)] w fun e w' => e = .returned (.int .i64 (if a.ok = true then (k : Int) else -1)) ∧ w = w' := by
  have HM := Lib.hid (lact_Ok h ha)
  obtain ⟨s0, s1, s2, s3, s4⟩ := h.at_
  generalize a.ok = z at *
  clear s0 s1 s3 s4 h ha
  cases z
  · go_enter Try.func38, Try.ntmps38
    go_wp2_with fail
    refine (HM.out).mono ?_
    rintro e w1 ⟨rfl, rfl⟩
    go_wp2
    go_ret
    exact ⟨by first | rfl | (simp; done), rfl⟩
  · go_enter Try.func38, Try.ntmps38
    go_wp2_with fail
    refine (HM.out).mono ?_
    rintro e w1 ⟨rfl, rfl⟩
    go_wp2
    go_ret
    exact ⟨by first | rfl | (simp; done), rfl⟩
theorem lact_Value {w : World} {ab pb rb k j : Nat} {l : Option Addr} {a : AcS} (h : LActAt w ab l (some ⟨pb, 0, none⟩) k j) (ha : ActAt w rb pb a) : Calls Try.prog 37 #[.pointer (some ⟨ab, 0, none⟩)] w fun e w' => e = .returned (.int .u64 (if a.ok = true then a.num else 0)) ∧ w = w' := by
  have HM := Lib.hid (lact_Ok h ha)
  have HV := Lib.hid (act_Value ha)
  obtain ⟨s0, s1, s2, s3, s4⟩ := h.at_
  generalize a.ok = z at *
  generalize a.num = y at *
  clear s0 s2 s3 s4 h ha
  cases z
  · go_enter Try.func37, Try.ntmps37
    go_wp2_with fail
    refine (HM.out).mono ?_
    rintro e w1 ⟨rfl, rfl⟩
    go_wp2
    go_ret
    exact ⟨by first | rfl | (simp; done), rfl⟩
  · simp only [if_true] at HV ⊢
    go_enter Try.func37, Try.ntmps37
    go_wp2_with fail
    refine (HM.out).mono ?_
    rintro e w1 ⟨rfl, rfl⟩
    go_wp2_with fail
    refine (HV.out).mono ?_
    rintro e w1 ⟨rfl, rfl⟩
    go_wp2
    go_ret
    exact ⟨by first | rfl | (simp; done), rfl⟩
theorem lact_Over0 (w : World) : Calls Try.prog 43 #[.pointer none] w fun e w' => e = .returned (.bool true) ∧ w = w' := by
  go_enter Try.func43, Try.ntmps43
  go_wp2
  go_ret
  exact ⟨by first | rfl | (simp; done), rfl⟩
theorem lact_Step0 (w : World) : Calls Try.prog 44 #[.pointer none] w fun e w' => e = .returned (.bool true) ∧ w = w' := by
  go_enter Try.func44, Try.ntmps44
  go_wp2_with fail
  refine (lact_Over0 _).mono ?_
  rintro e w1 ⟨rfl, rfl⟩
  go_wp2
  go_ret
  exact ⟨by first | rfl | (simp; done), rfl⟩
theorem lact_Mark0 (w : World) : Calls Try.prog 39 #[.pointer none] w fun e w' => e = .returned (.int .i64 0) ∧ w = w' := by
  go_enter Try.func39, Try.ntmps39
  go_wp2
  go_ret
  exact ⟨by first | rfl | (simp; done), rfl⟩
theorem lact_Ok0 (w : World) : Calls Try.prog 36 #[.pointer none] w fun e w' => e = .returned (.bool false) ∧ w = w' := by
  go_enter Try.func36, Try.ntmps36
  go_wp2
  go_ret
  exact ⟨by first | rfl | (simp; done), rfl⟩
theorem lact_From0 (w : World) : Calls Try.prog 38 #[.pointer none] w fun e w' => e = .returned (.int .i64 (-1)) ∧ w = w' := by
  go_enter Try.func38, Try.ntmps38
  go_wp2_with fail
  refine (lact_Ok0 _).mono ?_
  rintro e w1 ⟨rfl, rfl⟩
  go_wp2
  go_ret
  exact ⟨by first | rfl | (simp; done), rfl⟩
theorem lact_Value0 (w : World) : Calls Try.prog 37 #[.pointer none] w fun e w' => e = .returned (.int .u64 0) ∧ w = w' := by
  go_enter Try.func37, Try.ntmps37
  go_wp2_with fail
  refine (lact_Ok0 _).mono ?_
  rintro e w1 ⟨rfl, rfl⟩
  go_wp2
  go_ret
  exact ⟨by first | rfl | (simp; done), rfl⟩
theorem lane_Next0 (w : World) : Calls Try.prog 42 #[.pointer none] w fun e w' => e = .returned (.pointer none) ∧ w = w' := by
  go_enter Try.func42, Try.ntmps42
  go_wp2
  go_ret
  exact ⟨by first | rfl | (simp; done), rfl⟩
theorem lane_Len0 (w : World) : Calls Try.prog 41 #[.pointer none] w fun e w' => e = .returned (.int .i64 0) ∧ w = w' := by
  go_enter Try.func41, Try.ntmps41
  go_wp2
  go_ret
  exact ⟨by first | rfl | (simp; done), rfl⟩
theorem lane_NextBusy {w : World} {lb g n cap : Nat} {rbs : Nat → Nat} {c : Nat} (h : LaneAt w lb g n cap rbs c true) : Calls Try.prog 42 #[.pointer (some ⟨lb, 0, none⟩)] w fun e w' => e = .returned (.pointer none) ∧ w = w' := by
  obtain ⟨s0, s1, s2, s3⟩ := h.at_
  have e3 : ((n : Int) == 0) = false := by have := h.one; simp; omega
  clear h s1 s3
  go_enter Try.func42, Try.ntmps42
  go_wp2
  go_ret
  exact ⟨by first | rfl | (simp; done), rfl⟩
end Go.Proofs.Ytpojnknhmpmhjaa
