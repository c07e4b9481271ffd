/-
  The document's Parse of a frame, one way through. No statement is proved here.
-/
import Derived.Test.YthamjkccljhhcaaFrameD
namespace Go.Proofs.Ythamjkccljhhcaa
open Go.RowKit

set_option maxRecDepth 100000 in
set_option maxHeartbeats 6000000 in
theorem ref_Parse_long_tag {l : List Nat} (hl : ∀ x ∈ l, x < 256) {v : Value} {w : World} {B : Nat} (hv : Sl w B 1 v l.length (bv l)) (hB : B ≤ w.heap.size) (ht : tagB l = true) (h60 : 60 ≤ l.length) (hlong : 1518 < l.length) :
    Calls Try.prog 16 #[v] w (ParsesTo l w) := by
  have he : errN l = 3 := errN_long h60 (by rw [headN_tag ht]; exact hlong)
  have hp : parR l = Fr.zero := by unfold parR; rw [if_neg (by omega)]
  obtain ⟨b, off, cap, rfl, hcap, hmx, hbB, _⟩ := hv.at_ (by omega)
  have n1 := ofk_small hl (k := 6) (by omega)
  have n2 := ofk_small (mem_drop hl 6) (k := 6) (by omega)
  have n3 := num2_lt hl 16
  have n4 := num2_lt hl 14
  have s6 := hv.dropAt (k := 6) (by omega)
  have sH := hv.dropAt (k := 18) (by omega)
  rw [bv_drop] at s6 sH
  have S6 := Lib.hid s6
  have SH := Lib.hid sH
  have HE := Lib.hid he
  have HP := Lib.hid hp
  have HV := Lib.hid hv
  have HT := Lib.hid ht
  have c6 : ¬ cap = 6 := by omega
  have cH : ¬ cap = 18 := by omega
  have g6 : (6 : Int) ≤ (l.length : Int) := by omega
  unfold maxLen at hmx
  have k1 : ∀ W, Below B w W → Calls Try.prog 51 #[Value.slice (some ⟨b, off, none⟩) l.length cap] W fun e w' => e = .returned (.int .u64 (ofk l 6 : Nat)) ∧ W = w' := fun W hb => ref_Of_n (B := B) (by omega) hl (HV.out.below hb)
  have k2 : ∀ W, Below B w W → Calls Try.prog 51 #[Value.slice (some ⟨b, off + 6, none⟩) (l.length - 6) (cap - 6)] W fun e w' => e = .returned (.int .u64 (ofk (l.drop 6) 6 : Nat)) ∧ W = w' := fun W hb => ref_Of_n (B := B) (by omega) (mem_drop hl 6) (S6.out.below hb)
  have k3 : ∀ W, Below B w W → Calls Try.prog 52 #[Value.slice (some ⟨b, off, none⟩) l.length cap] W fun e w' => e = .returned (.bool true) ∧ W = w' := fun W hb => by
    have := ref_Tagged (B := B) (by omega) hl (HV.out.below hb)
    rw [HT.out] at this
    exact this
  have k4 : ∀ W, Below B w W → Calls Try.prog 53 #[Value.slice (some ⟨b, off, none⟩) l.length cap, .int .i64 16] W (Quiet (.int .u16 (num2 l 16 : Nat)) W) := fun W hb => ref_two (B := B) (i := 16) (by omega) hl (HV.out.below hb)
  have k5 : ∀ W, Below B w W → Calls Try.prog 53 #[Value.slice (some ⟨b, off, none⟩) l.length cap, .int .i64 14] W (Quiet (.int .u16 (num2 l 14 : Nat)) W) := fun W hb => ref_two (B := B) (i := 14) (by omega) hl (HV.out.below hb)
  have C1 := Lib.hid k1
  have C2 := Lib.hid k2
  have C3 := Lib.hid k3
  have C4 := Lib.hid k4
  have C5 := Lib.hid k5
  clear k1 k2 k3 k4 k5 he hp hv s6 sH ht
  go_enter Try.func16, Try.ntmps16
  go_wp2_with fail
  go_region_held3 (fun _ => True) (go_keep) (first
    | (go_at_call 51; (with_reducible refine Calls.mono (C1.out _ ?_) ?_); (focus (repeat' (first | (with_reducible exact Below.refl _ _) | (with_reducible assumption) | (with_reducible refine Below.setCell ?_ ?_ _) | (with_reducible refine Below.alloc ?_ ?_ _) | (with_reducible refine below_drewN ?_ _) | (with_reducible refine Below.drew ?_) | go_size))); rintro e w1 ⟨rfl, rfl⟩)
    | (go_at_call 51; (with_reducible refine Calls.mono (C2.out _ ?_) ?_); (focus (repeat' (first | (with_reducible exact Below.refl _ _) | (with_reducible assumption) | (with_reducible refine Below.setCell ?_ ?_ _) | (with_reducible refine Below.alloc ?_ ?_ _) | (with_reducible refine below_drewN ?_ _) | (with_reducible refine Below.drew ?_) | go_size))); rintro e w1 ⟨rfl, rfl⟩)
    | (go_at_call 52; (with_reducible refine Calls.mono (C3.out _ ?_) ?_); (focus (repeat' (first | (with_reducible exact Below.refl _ _) | (with_reducible assumption) | (with_reducible refine Below.setCell ?_ ?_ _) | (with_reducible refine Below.alloc ?_ ?_ _) | (with_reducible refine below_drewN ?_ _) | (with_reducible refine Below.drew ?_) | go_size))); rintro e w1 ⟨rfl, rfl⟩))
  all_goals
    go_wp2_with fail
    refine Calls.mono (C5.out _ (by (repeat' (first | (with_reducible exact Below.refl _ _) | (with_reducible assumption) | (with_reducible refine Below.setCell ?_ ?_ _) | (with_reducible refine Below.alloc ?_ ?_ _) | (with_reducible refine below_drewN ?_ _) | (with_reducible refine Below.drew ?_) | go_size)))) ?_
    rintro e w1 ⟨rfl, n5, rfl⟩
    go_wp2_with fail
    refine bodyPost_ret (v := .tuple #[.agg #[.int .u64 0, .int .u64 0, .bool false, .int .u16 0, .int .u16 0, .slice none 0 0], .int .i64 3]) (by simp [results, Try.results16, go_sem]) rfl ⟨.slice none 0 0, ?_, ?_, ?_⟩
    · rw [HP.out, HE.out]; rfl
    · rw [HP.out]; exact World.ownsRow_nil _ _ _ _
    · (repeat' (first | (with_reducible exact Below.refl _ _) | (with_reducible assumption) | (with_reducible refine Below.setCell ?_ ?_ _) | (with_reducible refine Below.alloc ?_ ?_ _) | (with_reducible refine below_drewN ?_ _) | (with_reducible refine Below.drew ?_) | go_size))

end Go.Proofs.Ythamjkccljhhcaa
