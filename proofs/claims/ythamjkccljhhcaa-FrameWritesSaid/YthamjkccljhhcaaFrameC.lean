/-
  The program's own frame.Parse: it tells what 'parR' and 'errN' say. No statement is proved here.
-/
import Derived.Test.YthamjkccljhhcaaFrameB
import Derived.Lib.SmallJoins
namespace Go.Proofs.Ythamjkccljhhcaa
open Go.RowKit

theorem mac_Of_n {l : List Nat} {n : Nat} (h6 : 6 ≤ n) (hl : ∀ x ∈ l, x < 256) {v : Value} {w : World} {B : Nat} (hv : Sl w B 1 v n (bv l)) :
    Calls Try.prog 49 #[v] w fun e w' => e = .returned (.tuple #[.int .u64 (ofk l 6 : Nat), .int .i64 0]) ∧ w = w' := by
  have hll : l.length = n := Sl.length hv
  subst hll
  exact mac_Of h6 hl hv
theorem ref_Of_n {l : List Nat} {n : Nat} (h6 : 6 ≤ n) (hl : ∀ x ∈ l, x < 256) {v : Value} {w : World} {B : Nat} (hv : Sl w B 1 v n (bv l)) :
    Calls Try.prog 51 #[v] w fun e w' => e = .returned (.int .u64 (ofk l 6 : Nat)) ∧ w = w' := by
  have hll : l.length = n := Sl.length hv
  subst hll
  exact ref_Of h6 hl hv
theorem bv_drop (l : List Nat) (k : Nat) : (bv l).drop k = bv (l.drop k) := by simp [bv, List.map_drop]
theorem bv_take (l : List Nat) (k : Nat) : (bv l).take k = bv (l.take k) := by simp [bv, List.map_take]

/-- A frame as a value. -/
def frV (f : Fr) (lv : Value) : Value := .agg #[.int .u64 f.dst, .int .u64 f.src, .bool f.tagged, .int .u16 f.tci, .int .u16 f.typ, lv]
/-- What both parsers answer. -/
def ParsesTo (l : List Nat) (w : World) (e : Ending) (w' : World) : Prop :=
  ∃ lv, e = .returned (.tuple #[frV (parR l) lv, .int .i64 (errN l : Nat)]) ∧ w'.ownsRow w.heap.size 5 1 lv (parR l).load.length (bv (parR l).load) ∧ Below w.heap.size w w'

set_option maxRecDepth 100000 in
set_option maxHeartbeats 2000000 in
theorem frame_Parse_bad {l : List Nat} (hl : ∀ x ∈ l, x < 256) {v : Value} {w : World} {B : Nat} (hv : Sl w B 1 v l.length (bv l)) (hB : B ≤ w.heap.size) (he : errN l ≠ 0) :
    Calls Try.prog 15 #[v] w (ParsesTo l w) := by
  have hp : parR l = Fr.zero := by unfold parR; rw [if_neg he]
  have hlook : lookV l = .tuple #[.bool false, .int .i64 (errN l : Nat)] := by unfold lookV; rw [if_neg he]
  obtain ⟨E, hE⟩ : ∃ E, E = errN l := ⟨_, rfl⟩
  rw [← hE] at he hlook
  have hne : ((E : Int) != 0) = true := by simp; omega
  have HE := Lib.hid hE
  have HP := Lib.hid hp
  have HLK := Lib.hid hlook
  clear hE hp hlook he
  go_enter Try.func15, Try.ntmps15
  go_wp2_with fail
  refine (frame_look hl (hv.alloc hB _)).mono ?_
  rw [HLK.out]
  rintro e w1 ⟨rfl, n1, rfl⟩
  go_wp2
  refine bodyPost_ret (v := .tuple #[.agg #[.int .u64 0, .int .u64 0, .bool false, .int .u16 0, .int .u16 0, .slice none 0 0], .int .i64 (E : Int)]) (by simp [results, Try.results15, go_sem]) rfl ⟨.slice none 0 0, ?_, ?_, ?_⟩
  · rw [HP.out, ← HE.out]; rfl
  · rw [HP.out]; exact World.ownsRow_nil _ _ _ _
  · repeat' (first | (with_reducible exact Below.refl _ _) | (with_reducible assumption) | (with_reducible refine Below.setCell ?_ ?_ _) | (with_reducible refine Below.alloc ?_ ?_ _) | (with_reducible refine below_drewN ?_ _) | (with_reducible refine Below.drew ?_) | go_size)

set_option maxRecDepth 100000 in
set_option maxHeartbeats 4000000 in
theorem frame_Parse_good_plain {l : List Nat} (hl : ∀ x ∈ l, x < 256) {v : Value} {w : World} {B : Nat} (hv : Sl w B 1 v l.length (bv l)) (hB : B ≤ w.heap.size) (he : errN l = 0) (ht : tagB l = false) :
    Calls Try.prog 15 #[v] w (ParsesTo l w) := by
  obtain ⟨h60, hlong, hm⟩ := errN_ok he
  have hh : headN l = 14 := by unfold headN; rw [ht]; rfl
  have hp : parR l = ⟨ofk l 6, ofk (l.drop 6) 6, false, 0, num2 l 12, l.drop 14⟩ := by
    unfold parR parF
    rw [if_pos he, hh, ht]; rfl
  have hlook : lookV l = .tuple #[.bool false, .int .i64 0] := by unfold lookV; rw [if_pos he, he, ht]; rfl
  obtain ⟨b, off, cap, rfl, hcap, hmx, hbB, _⟩ := hv.at_ (by omega)
  have n1 := ofk_small hl (k := 6) (by omega)
  have n2 := ofk_small (mem_drop hl 6) (k := 6) (by omega)
  have n3 := num2_lt hl 12
  have s6 := hv.dropAt (k := 6) (by omega)
  have s12 := hv.dropAt (k := 12) (by omega)
  have s14 := s12.dropAt (k := 2) (by omega)
  rw [List.drop_drop, bv_drop] at s14
  rw [bv_drop] at s6 s12
  have S6 := Lib.hid s6
  have S12 := Lib.hid s12
  have S14 := Lib.hid s14
  have HE := Lib.hid he
  have HP := Lib.hid hp
  have HLK := Lib.hid hlook
  have HV := Lib.hid hv
  have c6 : ¬ cap = 6 := by omega
  have c12 : ¬ cap = 12 := by omega
  have c14 : ¬ cap - 12 = 2 := by omega
  have hnum : num2 (l.drop 12) 0 = num2 l 12 := num2_drop l 12 0
  have HN := Lib.hid hnum
  unfold maxLen at hmx
  have hlen : l.length ≤ 1514 := by omega
  generalize num2 l 12 = x2 at *
  clear he hp hlook hv s6 s12 s14 hnum hm ht hh hlong
  go_enter Try.func15, Try.ntmps15
  go_wp2_with fail
  refine (frame_look hl (HV.out.alloc hB _)).mono ?_
  rw [HLK.out]
  rintro e w1 ⟨rfl, k1, rfl⟩
  go_wp2_with fail
  refine (mac_Of_n (B := B) (by omega) hl (HV.out.below (by (repeat' (first | (with_reducible exact Below.refl _ _) | (with_reducible assumption) | (with_reducible refine Below.setCell ?_ ?_ _) | (with_reducible refine Below.alloc ?_ ?_ _) | (with_reducible refine below_drewN ?_ _) | (with_reducible refine Below.drew ?_) | go_size))))).mono ?_
  rintro e w1 ⟨rfl, rfl⟩
  go_wp2_with fail
  refine (mac_Of_n (B := B) (by omega) (mem_drop hl 6) (S6.out.below (by (repeat' (first | (with_reducible exact Below.refl _ _) | (with_reducible assumption) | (with_reducible refine Below.setCell ?_ ?_ _) | (with_reducible refine Below.alloc ?_ ?_ _) | (with_reducible refine below_drewN ?_ _) | (with_reducible refine Below.drew ?_) | go_size))))).mono ?_
  rintro e w1 ⟨rfl, rfl⟩
  go_wp2_with fail
  refine (frame_number (B := B) (l := l.drop 12) (by omega) (mem_drop hl 12) (S12.out.below (by (repeat' (first | (with_reducible exact Below.refl _ _) | (with_reducible assumption) | (with_reducible refine Below.setCell ?_ ?_ _) | (with_reducible refine Below.alloc ?_ ?_ _) | (with_reducible refine below_drewN ?_ _) | (with_reducible refine Below.drew ?_) | go_size))))).mono ?_
  rw [HN.out]
  rintro e w1 ⟨rfl, k2, rfl⟩
  go_wp2_with (first
    | (at_builtin; refine wpList_apv _ rfl stBytes _ _ rfl (w.heap.size + 2) (.slice none 0 0) 0 [] rfl (World.ownsRow_nil _ _ _ _) B _ (l.length - 12 - 2) (bv (l.drop 14)) rfl (S14.out.below (by (repeat' (first | (with_reducible exact Below.refl _ _) | (with_reducible assumption) | (with_reducible refine Below.setCell ?_ ?_ _) | (with_reducible refine Below.alloc ?_ ?_ _) | (with_reducible refine below_drewN ?_ _) | (with_reducible refine Below.drew ?_) | go_size)))) (bv_one _) (by omega) (by simp) ?_; intro A1 p1 w2 hown1 hg1 hat1 hbel1; clear hg1 hat1; obtain ⟨hc1, hf1⟩ := bcell hbel1; have hz1 := hbel1.size; simp at hz1))
  have hB2 : Below w.heap.size w w2 := Below.trans (by (repeat' (first | (with_reducible exact Below.refl _ _) | (with_reducible assumption) | (with_reducible refine Below.setCell ?_ ?_ _) | (with_reducible refine Below.alloc ?_ ?_ _) | (with_reducible refine below_drewN ?_ _) | (with_reducible refine Below.drew ?_) | go_size))) (hbel1.mono (by omega))
  have HB2 := Lib.hid hB2
  have HO := Lib.hid hown1
  clear hB2 hown1 hbel1
  refine bodyPost_ret (v := .tuple #[.agg #[.int .u64 (ofk l 6 : Nat), .int .u64 (ofk (l.drop 6) 6 : Nat), .bool false, .int .u16 0, .int .u16 (x2 : Int), .slice A1 (0 + (l.length - 12 - 2)) p1], .int .i64 0]) (by simp [results, Try.results15, go_sem, hc1]) rfl ⟨.slice A1 (0 + (l.length - 12 - 2)) p1, ?_, ?_, ?_⟩
  · rw [HP.out, HE.out]; rfl
  · rw [HP.out]
    have hln : 0 + (l.length - 12 - 2) = (l.drop 14).length := by rw [List.length_drop]; omega
    have HO2 := HO.out
    rw [hln, List.nil_append] at HO2
    rw [hln]
    refine own_base (base := w.heap.size + 2) ?_ (by omega)
    repeat (refine ownsRow_setCell_below ?_ (by simp) _)
    exact HO2
  · have := HB2.out
    (repeat' (first | (with_reducible exact Below.refl _ _) | (with_reducible assumption) | (with_reducible refine Below.setCell ?_ ?_ _) | (with_reducible refine Below.alloc ?_ ?_ _) | (with_reducible refine below_drewN ?_ _) | (with_reducible refine Below.drew ?_) | go_size))
set_option maxRecDepth 100000 in
set_option maxHeartbeats 4000000 in
theorem frame_Parse_good_tag {l : List Nat} (hl : ∀ x ∈ l, x < 256) {v : Value} {w : World} {B : Nat} (hv : Sl w B 1 v l.length (bv l)) (hB : B ≤ w.heap.size) (he : errN l = 0) (ht : tagB l = true) :
    Calls Try.prog 15 #[v] w (ParsesTo l w) := by
  obtain ⟨h60, hlong, hm⟩ := errN_ok he
  have hh : headN l = 18 := by unfold headN; rw [ht]; rfl
  have hp : parR l = ⟨ofk l 6, ofk (l.drop 6) 6, true, num2 l 14, num2 l 16, l.drop 18⟩ := by
    unfold parR parF
    rw [if_pos he, hh, ht]; rfl
  have hlook : lookV l = .tuple #[.bool true, .int .i64 0] := by unfold lookV; rw [if_pos he, he, ht]; rfl
  obtain ⟨b, off, cap, rfl, hcap, hmx, hbB, _⟩ := hv.at_ (by omega)
  have n1 := ofk_small hl (k := 6) (by omega)
  have n2 := ofk_small (mem_drop hl 6) (k := 6) (by omega)
  have n3 := num2_lt hl 14
  have n4 := num2_lt hl 16
  have s6 := hv.dropAt (k := 6) (by omega)
  have s12 := hv.dropAt (k := 12) (by omega)
  have s14 := s12.dropAt (k := 2) (by omega)
  have s16 := s12.dropAt (k := 4) (by omega)
  have s18 := s16.dropAt (k := 2) (by omega)
  rw [List.drop_drop, bv_drop] at s14 s16
  rw [List.drop_drop, List.drop_drop, bv_drop] at s18
  rw [bv_drop] at s6 s12
  have S6 := Lib.hid s6
  have S12 := Lib.hid s12
  have S14 := Lib.hid s14
  have S16 := Lib.hid s16
  have S18 := Lib.hid s18
  have HE := Lib.hid he
  have HP := Lib.hid hp
  have HLK := Lib.hid hlook
  have HV := Lib.hid hv
  have c6 : ¬ cap = 6 := by omega
  have c12 : ¬ cap = 12 := by omega
  have c14 : ¬ cap - 12 = 2 := by omega
  have c16 : ¬ cap - 12 = 4 := by omega
  have c18 : ¬ cap - 12 - 4 = 2 := by omega
  have hnum : num2 (l.drop (12 + 2)) 0 = num2 l 14 := num2_drop l 14 0
  have hnum2 : num2 (l.drop (12 + 4)) 0 = num2 l 16 := num2_drop l 16 0
  have HN := Lib.hid hnum
  have HN2 := Lib.hid hnum2
  unfold maxLen at hmx
  have hlen : l.length ≤ 1518 := by omega
  generalize num2 l 14 = x2 at *
  generalize num2 l 16 = x3 at *
  clear he hp hlook hv s6 s12 s14 s16 s18 hnum hnum2 hm ht hh hlong
  go_enter Try.func15, Try.ntmps15
  go_wp2_with fail
  refine (frame_look hl (HV.out.alloc hB _)).mono ?_
  rw [HLK.out]
  rintro e w1 ⟨rfl, k1, rfl⟩
  go_wp2_with fail
  refine (mac_Of_n (B := B) (by omega) hl (HV.out.below (by (repeat' (first | (with_reducible exact Below.refl _ _) | (with_reducible assumption) | (with_reducible refine Below.setCell ?_ ?_ _) | (with_reducible refine Below.alloc ?_ ?_ _) | (with_reducible refine below_drewN ?_ _) | (with_reducible refine Below.drew ?_) | go_size))))).mono ?_
  rintro e w1 ⟨rfl, rfl⟩
  go_wp2_with fail
  refine (mac_Of_n (B := B) (by omega) (mem_drop hl 6) (S6.out.below (by (repeat' (first | (with_reducible exact Below.refl _ _) | (with_reducible assumption) | (with_reducible refine Below.setCell ?_ ?_ _) | (with_reducible refine Below.alloc ?_ ?_ _) | (with_reducible refine below_drewN ?_ _) | (with_reducible refine Below.drew ?_) | go_size))))).mono ?_
  rintro e w1 ⟨rfl, rfl⟩
  go_wp2_with fail
  refine (frame_number (B := B) (l := l.drop (12 + 2)) (by omega) (mem_drop hl (12 + 2)) (S14.out.below (by (repeat' (first | (with_reducible exact Below.refl _ _) | (with_reducible assumption) | (with_reducible refine Below.setCell ?_ ?_ _) | (with_reducible refine Below.alloc ?_ ?_ _) | (with_reducible refine below_drewN ?_ _) | (with_reducible refine Below.drew ?_) | go_size))))).mono ?_
  rw [HN.out]
  rintro e w1 ⟨rfl, k2, rfl⟩
  go_wp2_with fail
  refine (frame_number (B := B) (l := l.drop (12 + 4)) (by omega) (mem_drop hl (12 + 4)) (S16.out.below (by (repeat' (first | (with_reducible exact Below.refl _ _) | (with_reducible assumption) | (with_reducible refine Below.setCell ?_ ?_ _) | (with_reducible refine Below.alloc ?_ ?_ _) | (with_reducible refine below_drewN ?_ _) | (with_reducible refine Below.drew ?_) | go_size))))).mono ?_
  rw [HN2.out]
  rintro e w1 ⟨rfl, k3, rfl⟩
  go_wp2_with (first
    | (at_builtin; refine wpList_apv _ rfl stBytes _ _ rfl (w.heap.size + 2) (.slice none 0 0) 0 [] rfl (World.ownsRow_nil _ _ _ _) B _ (l.length - 12 - 4 - 2) (bv (l.drop 18)) rfl (S18.out.below (by (repeat' (first | (with_reducible exact Below.refl _ _) | (with_reducible assumption) | (with_reducible refine Below.setCell ?_ ?_ _) | (with_reducible refine Below.alloc ?_ ?_ _) | (with_reducible refine below_drewN ?_ _) | (with_reducible refine Below.drew ?_) | go_size)))) (bv_one _) (by omega) (by simp) ?_; intro A1 p1 w2 hown1 hg1 hat1 hbel1; clear hg1 hat1; obtain ⟨hc1, hf1⟩ := bcell hbel1; have hz1 := hbel1.size; simp at hz1))
  have hB2 : Below w.heap.size w w2 := Below.trans (by (repeat' (first | (with_reducible exact Below.refl _ _) | (with_reducible assumption) | (with_reducible refine Below.setCell ?_ ?_ _) | (with_reducible refine Below.alloc ?_ ?_ _) | (with_reducible refine below_drewN ?_ _) | (with_reducible refine Below.drew ?_) | go_size))) (hbel1.mono (by omega))
  have HB2 := Lib.hid hB2
  have HO := Lib.hid hown1
  clear hB2 hown1 hbel1
  refine bodyPost_ret (v := .tuple #[.agg #[.int .u64 (ofk l 6 : Nat), .int .u64 (ofk (l.drop 6) 6 : Nat), .bool true, .int .u16 (x2 : Int), .int .u16 (x3 : Int), .slice A1 (0 + (l.length - 12 - 4 - 2)) p1], .int .i64 0]) (by simp [results, Try.results15, go_sem, hc1]) rfl ⟨.slice A1 (0 + (l.length - 12 - 4 - 2)) p1, ?_, ?_, ?_⟩
  · rw [HP.out, HE.out]; rfl
  · rw [HP.out]
    have hln : 0 + (l.length - 12 - 4 - 2) = (l.drop 18).length := by rw [List.length_drop]; omega
    have HO2 := HO.out
    rw [hln, List.nil_append] at HO2
    rw [hln]
    refine own_base (base := w.heap.size + 2) ?_ (by omega)
    repeat (refine ownsRow_setCell_below ?_ (by simp) _)
    exact HO2
  · have := HB2.out
    (repeat' (first | (with_reducible exact Below.refl _ _) | (with_reducible assumption) | (with_reducible refine Below.setCell ?_ ?_ _) | (with_reducible refine Below.alloc ?_ ?_ _) | (with_reducible refine below_drewN ?_ _) | (with_reducible refine Below.drew ?_) | go_size))

theorem frame_Parse {l : List Nat} (hl : ∀ x ∈ l, x < 256) {v : Value} {w : World} {B : Nat} (hv : Sl w B 1 v l.length (bv l)) (hB : B ≤ w.heap.size) :
    Calls Try.prog 15 #[v] w (ParsesTo l w) := by
  by_cases he : errN l = 0
  · cases ht : tagB l
    · exact frame_Parse_good_plain hl hv hB he ht
    · exact frame_Parse_good_tag hl hv hB he ht
  · exact frame_Parse_bad hl hv hB he
end Go.Proofs.Ythamjkccljhhcaa
