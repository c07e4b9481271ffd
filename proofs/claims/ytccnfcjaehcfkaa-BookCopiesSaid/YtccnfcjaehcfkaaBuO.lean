/-
  A bucket that may be, out of any places: the document's Fix. No statement is proved here.
-/
import Derived.Test.YtccnfcjaehcfkaaBuN
import Derived.Test.YtccnfcjaehcfkaaBuB
set_option linter.unusedVariables false
namespace Go.Proofs.Ytccnfcjaehcfkaa
open Go.RowKit

theorem litN6g {w : World} {g : Nat} (cs : Array Value) (e : TypeId) (hs : cs.size = 6) (hg : w.heap.size = g) : Sl (w.alloc (.cells cs e)) (g + 1) 6 (.slice (some ⟨g, 0, none⟩) 1 1) 1 cs.toList := by
  subst hg
  exact litN6 w cs e hs
/-- One place fixed: with the places ahead of it. -/
def fixP (g : Nat → Pl) (k : Nat) (x : Pl) : Pl := if x.used = true ∧ findF g (fixV x.e.vid) (fixM x.e.mac) k < 0 then ⟨true, fixE x.e⟩ else pl0
def fixR (f : Nat → Pl) : Nat → Nat → Pl
  | 0 => fun _ => pl0
  | k + 1 => updP (fixR f k) k (fixP (fixR f k) k (f k))
theorem fixR_old (f : Nat → Pl) : ∀ k i, i < k → ∀ m, fixR f (k + m) i = fixR f k i
  | k, i, hi, 0 => rfl
  | k, i, hi, m + 1 => by
    show updP (fixR f (k + m)) (k + m) _ i = _
    unfold updP
    rw [if_neg (by omega)]
    exact fixR_old f k i hi m
theorem listP_fix (f : Nat → Pl) (k : Nat) : plc (listP (fixR f (k + 1)) (k + 1)) = plc (listP (fixR f k) k) ++ (fixP (fixR f k) k (f k)).cells := by
  rw [listP_succ, plc_append, plc_one1]
  congr 1
  · congr 1
    unfold listP
    apply List.map_congr_left
    intro i hi
    have : i < k := by simpa using hi
    exact fixR_old f k i this 1
  · show (updP _ k _ k).cells = _
    unfold updP
    rw [if_pos rfl]
theorem fixP_stamp {g : Nat → Pl} {k : Nat} {x : Pl} (h : x.e.stamp < 4294967296) : (fixP g k x).e.stamp < 4294967296 := by
  unfold fixP
  split
  · exact fixE_stamp h
  · simp [pl0, en0]
theorem fixR_stamp {f : Nat → Pl} : ∀ n, (∀ i, i < n → (f i).e.stamp < 4294967296) → ∀ i, i < n → (fixR f n i).e.stamp < 4294967296
  | 0, _, i, hi => by omega
  | n + 1, h, i, hi => by
    show (updP _ n _ i).e.stamp < _
    unfold updP
    split
    · exact fixP_stamp (h n (by omega))
    · exact fixR_stamp n (fun j hj => h j (by omega)) i (by omega)

set_option maxHeartbeats 6400000 in
theorem ref10_Fix {f : Nat → Pl} {n N : Nat} {y : Value} {w : World} {B : Nat} (hN : N = min n 8) (hv : PlRow w B y n f) (hB : B ≤ w.heap.size) (hok : ∀ i, i < n → (f i).e.ok) :
    Calls Try.prog 14 #[y] w (Gives 74 N (fixR f N) id w) := by
  obtain ⟨A, cap, rfl, h1, h2, h3⟩ := hv
  have HC := Lib.hid h3
  have HOK := Lib.hid hok
  unfold maxLen at h2
  have hN1 : N ≤ n := by omega
  have hN2 : N ≤ 8 := by omega
  have HNN : Hid (∀ k, k ≤ N → ¬ k < N → (n ≤ k ∨ 8 ≤ k)) := fun k a b => by omega
  clear h3 hok hN
  go_enter Try.func14, Try.ntmps14
  go_wp2
  go_loopw [3, 4] (fun out i wr => ∃ k : Nat, k ≤ N ∧ i = .int .i64 k ∧ Hid (wr.ownsRow w.heap.size 74 6 out k (plc (listP (fixR f k) k))) ∧ Hid (Below w.heap.size w wr)) (fun _ i _ => N - (intOf i).toNat)
  case atStart => exact ⟨0, by omega, rfl, ⟨by simp [plc, listP], .inl ⟨rfl, rfl⟩⟩, Below.refl _ _⟩
  case round =>
    obtain ⟨k, hk, rfl, HO, HB⟩ := hrel
    have hzw := HB.out.size
    by_cases hlt : k < N
    · obtain ⟨b, off, rfl, hb, hc⟩ := HC.out (by omega)
      have g0 : (0 : Int) ≤ (k : Int) := Int.natCast_nonneg _
      have g1 : (k : Int) < (n : Int) := by omega
      have g2 : (k : Int) < 8 := by omega
      have hcx := (hc k (by omega)).keep (w' := wr) fun p hp => HB.out.cell (by rw [hp]; omega)
      have HKO := Lib.hid (HOK.out k (by omega))
      have HX0 : Hid (plc (listP (fixR f (k + 1)) (k + 1)) = plc (listP (fixR f k) k) ++ (fixP (fixR f k) k (f k)).cells) := listP_fix f k
      obtain ⟨A3, cq, hout, _, _⟩ := (Sl.of_own HO.out).form
      subst hout
      have HROW := Lib.hid (RowOf.of_own HO.out)
      obtain ⟨x, hx⟩ : ∃ x, x = f k := ⟨_, rfl⟩
      rw [← hx] at hcx HX0 HKO
      clear hx
      obtain ⟨u, ⟨a, q, p, st, s⟩⟩ := x
      obtain ⟨c0', c1', c2', c3', c4', c5'⟩ := hcx
      have c0 : wr.cell? ⟨b, off + k * 6, none⟩ = some (.bool u) := c0'
      have c1 : wr.cell? ⟨b, off + k * 6 + 1, none⟩ = some (.int .i64 a) := c1'
      have c2 : wr.cell? ⟨b, off + k * 6 + 2, none⟩ = some (.int .u64 (q : Int)) := c2'
      have c3 : wr.cell? ⟨b, off + k * 6 + 3, none⟩ = some (.int .i64 p) := c3'
      have c4 : wr.cell? ⟨b, off + k * 6 + 4, none⟩ = some (.bool st) := c4'
      have c5 : wr.cell? ⟨b, off + k * 6 + 5, none⟩ = some (.int .u32 (s : Int)) := c5'
      clear c0' c1' c2' c3' c4' c5'
      obtain ⟨_, ok1, _, ok2⟩ := HKO.out
      simp only at ok1 ok2
      have hbr : b < wr.heap.size := by omega
      have r0 : ∀ o, (wr.alloc o).cell? ⟨b, off + k * 6, none⟩ = some (.bool u) := fun o => by rw [World.cell?_alloc_lt _ _ _ (by show b < _; omega)]; exact c0
      have r1 : ∀ o, (wr.alloc o).cell? ⟨b, off + k * 6 + 1, none⟩ = some (.int .i64 a) := fun o => by rw [World.cell?_alloc_lt _ _ _ (by show b < _; omega)]; exact c1
      have r2 : ∀ o, (wr.alloc o).cell? ⟨b, off + k * 6 + 2, none⟩ = some (.int .u64 (q : Int)) := fun o => by rw [World.cell?_alloc_lt _ _ _ (by show b < _; omega)]; exact c2
      have r3 : ∀ o, (wr.alloc o).cell? ⟨b, off + k * 6 + 3, none⟩ = some (.int .i64 p) := fun o => by rw [World.cell?_alloc_lt _ _ _ (by show b < _; omega)]; exact c3
      have r4 : ∀ o, (wr.alloc o).cell? ⟨b, off + k * 6 + 4, none⟩ = some (.bool st) := fun o => by rw [World.cell?_alloc_lt _ _ _ (by show b < _; omega)]; exact c4
      have r5 : ∀ o, (wr.alloc o).cell? ⟨b, off + k * 6 + 5, none⟩ = some (.int .u32 (s : Int)) := fun o => by rw [World.cell?_alloc_lt _ _ _ (by show b < _; omega)]; exact c5
      clear hc HC HKO
      cases u
      · have HX : Hid (plc (listP (fixR f (k + 1)) (k + 1)) = plc (listP (fixR f k) k) ++ [.bool false, .int .i64 0, .int .u64 0, .int .i64 0, .bool false, .int .u32 0]) := by show _ = _; rw [HX0.out]; simp [fixP, pl0, en0, Pl.cells]
        clear HX0
        go_wp2_with (first
          | (at_builtin; refine wpList_apv _ rfl stPlacesR _ _ rfl w.heap.size _ k _ rfl (own_below HO.out (((Below.refl wr.heap.size wr).alloc (Nat.le_refl _) (.cells #[.bool false, .int .i64 0, .int .u64 0, .int .i64 0, .bool false, .int .u32 0] 74)).alloc (by simp) (.cells #[.bool false, .int .i64 0, .int .u64 0, .int .i64 0, .bool false, .int .u32 0] 74))) _ _ 1 [.bool false, .int .i64 0, .int .u64 0, .int .i64 0, .bool false, .int .u32 0] rfl (litN6g (w := wr.alloc (.cells #[.bool false, .int .i64 0, .int .u64 0, .int .i64 0, .bool false, .int .u32 0] 74)) (g := wr.heap.size + 1) #[.bool false, .int .i64 0, .int .u64 0, .int .i64 0, .bool false, .int .u32 0] _ rfl (by simp)) (by simp [Value.oneCell']) (by omega) (by go_size) ?_; intro A2 c2 w9 hown2 hgr2 hat2 hbel2; clear hgr2 hat2))
        have HO2 : Hid (w9.ownsRow w.heap.size 74 6 (.slice A2 (k + 1) c2) (k + 1) (plc (listP (fixR f (k + 1)) (k + 1)))) := by
          rw [HX.out]; exact hown2
        have HB2 : Hid (Below w.heap.size w w9) := Below.trans (HB.out.trans (Below.mono (((Below.refl wr.heap.size wr).alloc (Nat.le_refl _) (.cells #[.bool false, .int .i64 0, .int .u64 0, .int .i64 0, .bool false, .int .u32 0] 74)).alloc (by simp) (.cells #[.bool false, .int .i64 0, .int .u64 0, .int .i64 0, .bool false, .int .u32 0] 74)) hzw)) hbel2
        clear hown2 hbel2
        go_wp2
        go_roundw
        case rel => exact ⟨k + 1, by omega, by go_num, HO2.out, HB2.out⟩
        case measure => simp [intOf]; omega
      · have HFX := Lib.hid fun W => ref9_Fix a q ok1 p st s ok2 W
        have HFI := Lib.hid fun W (h : PlRow W W.heap.size (.slice A3 k cq) k (fixR f k)) => ref10_Find h (Nat.le_refl _) (fixV a) (fixM q)
        have HXN : Hid (findF (fixR f k) (fixV a) (fixM q) k < 0 → plc (listP (fixR f (k + 1)) (k + 1)) = plc (listP (fixR f k) k) ++ [.bool true, .int .i64 (fixV a), .int .u64 (fixM q : Nat), .int .i64 (p % 18446744073709551616 % 64), .bool st, .int .u32 ((if st = true then 0 else s : Nat) : Int)]) := fun h => by
          rw [HX0.out]; simp [fixP, h, Pl.cells, fixE]
        have HXO : Hid (¬ findF (fixR f k) (fixV a) (fixM q) k < 0 → plc (listP (fixR f (k + 1)) (k + 1)) = plc (listP (fixR f k) k) ++ [.bool false, .int .i64 0, .int .u64 0, .int .i64 0, .bool false, .int .u32 0]) := fun h => by
          rw [HX0.out]; simp [fixP, h, pl0, en0, Pl.cells]
        clear HX0 ok1 ok2
        generalize (if st = true then 0 else s) = s2 at *
        generalize p % 18446744073709551616 % 64 = p2 at *
        generalize fixV a = v at *
        generalize fixM q = m at *
        go_wp2_with fail
        refine (HFX.out _).mono ?_
        rintro e w2 ⟨rfl, hb2⟩
        obtain ⟨hcc, hff⟩ := bcell hb2
        have p0' : w2.cell? ⟨wr.heap.size, 0, none⟩ = some (.bool false) := by rw [hcc _ _ (by simp)]; simp [go_sem]
        have p1' : w2.cell? ⟨wr.heap.size, 1, none⟩ = some (.int .i64 0) := by rw [hcc _ _ (by simp)]; simp [go_sem]
        have p2' : w2.cell? ⟨wr.heap.size, 2, none⟩ = some (.int .u64 0) := by rw [hcc _ _ (by simp)]; simp [go_sem]
        have p3' : w2.cell? ⟨wr.heap.size, 3, none⟩ = some (.int .i64 0) := by rw [hcc _ _ (by simp)]; simp [go_sem]
        have p4' : w2.cell? ⟨wr.heap.size, 4, none⟩ = some (.bool false) := by rw [hcc _ _ (by simp)]; simp [go_sem]
        have p5' : w2.cell? ⟨wr.heap.size, 5, none⟩ = some (.int .u32 0) := by rw [hcc _ _ (by simp)]; simp [go_sem]
        have pf : ∀ o, w2.frozen? ⟨wr.heap.size, o, none⟩ = false := fun o => by rw [hff _ _ (by simp)]; simp [go_sem]
        have hB2 : Below wr.heap.size wr w2 := Below.trans ((Below.refl _ _).alloc (Nat.le_refl _) _) (hb2.mono (by simp))
        have hz2 : wr.heap.size + 1 ≤ w2.heap.size := by have := hb2.size; simp at this; omega
        clear hcc hff hb2 HFX c0 c1 c2 c4 c5 r0 r1 r2 r3 r4 r5
        obtain ⟨fi, hfi⟩ : ∃ fi, fi = findF (fixR f k) v m k := ⟨_, rfl⟩
        rw [← hfi] at HFI HXN HXO
        clear hfi
        go_wp2_with fail
        refine (HFI.out _ (HROW.out.below (hB2.alloc (by omega) _)).row).mono ?_
        rintro e w3 ⟨rfl, hb3⟩
        obtain ⟨hcc, hff⟩ := bcell hb3
        have q0 : w3.cell? ⟨wr.heap.size, 0, none⟩ = some (.bool false) := by rw [hcc _ _ (by simp; omega), World.cell?_alloc_lt _ _ _ (by show wr.heap.size < _; omega)]; exact p0'
        have q1 : w3.cell? ⟨wr.heap.size, 1, none⟩ = some (.int .i64 0) := by rw [hcc _ _ (by simp; omega), World.cell?_alloc_lt _ _ _ (by show wr.heap.size < _; omega)]; exact p1'
        have q2 : w3.cell? ⟨wr.heap.size, 2, none⟩ = some (.int .u64 0) := by rw [hcc _ _ (by simp; omega), World.cell?_alloc_lt _ _ _ (by show wr.heap.size < _; omega)]; exact p2'
        have q3 : w3.cell? ⟨wr.heap.size, 3, none⟩ = some (.int .i64 0) := by rw [hcc _ _ (by simp; omega), World.cell?_alloc_lt _ _ _ (by show wr.heap.size < _; omega)]; exact p3'
        have q4 : w3.cell? ⟨wr.heap.size, 4, none⟩ = some (.bool false) := by rw [hcc _ _ (by simp; omega), World.cell?_alloc_lt _ _ _ (by show wr.heap.size < _; omega)]; exact p4'
        have q5 : w3.cell? ⟨wr.heap.size, 5, none⟩ = some (.int .u32 0) := by rw [hcc _ _ (by simp; omega), World.cell?_alloc_lt _ _ _ (by show wr.heap.size < _; omega)]; exact p5'
        have e0 : w3.cell? ⟨w2.heap.size, 0, none⟩ = some (.int .i64 v) := by rw [hcc _ _ (by simp)]; simp [go_sem]
        have e1 : w3.cell? ⟨w2.heap.size, 1, none⟩ = some (.int .u64 (m : Int)) := by rw [hcc _ _ (by simp)]; simp [go_sem]
        have e2 : w3.cell? ⟨w2.heap.size, 2, none⟩ = some (.int .i64 p2) := by rw [hcc _ _ (by simp)]; simp [go_sem]
        have e3 : w3.cell? ⟨w2.heap.size, 3, none⟩ = some (.bool st) := by rw [hcc _ _ (by simp)]; simp [go_sem]
        have e4 : w3.cell? ⟨w2.heap.size, 4, none⟩ = some (.int .u32 (s2 : Int)) := by rw [hcc _ _ (by simp)]; simp [go_sem]
        have qf : ∀ o, w3.frozen? ⟨wr.heap.size, o, none⟩ = false := fun o => by
          rw [hff _ _ (by simp; omega)]
          exact frozen_alloc pf (by omega) _ o
        have hB3 : Below wr.heap.size wr w3 := (hB2.alloc (by omega) _).trans (hb3.mono (by simp; omega))
        have hz3 : w2.heap.size + 1 ≤ w3.heap.size := by have := hb3.size; simp at this; omega
        clear hcc hff hb3 p0' p1' p2' p3' p4' p5' pf HFI hB2
        by_cases hneg : fi < 0
        · have HX := Lib.hid (HXN.out hneg)
          clear HXN HXO
          go_wp2_with (first
            | (at_builtin; refine wpList_apv _ rfl stPlacesR _ _ rfl w.heap.size _ k _ rfl (own_below HO.out ((setP_below hB3 (Nat.le_refl _) 0 true v m p2 st s2).alloc (by rw [setP_size]; omega) (.cells #[.bool true, .int .i64 v, .int .u64 (m : Int), .int .i64 p2, .bool st, .int .u32 (s2 : Int)] 74))) _ _ 1 [.bool true, .int .i64 v, .int .u64 (m : Int), .int .i64 p2, .bool st, .int .u32 (s2 : Int)] rfl (litN6g (w := setP w3 wr.heap.size 0 true v m p2 st s2) (g := w3.heap.size) #[.bool true, .int .i64 v, .int .u64 (m : Int), .int .i64 p2, .bool st, .int .u32 (s2 : Int)] _ rfl (setP_size _ _ _ _ _ _ _ _ _)) (by simp [Value.oneCell']) (by omega) (by go_size) ?_; intro A2 c2 w9 hown2 hgr2 hat2 hbel2; clear hgr2 hat2))
          have HO2 : Hid (w9.ownsRow w.heap.size 74 6 (.slice A2 (k + 1) c2) (k + 1) (plc (listP (fixR f (k + 1)) (k + 1)))) := by
            rw [HX.out]; exact hown2
          have HB2 : Hid (Below w.heap.size w w9) := Below.trans (HB.out.trans (Below.mono ((setP_below hB3 (Nat.le_refl _) 0 true v m p2 st s2).alloc (by rw [setP_size]; omega) (.cells #[.bool true, .int .i64 v, .int .u64 (m : Int), .int .i64 p2, .bool st, .int .u32 (s2 : Int)] 74)) hzw)) hbel2
          clear hown2 hbel2
          go_wp2
          go_roundw
          case rel => exact ⟨k + 1, by omega, by go_num, HO2.out, HB2.out⟩
          case measure => simp [intOf]; omega
        · have HX := Lib.hid (HXO.out (by first | exact hneg | omega))
          clear HXN HXO
          go_wp2_with (first
            | (at_builtin; refine wpList_apv _ rfl stPlacesR _ _ rfl w.heap.size _ k _ rfl (own_below HO.out (hB3.alloc (by omega) (.cells #[.bool false, .int .i64 0, .int .u64 0, .int .i64 0, .bool false, .int .u32 0] 74))) _ _ 1 [.bool false, .int .i64 0, .int .u64 0, .int .i64 0, .bool false, .int .u32 0] rfl (litN6g (w := w3) (g := w3.heap.size) #[.bool false, .int .i64 0, .int .u64 0, .int .i64 0, .bool false, .int .u32 0] _ rfl rfl) (by simp [Value.oneCell']) (by omega) (by go_size) ?_; intro A2 c2 w9 hown2 hgr2 hat2 hbel2; clear hgr2 hat2))
          have HO2 : Hid (w9.ownsRow w.heap.size 74 6 (.slice A2 (k + 1) c2) (k + 1) (plc (listP (fixR f (k + 1)) (k + 1)))) := by
            rw [HX.out]; exact hown2
          have HB2 : Hid (Below w.heap.size w w9) := Below.trans (HB.out.trans (Below.mono (hB3.alloc (by omega) (.cells #[.bool false, .int .i64 0, .int .u64 0, .int .i64 0, .bool false, .int .u32 0] 74)) hzw)) hbel2
          clear hown2 hbel2
          go_wp2
          go_roundw
          case rel => exact ⟨k + 1, by omega, by go_num, HO2.out, HB2.out⟩
          case measure => simp [intOf]; omega
    · have hor := HNN.out k hk hlt
      obtain rfl : k = N := by omega
      by_cases h8 : n ≤ k
      · have d1 : decide ((k : Int) < (n : Int)) = false := decide_eq_false (by omega)
        go_wp2
        go_ret
        exact ⟨_, rfl, RowOf.of_own HO.out, HB.out⟩
      · have d1 : decide ((k : Int) < (n : Int)) = true := decide_eq_true (by omega)
        have d2 : decide ((k : Int) < 8) = false := decide_eq_false (by omega)
        go_wp2
        go_ret
        exact ⟨_, rfl, RowOf.of_own HO.out, HB.out⟩
end Go.Proofs.Ytccnfcjaehcfkaa
