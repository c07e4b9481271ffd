/-
  Whatever is done to a book: the program's. No statement is proved here.
-/
import Derived.Test.YtccnfcjaehcfkaaBkJ
import Derived.Test.YtccnfcjaehcfkaaBuQ
set_option linter.unusedVariables false
namespace Go.Proofs.Ytccnfcjaehcfkaa
open Go.RowKit

/-- What is done, of a kind: the places behind it, and the answer. -/
def doG (K : Nat) (v : Int) (m : Nat) (port vid : Int) (now old : Nat) (S B n : Nat) (g : Nat → Nat → Pl) : (Nat → Nat → Pl) × Int :=
  if K = 0 then (g, portF (g (homeN v m S B)) v m n)
  else if K = 3 then (updR g (homeN v m S B) (putF (fun i => ownP (g (homeN v m S B) i)) ⟨v, m, port, true, 0⟩ now n).1, ((putF (fun i => ownP (g (homeN v m S B) i)) ⟨v, m, port, true, 0⟩ now n).2 : Nat))
  else if K = 4 then (updR g (homeN v m S B) (dropF (fun i => ownP (g (homeN v m S B) i)) v m n).1, if (dropF (fun i => ownP (g (homeN v m S B) i)) v m n).2 = true then 1 else 0)
  else if K = 5 then (if atI S B port vid < 0 then (g, 0) else (updR g (atI S B port vid).toNat (ageR g (atI S B port vid).toNat now old), (ageC g (atI S B port vid).toNat now old n : Nat)))
  else if K = 6 then (flG port vid g (S * B), (flC port vid g n (S * B) : Nat))
  else (updR g (homeN v m S B) (putF (fun i => ownP (g (homeN v m S B) i)) ⟨v, m, port, false, now⟩ now n).1, ((putF (fun i => ownP (g (homeN v m S B) i)) ⟨v, m, port, false, now⟩ now n).2 : Nat))
def stG (g : Nat → Nat → Pl) : Prop := ∀ i j, (g i j).e.stamp < 4294967296
theorem own_st {f : Nat → Pl} (h : ∀ j, (f j).e.stamp < 4294967296) (j : Nat) : (ownP (f j)).e.stamp < 4294967296 := by
  unfold ownP
  split
  · exact h j
  · show (0 : Nat) < _; omega
theorem updP_st {f : Nat → Pl} {x : Pl} (h : ∀ j, (f j).e.stamp < 4294967296) (hx : x.e.stamp < 4294967296) (k j : Nat) : (updP f k x j).e.stamp < 4294967296 := by
  unfold updP
  split
  · exact hx
  · exact h j
theorem put_st {f : Nat → Pl} {e : En} {now n : Nat} (h : ∀ j, (f j).e.stamp < 4294967296) (he : e.stamp < 4294967296) (j : Nat) : ((putF f e now n).1 j).e.stamp < 4294967296 := by
  unfold putF
  split
  · exact h j
  · split
    · split
      · exact h j
      · exact updP_st h he _ j
    · split
      · exact h j
      · exact updP_st h he _ j
theorem drop_st {f : Nat → Pl} {v : Int} {m n : Nat} (h : ∀ j, (f j).e.stamp < 4294967296) (j : Nat) : ((dropF f v m n).1 j).e.stamp < 4294967296 := by
  unfold dropF
  split
  · exact h j
  · split
    · exact updP_st h (by show (0 : Nat) < _; omega) _ j
    · exact h j
theorem sweep_st {f : Nat → Pl} {c : En → Bool} (h : ∀ j, (f j).e.stamp < 4294967296) (j : Nat) : (sweepF f c j).e.stamp < 4294967296 := by
  unfold sweepF
  split
  · show (0 : Nat) < _; omega
  · exact h j
theorem updR_st {g : Nat → Nat → Pl} {f : Nat → Pl} (h : stG g) (hf : ∀ j, (f j).e.stamp < 4294967296) (k : Nat) : stG (updR g k f) := by
  intro i j
  unfold updR
  split
  · exact hf j
  · exact h i j
theorem doG_st (K : Nat) (v : Int) (m : Nat) (port vid : Int) (now old : Nat) (S B n : Nat) (g : Nat → Nat → Pl) (h : stG g) (hnow : now < 4294967296) : stG (doG K v m port vid now old S B n g).1 := by
  unfold doG
  split
  · exact h
  · split
    · exact updR_st h (put_st (own_st (h _)) (by show (0 : Nat) < _; omega)) _
    · split
      · exact updR_st h (drop_st (own_st (h _))) _
      · split
        · split
          · exact h
          · exact updR_st h (sweep_st (own_st (h _))) _
        · split
          · intro i j
            show (flG port vid g (S * B) i j).e.stamp < 4294967296
            unfold flG
            split
            · exact sweep_st (own_st (h _)) j
            · exact h i j
          · exact updR_st h (put_st (own_st (h _)) hnow) _
theorem at_cases (S B : Nat) (s t : Int) : (atI S B s t = -1 ∧ atI S B s t < 0) ∨ ∃ H : Nat, H < S * B ∧ atI S B s t = (H : Int) := by
  by_cases hc : 0 ≤ s ∧ s < S ∧ 0 ≤ t ∧ t < B
  · right
    obtain ⟨c1, c2, c3, c4⟩ := hc
    obtain ⟨a, rfl⟩ := Int.eq_ofNat_of_zero_le c1
    obtain ⟨b, rfl⟩ := Int.eq_ofNat_of_zero_le c3
    refine ⟨a * B + b, at_lt (by omega) (by omega), ?_⟩
    unfold atI
    rw [if_pos ⟨c1, c2, c3, c4⟩]
    simp
  · left
    have e : atI S B s t = -1 := if_neg hc
    exact ⟨e, by omega⟩
set_option maxRecDepth 20000 in
set_option maxHeartbeats 12800000 in
theorem book_Do {w : World} {D : Nat → Prop} {p q S B n : Nat} {g : Nat → Nat → Pl} (h : BkAt w D p q S B n g) (hD : ∀ b, D b → b < w.heap.size) (hq : D q) (hS : 1 ≤ S ∧ S ≤ 8) (hB : 1 ≤ B ∧ B ≤ 16) (hn : n ≤ 8) (hst : stG g)
    (kd kv : Int) (m : Nat) (hm : m < 18446744073709551616) (port vid : Int) (now old : Nat) (hnow : now < 4294967296) (K : Nat) (hK : K < 7) (hk1 : wrap64 ((IntKind.u64.wrap kd).tmod 7) = (K : Int)) (hk2 : IntKind.i64.wrap ((IntKind.u64.wrap kd).tmod 7) = (K : Int)) :
    Calls Try.prog 41 #[.pointer (some ⟨p, 0, none⟩), .agg #[.int .i64 kd, .int .i64 kv, .int .u64 (m : Int), .int .i64 port, .int .i64 vid, .int .u32 (now : Int), .int .u32 (old : Int)]] w fun e w' => e = .returned (.int .i64 (doG K kv m port vid now old S B n g).2) ∧ BkAt w' D p q S B n (doG K kv m port vid now old S B n g).1 ∧ But q w w' := by
  have HT := Lib.hid fun w => law8_To kv (m : Int) w
  have hqw : q < w.heap.size := h.2.1
  have HD := Lib.hid fun w' (hb : Below w.heap.size w w') b (hd : D b) => Nat.lt_of_lt_of_le (hD b hd) hb.size
  have HH := Lib.hid fun w' (hb : Below w.heap.size w w') => h.call hb
  have hst' : ∀ i, i < S * B → ∀ j, j < n → (g i j).e.stamp < 4294967296 := fun i _ j _ => hst i j
  have hn' : n ≤ 1000000 := by omega
  rcases (show K = 0 ∨ K = 1 ∨ K = 2 ∨ K = 3 ∨ K = 4 ∨ K = 5 ∨ K = 6 by omega) with rfl | rfl | rfl | rfl | rfl | rfl | rfl
  · have HC : Hid (∀ w', Below w.heap.size w w' → Calls Try.prog 53 #[.pointer (some ⟨p, 0, none⟩), .agg #[.int .i64 kv, .int .u64 (m : Int)]] w' fun e w'' => e = .returned (.int .i64 (doG 0 kv m port vid now old S B n g).2) ∧ BkAt w'' D p q S B n (doG 0 kv m port vid now old S B n g).1 ∧ But q w' w'') := fun w' hb => by
      refine (book_Lookup (HH.out w' hb) hS hB hn' kv m hm).mono ?_
      rintro e w'' ⟨rfl, hb2⟩
      exact ⟨rfl, (HH.out w' hb).call hb2, But.of hb2 (Nat.le_trans (Nat.le_of_lt hqw) hb.size)⟩
    generalize doG 0 kv m port vid now old S B n g = r at *
    clear hst hst' hn hn' hm hnow hK HD HH h hS hB hD
    rw [show ((0 : Nat) : Int) = 0 from rfl] at hk1 hk2
    go_enter Try.func41, Try.ntmps41
    go_wp2_with fail
    refine (HT.out _).mono ?_
    rintro e w1 ⟨rfl, hb⟩
    have HB1 : Hid (Below w.heap.size w w1) := Below.trans ((Below.refl _ _).alloc (Nat.le_refl _) _) (hb.mono (by simp))
    have hz1 : w.heap.size + 1 ≤ w1.heap.size := by have := hb.size; simpa using this
    have s0 : w1.cell? ⟨w.heap.size, 0, none⟩ = some (.int .i64 kd) := by rw [(bcell hb).1 _ _ (by simp)]; simp [go_sem]
    have s1 : w1.cell? ⟨w.heap.size, 1, none⟩ = some (.int .i64 kv) := by rw [(bcell hb).1 _ _ (by simp)]; simp [go_sem]
    have s2 : w1.cell? ⟨w.heap.size, 2, none⟩ = some (.int .u64 (m : Int)) := by rw [(bcell hb).1 _ _ (by simp)]; simp [go_sem]
    have s3 : w1.cell? ⟨w.heap.size, 3, none⟩ = some (.int .i64 port) := by rw [(bcell hb).1 _ _ (by simp)]; simp [go_sem]
    have s4 : w1.cell? ⟨w.heap.size, 4, none⟩ = some (.int .i64 vid) := by rw [(bcell hb).1 _ _ (by simp)]; simp [go_sem]
    have s5 : w1.cell? ⟨w.heap.size, 5, none⟩ = some (.int .u32 (now : Int)) := by rw [(bcell hb).1 _ _ (by simp)]; simp [go_sem]
    have s6 : w1.cell? ⟨w.heap.size, 6, none⟩ = some (.int .u32 (old : Int)) := by rw [(bcell hb).1 _ _ (by simp)]; simp [go_sem]
    have r0 : ∀ o, (w1.alloc o).cell? ⟨w.heap.size, 0, none⟩ = some (.int .i64 kd) := fun o => (World.cell?_alloc_lt _ _ _ (by show w.heap.size < _; omega)).trans s0
    have r1 : ∀ o, (w1.alloc o).cell? ⟨w.heap.size, 1, none⟩ = some (.int .i64 kv) := fun o => (World.cell?_alloc_lt _ _ _ (by show w.heap.size < _; omega)).trans s1
    have r2 : ∀ o, (w1.alloc o).cell? ⟨w.heap.size, 2, none⟩ = some (.int .u64 (m : Int)) := fun o => (World.cell?_alloc_lt _ _ _ (by show w.heap.size < _; omega)).trans s2
    have r3 : ∀ o, (w1.alloc o).cell? ⟨w.heap.size, 3, none⟩ = some (.int .i64 port) := fun o => (World.cell?_alloc_lt _ _ _ (by show w.heap.size < _; omega)).trans s3
    have r4 : ∀ o, (w1.alloc o).cell? ⟨w.heap.size, 4, none⟩ = some (.int .i64 vid) := fun o => (World.cell?_alloc_lt _ _ _ (by show w.heap.size < _; omega)).trans s4
    have r5 : ∀ o, (w1.alloc o).cell? ⟨w.heap.size, 5, none⟩ = some (.int .u32 (now : Int)) := fun o => (World.cell?_alloc_lt _ _ _ (by show w.heap.size < _; omega)).trans s5
    have r6 : ∀ o, (w1.alloc o).cell? ⟨w.heap.size, 6, none⟩ = some (.int .u32 (old : Int)) := fun o => (World.cell?_alloc_lt _ _ _ (by show w.heap.size < _; omega)).trans s6
    have HBA : Hid (∀ o, Below w.heap.size w (w1.alloc o)) := fun o => HB1.out.alloc (by omega) o
    clear hb s0 s1 s2 s3 s4 s5 s6
    go_wp2_with fail
    refine (HC.out _ (HBA.out _)).mono ?_
    rintro e w3 ⟨rfl, hbk, hbt⟩
    have HBK3 := Lib.hid hbk
    have HBT3 : Hid (But q w w3) := (But.of (HBA.out _) (Nat.le_of_lt hqw)).trans hbt
    clear hbk hbt r0 r1 r2 r3 r4 r5 r6 HBA
    go_wp2
    go_ret
    exact ⟨by first | rfl | (simp; done), HBK3.out, HBT3.out⟩
  · have HC : Hid (∀ w', Below w.heap.size w w' → Calls Try.prog 54 #[.pointer (some ⟨p, 0, none⟩), .agg #[.int .i64 kv, .int .u64 (m : Int)], .int .i64 port, .int .u32 (now : Int)] w' fun e w'' => e = .returned (.int .i64 (doG 1 kv m port vid now old S B n g).2) ∧ BkAt w'' D p q S B n (doG 1 kv m port vid now old S B n g).1 ∧ But q w' w'') := fun w' hb => book_Learn (HH.out w' hb) (HD.out w' hb) hq hS hB hn' hst' kv m hm port now hnow
    generalize doG 1 kv m port vid now old S B n g = r at *
    clear hst hst' hn hn' hm hnow hK HD HH h hS hB hD
    rw [show ((1 : Nat) : Int) = 1 from rfl] at hk1 hk2
    go_enter Try.func41, Try.ntmps41
    go_wp2_with fail
    refine (HT.out _).mono ?_
    rintro e w1 ⟨rfl, hb⟩
    have HB1 : Hid (Below w.heap.size w w1) := Below.trans ((Below.refl _ _).alloc (Nat.le_refl _) _) (hb.mono (by simp))
    have hz1 : w.heap.size + 1 ≤ w1.heap.size := by have := hb.size; simpa using this
    have s0 : w1.cell? ⟨w.heap.size, 0, none⟩ = some (.int .i64 kd) := by rw [(bcell hb).1 _ _ (by simp)]; simp [go_sem]
    have s1 : w1.cell? ⟨w.heap.size, 1, none⟩ = some (.int .i64 kv) := by rw [(bcell hb).1 _ _ (by simp)]; simp [go_sem]
    have s2 : w1.cell? ⟨w.heap.size, 2, none⟩ = some (.int .u64 (m : Int)) := by rw [(bcell hb).1 _ _ (by simp)]; simp [go_sem]
    have s3 : w1.cell? ⟨w.heap.size, 3, none⟩ = some (.int .i64 port) := by rw [(bcell hb).1 _ _ (by simp)]; simp [go_sem]
    have s4 : w1.cell? ⟨w.heap.size, 4, none⟩ = some (.int .i64 vid) := by rw [(bcell hb).1 _ _ (by simp)]; simp [go_sem]
    have s5 : w1.cell? ⟨w.heap.size, 5, none⟩ = some (.int .u32 (now : Int)) := by rw [(bcell hb).1 _ _ (by simp)]; simp [go_sem]
    have s6 : w1.cell? ⟨w.heap.size, 6, none⟩ = some (.int .u32 (old : Int)) := by rw [(bcell hb).1 _ _ (by simp)]; simp [go_sem]
    have r0 : ∀ o, (w1.alloc o).cell? ⟨w.heap.size, 0, none⟩ = some (.int .i64 kd) := fun o => (World.cell?_alloc_lt _ _ _ (by show w.heap.size < _; omega)).trans s0
    have r1 : ∀ o, (w1.alloc o).cell? ⟨w.heap.size, 1, none⟩ = some (.int .i64 kv) := fun o => (World.cell?_alloc_lt _ _ _ (by show w.heap.size < _; omega)).trans s1
    have r2 : ∀ o, (w1.alloc o).cell? ⟨w.heap.size, 2, none⟩ = some (.int .u64 (m : Int)) := fun o => (World.cell?_alloc_lt _ _ _ (by show w.heap.size < _; omega)).trans s2
    have r3 : ∀ o, (w1.alloc o).cell? ⟨w.heap.size, 3, none⟩ = some (.int .i64 port) := fun o => (World.cell?_alloc_lt _ _ _ (by show w.heap.size < _; omega)).trans s3
    have r4 : ∀ o, (w1.alloc o).cell? ⟨w.heap.size, 4, none⟩ = some (.int .i64 vid) := fun o => (World.cell?_alloc_lt _ _ _ (by show w.heap.size < _; omega)).trans s4
    have r5 : ∀ o, (w1.alloc o).cell? ⟨w.heap.size, 5, none⟩ = some (.int .u32 (now : Int)) := fun o => (World.cell?_alloc_lt _ _ _ (by show w.heap.size < _; omega)).trans s5
    have r6 : ∀ o, (w1.alloc o).cell? ⟨w.heap.size, 6, none⟩ = some (.int .u32 (old : Int)) := fun o => (World.cell?_alloc_lt _ _ _ (by show w.heap.size < _; omega)).trans s6
    have HBA : Hid (∀ o, Below w.heap.size w (w1.alloc o)) := fun o => HB1.out.alloc (by omega) o
    clear hb s0 s1 s2 s3 s4 s5 s6
    go_wp2_with fail
    refine (HC.out _ (HBA.out _)).mono ?_
    rintro e w3 ⟨rfl, hbk, hbt⟩
    have HBK3 := Lib.hid hbk
    have HBT3 : Hid (But q w w3) := (But.of (HBA.out _) (Nat.le_of_lt hqw)).trans hbt
    clear hbk hbt r0 r1 r2 r3 r4 r5 r6 HBA
    go_wp2
    go_ret
    exact ⟨by first | rfl | (simp; done), HBK3.out, HBT3.out⟩
  · have HC : Hid (∀ w', Below w.heap.size w w' → Calls Try.prog 54 #[.pointer (some ⟨p, 0, none⟩), .agg #[.int .i64 kv, .int .u64 (m : Int)], .int .i64 port, .int .u32 (now : Int)] w' fun e w'' => e = .returned (.int .i64 (doG 2 kv m port vid now old S B n g).2) ∧ BkAt w'' D p q S B n (doG 2 kv m port vid now old S B n g).1 ∧ But q w' w'') := fun w' hb => book_Learn (HH.out w' hb) (HD.out w' hb) hq hS hB hn' hst' kv m hm port now hnow
    generalize doG 2 kv m port vid now old S B n g = r at *
    clear hst hst' hn hn' hm hnow hK HD HH h hS hB hD
    rw [show ((2 : Nat) : Int) = 2 from rfl] at hk1 hk2
    go_enter Try.func41, Try.ntmps41
    go_wp2_with fail
    refine (HT.out _).mono ?_
    rintro e w1 ⟨rfl, hb⟩
    have HB1 : Hid (Below w.heap.size w w1) := Below.trans ((Below.refl _ _).alloc (Nat.le_refl _) _) (hb.mono (by simp))
    have hz1 : w.heap.size + 1 ≤ w1.heap.size := by have := hb.size; simpa using this
    have s0 : w1.cell? ⟨w.heap.size, 0, none⟩ = some (.int .i64 kd) := by rw [(bcell hb).1 _ _ (by simp)]; simp [go_sem]
    have s1 : w1.cell? ⟨w.heap.size, 1, none⟩ = some (.int .i64 kv) := by rw [(bcell hb).1 _ _ (by simp)]; simp [go_sem]
    have s2 : w1.cell? ⟨w.heap.size, 2, none⟩ = some (.int .u64 (m : Int)) := by rw [(bcell hb).1 _ _ (by simp)]; simp [go_sem]
    have s3 : w1.cell? ⟨w.heap.size, 3, none⟩ = some (.int .i64 port) := by rw [(bcell hb).1 _ _ (by simp)]; simp [go_sem]
    have s4 : w1.cell? ⟨w.heap.size, 4, none⟩ = some (.int .i64 vid) := by rw [(bcell hb).1 _ _ (by simp)]; simp [go_sem]
    have s5 : w1.cell? ⟨w.heap.size, 5, none⟩ = some (.int .u32 (now : Int)) := by rw [(bcell hb).1 _ _ (by simp)]; simp [go_sem]
    have s6 : w1.cell? ⟨w.heap.size, 6, none⟩ = some (.int .u32 (old : Int)) := by rw [(bcell hb).1 _ _ (by simp)]; simp [go_sem]
    have r0 : ∀ o, (w1.alloc o).cell? ⟨w.heap.size, 0, none⟩ = some (.int .i64 kd) := fun o => (World.cell?_alloc_lt _ _ _ (by show w.heap.size < _; omega)).trans s0
    have r1 : ∀ o, (w1.alloc o).cell? ⟨w.heap.size, 1, none⟩ = some (.int .i64 kv) := fun o => (World.cell?_alloc_lt _ _ _ (by show w.heap.size < _; omega)).trans s1
    have r2 : ∀ o, (w1.alloc o).cell? ⟨w.heap.size, 2, none⟩ = some (.int .u64 (m : Int)) := fun o => (World.cell?_alloc_lt _ _ _ (by show w.heap.size < _; omega)).trans s2
    have r3 : ∀ o, (w1.alloc o).cell? ⟨w.heap.size, 3, none⟩ = some (.int .i64 port) := fun o => (World.cell?_alloc_lt _ _ _ (by show w.heap.size < _; omega)).trans s3
    have r4 : ∀ o, (w1.alloc o).cell? ⟨w.heap.size, 4, none⟩ = some (.int .i64 vid) := fun o => (World.cell?_alloc_lt _ _ _ (by show w.heap.size < _; omega)).trans s4
    have r5 : ∀ o, (w1.alloc o).cell? ⟨w.heap.size, 5, none⟩ = some (.int .u32 (now : Int)) := fun o => (World.cell?_alloc_lt _ _ _ (by show w.heap.size < _; omega)).trans s5
    have r6 : ∀ o, (w1.alloc o).cell? ⟨w.heap.size, 6, none⟩ = some (.int .u32 (old : Int)) := fun o => (World.cell?_alloc_lt _ _ _ (by show w.heap.size < _; omega)).trans s6
    have HBA : Hid (∀ o, Below w.heap.size w (w1.alloc o)) := fun o => HB1.out.alloc (by omega) o
    clear hb s0 s1 s2 s3 s4 s5 s6
    go_wp2_with fail
    refine (HC.out _ (HBA.out _)).mono ?_
    rintro e w3 ⟨rfl, hbk, hbt⟩
    have HBK3 := Lib.hid hbk
    have HBT3 : Hid (But q w w3) := (But.of (HBA.out _) (Nat.le_of_lt hqw)).trans hbt
    clear hbk hbt r0 r1 r2 r3 r4 r5 r6 HBA
    go_wp2
    go_ret
    exact ⟨by first | rfl | (simp; done), HBK3.out, HBT3.out⟩
  · have HC : Hid (∀ w', Below w.heap.size w w' → Calls Try.prog 72 #[.pointer (some ⟨p, 0, none⟩), .agg #[.int .i64 kv, .int .u64 (m : Int)], .int .i64 port, .int .u32 (now : Int)] w' fun e w'' => e = .returned (.int .i64 (doG 3 kv m port vid now old S B n g).2) ∧ BkAt w'' D p q S B n (doG 3 kv m port vid now old S B n g).1 ∧ But q w' w'') := fun w' hb => book_Order (HH.out w' hb) (HD.out w' hb) hq hS hB hn' hst' kv m hm port now hnow
    generalize doG 3 kv m port vid now old S B n g = r at *
    clear hst hst' hn hn' hm hnow hK HD HH h hS hB hD
    rw [show ((3 : Nat) : Int) = 3 from rfl] at hk1 hk2
    go_enter Try.func41, Try.ntmps41
    go_wp2_with fail
    refine (HT.out _).mono ?_
    rintro e w1 ⟨rfl, hb⟩
    have HB1 : Hid (Below w.heap.size w w1) := Below.trans ((Below.refl _ _).alloc (Nat.le_refl _) _) (hb.mono (by simp))
    have hz1 : w.heap.size + 1 ≤ w1.heap.size := by have := hb.size; simpa using this
    have s0 : w1.cell? ⟨w.heap.size, 0, none⟩ = some (.int .i64 kd) := by rw [(bcell hb).1 _ _ (by simp)]; simp [go_sem]
    have s1 : w1.cell? ⟨w.heap.size, 1, none⟩ = some (.int .i64 kv) := by rw [(bcell hb).1 _ _ (by simp)]; simp [go_sem]
    have s2 : w1.cell? ⟨w.heap.size, 2, none⟩ = some (.int .u64 (m : Int)) := by rw [(bcell hb).1 _ _ (by simp)]; simp [go_sem]
    have s3 : w1.cell? ⟨w.heap.size, 3, none⟩ = some (.int .i64 port) := by rw [(bcell hb).1 _ _ (by simp)]; simp [go_sem]
    have s4 : w1.cell? ⟨w.heap.size, 4, none⟩ = some (.int .i64 vid) := by rw [(bcell hb).1 _ _ (by simp)]; simp [go_sem]
    have s5 : w1.cell? ⟨w.heap.size, 5, none⟩ = some (.int .u32 (now : Int)) := by rw [(bcell hb).1 _ _ (by simp)]; simp [go_sem]
    have s6 : w1.cell? ⟨w.heap.size, 6, none⟩ = some (.int .u32 (old : Int)) := by rw [(bcell hb).1 _ _ (by simp)]; simp [go_sem]
    have r0 : ∀ o, (w1.alloc o).cell? ⟨w.heap.size, 0, none⟩ = some (.int .i64 kd) := fun o => (World.cell?_alloc_lt _ _ _ (by show w.heap.size < _; omega)).trans s0
    have r1 : ∀ o, (w1.alloc o).cell? ⟨w.heap.size, 1, none⟩ = some (.int .i64 kv) := fun o => (World.cell?_alloc_lt _ _ _ (by show w.heap.size < _; omega)).trans s1
    have r2 : ∀ o, (w1.alloc o).cell? ⟨w.heap.size, 2, none⟩ = some (.int .u64 (m : Int)) := fun o => (World.cell?_alloc_lt _ _ _ (by show w.heap.size < _; omega)).trans s2
    have r3 : ∀ o, (w1.alloc o).cell? ⟨w.heap.size, 3, none⟩ = some (.int .i64 port) := fun o => (World.cell?_alloc_lt _ _ _ (by show w.heap.size < _; omega)).trans s3
    have r4 : ∀ o, (w1.alloc o).cell? ⟨w.heap.size, 4, none⟩ = some (.int .i64 vid) := fun o => (World.cell?_alloc_lt _ _ _ (by show w.heap.size < _; omega)).trans s4
    have r5 : ∀ o, (w1.alloc o).cell? ⟨w.heap.size, 5, none⟩ = some (.int .u32 (now : Int)) := fun o => (World.cell?_alloc_lt _ _ _ (by show w.heap.size < _; omega)).trans s5
    have r6 : ∀ o, (w1.alloc o).cell? ⟨w.heap.size, 6, none⟩ = some (.int .u32 (old : Int)) := fun o => (World.cell?_alloc_lt _ _ _ (by show w.heap.size < _; omega)).trans s6
    have HBA : Hid (∀ o, Below w.heap.size w (w1.alloc o)) := fun o => HB1.out.alloc (by omega) o
    clear hb s0 s1 s2 s3 s4 s5 s6
    go_wp2_with fail
    refine (HC.out _ (HBA.out _)).mono ?_
    rintro e w3 ⟨rfl, hbk, hbt⟩
    have HBK3 := Lib.hid hbk
    have HBT3 : Hid (But q w w3) := (But.of (HBA.out _) (Nat.le_of_lt hqw)).trans hbt
    clear hbk hbt r0 r1 r2 r3 r4 r5 r6 HBA
    go_wp2
    go_ret
    exact ⟨by first | rfl | (simp; done), HBK3.out, HBT3.out⟩
  · have hans : (doG 4 kv m port vid now old S B n g).2 = if (dropF (fun i => ownP (g (homeN kv m S B) i)) kv m n).2 = true then 1 else 0 := rfl
    have HC : Hid (∀ w', Below w.heap.size w w' → Calls Try.prog 73 #[.pointer (some ⟨p, 0, none⟩), .agg #[.int .i64 kv, .int .u64 (m : Int)]] w' fun e w'' => e = .returned (.bool (dropF (fun i => ownP (g (homeN kv m S B) i)) kv m n).2) ∧ BkAt w'' D p q S B n (doG 4 kv m port vid now old S B n g).1 ∧ But q w' w'') := fun w' hb => book_Drop (HH.out w' hb) (HD.out w' hb) hq hS hB hn' kv m hm
    rw [hans]
    generalize (doG 4 kv m port vid now old S B n g).1 = r1 at *
    generalize (dropF (fun i => ownP (g (homeN kv m S B) i)) kv m n).2 = z at *
    clear hst hst' hn hn' hm hnow hK HD HH h hans hS hB hD
    cases z
    · rw [show (if false = true then (1 : Int) else 0) = 0 from rfl]
      rw [show ((4 : Nat) : Int) = 4 from rfl] at hk1 hk2
      go_enter Try.func41, Try.ntmps41
      go_wp2_with fail
      refine (HT.out _).mono ?_
      rintro e w1 ⟨rfl, hb⟩
      have HB1 : Hid (Below w.heap.size w w1) := Below.trans ((Below.refl _ _).alloc (Nat.le_refl _) _) (hb.mono (by simp))
      have hz1 : w.heap.size + 1 ≤ w1.heap.size := by have := hb.size; simpa using this
      have s0 : w1.cell? ⟨w.heap.size, 0, none⟩ = some (.int .i64 kd) := by rw [(bcell hb).1 _ _ (by simp)]; simp [go_sem]
      have s1 : w1.cell? ⟨w.heap.size, 1, none⟩ = some (.int .i64 kv) := by rw [(bcell hb).1 _ _ (by simp)]; simp [go_sem]
      have s2 : w1.cell? ⟨w.heap.size, 2, none⟩ = some (.int .u64 (m : Int)) := by rw [(bcell hb).1 _ _ (by simp)]; simp [go_sem]
      have s3 : w1.cell? ⟨w.heap.size, 3, none⟩ = some (.int .i64 port) := by rw [(bcell hb).1 _ _ (by simp)]; simp [go_sem]
      have s4 : w1.cell? ⟨w.heap.size, 4, none⟩ = some (.int .i64 vid) := by rw [(bcell hb).1 _ _ (by simp)]; simp [go_sem]
      have s5 : w1.cell? ⟨w.heap.size, 5, none⟩ = some (.int .u32 (now : Int)) := by rw [(bcell hb).1 _ _ (by simp)]; simp [go_sem]
      have s6 : w1.cell? ⟨w.heap.size, 6, none⟩ = some (.int .u32 (old : Int)) := by rw [(bcell hb).1 _ _ (by simp)]; simp [go_sem]
      have r0 : ∀ o, (w1.alloc o).cell? ⟨w.heap.size, 0, none⟩ = some (.int .i64 kd) := fun o => (World.cell?_alloc_lt _ _ _ (by show w.heap.size < _; omega)).trans s0
      have r1 : ∀ o, (w1.alloc o).cell? ⟨w.heap.size, 1, none⟩ = some (.int .i64 kv) := fun o => (World.cell?_alloc_lt _ _ _ (by show w.heap.size < _; omega)).trans s1
      have r2 : ∀ o, (w1.alloc o).cell? ⟨w.heap.size, 2, none⟩ = some (.int .u64 (m : Int)) := fun o => (World.cell?_alloc_lt _ _ _ (by show w.heap.size < _; omega)).trans s2
      have r3 : ∀ o, (w1.alloc o).cell? ⟨w.heap.size, 3, none⟩ = some (.int .i64 port) := fun o => (World.cell?_alloc_lt _ _ _ (by show w.heap.size < _; omega)).trans s3
      have r4 : ∀ o, (w1.alloc o).cell? ⟨w.heap.size, 4, none⟩ = some (.int .i64 vid) := fun o => (World.cell?_alloc_lt _ _ _ (by show w.heap.size < _; omega)).trans s4
      have r5 : ∀ o, (w1.alloc o).cell? ⟨w.heap.size, 5, none⟩ = some (.int .u32 (now : Int)) := fun o => (World.cell?_alloc_lt _ _ _ (by show w.heap.size < _; omega)).trans s5
      have r6 : ∀ o, (w1.alloc o).cell? ⟨w.heap.size, 6, none⟩ = some (.int .u32 (old : Int)) := fun o => (World.cell?_alloc_lt _ _ _ (by show w.heap.size < _; omega)).trans s6
      have HBA : Hid (∀ o, Below w.heap.size w (w1.alloc o)) := fun o => HB1.out.alloc (by omega) o
      clear hb s0 s1 s2 s3 s4 s5 s6
      go_wp2_with fail
      refine (HC.out _ (HBA.out _)).mono ?_
      rintro e w3 ⟨rfl, hbk, hbt⟩
      have HBK3 := Lib.hid hbk
      have HBT3 : Hid (But q w w3) := (But.of (HBA.out _) (Nat.le_of_lt hqw)).trans hbt
      clear hbk hbt r0 r1 r2 r3 r4 r5 r6 HBA
      go_wp2
      go_ret
      exact ⟨by first | rfl | (simp; done), HBK3.out, HBT3.out⟩
    · rw [show (if true = true then (1 : Int) else 0) = 1 from rfl]
      rw [show ((4 : Nat) : Int) = 4 from rfl] at hk1 hk2
      go_enter Try.func41, Try.ntmps41
      go_wp2_with fail
      refine (HT.out _).mono ?_
      rintro e w1 ⟨rfl, hb⟩
      have HB1 : Hid (Below w.heap.size w w1) := Below.trans ((Below.refl _ _).alloc (Nat.le_refl _) _) (hb.mono (by simp))
      have hz1 : w.heap.size + 1 ≤ w1.heap.size := by have := hb.size; simpa using this
      have s0 : w1.cell? ⟨w.heap.size, 0, none⟩ = some (.int .i64 kd) := by rw [(bcell hb).1 _ _ (by simp)]; simp [go_sem]
      have s1 : w1.cell? ⟨w.heap.size, 1, none⟩ = some (.int .i64 kv) := by rw [(bcell hb).1 _ _ (by simp)]; simp [go_sem]
      have s2 : w1.cell? ⟨w.heap.size, 2, none⟩ = some (.int .u64 (m : Int)) := by rw [(bcell hb).1 _ _ (by simp)]; simp [go_sem]
      have s3 : w1.cell? ⟨w.heap.size, 3, none⟩ = some (.int .i64 port) := by rw [(bcell hb).1 _ _ (by simp)]; simp [go_sem]
      have s4 : w1.cell? ⟨w.heap.size, 4, none⟩ = some (.int .i64 vid) := by rw [(bcell hb).1 _ _ (by simp)]; simp [go_sem]
      have s5 : w1.cell? ⟨w.heap.size, 5, none⟩ = some (.int .u32 (now : Int)) := by rw [(bcell hb).1 _ _ (by simp)]; simp [go_sem]
      have s6 : w1.cell? ⟨w.heap.size, 6, none⟩ = some (.int .u32 (old : Int)) := by rw [(bcell hb).1 _ _ (by simp)]; simp [go_sem]
      have r0 : ∀ o, (w1.alloc o).cell? ⟨w.heap.size, 0, none⟩ = some (.int .i64 kd) := fun o => (World.cell?_alloc_lt _ _ _ (by show w.heap.size < _; omega)).trans s0
      have r1 : ∀ o, (w1.alloc o).cell? ⟨w.heap.size, 1, none⟩ = some (.int .i64 kv) := fun o => (World.cell?_alloc_lt _ _ _ (by show w.heap.size < _; omega)).trans s1
      have r2 : ∀ o, (w1.alloc o).cell? ⟨w.heap.size, 2, none⟩ = some (.int .u64 (m : Int)) := fun o => (World.cell?_alloc_lt _ _ _ (by show w.heap.size < _; omega)).trans s2
      have r3 : ∀ o, (w1.alloc o).cell? ⟨w.heap.size, 3, none⟩ = some (.int .i64 port) := fun o => (World.cell?_alloc_lt _ _ _ (by show w.heap.size < _; omega)).trans s3
      have r4 : ∀ o, (w1.alloc o).cell? ⟨w.heap.size, 4, none⟩ = some (.int .i64 vid) := fun o => (World.cell?_alloc_lt _ _ _ (by show w.heap.size < _; omega)).trans s4
      have r5 : ∀ o, (w1.alloc o).cell? ⟨w.heap.size, 5, none⟩ = some (.int .u32 (now : Int)) := fun o => (World.cell?_alloc_lt _ _ _ (by show w.heap.size < _; omega)).trans s5
      have r6 : ∀ o, (w1.alloc o).cell? ⟨w.heap.size, 6, none⟩ = some (.int .u32 (old : Int)) := fun o => (World.cell?_alloc_lt _ _ _ (by show w.heap.size < _; omega)).trans s6
      have HBA : Hid (∀ o, Below w.heap.size w (w1.alloc o)) := fun o => HB1.out.alloc (by omega) o
      clear hb s0 s1 s2 s3 s4 s5 s6
      go_wp2_with fail
      refine (HC.out _ (HBA.out _)).mono ?_
      rintro e w3 ⟨rfl, hbk, hbt⟩
      have HBK3 := Lib.hid hbk
      have HBT3 : Hid (But q w w3) := (But.of (HBA.out _) (Nat.le_of_lt hqw)).trans hbt
      clear hbk hbt r0 r1 r2 r3 r4 r5 r6 HBA
      go_wp2
      go_ret
      exact ⟨by first | rfl | (simp; done), HBK3.out, HBT3.out⟩
  · have HC : Hid (∀ w', Below w.heap.size w w' → Calls Try.prog 74 #[.pointer (some ⟨p, 0, none⟩), .int .i64 port, .int .i64 vid, .int .u32 (now : Int), .int .u32 (old : Int)] w' fun e w'' => e = .returned (.int .i64 (doG 5 kv m port vid now old S B n g).2) ∧ BkAt w'' D p q S B n (doG 5 kv m port vid now old S B n g).1 ∧ But q w' w'') := fun w' hb => by
      rcases at_cases S B port vid with ⟨ha, ha2⟩ | ⟨H, hH, ha⟩
      · have e : doG 5 kv m port vid now old S B n g = (g, 0) := by
          unfold doG
          rw [if_neg (by omega), if_neg (by omega), if_neg (by omega), if_pos rfl, if_pos ha2]
        rw [e]
        refine (book_AgeNo (HH.out w' hb) hS hB port vid now old ha).mono ?_
        rintro e w'' ⟨rfl, hb2⟩
        exact ⟨rfl, (HH.out w' hb).call hb2, But.of hb2 (Nat.le_trans (Nat.le_of_lt hqw) hb.size)⟩
      · have e : doG 5 kv m port vid now old S B n g = (updR g H (ageR g H now old), ((ageC g H now old n : Nat) : Int)) := by
          unfold doG
          rw [if_neg (by omega), if_neg (by omega), if_neg (by omega), if_pos rfl, if_neg (by omega), ha, Int.toNat_natCast]
        rw [e]
        exact book_Age (HH.out w' hb) (HD.out w' hb) hq hS hB hn' hst' port vid now old hnow H hH ha
    generalize doG 5 kv m port vid now old S B n g = r at *
    clear hst hst' hn hn' hm hnow hK HD HH h hS hB hD
    rw [show ((5 : Nat) : Int) = 5 from rfl] at hk1 hk2
    go_enter Try.func41, Try.ntmps41
    go_wp2_with fail
    refine (HT.out _).mono ?_
    rintro e w1 ⟨rfl, hb⟩
    have HB1 : Hid (Below w.heap.size w w1) := Below.trans ((Below.refl _ _).alloc (Nat.le_refl _) _) (hb.mono (by simp))
    have hz1 : w.heap.size + 1 ≤ w1.heap.size := by have := hb.size; simpa using this
    have s0 : w1.cell? ⟨w.heap.size, 0, none⟩ = some (.int .i64 kd) := by rw [(bcell hb).1 _ _ (by simp)]; simp [go_sem]
    have s1 : w1.cell? ⟨w.heap.size, 1, none⟩ = some (.int .i64 kv) := by rw [(bcell hb).1 _ _ (by simp)]; simp [go_sem]
    have s2 : w1.cell? ⟨w.heap.size, 2, none⟩ = some (.int .u64 (m : Int)) := by rw [(bcell hb).1 _ _ (by simp)]; simp [go_sem]
    have s3 : w1.cell? ⟨w.heap.size, 3, none⟩ = some (.int .i64 port) := by rw [(bcell hb).1 _ _ (by simp)]; simp [go_sem]
    have s4 : w1.cell? ⟨w.heap.size, 4, none⟩ = some (.int .i64 vid) := by rw [(bcell hb).1 _ _ (by simp)]; simp [go_sem]
    have s5 : w1.cell? ⟨w.heap.size, 5, none⟩ = some (.int .u32 (now : Int)) := by rw [(bcell hb).1 _ _ (by simp)]; simp [go_sem]
    have s6 : w1.cell? ⟨w.heap.size, 6, none⟩ = some (.int .u32 (old : Int)) := by rw [(bcell hb).1 _ _ (by simp)]; simp [go_sem]
    have r0 : ∀ o, (w1.alloc o).cell? ⟨w.heap.size, 0, none⟩ = some (.int .i64 kd) := fun o => (World.cell?_alloc_lt _ _ _ (by show w.heap.size < _; omega)).trans s0
    have r1 : ∀ o, (w1.alloc o).cell? ⟨w.heap.size, 1, none⟩ = some (.int .i64 kv) := fun o => (World.cell?_alloc_lt _ _ _ (by show w.heap.size < _; omega)).trans s1
    have r2 : ∀ o, (w1.alloc o).cell? ⟨w.heap.size, 2, none⟩ = some (.int .u64 (m : Int)) := fun o => (World.cell?_alloc_lt _ _ _ (by show w.heap.size < _; omega)).trans s2
    have r3 : ∀ o, (w1.alloc o).cell? ⟨w.heap.size, 3, none⟩ = some (.int .i64 port) := fun o => (World.cell?_alloc_lt _ _ _ (by show w.heap.size < _; omega)).trans s3
    have r4 : ∀ o, (w1.alloc o).cell? ⟨w.heap.size, 4, none⟩ = some (.int .i64 vid) := fun o => (World.cell?_alloc_lt _ _ _ (by show w.heap.size < _; omega)).trans s4
    have r5 : ∀ o, (w1.alloc o).cell? ⟨w.heap.size, 5, none⟩ = some (.int .u32 (now : Int)) := fun o => (World.cell?_alloc_lt _ _ _ (by show w.heap.size < _; omega)).trans s5
    have r6 : ∀ o, (w1.alloc o).cell? ⟨w.heap.size, 6, none⟩ = some (.int .u32 (old : Int)) := fun o => (World.cell?_alloc_lt _ _ _ (by show w.heap.size < _; omega)).trans s6
    have HBA : Hid (∀ o, Below w.heap.size w (w1.alloc o)) := fun o => HB1.out.alloc (by omega) o
    clear hb s0 s1 s2 s3 s4 s5 s6
    go_wp2_with fail
    refine (HC.out _ (HBA.out _)).mono ?_
    rintro e w3 ⟨rfl, hbk, hbt⟩
    have HBK3 := Lib.hid hbk
    have HBT3 : Hid (But q w w3) := (But.of (HBA.out _) (Nat.le_of_lt hqw)).trans hbt
    clear hbk hbt r0 r1 r2 r3 r4 r5 r6 HBA
    go_wp2
    go_ret
    exact ⟨by first | rfl | (simp; done), HBK3.out, HBT3.out⟩
  · have HC : Hid (∀ w', Below w.heap.size w w' → Calls Try.prog 75 #[.pointer (some ⟨p, 0, none⟩), .agg #[.int .i64 port, .int .i64 vid]] w' fun e w'' => e = .returned (.int .i64 (doG 6 kv m port vid now old S B n g).2) ∧ BkAt w'' D p q S B n (doG 6 kv m port vid now old S B n g).1 ∧ But q w' w'') := fun w' hb => book_Flush (HH.out w' hb) (HD.out w' hb) hq hS hB hn port vid
    generalize doG 6 kv m port vid now old S B n g = r at *
    clear hst hst' hn hn' hm hnow hK HD HH h hS hB hD
    rw [show ((6 : Nat) : Int) = 6 from rfl] at hk1 hk2
    go_enter Try.func41, Try.ntmps41
    go_wp2_with fail
    refine (HT.out _).mono ?_
    rintro e w1 ⟨rfl, hb⟩
    have HB1 : Hid (Below w.heap.size w w1) := Below.trans ((Below.refl _ _).alloc (Nat.le_refl _) _) (hb.mono (by simp))
    have hz1 : w.heap.size + 1 ≤ w1.heap.size := by have := hb.size; simpa using this
    have s0 : w1.cell? ⟨w.heap.size, 0, none⟩ = some (.int .i64 kd) := by rw [(bcell hb).1 _ _ (by simp)]; simp [go_sem]
    have s1 : w1.cell? ⟨w.heap.size, 1, none⟩ = some (.int .i64 kv) := by rw [(bcell hb).1 _ _ (by simp)]; simp [go_sem]
    have s2 : w1.cell? ⟨w.heap.size, 2, none⟩ = some (.int .u64 (m : Int)) := by rw [(bcell hb).1 _ _ (by simp)]; simp [go_sem]
    have s3 : w1.cell? ⟨w.heap.size, 3, none⟩ = some (.int .i64 port) := by rw [(bcell hb).1 _ _ (by simp)]; simp [go_sem]
    have s4 : w1.cell? ⟨w.heap.size, 4, none⟩ = some (.int .i64 vid) := by rw [(bcell hb).1 _ _ (by simp)]; simp [go_sem]
    have s5 : w1.cell? ⟨w.heap.size, 5, none⟩ = some (.int .u32 (now : Int)) := by rw [(bcell hb).1 _ _ (by simp)]; simp [go_sem]
    have s6 : w1.cell? ⟨w.heap.size, 6, none⟩ = some (.int .u32 (old : Int)) := by rw [(bcell hb).1 _ _ (by simp)]; simp [go_sem]
    have r0 : ∀ o, (w1.alloc o).cell? ⟨w.heap.size, 0, none⟩ = some (.int .i64 kd) := fun o => (World.cell?_alloc_lt _ _ _ (by show w.heap.size < _; omega)).trans s0
    have r1 : ∀ o, (w1.alloc o).cell? ⟨w.heap.size, 1, none⟩ = some (.int .i64 kv) := fun o => (World.cell?_alloc_lt _ _ _ (by show w.heap.size < _; omega)).trans s1
    have r2 : ∀ o, (w1.alloc o).cell? ⟨w.heap.size, 2, none⟩ = some (.int .u64 (m : Int)) := fun o => (World.cell?_alloc_lt _ _ _ (by show w.heap.size < _; omega)).trans s2
    have r3 : ∀ o, (w1.alloc o).cell? ⟨w.heap.size, 3, none⟩ = some (.int .i64 port) := fun o => (World.cell?_alloc_lt _ _ _ (by show w.heap.size < _; omega)).trans s3
    have r4 : ∀ o, (w1.alloc o).cell? ⟨w.heap.size, 4, none⟩ = some (.int .i64 vid) := fun o => (World.cell?_alloc_lt _ _ _ (by show w.heap.size < _; omega)).trans s4
    have r5 : ∀ o, (w1.alloc o).cell? ⟨w.heap.size, 5, none⟩ = some (.int .u32 (now : Int)) := fun o => (World.cell?_alloc_lt _ _ _ (by show w.heap.size < _; omega)).trans s5
    have r6 : ∀ o, (w1.alloc o).cell? ⟨w.heap.size, 6, none⟩ = some (.int .u32 (old : Int)) := fun o => (World.cell?_alloc_lt _ _ _ (by show w.heap.size < _; omega)).trans s6
    have HBA : Hid (∀ o, Below w.heap.size w (w1.alloc o)) := fun o => HB1.out.alloc (by omega) o
    clear hb s0 s1 s2 s3 s4 s5 s6
    go_wp2_with fail
    refine (HC.out _ (HBA.out _)).mono ?_
    rintro e w3 ⟨rfl, hbk, hbt⟩
    have HBK3 := Lib.hid hbk
    have HBT3 : Hid (But q w w3) := (But.of (HBA.out _) (Nat.le_of_lt hqw)).trans hbt
    clear hbk hbt r0 r1 r2 r3 r4 r5 r6 HBA
    go_wp2
    go_ret
    exact ⟨by first | rfl | (simp; done), HBK3.out, HBT3.out⟩
end Go.Proofs.Ytccnfcjaehcfkaa
