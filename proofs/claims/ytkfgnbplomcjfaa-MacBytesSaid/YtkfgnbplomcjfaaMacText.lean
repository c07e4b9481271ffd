/-
  Contracts of layer 1's printers of texts, the program's own and the document's. No statement is proved here.
-/
import Derived.Test.YtkfgnbplomcjfaaMac
import Derived.Deep.RegionHeld3
import Derived.Laws.BytesString
import Derived.Laws.IdiomStrings
import Derived.Laws.Concat
namespace Go.Proofs.Ytkfgnbplomcjfaa
open Go.RowKit

def hexs : ByteArray := { data := #[48, 49, 50, 51, 52, 53, 54, 55, 56, 57, 97, 98, 99, 100, 101, 102] }
theorem index_hex0 (W : World) : (Instr.index 9 (.string { data := #[48, 49, 50, 51, 52, 53, 54, 55, 56, 57, 97, 98, 99, 100, 101, 102] }) (.int .u8 0)).run Try.prog W = .ok (.int .u8 48) W := by kernel_rfl
theorem index_hex1 (W : World) : (Instr.index 9 (.string { data := #[48, 49, 50, 51, 52, 53, 54, 55, 56, 57, 97, 98, 99, 100, 101, 102] }) (.int .u8 1)).run Try.prog W = .ok (.int .u8 49) W := by kernel_rfl
theorem index_hex2 (W : World) : (Instr.index 9 (.string { data := #[48, 49, 50, 51, 52, 53, 54, 55, 56, 57, 97, 98, 99, 100, 101, 102] }) (.int .u8 2)).run Try.prog W = .ok (.int .u8 50) W := by kernel_rfl
theorem index_hex3 (W : World) : (Instr.index 9 (.string { data := #[48, 49, 50, 51, 52, 53, 54, 55, 56, 57, 97, 98, 99, 100, 101, 102] }) (.int .u8 3)).run Try.prog W = .ok (.int .u8 51) W := by kernel_rfl
theorem index_hex4 (W : World) : (Instr.index 9 (.string { data := #[48, 49, 50, 51, 52, 53, 54, 55, 56, 57, 97, 98, 99, 100, 101, 102] }) (.int .u8 4)).run Try.prog W = .ok (.int .u8 52) W := by kernel_rfl
theorem index_hex5 (W : World) : (Instr.index 9 (.string { data := #[48, 49, 50, 51, 52, 53, 54, 55, 56, 57, 97, 98, 99, 100, 101, 102] }) (.int .u8 5)).run Try.prog W = .ok (.int .u8 53) W := by kernel_rfl
theorem index_hex6 (W : World) : (Instr.index 9 (.string { data := #[48, 49, 50, 51, 52, 53, 54, 55, 56, 57, 97, 98, 99, 100, 101, 102] }) (.int .u8 6)).run Try.prog W = .ok (.int .u8 54) W := by kernel_rfl
theorem index_hex7 (W : World) : (Instr.index 9 (.string { data := #[48, 49, 50, 51, 52, 53, 54, 55, 56, 57, 97, 98, 99, 100, 101, 102] }) (.int .u8 7)).run Try.prog W = .ok (.int .u8 55) W := by kernel_rfl
theorem index_hex8 (W : World) : (Instr.index 9 (.string { data := #[48, 49, 50, 51, 52, 53, 54, 55, 56, 57, 97, 98, 99, 100, 101, 102] }) (.int .u8 8)).run Try.prog W = .ok (.int .u8 56) W := by kernel_rfl
theorem index_hex9 (W : World) : (Instr.index 9 (.string { data := #[48, 49, 50, 51, 52, 53, 54, 55, 56, 57, 97, 98, 99, 100, 101, 102] }) (.int .u8 9)).run Try.prog W = .ok (.int .u8 57) W := by kernel_rfl
theorem index_hex10 (W : World) : (Instr.index 9 (.string { data := #[48, 49, 50, 51, 52, 53, 54, 55, 56, 57, 97, 98, 99, 100, 101, 102] }) (.int .u8 10)).run Try.prog W = .ok (.int .u8 97) W := by kernel_rfl
theorem index_hex11 (W : World) : (Instr.index 9 (.string { data := #[48, 49, 50, 51, 52, 53, 54, 55, 56, 57, 97, 98, 99, 100, 101, 102] }) (.int .u8 11)).run Try.prog W = .ok (.int .u8 98) W := by kernel_rfl
theorem index_hex12 (W : World) : (Instr.index 9 (.string { data := #[48, 49, 50, 51, 52, 53, 54, 55, 56, 57, 97, 98, 99, 100, 101, 102] }) (.int .u8 12)).run Try.prog W = .ok (.int .u8 99) W := by kernel_rfl
theorem index_hex13 (W : World) : (Instr.index 9 (.string { data := #[48, 49, 50, 51, 52, 53, 54, 55, 56, 57, 97, 98, 99, 100, 101, 102] }) (.int .u8 13)).run Try.prog W = .ok (.int .u8 100) W := by kernel_rfl
theorem index_hex14 (W : World) : (Instr.index 9 (.string { data := #[48, 49, 50, 51, 52, 53, 54, 55, 56, 57, 97, 98, 99, 100, 101, 102] }) (.int .u8 14)).run Try.prog W = .ok (.int .u8 101) W := by kernel_rfl
theorem index_hex15 (W : World) : (Instr.index 9 (.string { data := #[48, 49, 50, 51, 52, 53, 54, 55, 56, 57, 97, 98, 99, 100, 101, 102] }) (.int .u8 15)).run Try.prog W = .ok (.int .u8 102) W := by kernel_rfl
theorem index_hex (d : Nat) (hd : d < 16) (W : World) : (Instr.index 9 (.string { data := #[48, 49, 50, 51, 52, 53, 54, 55, 56, 57, 97, 98, 99, 100, 101, 102] }) (.int .u8 (d : Int))).run Try.prog W = .ok (.int .u8 (hexc d : Nat)) W := by
  have h : d = 0 ∨ d = 1 ∨ d = 2 ∨ d = 3 ∨ d = 4 ∨ d = 5 ∨ d = 6 ∨ d = 7 ∨ d = 8 ∨ d = 9 ∨ d = 10 ∨ d = 11 ∨ d = 12 ∨ d = 13 ∨ d = 14 ∨ d = 15 := by omega
  rcases h with rfl | rfl | rfl | rfl | rfl | rfl | rfl | rfl | rfl | rfl | rfl | rfl | rfl | rfl | rfl | rfl
  · exact index_hex0 W
  · exact index_hex1 W
  · exact index_hex2 W
  · exact index_hex3 W
  · exact index_hex4 W
  · exact index_hex5 W
  · exact index_hex6 W
  · exact index_hex7 W
  · exact index_hex8 W
  · exact index_hex9 W
  · exact index_hex10 W
  · exact index_hex11 W
  · exact index_hex12 W
  · exact index_hex13 W
  · exact index_hex14 W
  · exact index_hex15 W
/-- 'string(b)' of a byte slice. -/
theorem conv_bytes {P : Program} {w : World} {src dst e : TypeId} {B : Nat} {v : Value} {l : List Nat} (hs : P.underlying src = some (.slice e)) (he : P.underlying e = some (.int .u8)) (hd : P.underlying dst = some .string)
    (h : Sl w B 1 v l.length (bv l)) (hl : ∀ x ∈ l, x < 256) (h0 : 0 < l.length) : (convert src dst v).run P w = .ok (.string (stB l)) w := by
  obtain ⟨b, off, cap, rfl, _, _, _, hc⟩ := h.at_ h0
  have := run_convert_bytes_back (P := P) w src dst e ⟨b, off, none⟩ cap (l.map UInt8.ofNat) hs he hd (fun j hj => by
    have hj' : j < l.length := by simpa using hj
    have hadd : (⟨b, off, none⟩ : Addr).add j = ⟨b, off + j, none⟩ := by unfold Addr.add; split <;> simp_all
    rw [hadd, hc j (by omega), bv_at l j hj']
    have := hl l[j] (List.getElem_mem hj')
    simp
    omega)
  simpa [stB] using this

set_option maxHeartbeats 1600000 in
theorem mac_Text (m : Nat) (w : World) :
    Calls Try.prog 27 #[.int .u64 (m : Int)] w (Says (.string (stB (texN m))) w) := by
  have hmk : ∀ w, (Instr.makeSlice 22 (.int .i64 0) (.int .i64 17)).run Try.prog w = .ok (.slice (some ⟨w.heap.size, 0, none⟩) 0 17) (w.alloc (.cells #[.int .u8 0, .int .u8 0, .int .u8 0, .int .u8 0, .int .u8 0, .int .u8 0, .int .u8 0, .int .u8 0, .int .u8 0, .int .u8 0, .int .u8 0, .int .u8 0, .int .u8 0, .int .u8 0, .int .u8 0, .int .u8 0, .int .u8 0] 5)) := fun _ => by kernel_rfl
  go_enter Try.func27, Try.ntmps27
  go_wp2_with fail
  refine (mac_Bytes m _).mono ?_
  rintro e w1 ⟨v, rfl, hown, hb⟩
  have hrow : (w.alloc (.cells #[.int .u8 0, .int .u8 0, .int .u8 0, .int .u8 0, .int .u8 0, .int .u8 0, .int .u8 0, .int .u8 0, .int .u8 0, .int .u8 0, .int .u8 0, .int .u8 0, .int .u8 0, .int .u8 0, .int .u8 0, .int .u8 0, .int .u8 0] 5)).ownsRow w.heap.size 5 1 (.slice (some ⟨w.heap.size, 0, none⟩) 0 17) 0 [] := World.ownsRow_made w _ 17 (Nat.le_refl _) (by decide) rfl
  have hrow1 := own_below hrow hb
  obtain ⟨g, cap, cur, hv, hg, hcur, hnc, hcm, hcs, htake⟩ := hown.2.resolve_left (by rintro ⟨_, h⟩; omega)
  subst hv
  have hg0 : w.heap.size + 1 ≤ g := by simpa using hg
  have hg1 := (Array.getElem?_eq_some_iff.1 hcur).1
  have HT := Lib.hid htake
  have HCS := Lib.hid hcs
  have HR := Lib.hid hrow1
  have HB := Lib.hid (((Below.refl w.heap.size w).alloc (Nat.le_refl _) _).trans (hb.mono (by simp)))
  have HCUR := Lib.hid hcur
  clear htake hcs hown hrow hrow1 hb hcur hg
  go_wp2
  go_loopw [3, 10] (fun v i wr => ∃ k : Nat, k ≤ 6 ∧ i = .int .i64 k ∧ Hid (wr.ownsRow w.heap.size 5 1 v (texK m k).length (bv (texK m k))) ∧ Hid (v.ownBlock ≠ some g) ∧ Hid (wr.heap[g]? = some (.cells cur 5 (0, 0))) ∧ g < wr.heap.size ∧ Below w.heap.size w wr) (fun _ i _ => 6 - (intOf i).toNat)
  case atStart => exact ⟨0, by omega, rfl, HR.out, by simp [Hid, Value.ownBlock]; omega, HCUR.out, hg1, HB.out⟩
  case round =>
    obtain ⟨k, hk, rfl, HO, HNE, HC, hgl, hbel⟩ := hrel
    have hsz := hbel.size
    by_cases hlt : k < 6
    · obtain ⟨x, hx⟩ : ∃ x, x = (mb m).getD k 0 := ⟨_, rfl⟩
      have hx256 : x < 256 := by rw [hx]; exact mb_getD_lt m k
      have hcell : wr.cell? ⟨g, k, none⟩ = some (.int .u8 (x : Int)) := by
        rw [cell_of_row wr g k cur _ _ HC.out]
        have h1 := HT.out
        have h2 : (bv (mb m))[k]? = some (.int .u8 (x : Int)) := by
          rw [bv_at _ _ (by rw [mb_length]; exact hlt), hx]
          simp [List.getD_eq_getElem?_getD, List.getElem?_eq_getElem (show k < (mb m).length by rw [mb_length]; exact hlt)]
        rw [← h1, List.getElem?_take, if_pos (by omega)] at h2
        simpa using h2
      have hand : bits .and .u8 (x : Int) 15 = (x : Int) % 16 := by
        have := u8_and_nat x 15 hx256 (by omega)
        rw [and_15] at this
        simpa using this
      have i1 := fun W => index_hex (x / 16) (by omega) W
      have i2 := fun W => index_hex (x % 16) (by omega) W
      simp only [Int.natCast_ediv, Int.natCast_emod, Int.cast_ofNat_Int] at i1 i2
      have HK : Hid (texK m (k + 1) = texK m k ++ (if 0 < k then [45] else []) ++ [hexc (x / 16), hexc (x % 16)]) := by
        show _ = _
        rw [hx]; rfl
      have hlen : (texK m k).length ≤ 20 := by rw [texK_length]; split <;> omega
      have HX := Lib.hid hx
      clear hx
      by_cases h0 : k = 0
      · subst h0
        have HK2 : Hid (bv (texK m 0) ++ [.int .u8 (hexc (x / 16) : Nat), .int .u8 (hexc (x % 16) : Nat)] = bv (texK m (0 + 1))) := by
          show _ = _
          rw [HK.out]; simp [bv]
        go_wp2
        go_region_held3 (fun _ => True) (go_keep) ((refine step_app _ (by rfl) stBytes _ _ (by rfl) w.heap.size u3 _ _ (by rfl) ((HO.out.alloc _).drew) (wr.heap.size + 1) _ 2 [.int .u8 (hexc (x / 16) : Nat), .int .u8 (hexc (x % 16) : Nat)] (by rfl) ((Sl.lit wr #[.int .u8 (hexc (x / 16) : Nat), .int .u8 (hexc (x % 16) : Nat)] _ 2 rfl (by decide)).drew) (by simp [Value.oneCell']) (by simp [texK]) (by simp; omega) ?_; intro v2 w2 hown2 hgr2 hat2 hbel2))
        all_goals
          have hc2 := block_grown (W := (wr.alloc (.cells #[.int .u8 (hexc (x / 16) : Nat), .int .u8 (hexc (x % 16) : Nat)] 5)).drew) (block_alloc HC.out _) HNE.out hgr2
          have hne2 := ownBlock_apart hat2 HNE.out (by simp; omega)
          rw [HK2.out] at hown2
          have HO2 := Lib.hid hown2
          have HC2 := Lib.hid hc2
          have HNE2 := Lib.hid hne2
          clear hown2 hc2 hne2 hat2
          go_wp2
          go_roundw
          case rel => exact ⟨0 + 1, by omega, by go_num, by have := HO2.out; rw [texK_length] at this ⊢; exact this, HNE2.out, HC2.out, (Array.getElem?_eq_some_iff.1 HC2.out).1, (hbel.alloc hsz _).drew.trans hbel2⟩
          case measure => simp [intOf]
      · go_wp2_with (first
          | (at_builtin; refine wpList_app _ rfl stBytes (.tmp 17) (.tmp 18) rfl w.heap.size u3 _ _ rfl (HO.out.alloc _) (wr.heap.size + 1) _ 1 [.int .u8 45] rfl (Sl.lit wr #[.int .u8 45] _ 1 rfl (by decide)) (by simp [Value.oneCell']) (by omega) (by simp; omega) ?_; intro v1 w1' hown1 hgr1 hat1 hbel1))
        have hc1 := block_grown (W := wr.alloc (.cells #[.int .u8 45] 5)) (block_alloc HC.out _) HNE.out hgr1
        have hne1 := ownBlock_apart hat1 HNE.out (by simp; omega)
        have hbe1 := (hbel.alloc hsz (.cells #[.int .u8 45] 5)).trans hbel1
        have hsz1 := hbe1.size
        have hgl1 := (Array.getElem?_eq_some_iff.1 hc1).1
        have HO1 := Lib.hid hown1
        have HC1 := Lib.hid hc1
        have HNE1 := Lib.hid hne1
        have HK2 : Hid (bv (texK m k) ++ [.int .u8 45] ++ [.int .u8 (hexc (x / 16) : Nat), .int .u8 (hexc (x % 16) : Nat)] = bv (texK m (k + 1))) := by
          show _ = _
          rw [HK.out, if_pos (by omega)]; simp [bv]
        have HLE : Hid ((texK m k).length + 1 + 2 = (texK m (k + 1)).length) := by
          show _ = _
          rw [HK.out, if_pos (by omega)]; simp
        clear hown1 hc1 hne1 hat1 hgr1 hbel1
        go_region_held3 (fun _ => True) (go_keep) ((refine step_app _ (by rfl) stBytes _ _ (by rfl) w.heap.size v1 _ _ (by rfl) ((HO1.out.alloc _).drew) (w1'.heap.size + 1) _ 2 [.int .u8 (hexc (x / 16) : Nat), .int .u8 (hexc (x % 16) : Nat)] (by rfl) ((Sl.lit w1' #[.int .u8 (hexc (x / 16) : Nat), .int .u8 (hexc (x % 16) : Nat)] _ 2 rfl (by decide)).drew) (by simp [Value.oneCell']) (by omega) (by simp; omega) ?_; intro v2 w2 hown2 hgr2 hat2 hbel2))
        all_goals
          have hc2 := block_grown (W := (w1'.alloc (.cells #[.int .u8 (hexc (x / 16) : Nat), .int .u8 (hexc (x % 16) : Nat)] 5)).drew) (block_alloc HC1.out _) HNE1.out hgr2
          have hne2 := ownBlock_apart hat2 HNE1.out (by simp; omega)
          rw [HK2.out, HLE.out] at hown2
          have HO2 := Lib.hid hown2
          have HC2 := Lib.hid hc2
          have HNE2 := Lib.hid hne2
          clear hown2 hc2 hne2 hat2
          go_wp2
          go_roundw
          case rel => exact ⟨k + 1, by omega, by go_num, HO2.out, HNE2.out, HC2.out, (Array.getElem?_eq_some_iff.1 HC2.out).1, (hbe1.alloc hsz1 _).drew.trans hbel2⟩
          case measure => simp [intOf]; omega
    · have : k = 6 := by omega
      subst this
      have hconv := conv_bytes (P := Try.prog) (src := 22) (dst := 9) (e := 5) Try.underlying22 Try.underlying5 Try.underlying9 (Sl.of_own HO.out) (texK_lt m 6) (by rw [texK_length]; simp)
      go_wp2
      go_ret
      exact ⟨rfl, hbel⟩

theorem extract_hex (d : Nat) (hd : d < 16) : ByteArray.extract { data := #[48, 49, 50, 51, 52, 53, 54, 55, 56, 57, 97, 98, 99, 100, 101, 102] } d (d + 1) = stB [hexc d] := by
  have h : d = 0 ∨ d = 1 ∨ d = 2 ∨ d = 3 ∨ d = 4 ∨ d = 5 ∨ d = 6 ∨ d = 7 ∨ d = 8 ∨ d = 9 ∨ d = 10 ∨ d = 11 ∨ d = 12 ∨ d = 13 ∨ d = 14 ∨ d = 15 := by omega
  rcases h with rfl | rfl | rfl | rfl | rfl | rfl | rfl | rfl | rfl | rfl | rfl | rfl | rfl | rfl | rfl | rfl <;> decide

set_option maxHeartbeats 1600000 in
theorem ref_Text (m : Nat) (hm : m < 18446744073709551616) (w : World) :
    Calls Try.prog 29 #[.int .u64 (m : Int)] w (Says (.string (stB (texN m))) w) := by
  go_enter Try.func29, Try.ntmps29
  go_wp2_with fail
  refine (ref_Bytes m hm _).mono ?_
  rintro e w1 ⟨v, rfl, hown, hb⟩
  obtain ⟨g, cap, cur, hv, hg, hcur, hnc, hcm, hcs, htake⟩ := hown.2.resolve_left (by rintro ⟨_, h⟩; omega)
  subst hv
  have HT := Lib.hid htake
  have HCUR := Lib.hid hcur
  have HB := Lib.hid hb
  have hg1 := (Array.getElem?_eq_some_iff.1 hcur).1
  clear htake hown hb hcur hcs
  go_wp2
  go_loopw [5, 6] (fun s i wr => ∃ k : Nat, k ≤ 6 ∧ i = .int .i64 k ∧ s = .string (stB (texK m k)) ∧ ∃ n, wr = w1.drewN n) (fun _ i _ => 6 - (intOf i).toNat)
  case atStart => exact ⟨0, by omega, rfl, rfl, 0, rfl⟩
  case round =>
    obtain ⟨k, hk, rfl, rfl, n, rfl⟩ := hrel
    by_cases hlt : k < 6
    · obtain ⟨x, hx⟩ : ∃ x, x = (mb m).getD k 0 := ⟨_, rfl⟩
      have hx256 : x < 256 := by rw [hx]; exact mb_getD_lt m k
      have hcell : w1.cell? ⟨g, k, none⟩ = some (.int .u8 (x : Int)) := by
        rw [cell_of_row w1 g k cur _ _ HCUR.out]
        have h1 := HT.out
        have h2 : (bv (mb m))[k]? = some (.int .u8 (x : Int)) := by
          rw [bv_at _ _ (by rw [mb_length]; exact hlt), hx]
          simp [List.getD_eq_getElem?_getD, List.getElem?_eq_getElem (show k < (mb m).length by rw [mb_length]; exact hlt)]
        rw [← h1, List.getElem?_take, if_pos (by omega)] at h2
        simpa using h2
      have e1 := extract_hex (x / 16) (by omega)
      have e2 := extract_hex (x % 16) (by omega)
      have hsz : (stB (texK m k)).size ≤ 20 := by rw [stB_size, texK_length]; split <;> omega
      have HK : Hid (texK m (k + 1) = texK m k ++ (if 0 < k then [45] else []) ++ [hexc (x / 16), hexc (x % 16)]) := by
        show _ = _
        rw [hx]; rfl
      have g0 : (0 : Int) ≤ (k : Int) := Int.natCast_nonneg _
      have g1 : (k : Int) < (6 : Int) := by omega
      have s1 := stB_size [hexc (x / 16)]
      have s2 := stB_size [hexc (x % 16)]
      have HX := Lib.hid hx
      clear hx
      by_cases h0 : k = 0
      · subst h0
        have HE : Hid (stB (texK m 0) ++ stB [hexc (x / 16)] ++ stB [hexc (x % 16)] = stB (texK m (0 + 1))) := by
          show _ = _
          rw [HK.out, stB_append, stB_append]; simp
        go_wp2
        go_quiet (fail)
        go_wp2
        go_quiet (fail)
        go_wp2
        go_roundw
        case rel => exact ⟨0 + 1, by omega, by go_num, by rw [← HE.out], _, rfl⟩
        case measure => simp [intOf]
      · have hk0 : 0 < k := by omega
        have HE : Hid (stB (texK m k ++ [45]) ++ stB [hexc (x / 16)] ++ stB [hexc (x % 16)] = stB (texK m (k + 1))) := by
          show _ = _
          rw [HK.out, stB_append, stB_append, if_pos hk0]; simp
        have e3 : stB (texK m k) ++ { data := #[45] } = stB (texK m k ++ [45]) := stB_append _ [45]
        have hsz2 : (stB (texK m k ++ [45])).size ≤ 21 := by
          rw [stB_size] at hsz ⊢
          simp; omega
        go_wp2
        go_quiet (fail)
        go_wp2
        go_quiet (fail)
        go_wp2
        go_roundw
        case rel => exact ⟨k + 1, by omega, by go_num, by rw [← HE.out], _, rfl⟩
        case measure => simp [intOf]; omega
    · have : k = 6 := by omega
      subst this
      go_wp2
      go_ret
      exact ⟨rfl, below_drewN HB.out _⟩
end Go.Proofs.Ytkfgnbplomcjfaa
