/-
  Words and contracts that a statement's proof rests on (MoP, MsA, MsB). No statement is proved here.
-/
import Derived.Test.YtpcapdpglpgcbaaGreatKeep
import Derived.Test.YtpcapdpglpgcbaaGreatMoY
import Derived.Test.YtpcapdpglpgcbaaGreatMoR
import Derived.Test.YtpcapdpglpgcbaaGreatBkF
import Derived.Test.YtpcapdpglpgcbaaGreatMrD
set_option linter.unusedVariables false
set_option linter.unusedSimpArgs false
namespace Go.Proofs.YtpcapdpglpgcbaaGreat
section
open Go.RowKit
theorem kv_onesM (L : List Int) : ∀ u ∈ kv .i64 L, u.oneCell' = true := by
 intro u hu
 simp only [kv, List.mem_map] at hu
 obtain ⟨x, _, rfl⟩ := hu
 rfl
set_option maxRecDepth 20000 in
set_option maxHeartbeats 3200000 in
theorem clone_ints {w : World} {B n : Nat} {v : Value} {xs : List Value} (hn : n ≤ 1000000) (hv : Sl w B 1 v n xs) (hone : ∀ u ∈ xs, u.oneCell' = true) (hB : B ≤ w.heap.size) :
  Calls Tryz.prog 65 #[v] w fun e w' => ∃ u, e = .returned u ∧ w'.ownsRow w.heap.size 3 1 u n xs ∧ Below w.heap.size w w' := by
 have HS := Lib.hid hv
 obtain ⟨A, cap, rfl, h1, h2⟩ := hv.form
 have HONE := Lib.hid hone
 cases A with
 | none =>
  have hn0 : n = 0 := by
   rcases Nat.eq_zero_or_pos n with h | h
   ·exact h
   ·obtain ⟨b, off, c, e, _⟩ := hv.at_ h
    cases e
  subst hn0
  have hx : xs = [] := by have := hv.len; simpa using this
  subst hx
  clear hv h1 h2 HS HONE hone
  have hnil := fun (W : World) => Lib.run_eql_slice_nil (P := Tryz.prog) W 62 3 none 0 cap 0 0 Tryz.underlying62
  go_enter Tryz.func65, Tryz.ntmps65
  go_wp2_with fail
  go_ret
  exact ⟨_, rfl, ⟨by simp, .inl (by simp)⟩, Below.refl _ _⟩
 | some a =>
  clear hv h2 hone
  have hnil := fun (W : World) => Lib.run_eql_slice_nil (P := Tryz.prog) W 62 3 (some a) n cap 0 0 Tryz.underlying62
  go_enter Tryz.func65, Tryz.ntmps65
  go_wp2_with (first
   | (at_builtin; refine wpList_apv _ rfl stIntM _ _ rfl w.heap.size (.slice (some ⟨w.heap.size, 0, none⟩) 0 0) 0 [] rfl ⟨by simp, .inr ⟨w.heap.size, 0, #[], rfl, Nat.le_refl _, heap_alloc_new w _, Nat.le_refl _, by simp [maxLen], by simp, by simp⟩⟩ B _ n xs rfl (HS.out.below (by (repeat' (first | (with_reducible exact Below.refl _ _) | (with_reducible refine Below.alloc ?_ ?_ _) | go_size)))) HONE.out (by omega) (by go_size) ?_; intro A2 c2 w9 hown2 hgr2 hat2 hbel2; clear hgr2 hat2))
  have HO0 : w9.ownsRow w.heap.size 3 1 (.slice A2 n c2) n xs := by simpa using hown2
  have HO := Lib.hid HO0
  clear HO0
  have HB9 : Hid (Below w.heap.size w w9) := Below.trans ((Below.refl _ _).alloc (Nat.le_refl _) _) hbel2
  clear hown2 hbel2
  go_wp2
  go_ret
  exact ⟨_, by first | rfl | (simp; done), HO.out, HB9.out⟩
set_option maxHeartbeats 1600000 in
theorem model_Vlans {w : World} {L A S1 Q bp : Nat} {uv : Value} {P r nv : Nat} {lv : List Vl} {st : Nat → Int × Nat} {G : Nat → Value} (h : MdAt w L A S1 Q uv (.pointer (some ⟨bp, 0, none⟩)) P r nv lv st G) (hnv : nv ≤ 1000) :
  Calls Tryz.prog 55 #[.pointer (some ⟨A, 0, none⟩)] w fun e w' => ∃ u, e = .returned u ∧ w'.ownsRow w.heap.size 80 3 u nv (vlc lv) ∧ Below w.heap.size w w' := by
 have HN := Lib.hid (model_isNone h)
 have HC := Lib.hid fun w' (hb : Below w.heap.size w w') => clone_vlans (by omega) (Sl.of_own (own_below h.vlans hb)) (vlc_one lv) (Nat.le_refl _)
 have HH := Lib.hid h
 clear h
 go_enter Tryz.func55, Tryz.ntmps55
 go_wp2_with (first
  | (go_at_call 28; (with_reducible refine Calls.mono HN.out ?_); rintro e w1 ⟨rfl, hb⟩; (have HB := Lib.hid hb); (have c2 : w1.cell? ⟨A, 2, none⟩ = some uv := (HH.out.call hb).cells.cell (by omega)); clear hb)
  | (go_at_call 23; (with_reducible refine Calls.mono (HC.out _ HB.out) ?_); rintro e w2 ⟨u, rfl, ho, hb⟩; (have HO := Lib.hid (own_base ho HB.out.size)); (have HB2 := Lib.hid (HB.out.trans (hb.mono HB.out.size))); clear ho hb)
  | fail)
 go_ret
 exact ⟨_, by first | rfl | (simp; done), HO.out, HB2.out⟩
set_option maxHeartbeats 1600000 in
theorem model_Queue {w : World} {L A S1 Q bp : Nat} {uv : Value} {P r nv : Nat} {lv : List Vl} {st : Nat → Int × Nat} {G : Nat → Value} {R : Nat → Nat} {qv : Nat → Nat → Value} {qs : Nat → Nat → List Int} (h : MdAt w L A S1 Q uv (.pointer (some ⟨bp, 0, none⟩)) P r nv lv st G) (hQ : QuAt w L P R G qv qs) (i j : Nat) (hi : i < P) (hj : j < P) (hlen : (qs i j).length ≤ 1000000) :
  Calls Tryz.prog 15 #[.pointer (some ⟨A, 0, none⟩), .int .i64 (i : Nat), .int .i64 (j : Nat)] w fun e w' => ∃ u, e = .returned u ∧ w'.ownsRow w.heap.size 3 1 u (qs i j).length (kv .i64 (qs i j)) ∧ Below w.heap.size w w' := by
 have hp1 := fun w' (hb : Below w.heap.size w w') => model_isPort (h.call hb) (i : Int)
 have hp2 := fun w' (hb : Below w.heap.size w w') => model_isPort (h.call hb) (j : Int)
 have e1 : portB P (i : Int) = true := by unfold portB; simp; omega
 have e2 : portB P (j : Int) = true := by unfold portB; simp; omega
 rw [e1] at hp1
 rw [e2] at hp2
 have HP1 := Lib.hid hp1
 have HP2 := Lib.hid hp2
 have HC := Lib.hid fun w' (hb : Below w.heap.size w w') => clone_ints hlen (Sl.of_own (own_below (hQ.own i j hi hj) hb)) (kv_onesM (qs i j)) (Nat.le_refl _)
 have d1 : decide (i < P) = true := decide_eq_true hi
 have d2 : decide (j < P) = true := decide_eq_true hj
 have HCQ : Hid (∀ w', Below w.heap.size w w' → w'.cell? ⟨A, 4, none⟩ = some (.slice (some ⟨Q, 0, none⟩) P P) ∧ w'.cell? ⟨Q, i, none⟩ = some (.slice (some ⟨R i, 0, none⟩) P P) ∧ w'.cell? ⟨R i, j, none⟩ = some (qv i j)) := fun w' hb => by
  have hm := h.call hb
  have hq := hQ.call hb
  exact ⟨hm.cells.cell (by omega), (hm.queues.cell hi).trans (by rw [hq.at_ i hi]), (hq.row i hi).cell hj⟩
 clear h hQ hp1 hp2 e1 e2
 go_enter Tryz.func15, Tryz.ntmps15
 go_wp2_with (first
  | (go_at_call 64; (with_reducible refine Calls.mono (HP1.out _ (Below.refl _ _)) ?_); rintro e w1 ⟨rfl, hb⟩; (have HB1 := Lib.hid hb); clear hb)
  | (go_at_call 64; (with_reducible refine Calls.mono (HP2.out _ HB1.out) ?_); rintro e w2 ⟨rfl, hb⟩; (have HB := Lib.hid (HB1.out.trans (hb.mono HB1.out.size))); (obtain ⟨c4, cq, cr⟩ := HCQ.out _ HB.out); clear hb)
  | (go_at_call 65; (with_reducible refine Calls.mono (HC.out _ HB.out) ?_); rintro e w3 ⟨u, rfl, ho, hb⟩; (have HO := Lib.hid (own_base ho HB.out.size)); (have HB2 := Lib.hid (HB.out.trans (hb.mono HB.out.size))); clear ho hb)
  | fail)
 go_ret
 exact ⟨_, by first | rfl | (simp; done), HO.out, HB2.out⟩
end
section
open Go.RowKit
set_option maxRecDepth 20000 in
set_option maxHeartbeats 3200000 in
theorem clone_stands {w : World} {B n : Nat} {v : Value} {xs : List Value} (hn : n ≤ 1000000) (hv : Sl w B 2 v n xs) (hone : ∀ u ∈ xs, u.oneCell' = true) (hB : B ≤ w.heap.size) :
  Calls Tryz.prog 66 #[v] w fun e w' => ∃ u, e = .returned u ∧ w'.ownsRow w.heap.size 60 2 u n xs ∧ Below w.heap.size w w' := by
 have HS := Lib.hid hv
 obtain ⟨A, cap, rfl, h1, h2⟩ := hv.form
 have HONE := Lib.hid hone
 cases A with
 | none =>
  have hn0 : n = 0 := by
   rcases Nat.eq_zero_or_pos n with h | h
   ·exact h
   ·obtain ⟨b, off, c, e, _⟩ := hv.at_ h
    cases e
  subst hn0
  have hx : xs = [] := by have := hv.len; simpa using this
  subst hx
  clear hv h1 h2 HS HONE hone
  have hnil := fun (W : World) => Lib.run_eql_slice_nil (P := Tryz.prog) W 77 60 none 0 cap 0 0 Tryz.underlying77
  go_enter Tryz.func66, Tryz.ntmps66
  go_wp2_with fail
  go_ret
  exact ⟨_, rfl, ⟨by simp, .inl (by simp)⟩, Below.refl _ _⟩
 | some a =>
  clear hv h2 hone
  have hnil := fun (W : World) => Lib.run_eql_slice_nil (P := Tryz.prog) W 77 60 (some a) n cap 0 0 Tryz.underlying77
  go_enter Tryz.func66, Tryz.ntmps66
  go_wp2_with (first
   | (at_builtin; refine wpList_apv _ rfl stStands _ _ rfl w.heap.size (.slice (some ⟨w.heap.size, 0, none⟩) 0 0) 0 [] rfl ⟨by simp, .inr ⟨w.heap.size, 0, #[], rfl, Nat.le_refl _, heap_alloc_new w _, Nat.le_refl _, by simp [maxLen], by simp, by simp⟩⟩ B _ n xs rfl (HS.out.below (by (repeat' (first | (with_reducible exact Below.refl _ _) | (with_reducible refine Below.alloc ?_ ?_ _) | go_size)))) HONE.out (by omega) (by go_size) ?_; intro A2 c2 w9 hown2 hgr2 hat2 hbel2; clear hgr2 hat2))
  have HO0 : w9.ownsRow w.heap.size 60 2 (.slice A2 n c2) n xs := by simpa using hown2
  have HO := Lib.hid HO0
  clear HO0
  have HB9 : Hid (Below w.heap.size w w9) := Below.trans ((Below.refl _ _).alloc (Nat.le_refl _) _) hbel2
  clear hown2 hbel2
  go_wp2
  go_ret
  exact ⟨_, by first | rfl | (simp; done), HO.out, HB9.out⟩
def stc (f : Nat → Int × Nat) (k : Nat) : List Value := (List.range k).map (rowS f)
theorem stc_at (f : Nat → Int × Nat) {k j : Nat} (h : j < k) : (stc f k)[j]? = some (rowS f j) := by
 unfold stc
 rw [List.getElem?_map, List.getElem?_range h]
 rfl
theorem stc_length (f : Nat → Int × Nat) (k : Nat) : (stc f k).length = k := by simp [stc]
theorem stc_one (f : Nat → Int × Nat) (k : Nat) : ∀ u ∈ stc f k, u.oneCell' = true := by
 intro u hu
 obtain ⟨j, _, rfl⟩ := List.mem_map.1 hu
 unfold rowS
 split <;> rfl
theorem sl_stands {w : World} {S1 P : Nat} {T : TypeId} {st : Nat → Int × Nat} (h : w.rowIs S1 T (P * 2) (rowS st)) (hP : P ≤ maxLen) : Sl w w.heap.size 2 (.slice (some ⟨S1, 0, none⟩) P P) P (stc st (P * 2)) :=
 ⟨stc_length _ _, _, _, rfl, Nat.le_refl _, hP, fun _ => ⟨S1, 0, rfl, h.lt, fun j hj => by rw [Nat.zero_add, h.cell hj, stc_at st hj]⟩⟩
section
variable {E : Nat → Prop} {w : World} {L A S1 Q bp bq P r S B n nv : Nat} {uv : Value} {lv : List Vl} {st : Nat → Int × Nat} {g : Nat → Nat → Pl} {G : Nat → Value} {R : Nat → Nat} {qv : Nat → Nat → Value} {qs : Nat → Nat → List Int}
set_option maxHeartbeats 1600000 in
theorem model_List (h : MdAll E w L A S1 Q bp bq P r S B n nv uv lv st g G R qv qs) (hSB : S * B ≤ 128) (hn : n ≤ 8) :
  Calls Tryz.prog 60 #[.pointer (some ⟨A, 0, none⟩)] w fun e w' => ∃ v, e = .returned v ∧ w'.ownsRow w.heap.size 142 5 v (bookL g n (S * B)).length (encs (bookL g n (S * B))) ∧ Below w.heap.size w w' := by
 have HN := Lib.hid (model_isNone h.md)
 have HC : Hid (∀ w', Below w.heap.size w w' → Calls Tryz.prog 100 #[.pointer (some ⟨bp, 0, none⟩)] w' fun e w2 => ∃ v, e = .returned v ∧ w2.ownsRow w'.heap.size 142 5 v (bookL g n (S * B)).length (encs (bookL g n (S * B))) ∧ Below w'.heap.size w' w2) := fun w' hb => by
  obtain ⟨D, hd, _⟩ := (h.call hb).bk
  exact book_List hd hSB hn
 have HH := Lib.hid h.md
 clear h
 go_enter Tryz.func60, Tryz.ntmps60
 go_wp2_with (first
  | (go_at_call 28; (with_reducible refine Calls.mono HN.out ?_); rintro e w1 ⟨rfl, hb⟩; (have HB := Lib.hid hb); (have c3 : w1.cell? ⟨A, 3, none⟩ = some (.pointer (some ⟨bp, 0, none⟩)) := (HH.out.call hb).cells.cell (by omega)); clear hb)
  | (go_at_call 100; (with_reducible refine Calls.mono (HC.out _ HB.out) ?_); rintro e w2 ⟨u, rfl, ho, hb⟩; (have HO := Lib.hid (own_base ho HB.out.size)); (have HB2 := Lib.hid (HB.out.trans (hb.mono HB.out.size))); clear ho hb)
  | fail)
 go_ret
 exact ⟨_, by first | rfl | (simp; done), HO.out, HB2.out⟩
set_option maxHeartbeats 1600000 in
theorem model_Bucket (h : MdAll E w L A S1 Q bp bq P r S B n nv uv lv st g G R qv qs) (hS : 1 ≤ S ∧ S ≤ 8) (hB : 1 ≤ B ∧ B ≤ 16) (hn : 1 ≤ n ∧ n ≤ 8) (s t : Int) (H : Nat) (hh2 : H < S * B) (ha : atI S B s t = (H : Int)) :
  Calls Tryz.prog 59 #[.pointer (some ⟨A, 0, none⟩), .int .i64 s, .int .i64 t] w (Gives 162 n (g H) id w) := by
 have HN := Lib.hid (model_isNone h.md)
 have HC : Hid (∀ w', Below w.heap.size w w' → Calls Tryz.prog 99 #[.pointer (some ⟨bp, 0, none⟩), .int .i64 s, .int .i64 t] w' (Gives 162 n (g H) id w')) := fun w' hb => by
  obtain ⟨D, hd, _⟩ := (h.call hb).bk
  exact book_Bucket hd hS hB hn.1 hn.2 s t H hh2 ha
 have HH := Lib.hid h.md
 clear h ha
 go_enter Tryz.func59, Tryz.ntmps59
 go_wp2_with (first
  | (go_at_call 28; (with_reducible refine Calls.mono HN.out ?_); rintro e w1 ⟨rfl, hb⟩; (have HB := Lib.hid hb); (have c3 : w1.cell? ⟨A, 3, none⟩ = some (.pointer (some ⟨bp, 0, none⟩)) := (HH.out.call hb).cells.cell (by omega)); clear hb)
  | (go_at_call 99; (with_reducible refine Calls.mono (HC.out _ HB.out) ?_); rintro e w2 ⟨u, rfl, ho, hb⟩; (have HO := Lib.hid (ho.base HB.out.size)); (have HB2 := Lib.hid (HB.out.trans (hb.mono HB.out.size))); clear ho hb)
  | fail)
 go_ret
 exact ⟨_, by first | rfl | (simp; done), HO.out, HB2.out⟩
end
end
section
open Go.RowKit
theorem stRowsB : ST Tryz.prog 121 133 (.slice none 0 0) 1 24 := ST.mk Tryz.underlying121 (by kernel_rfl) rfl (by omega) (by omega)
theorem RowOf.keepB {w w' : World} {T : TypeId} {B n : Nat} {v : Value} {f : Nat → Pl} (h : RowOf w T B v n f) (hk : ∀ b M G, w.rowIs b T M G → w'.heap[b]? = w.heap[b]?) : RowOf w' T B v n f := by
 obtain ⟨A, cap, hv, h1, h2, h3⟩ := h
 refine ⟨A, cap, hv, h1, h2, fun hn => ?_⟩
 obtain ⟨g, G, e, hg, hr, hF⟩ := h3 hn
 exact ⟨g, G, e, hg, hr.of_block (hk g _ G hr), hF⟩
def BsAt (w : World) (base N n : Nat) (v : Value) (g : Nat → Nat → Pl) : Prop :=
 ∃ vs, w.ownsRow base 133 1 v N vs ∧ ∀ i, i < N → ∃ x, vs[i]? = some x ∧ RowOf w 162 base x n (g i)
theorem BsAt.nil (w : World) (base n : Nat) (g : Nat → Nat → Pl) : BsAt w base 0 n (.slice none 0 0) g := ⟨[], World.ownsRow_nil _ _ _ _, fun i hi => by omega⟩
theorem BsAt.below {w w' : World} {base N n : Nat} {v : Value} {g : Nat → Nat → Pl} (h : BsAt w base N n v g) (hb : Below w.heap.size w w') : BsAt w' base N n v g := by
 obtain ⟨vs, h1, h2⟩ := h
 refine ⟨vs, own_below h1 hb, fun i hi => ?_⟩
 obtain ⟨x, hx, hr⟩ := h2 i hi
 exact ⟨x, hx, hr.below hb⟩
theorem BsAt.low {w : World} {base base' N n : Nat} {v : Value} {g : Nat → Nat → Pl} (h : BsAt w base N n v g) (hb : base' ≤ base) : BsAt w base' N n v g := by
 obtain ⟨vs, h1, h2⟩ := h
 refine ⟨vs, own_base h1 hb, fun i hi => ?_⟩
 obtain ⟨x, hx, hr⟩ := h2 i hi
 exact ⟨x, hx, hr.base hb⟩
theorem BsAt.push {w w9 : World} {base N n : Nat} {v v9 x : Value} {vs : List Value} {g : Nat → Nat → Pl} (ho : w.ownsRow base 133 1 v N vs) (hr : ∀ i, i < N → ∃ x, vs[i]? = some x ∧ RowOf w 162 base x n (g i)) (hx : RowOf w 162 base x n (g N))
  (h9 : w9.ownsRow base 133 1 v9 (N + 1) (vs ++ [x])) (hg : w.grownBy w9 v.ownBlock) : BsAt w9 base (N + 1) n v9 g := by
 have hk : ∀ b M G, w.rowIs b 162 M G → w9.heap[b]? = w.heap[b]? := fun b M G hb => hg.block b hb.lt (fun e => rowIs_own_ne hb ho (by decide) e.symm)
 have hl : vs.length = N := by have := ho.1; omega
 refine ⟨_, h9, fun i hi => ?_⟩
 rcases Nat.lt_or_ge i N with h | h
 ·obtain ⟨y, hy, hry⟩ := hr i h
  exact ⟨y, by rw [List.getElem?_append_left (by omega)]; exact hy, hry.keepB hk⟩
 ·obtain rfl : i = N := by omega
  exact ⟨x, by rw [List.getElem?_append_right (by omega), hl]; simp, hx.keepB hk⟩
section
variable {E : Nat → Prop} {w : World} {L A S1 Q bp bq P r S B n nv : Nat} {uv : Value} {lv : List Vl} {st : Nat → Int × Nat} {g : Nat → Nat → Pl} {G : Nat → Value} {R : Nat → Nat} {qv : Nat → Nat → Value} {qs : Nat → Nat → List Int}
set_option maxRecDepth 20000 in
set_option maxHeartbeats 6400000 in
theorem model_buckets (h : MdAll E w L A S1 Q bp bq P r S B n nv uv lv st g G R qv qs) (hS : 1 ≤ S ∧ S ≤ 8) (hB : 1 ≤ B ∧ B ≤ 16) (hn : 1 ≤ n ∧ n ≤ 8) :
  Calls Tryz.prog 98 #[.pointer (some ⟨A, 0, none⟩)] w fun e w' => ∃ v, e = .returned v ∧ BsAt w' w.heap.size (S * B) n v g ∧ Below w.heap.size w w' := by
 have hSB : S * B ≤ 128 := Nat.mul_le_mul hS.2 hB.2
 have HSZ : Hid (∀ w', Below w.heap.size w w' → Calls Tryz.prog 108 #[.pointer (some ⟨bp, 0, none⟩)] w' (Says (.agg #[.int .i64 (S : Nat), .int .i64 (B : Nat), .int .i64 (n : Nat)]) w')) := fun w' hb => by
  obtain ⟨D, hd, _⟩ := (h.call hb).bk
  exact book_Size hd
 have HC : Hid (∀ w', Below w.heap.size w w' → ∀ a b : Nat, a < S → b < B → Calls Tryz.prog 99 #[.pointer (some ⟨bp, 0, none⟩), .int .i64 (a : Nat), .int .i64 (b : Nat)] w' (Gives 162 n (g (a * B + b)) id w')) := fun w' hb a b ha hb2 => by
  obtain ⟨D, hd, _⟩ := (h.call hb).bk
  exact book_Bucket hd hS hB hn.1 hn.2 a b (a * B + b) (at_lt ha hb2) (by unfold atI; rw [if_pos ⟨by omega, by omega, by omega, by omega⟩]; simp)
 have HA : Hid (∀ w', Below w.heap.size w w' → w'.cell? ⟨A, 3, none⟩ = some (.pointer (some ⟨bp, 0, none⟩))) := fun w' hb => (h.md.call hb).cells.cell (by omega)
 have c3 := HA.out w (Below.refl _ _)
 clear h
 go_enter Tryz.func98, Tryz.ntmps98
 go_wp2_with (first
  | (go_at_call 108; (with_reducible refine Calls.mono (HSZ.out _ (Below.refl _ _)) ?_); rintro e w1 ⟨rfl, hb⟩; (have HB1 := Lib.hid hb); clear hb)
  | fail)
 obtain ⟨z0, hz0⟩ : ∃ z, z = w1.heap.size := ⟨_, rfl⟩
 obtain ⟨w2, hw2⟩ : ∃ z, z = w1.alloc (.cells #[.int .i64 (S : Nat), .int .i64 (B : Nat), .int .i64 (n : Nat)] 37) := ⟨_, rfl⟩
 have HSC : Hid (∀ w', Below w2.heap.size w2 w' → w'.cell? ⟨z0, 0, none⟩ = some (.int .i64 (S : Nat)) ∧ w'.cell? ⟨z0, 1, none⟩ = some (.int .i64 (B : Nat))) := fun w' hb => by
  rw [hz0]
  exact ⟨(hb.cell (p := ⟨w1.heap.size, 0, none⟩) (by rw [hw2]; simp)).trans (by rw [hw2]; simp [go_sem]), (hb.cell (p := ⟨w1.heap.size, 1, none⟩) (by rw [hw2]; simp)).trans (by rw [hw2]; simp [go_sem])⟩
 have HB2 : Hid (Below w.heap.size w w2) := by rw [hw2]; exact HB1.out.alloc HB1.out.size _
 rw [← hw2, ← hz0]
 obtain ⟨s0, s1⟩ := HSC.out w2 (Below.refl _ _)
 have HST := Lib.hid (BsAt.nil w2 w2.heap.size n g)
 clear hw2 hz0 c3 HSZ HB1
 go_wp2
 go_loopw [3, 14] (fun all a wr => ∃ (k : Nat) (v : Value), k ≤ S ∧ a = .int .i64 k ∧ all = v ∧ Hid (BsAt wr w2.heap.size (k * B) n v g ∧ Below w2.heap.size w2 wr)) (fun _ a _ => S - (intOf a).toNat)
 case atStart => exact ⟨0, _, by omega, rfl, rfl, Lib.hid ⟨by rw [Nat.zero_mul]; exact HST.out, Below.refl _ _⟩⟩
 case round =>
  obtain ⟨k, v, hk, rfl, rfl, HI⟩ := hrel
  rename_i wr _
  by_cases hlt : k < S
  ·have d1 : decide (k < S) = true := decide_eq_true hlt
   obtain ⟨s0', s1'⟩ := HSC.out _ HI.out.2
   clear s0 s1
   go_wp2
   go_loopw [3, 19] (fun all b wr2 => ∃ (m : Nat) (v2 : Value) (wx : World), wx = wr2 ∧ m ≤ B ∧ b = .int .i64 m ∧ all = v2 ∧ Hid (BsAt wr2 w2.heap.size (k * B + m) n v2 g ∧ Below w2.heap.size w2 wr2)) (fun _ b _ => B - (intOf b).toNat)
   case atStart => exact ⟨0, _, _, rfl, by omega, rfl, rfl, HI⟩
   case round =>
    obtain ⟨m, v2, wq, rfl, hm, rfl, rfl, HJ⟩ := hrel
    by_cases hlt2 : m < B
    ·have d2 : decide (m < B) = true := decide_eq_true hlt2
     have hq : Below w.heap.size w wq := HB2.out.trans (HJ.out.2.mono HB2.out.size)
     have c3 := HA.out _ hq
     have HQ := Lib.hid hq
     obtain ⟨vs, hv1, hv2⟩ := HJ.out.1
     obtain ⟨A0, c0, hx, _, hcm⟩ := (Sl.of_own hv1).form
     have hk9 : (k * B + m) * 24 ≤ 128 * 24 := Nat.mul_le_mul_right 24 (by have := at_lt hlt hlt2; omega)
     subst hx
     have HV := Lib.hid (And.intro hv1 hv2)
     clear hv1 hv2 hq
     obtain ⟨N, hN⟩ : ∃ N, N = k * B + m := ⟨_, rfl⟩
     rw [← hN] at HV hk9 ⊢
     have HCN := HC.out _ HQ.out k m hlt hlt2
     rw [← hN] at HCN
     have HCC := Lib.hid HCN
     have HNN := Lib.hid hN
     clear HCN hN
     go_wp2_with (first
      | (go_at_call 99; (with_reducible refine Calls.mono HCC.out ?_); rintro e w3 ⟨x, rfl, hr, hb⟩; (obtain ⟨Ax, cx, hx9, _⟩ := id hr); subst hx9; (have HR := Lib.hid (hr.base HJ.out.2.size)); (have HB3 := Lib.hid hb); clear hr hb)
      | (at_builtin; refine wpList_apv _ rfl stRowsB _ _ rfl w2.heap.size (.slice A0 N c0) N vs rfl (own_below HV.out.1 (HB3.out.alloc HB3.out.size _)) (w3.heap.size + 1) _ 1 [.slice Ax n cx] rfl (Sl.litN w3 #[.slice Ax n cx] _ 1 1 rfl (by decide)) (by simp [Value.oneCell']) (by omega) (by rw [World.size_alloc]; exact Nat.le_succ_of_le (Nat.le_trans HJ.out.2.size HB3.out.size)) ?_; intro A9 c9 w9 hown9 hgr9 hat9 hbel9; (have HS9 : Hid (BsAt w9 w2.heap.size (N + 1) n (.slice A9 (N + 1) c9) g) := Lib.hid (BsAt.push (own_below HV.out.1 (HB3.out.alloc HB3.out.size _)) (fun i hi => (by obtain ⟨y, hy, hry⟩ := HV.out.2 i hi; exact ⟨y, hy, hry.below (HB3.out.alloc HB3.out.size _)⟩)) (HR.out.below ((Below.refl _ _).alloc (Nat.le_refl _) _)) hown9 hgr9)); (have HB9 : Hid (Below w2.heap.size w2 w9) := (HJ.out.2.trans ((HB3.out.mono HJ.out.2.size).alloc (Nat.le_trans HJ.out.2.size HB3.out.size) _)).trans hbel9); clear hown9 hgr9 hat9 hbel9)
      | fail)
     go_roundw
     case rel => exact ⟨m + 1, _, _, rfl, by omega, by go_num, rfl, Lib.hid ⟨by rw [← Nat.add_assoc, ← HNN.out]; exact HS9.out, HB9.out⟩⟩
     case measure => simp [intOf]; omega
    ·have d2 : decide (m < B) = false := decide_eq_false hlt2
     obtain rfl : m = B := by omega
     go_wp2
     go_roundw
     case rel => exact ⟨k + 1, _, by omega, by go_num, rfl, Lib.hid ⟨by rw [Nat.add_mul, Nat.one_mul]; exact HJ.out.1, HJ.out.2⟩⟩
     case measure => simp [intOf]; omega
  ·have d1 : decide (k < S) = false := decide_eq_false hlt
   obtain rfl : k = S := by omega
   have HE := Lib.hid (HB2.out.trans (HI.out.2.mono HB2.out.size))
   go_wp2
   go_ret
   exact ⟨_, by first | rfl | (simp; done), HI.out.1.low HB2.out.size, HE.out⟩
end
end
end Go.Proofs.YtpcapdpglpgcbaaGreat
