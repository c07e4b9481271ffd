/-
  Words and contracts that a statement's proof rests on (NwA). No statement is proved here.
-/
import Derived.WalkMore
import Derived.WalkKit
import Derived.Test.YthloabdfkakehaaBase2
import Derived.Test.YthloabdfkakehaaPlainFrame
import Derived.Test.YthloabdfkakehaaPlainFk
import Derived.Test.YthloabdfkakehaaFgT
import Derived.Test.YthloabdfkakehaaFeI
import Derived.Test.YthloabdfkakehaaFeC
import Derived.Test.YthloabdfkakehaaFeK
import Derived.Test.YthloabdfkakehaaFeL
set_option linter.unusedVariables false
set_option linter.unusedSimpArgs false
namespace Go.Proofs.Ythloabdfkakehaa
open Go.RowKit
set_option maxRecDepth 20000 in
set_option maxHeartbeats 25600000 in
theorem news_1 (W:World) (a0 e0 c0 t0:Int) (a1 a2:Int) (b1:-9223372036854775808≤a1∧a1≤9223372036854775807) (b2:-9223372036854775808≤a2∧a2≤9223372036854775807) (hr:rightS a0 e0 c0=false):Calls Try.prog 3 #[.agg #[.int .i64 a0,.int .i64 e0,.int .i64 c0,.int .i64 t0],.int .i64 a1,.int .i64 a2] W (Says (.bool true) W):=by
 have HM:=Lib.hid fun V => show Calls Try.prog 6 #[.int .i64 300,.int .i64 3] V fun e w' => ∃ b,e=.returned (.tuple #[.pointer (some ⟨b,0,none⟩),.int .i64 0])∧MemAt w' 82 V.heap.size b (newS 300 3)∧Below V.heap.size V w' from mem_New 300 3 (by omega) (by omega) V
 have HTOLD:=Lib.hid fun V => law12_told V
 have HTK:=Lib.hid fun V => law8_ToK 1 2 V
 have HTB:=Lib.hid fun V => law8_ToK 0 2 V
 have HLN:=Lib.hid fun V => show Calls Try.prog 17 #[.pointer none,.int .i64 0,.agg #[.int .i64 1,.int .u64 2]] V (Says (.pointer none) V) from fdb_LookupNil 0 1 2
 have HBN:=Lib.hid fun V => show Calls Try.prog 19 #[.pointer none,.int .i64 0,.int .i64 0] V (Says (.slice none 0 0) V) from fdb_BucketNil 0 0
 have HStep:=Lib.hid fun V => none_Step V
 have HOver:=Lib.hid fun V => none_Over V
 have HMark:=Lib.hid fun V => none_Mark V
 have HAnswer:=Lib.hid fun V => none_Answer V
 have HTries:=Lib.hid fun V => none_Tries V
 obtain ⟨S9,_,_,hSw⟩:=fix_sizeK a0 8 (by omega) (by omega)
 obtain ⟨B9,_,_,hBw⟩:=fix_sizeK e0 16 (by omega) (by omega)
 obtain ⟨n9,_,_,hnw⟩:=fix_sizeK c0 8 (by omega) (by omega)
 have HFX:=Lib.hid fun V => ref11_FixK a0 e0 c0 S9 B9 n9 hSw hBw hnw V
 have HTX:=Lib.hid fun V => law11_To (S9:Int) (B9:Int) (n9:Int) V
 have HNN:=Lib.hid fun V (lo:Int) (lk:Int) => show Calls Try.prog 7 #[.pointer none,.int .i64 lo,.int .i64 lk,.agg #[.int .i64 (S9:Nat),.int .i64 (B9:Nat),.int .i64 (n9:Nat)],.int .i64 1] V (Says (.tuple #[.pointer none,.int .i64 1]) V) from fdb_NewNil (w:=V) (S9:Int) (B9:Int) (n9:Int) 1 lo lk
 have HTO:=Lib.hid fun V => law11_To a0 e0 c0 V
 have HR2:=Lib.hid fun V => ref11_Right a0 e0 c0 V
 clear hSw hBw hnw
 have hbad:badNew a0 e0 c0 t0 a1 a2 300 3:=.inl hr
 rw [hr] at HR2
 have HC1:=Lib.hid fun V => fdb_CellsN a0 e0 c0 hr V
 have HC2:=Lib.hid fun V => ref12_CellsN a0 e0 c0 hr V
 have HLK:=Lib.hid fun V => fdb_LocksN a0 e0 c0 hr V
 have HB1:=Lib.hid fun V => fdb_BoundN a0 e0 c0 t0 (.inl hr) V
 have HB2:=Lib.hid fun V => ref12_BoundN a0 e0 c0 t0 (.inl hr) V
 have HNEW:=Lib.hid fun V lo b (hlo:lo + 3≤V.heap.size) (hm:MemAt V 82 lo b (newS 300 3)) => show Calls Try.prog 7 #[.pointer (some ⟨b,0,none⟩),.int .i64 a1,.int .i64 a2,.agg #[.int .i64 a0,.int .i64 e0,.int .i64 c0],.int .i64 t0] V (Says (.tuple #[.pointer none,.int .i64 1]) V) from fdb_NewN hm (by decide) (by decide) a0 e0 c0 t0 a1 a2 hbad
 clear hbad hr b1 b2
 go_enter Try.func3,Try.ntmps3
 go_wp2_with fail
 refine (HM.out _).mono ?_
 rintro e w1 ⟨b,rfl,hm,hb⟩
 have s0:w1.cell? ⟨W.heap.size,0,none⟩=some (.int .i64 a0):=(hb.cell (p:=⟨W.heap.size,0,none⟩) (by first | (simp; done) | (simp; omega))).trans (by simp [go_sem])
 have s1:w1.cell? ⟨W.heap.size,1,none⟩=some (.int .i64 e0):=(hb.cell (p:=⟨W.heap.size,1,none⟩) (by first | (simp; done) | (simp; omega))).trans (by simp [go_sem])
 have s2:w1.cell? ⟨W.heap.size,2,none⟩=some (.int .i64 c0):=(hb.cell (p:=⟨W.heap.size,2,none⟩) (by first | (simp; done) | (simp; omega))).trans (by simp [go_sem])
 have s3:w1.cell? ⟨W.heap.size,3,none⟩=some (.int .i64 t0):=(hb.cell (p:=⟨W.heap.size,3,none⟩) (by first | (simp; done) | (simp; omega))).trans (by simp [go_sem])
 have s4:w1.cell? ⟨W.heap.size + 1,0,none⟩=some (.int .i64 a0):=(hb.cell (p:=⟨W.heap.size + 1,0,none⟩) (by first | (simp; done) | (simp; omega))).trans (by simp [go_sem])
 have s5:w1.cell? ⟨W.heap.size + 1,1,none⟩=some (.int .i64 e0):=(hb.cell (p:=⟨W.heap.size + 1,1,none⟩) (by first | (simp; done) | (simp; omega))).trans (by simp [go_sem])
 have s6:w1.cell? ⟨W.heap.size + 1,2,none⟩=some (.int .i64 c0):=(hb.cell (p:=⟨W.heap.size + 1,2,none⟩) (by first | (simp; done) | (simp; omega))).trans (by simp [go_sem])
 have hz1:W.heap.size + 1 < w1.heap.size:=Nat.lt_of_lt_of_le (by first | (simp; done) | (simp; omega)) hb.size
 have HW1:Hid (Below W.heap.size W w1):=(((Below.refl W.heap.size W).alloc (Nat.le_refl _) _).alloc (by first | (simp; done) | (simp; omega)) _).trans (hb.mono (by first | (simp; done) | (simp; omega)))
 have HB:Hid (Below w1.heap.size w1 w1):=Below.refl _ _
 have HK:=Lib.hid fun V (hb:Below w1.heap.size w1 V) => show V.cell? ⟨W.heap.size,0,none⟩=some (.int .i64 a0)∧V.cell? ⟨W.heap.size,1,none⟩=some (.int .i64 e0)∧V.cell? ⟨W.heap.size,2,none⟩=some (.int .i64 c0)∧V.cell? ⟨W.heap.size,3,none⟩=some (.int .i64 t0)∧V.cell? ⟨W.heap.size + 1,0,none⟩=some (.int .i64 a0)∧V.cell? ⟨W.heap.size + 1,1,none⟩=some (.int .i64 e0)∧V.cell? ⟨W.heap.size + 1,2,none⟩=some (.int .i64 c0) from ⟨(hb.cell (p:=⟨W.heap.size,0,none⟩) (by show W.heap.size < _; omega)).trans s0,(hb.cell (p:=⟨W.heap.size,1,none⟩) (by show W.heap.size < _; omega)).trans s1,(hb.cell (p:=⟨W.heap.size,2,none⟩) (by show W.heap.size < _; omega)).trans s2,(hb.cell (p:=⟨W.heap.size,3,none⟩) (by show W.heap.size < _; omega)).trans s3,(hb.cell (p:=⟨W.heap.size + 1,0,none⟩) (by show W.heap.size + 1 < _; omega)).trans s4,(hb.cell (p:=⟨W.heap.size + 1,1,none⟩) (by show W.heap.size + 1 < _; omega)).trans s5,(hb.cell (p:=⟨W.heap.size + 1,2,none⟩) (by show W.heap.size + 1 < _; omega)).trans s6⟩
 obtain ⟨LO,hLO⟩:∃ LO,LO + 3≤w1.heap.size∧MemAt w1 82 LO b (newS 300 3):=⟨_,mem_lo hm,hm⟩
 have HMA:=Lib.hid fun V (hb:Below w1.heap.size w1 V) => show LO + 3≤V.heap.size∧MemAt V 82 LO b (newS 300 3) from ⟨Nat.le_trans hLO.1 hb.size,hLO.2.below hb⟩
 clear hb hm hLO hz1
 go_wp2_with fail
 refine wp_region_held_drew (S:=fun w' => w'.cell? ⟨W.heap.size,3,none⟩=some (.int .i64 t0)∧w'.cell? ⟨W.heap.size + 1,0,none⟩=some (.int .i64 a0)∧w'.cell? ⟨W.heap.size + 1,1,none⟩=some (.int .i64 e0)∧w'.cell? ⟨W.heap.size + 1,2,none⟩=some (.int .i64 c0)) (by kernel_rfl) ?_ (fun hHeld => ?_)
 ·exact ⟨s3,s4,s5,s6⟩
 obtain ⟨v0,hv0⟩:∃ w',w'=w1.drew:=⟨_,rfl⟩
 have hb:Below w1.heap.size w1 v0:=by rw [hv0]; exact (Below.refl _ _).drew
 rw [← hv0] at hHeld ⊢
 clear hv0
 have HB:=Lib.hid (HB.out.trans (hb.mono HB.out.size))
 clear hb s0 s1 s2 s3 s4 s5 s6
 obtain ⟨s0,s1,s2,s3,s4,s5,s6⟩:=HK.out _ HB.out
 refine tkR 0 rfl ?_
 refine tkR 1 rfl ?_
 refine tkR 2 rfl ?_
 refine tkR 3 rfl ?_
 refine tkR 5 rfl ?_
 refine tkR 6 rfl ?_
 refine clR 4 rfl fun K hK => ?_
 go_simp
 refine (HTO.out _).mono ?_
 rintro e w11 ⟨rfl,hb⟩
 have HB:=Lib.hid (HB.out.trans (hb.mono HB.out.size))
 clear hb s0 s1 s2 s3 s4 s5 s6
 obtain ⟨s0,s1,s2,s3,s4,s5,s6⟩:=HK.out _ HB.out
 refine hK.out _ _ ?_ (fun hHeld => ?_)
 ·(try dsimp only)
  exact ⟨s3,s4,s5,s6⟩
 clear hK K
 (try simp only [Act.put,sqA,sqB,sqC])
 refine clR 7 rfl fun K hK => ?_
 go_simp
 refine (HNEW.out _ LO b (HMA.out _ HB.out).1 (HMA.out _ HB.out).2).mono ?_
 rintro e w12 ⟨rfl,hb⟩
 have HB:=Lib.hid (HB.out.trans (hb.mono HB.out.size))
 clear hb s0 s1 s2 s3 s4 s5 s6
 obtain ⟨s0,s1,s2,s3,s4,s5,s6⟩:=HK.out _ HB.out
 refine hK.out _ _ ?_ (fun hHeld => ?_)
 ·(try dsimp only)
  exact ⟨s3,s4,s5,s6⟩
 clear hK K
 refine tkR 8 rfl ?_
 refine tkR 9 rfl ?_
 refine tkR 10 rfl ?_
 refine tkR 11 rfl ?_
 refine tkR 12 rfl ?_
 refine wpAnyH_done (by kernel_rfl) ?_ _
 clear hHeld
 go_wp2_with (first | go_big_skip | fail)
 refine (HR2.out _).mono ?_
 rintro e w13 ⟨rfl,hb⟩
 have HB:=Lib.hid (HB.out.trans (hb.mono HB.out.size))
 clear hb s0 s1 s2 s3 s4 s5 s6
 obtain ⟨s0,s1,s2,s3,s4,s5,s6⟩:=HK.out _ HB.out
 go_wp2_with (first | go_big_skip | fail)
 refine (HR2.out _).mono ?_
 rintro e w14 ⟨rfl,hb⟩
 have HB:=Lib.hid (HB.out.trans (hb.mono HB.out.size))
 clear hb s0 s1 s2 s3 s4 s5 s6
 obtain ⟨s0,s1,s2,s3,s4,s5,s6⟩:=HK.out _ HB.out
 go_wp2_with (first | go_big_skip | fail)
 refine wp_region_held_drew (S:=fun w' => w'.cell? ⟨W.heap.size,3,none⟩=some (.int .i64 t0)∧w'.cell? ⟨W.heap.size + 1,0,none⟩=some (.int .i64 a0)∧w'.cell? ⟨W.heap.size + 1,1,none⟩=some (.int .i64 e0)∧w'.cell? ⟨W.heap.size + 1,2,none⟩=some (.int .i64 c0)) (by kernel_rfl) ?_ (fun hHeld => ?_)
 ·exact ⟨s3,s4,s5,s6⟩
 obtain ⟨v0,hv0⟩:∃ w',w'=w14.drew:=⟨_,rfl⟩
 have hb:Below w14.heap.size w14 v0:=by rw [hv0]; exact (Below.refl _ _).drew
 rw [← hv0] at hHeld ⊢
 clear hv0
 have HB:=Lib.hid (HB.out.trans (hb.mono HB.out.size))
 clear hb s0 s1 s2 s3 s4 s5 s6
 obtain ⟨s0,s1,s2,s3,s4,s5,s6⟩:=HK.out _ HB.out
 refine clR 0 rfl fun K hK => ?_
 go_simp
 refine (HTOLD.out _).mono ?_
 rintro e w15 ⟨rfl,hb⟩
 have HB:=Lib.hid (HB.out.trans (hb.mono HB.out.size))
 clear hb s0 s1 s2 s3 s4 s5 s6
 obtain ⟨s0,s1,s2,s3,s4,s5,s6⟩:=HK.out _ HB.out
 refine hK.out _ _ ?_ (fun hHeld => ?_)
 ·(try dsimp only)
  exact ⟨s3,s4,s5,s6⟩
 clear hK K
 refine tkR 1 rfl ?_
 refine tkR 2 rfl ?_
 refine tkR 3 rfl ?_
 refine tkR 4 rfl ?_
 refine tkR 5 rfl ?_
 refine tkR 6 rfl ?_
 refine tkR 7 rfl ?_
 refine tkR 8 rfl ?_
 refine tkR 9 rfl ?_
 refine tkR 10 rfl ?_
 refine tkR 11 rfl ?_
 refine tkR 12 rfl ?_
 refine tkR 13 rfl ?_
 refine tkR 14 rfl ?_
 refine tkR 15 rfl ?_
 refine tkR 16 rfl ?_
 refine tkR 17 rfl ?_
 refine tkR 18 rfl ?_
 refine tkR 19 rfl ?_
 refine tkR 20 rfl ?_
 refine tkR 21 rfl ?_
 refine tkR 22 rfl ?_
 refine tkR 23 rfl ?_
 refine tkR 26 rfl ?_
 refine clR 24 rfl fun K hK => ?_
 go_simp
 refine (HTO.out _).mono ?_
 rintro e w16 ⟨rfl,hb⟩
 have HB:=Lib.hid (HB.out.trans (hb.mono HB.out.size))
 clear hb s0 s1 s2 s3 s4 s5 s6
 obtain ⟨s0,s1,s2,s3,s4,s5,s6⟩:=HK.out _ HB.out
 refine hK.out _ _ ?_ (fun hHeld => ?_)
 ·(try dsimp only)
  exact ⟨s3,s4,s5,s6⟩
 clear hK K
 (try simp only [Act.put,sqA,sqB,sqC])
 refine clR 25 rfl fun K hK => ?_
 go_simp
 refine (HC1.out _).mono ?_
 rintro e w17 ⟨rfl,hb⟩
 have HB:=Lib.hid (HB.out.trans (hb.mono HB.out.size))
 clear hb s0 s1 s2 s3 s4 s5 s6
 obtain ⟨s0,s1,s2,s3,s4,s5,s6⟩:=HK.out _ HB.out
 refine hK.out _ _ ?_ (fun hHeld => ?_)
 ·(try dsimp only)
  exact ⟨s3,s4,s5,s6⟩
 clear hK K
 (try simp only [Act.put,sqA,sqB,sqC])
 refine clR 27 rfl fun K hK => ?_
 go_simp
 refine (HC2.out _).mono ?_
 rintro e w18 ⟨rfl,hb⟩
 have HB:=Lib.hid (HB.out.trans (hb.mono HB.out.size))
 clear hb s0 s1 s2 s3 s4 s5 s6
 obtain ⟨s0,s1,s2,s3,s4,s5,s6⟩:=HK.out _ HB.out
 refine hK.out _ _ ?_ (fun hHeld => ?_)
 ·(try dsimp only)
  exact ⟨s3,s4,s5,s6⟩
 clear hK K
 refine tkR 28 rfl ?_
 refine tkR 29 rfl ?_
 refine tkR 30 rfl ?_
 refine tkR 31 rfl ?_
 refine tkR 34 rfl ?_
 refine clR 32 rfl fun K hK => ?_
 go_simp
 refine (HTO.out _).mono ?_
 rintro e w19 ⟨rfl,hb⟩
 have HB:=Lib.hid (HB.out.trans (hb.mono HB.out.size))
 clear hb s0 s1 s2 s3 s4 s5 s6
 obtain ⟨s0,s1,s2,s3,s4,s5,s6⟩:=HK.out _ HB.out
 refine hK.out _ _ ?_ (fun hHeld => ?_)
 ·(try dsimp only)
  exact ⟨s3,s4,s5,s6⟩
 clear hK K
 (try simp only [Act.put,sqA,sqB,sqC])
 refine clR 33 rfl fun K hK => ?_
 go_simp
 refine (HLK.out _).mono ?_
 rintro e w20 ⟨rfl,hb⟩
 have HB:=Lib.hid (HB.out.trans (hb.mono HB.out.size))
 clear hb s0 s1 s2 s3 s4 s5 s6
 obtain ⟨s0,s1,s2,s3,s4,s5,s6⟩:=HK.out _ HB.out
 refine hK.out _ _ ?_ (fun hHeld => ?_)
 ·(try dsimp only)
  exact ⟨s3,s4,s5,s6⟩
 clear hK K
 refine tkR 35 rfl ?_
 refine tkR 36 rfl ?_
 refine tkR 37 rfl ?_
 refine tkR 38 rfl ?_
 refine tkR 40 rfl ?_
 refine tkR 41 rfl ?_
 refine tkR 43 rfl ?_
 refine tkR 44 rfl ?_
 refine tkR 45 rfl ?_
 refine clR 39 rfl fun K hK => ?_
 go_simp
 refine (HTO.out _).mono ?_
 rintro e w21 ⟨rfl,hb⟩
 have HB:=Lib.hid (HB.out.trans (hb.mono HB.out.size))
 clear hb s0 s1 s2 s3 s4 s5 s6
 obtain ⟨s0,s1,s2,s3,s4,s5,s6⟩:=HK.out _ HB.out
 refine hK.out _ _ ?_ (fun hHeld => ?_)
 ·(try dsimp only)
  exact ⟨s3,s4,s5,s6⟩
 clear hK K
 (try simp only [Act.put,sqA,sqB,sqC])
 refine clR 42 rfl fun K hK => ?_
 go_simp
 refine (HB1.out _).mono ?_
 rintro e w22 ⟨rfl,hb⟩
 have HB:=Lib.hid (HB.out.trans (hb.mono HB.out.size))
 clear hb s0 s1 s2 s3 s4 s5 s6
 obtain ⟨s0,s1,s2,s3,s4,s5,s6⟩:=HK.out _ HB.out
 refine hK.out _ _ ?_ (fun hHeld => ?_)
 ·(try dsimp only)
  exact ⟨s3,s4,s5,s6⟩
 clear hK K
 (try simp only [Act.put,sqA,sqB,sqC])
 refine clR 46 rfl fun K hK => ?_
 go_simp
 refine (HB2.out _).mono ?_
 rintro e w23 ⟨rfl,hb⟩
 have HB:=Lib.hid (HB.out.trans (hb.mono HB.out.size))
 clear hb s0 s1 s2 s3 s4 s5 s6
 obtain ⟨s0,s1,s2,s3,s4,s5,s6⟩:=HK.out _ HB.out
 refine hK.out _ _ ?_ (fun hHeld => ?_)
 ·(try dsimp only)
  exact ⟨s3,s4,s5,s6⟩
 clear hK K
 refine tkR 47 rfl ?_
 refine tkR 48 rfl ?_
 refine wpAnyH_done (by kernel_rfl) ?_ _
 clear hHeld
 go_wp2_with (first | go_big_skip | fail)
 refine (HFX.out _).mono ?_
 rintro e w24 ⟨rfl,hb⟩
 have HB:=Lib.hid (HB.out.trans (hb.mono HB.out.size))
 clear hb s0 s1 s2 s3 s4 s5 s6
 obtain ⟨s0,s1,s2,s3,s4,s5,s6⟩:=HK.out _ HB.out
 go_wp2_with (first | go_big_skip | fail)
 refine (HTX.out _).mono ?_
 rintro e w25 ⟨rfl,hb⟩
 have HB:=Lib.hid (HB.out.trans (hb.mono HB.out.size))
 clear hb s0 s1 s2 s3 s4 s5 s6
 obtain ⟨s0,s1,s2,s3,s4,s5,s6⟩:=HK.out _ HB.out
 go_wp2_with (first | go_big_skip | fail)
 refine (HNN.out _ _ _).mono ?_
 rintro e w26 ⟨rfl,hb⟩
 have HB:=Lib.hid (HB.out.trans (hb.mono HB.out.size))
 clear hb s0 s1 s2 s3 s4 s5 s6
 obtain ⟨s0,s1,s2,s3,s4,s5,s6⟩:=HK.out _ HB.out
 go_wp2_with (first | go_big_skip | fail)
 refine (HTK.out _).mono ?_
 rintro e w27 ⟨rfl,hb⟩
 have HB:=Lib.hid (HB.out.trans (hb.mono HB.out.size))
 clear hb s0 s1 s2 s3 s4 s5 s6
 obtain ⟨s0,s1,s2,s3,s4,s5,s6⟩:=HK.out _ HB.out
 go_wp2_with (first | go_big_skip | fail)
 refine (HLN.out _).mono ?_
 rintro e w28 ⟨rfl,hb⟩
 have HB:=Lib.hid (HB.out.trans (hb.mono HB.out.size))
 clear hb s0 s1 s2 s3 s4 s5 s6
 obtain ⟨s0,s1,s2,s3,s4,s5,s6⟩:=HK.out _ HB.out
 go_wp2_with (first | go_big_skip | fail)
 refine (HBN.out _).mono ?_
 rintro e w29 ⟨rfl,hb⟩
 have HB:=Lib.hid (HB.out.trans (hb.mono HB.out.size))
 clear hb s0 s1 s2 s3 s4 s5 s6
 obtain ⟨s0,s1,s2,s3,s4,s5,s6⟩:=HK.out _ HB.out
 go_wp2_with (first | go_big_skip | fail)
 refine (HStep.out _).mono ?_
 rintro e w30 ⟨rfl,hb⟩
 have HB:=Lib.hid (HB.out.trans (hb.mono HB.out.size))
 clear hb s0 s1 s2 s3 s4 s5 s6
 obtain ⟨s0,s1,s2,s3,s4,s5,s6⟩:=HK.out _ HB.out
 go_wp2_with (first | go_big_skip | fail)
 refine (HOver.out _).mono ?_
 rintro e w31 ⟨rfl,hb⟩
 have HB:=Lib.hid (HB.out.trans (hb.mono HB.out.size))
 clear hb s0 s1 s2 s3 s4 s5 s6
 obtain ⟨s0,s1,s2,s3,s4,s5,s6⟩:=HK.out _ HB.out
 go_wp2_with (first | go_big_skip | fail)
 refine (HMark.out _).mono ?_
 rintro e w32 ⟨rfl,hb⟩
 have HB:=Lib.hid (HB.out.trans (hb.mono HB.out.size))
 clear hb s0 s1 s2 s3 s4 s5 s6
 obtain ⟨s0,s1,s2,s3,s4,s5,s6⟩:=HK.out _ HB.out
 go_wp2_with (first | go_big_skip | fail)
 refine (HAnswer.out _).mono ?_
 rintro e w33 ⟨rfl,hb⟩
 have HB:=Lib.hid (HB.out.trans (hb.mono HB.out.size))
 clear hb s0 s1 s2 s3 s4 s5 s6
 obtain ⟨s0,s1,s2,s3,s4,s5,s6⟩:=HK.out _ HB.out
 go_wp2_with (first | go_big_skip | fail)
 refine (HTries.out _).mono ?_
 rintro e w34 ⟨rfl,hb⟩
 have HB:=Lib.hid (HB.out.trans (hb.mono HB.out.size))
 clear hb s0 s1 s2 s3 s4 s5 s6
 obtain ⟨s0,s1,s2,s3,s4,s5,s6⟩:=HK.out _ HB.out
 go_wp2
 go_ret
 exact ⟨by first | rfl | (simp; done),HW1.out.trans (HB.out.mono HW1.out.size)⟩
set_option maxRecDepth 20000 in
set_option maxHeartbeats 25600000 in
theorem news_2a (W:World) (S B n:Nat) (t0:Int) (a1 a2:Int) (b1:-9223372036854775808≤a1∧a1≤9223372036854775807) (b2:-9223372036854775808≤a2∧a2≤9223372036854775807) (hS:1≤S∧S≤8) (hB:1≤B∧B≤16) (hn:1≤n∧n≤8) (ht:inB t0 8=false) (h1:1≤t0):Calls Try.prog 3 #[.agg #[.int .i64 (S:Int),.int .i64 (B:Int),.int .i64 (n:Int),.int .i64 t0],.int .i64 a1,.int .i64 a2] W (Says (.bool true) W):=by
 have HM:=Lib.hid fun V => show Calls Try.prog 6 #[.int .i64 300,.int .i64 3] V fun e w' => ∃ b,e=.returned (.tuple #[.pointer (some ⟨b,0,none⟩),.int .i64 0])∧MemAt w' 82 V.heap.size b (newS 300 3)∧Below V.heap.size V w' from mem_New 300 3 (by omega) (by omega) V
 have HTOLD:=Lib.hid fun V => law12_told V
 have HTK:=Lib.hid fun V => law8_ToK 1 2 V
 have HTB:=Lib.hid fun V => law8_ToK 0 2 V
 have HLN:=Lib.hid fun V => show Calls Try.prog 17 #[.pointer none,.int .i64 0,.agg #[.int .i64 1,.int .u64 2]] V (Says (.pointer none) V) from fdb_LookupNil 0 1 2
 have HBN:=Lib.hid fun V => show Calls Try.prog 19 #[.pointer none,.int .i64 0,.int .i64 0] V (Says (.slice none 0 0) V) from fdb_BucketNil 0 0
 have HStep:=Lib.hid fun V => none_Step V
 have HOver:=Lib.hid fun V => none_Over V
 have HMark:=Lib.hid fun V => none_Mark V
 have HAnswer:=Lib.hid fun V => none_Answer V
 have HTries:=Lib.hid fun V => none_Tries V
 obtain ⟨S9,_,_,hSw⟩:=fix_sizeK (S:Int) 8 (by omega) (by omega)
 obtain ⟨B9,_,_,hBw⟩:=fix_sizeK (B:Int) 16 (by omega) (by omega)
 obtain ⟨n9,_,_,hnw⟩:=fix_sizeK (n:Int) 8 (by omega) (by omega)
 have HFX:=Lib.hid fun V => ref11_FixK (S:Int) (B:Int) (n:Int) S9 B9 n9 hSw hBw hnw V
 have HTX:=Lib.hid fun V => law11_To (S9:Int) (B9:Int) (n9:Int) V
 have HNN:=Lib.hid fun V (lo:Int) (lk:Int) => show Calls Try.prog 7 #[.pointer none,.int .i64 lo,.int .i64 lk,.agg #[.int .i64 (S9:Nat),.int .i64 (B9:Nat),.int .i64 (n9:Nat)],.int .i64 1] V (Says (.tuple #[.pointer none,.int .i64 1]) V) from fdb_NewNil (w:=V) (S9:Int) (B9:Int) (n9:Int) 1 lo lk
 have HTO:=Lib.hid fun V => law11_To (S:Int) (B:Int) (n:Int) V
 have HR2:=Lib.hid fun V => ref11_Right (S:Int) (B:Int) (n:Int) V
 clear hSw hBw hnw
 have hr:=rightS_nat hS hB hn
 rw [hr] at HR2
 obtain ⟨CE,hCE⟩:∃ CE,CE=S * B * (1 + 2 * n):=⟨_,rfl⟩
 have bCE:CE≤2176:=by rw [hCE]; exact Nat.mul_le_mul (Nat.mul_le_mul hS.2 hB.2:S * B≤128) (show 1 + 2 * n≤17 by omega)
 have HC1:=Lib.hid fun V => fdb_CellsY S B n hS hB hn V
 have HC2:=Lib.hid fun V => ref12_CellsY S B n hS hB hn V
 have HLK:=Lib.hid fun V => fdb_LocksY S B n hS hB hn V
 rw [← hCE] at HC1 HC2
 have hbad:badNew (S:Int) (B:Int) (n:Int) t0 a1 a2 300 3:=.inr (.inl ht)
 have HB1:=Lib.hid fun V => fdb_BoundN (S:Int) (B:Int) (n:Int) t0 (.inr ht) V
 have HB2:=Lib.hid fun V => ref12_BoundN (S:Int) (B:Int) (n:Int) t0 (.inr ht) V
 have HNEW:=Lib.hid fun V lo b (hlo:lo + 3≤V.heap.size) (hm:MemAt V 82 lo b (newS 300 3)) => show Calls Try.prog 7 #[.pointer (some ⟨b,0,none⟩),.int .i64 a1,.int .i64 a2,.agg #[.int .i64 (S:Int),.int .i64 (B:Int),.int .i64 (n:Int)],.int .i64 t0] V (Says (.tuple #[.pointer none,.int .i64 1]) V) from fdb_NewN hm (by decide) (by decide) (S:Int) (B:Int) (n:Int) t0 a1 a2 hbad
 have d1:decide (1≤t0)=true:=decide_eq_true h1
 have d2:decide (t0≤8)=false:=decide_eq_false (by unfold inB at ht; simp at ht; omega)
 clear hbad hr ht h1 hS hB hn hCE bCE b1 b2
 go_enter Try.func3,Try.ntmps3
 go_wp2_with fail
 refine (HM.out _).mono ?_
 rintro e w1 ⟨b,rfl,hm,hb⟩
 have s0:w1.cell? ⟨W.heap.size,0,none⟩=some (.int .i64 (S:Nat)):=(hb.cell (p:=⟨W.heap.size,0,none⟩) (by first | (simp; done) | (simp; omega))).trans (by simp [go_sem])
 have s1:w1.cell? ⟨W.heap.size,1,none⟩=some (.int .i64 (B:Nat)):=(hb.cell (p:=⟨W.heap.size,1,none⟩) (by first | (simp; done) | (simp; omega))).trans (by simp [go_sem])
 have s2:w1.cell? ⟨W.heap.size,2,none⟩=some (.int .i64 (n:Nat)):=(hb.cell (p:=⟨W.heap.size,2,none⟩) (by first | (simp; done) | (simp; omega))).trans (by simp [go_sem])
 have s3:w1.cell? ⟨W.heap.size,3,none⟩=some (.int .i64 t0):=(hb.cell (p:=⟨W.heap.size,3,none⟩) (by first | (simp; done) | (simp; omega))).trans (by simp [go_sem])
 have s4:w1.cell? ⟨W.heap.size + 1,0,none⟩=some (.int .i64 (S:Nat)):=(hb.cell (p:=⟨W.heap.size + 1,0,none⟩) (by first | (simp; done) | (simp; omega))).trans (by simp [go_sem])
 have s5:w1.cell? ⟨W.heap.size + 1,1,none⟩=some (.int .i64 (B:Nat)):=(hb.cell (p:=⟨W.heap.size + 1,1,none⟩) (by first | (simp; done) | (simp; omega))).trans (by simp [go_sem])
 have s6:w1.cell? ⟨W.heap.size + 1,2,none⟩=some (.int .i64 (n:Nat)):=(hb.cell (p:=⟨W.heap.size + 1,2,none⟩) (by first | (simp; done) | (simp; omega))).trans (by simp [go_sem])
 have hz1:W.heap.size + 1 < w1.heap.size:=Nat.lt_of_lt_of_le (by first | (simp; done) | (simp; omega)) hb.size
 have HW1:Hid (Below W.heap.size W w1):=(((Below.refl W.heap.size W).alloc (Nat.le_refl _) _).alloc (by first | (simp; done) | (simp; omega)) _).trans (hb.mono (by first | (simp; done) | (simp; omega)))
 have HB:Hid (Below w1.heap.size w1 w1):=Below.refl _ _
 have HK:=Lib.hid fun V (hb:Below w1.heap.size w1 V) => show V.cell? ⟨W.heap.size,0,none⟩=some (.int .i64 (S:Nat))∧V.cell? ⟨W.heap.size,1,none⟩=some (.int .i64 (B:Nat))∧V.cell? ⟨W.heap.size,2,none⟩=some (.int .i64 (n:Nat))∧V.cell? ⟨W.heap.size,3,none⟩=some (.int .i64 t0)∧V.cell? ⟨W.heap.size + 1,0,none⟩=some (.int .i64 (S:Nat))∧V.cell? ⟨W.heap.size + 1,1,none⟩=some (.int .i64 (B:Nat))∧V.cell? ⟨W.heap.size + 1,2,none⟩=some (.int .i64 (n:Nat)) from ⟨(hb.cell (p:=⟨W.heap.size,0,none⟩) (by show W.heap.size < _; omega)).trans s0,(hb.cell (p:=⟨W.heap.size,1,none⟩) (by show W.heap.size < _; omega)).trans s1,(hb.cell (p:=⟨W.heap.size,2,none⟩) (by show W.heap.size < _; omega)).trans s2,(hb.cell (p:=⟨W.heap.size,3,none⟩) (by show W.heap.size < _; omega)).trans s3,(hb.cell (p:=⟨W.heap.size + 1,0,none⟩) (by show W.heap.size + 1 < _; omega)).trans s4,(hb.cell (p:=⟨W.heap.size + 1,1,none⟩) (by show W.heap.size + 1 < _; omega)).trans s5,(hb.cell (p:=⟨W.heap.size + 1,2,none⟩) (by show W.heap.size + 1 < _; omega)).trans s6⟩
 obtain ⟨LO,hLO⟩:∃ LO,LO + 3≤w1.heap.size∧MemAt w1 82 LO b (newS 300 3):=⟨_,mem_lo hm,hm⟩
 have HMA:=Lib.hid fun V (hb:Below w1.heap.size w1 V) => show LO + 3≤V.heap.size∧MemAt V 82 LO b (newS 300 3) from ⟨Nat.le_trans hLO.1 hb.size,hLO.2.below hb⟩
 clear hb hm hLO hz1
 go_wp2_with fail
 refine wp_region_held_drew (S:=fun w' => w'.cell? ⟨W.heap.size,3,none⟩=some (.int .i64 t0)∧w'.cell? ⟨W.heap.size + 1,0,none⟩=some (.int .i64 (S:Nat))∧w'.cell? ⟨W.heap.size + 1,1,none⟩=some (.int .i64 (B:Nat))∧w'.cell? ⟨W.heap.size + 1,2,none⟩=some (.int .i64 (n:Nat))) (by kernel_rfl) ?_ (fun hHeld => ?_)
 ·exact ⟨s3,s4,s5,s6⟩
 obtain ⟨v0,hv0⟩:∃ w',w'=w1.drew:=⟨_,rfl⟩
 have hb:Below w1.heap.size w1 v0:=by rw [hv0]; exact (Below.refl _ _).drew
 rw [← hv0] at hHeld ⊢
 clear hv0
 have HB:=Lib.hid (HB.out.trans (hb.mono HB.out.size))
 clear hb s0 s1 s2 s3 s4 s5 s6
 obtain ⟨s0,s1,s2,s3,s4,s5,s6⟩:=HK.out _ HB.out
 refine tkR 0 rfl ?_
 refine tkR 1 rfl ?_
 refine tkR 2 rfl ?_
 refine tkR 3 rfl ?_
 refine tkR 5 rfl ?_
 refine tkR 6 rfl ?_
 refine clR 4 rfl fun K hK => ?_
 go_simp
 refine (HTO.out _).mono ?_
 rintro e w11 ⟨rfl,hb⟩
 have HB:=Lib.hid (HB.out.trans (hb.mono HB.out.size))
 clear hb s0 s1 s2 s3 s4 s5 s6
 obtain ⟨s0,s1,s2,s3,s4,s5,s6⟩:=HK.out _ HB.out
 refine hK.out _ _ ?_ (fun hHeld => ?_)
 ·(try dsimp only)
  exact ⟨s3,s4,s5,s6⟩
 clear hK K
 (try simp only [Act.put,sqA,sqB,sqC])
 refine clR 7 rfl fun K hK => ?_
 go_simp
 refine (HNEW.out _ LO b (HMA.out _ HB.out).1 (HMA.out _ HB.out).2).mono ?_
 rintro e w12 ⟨rfl,hb⟩
 have HB:=Lib.hid (HB.out.trans (hb.mono HB.out.size))
 clear hb s0 s1 s2 s3 s4 s5 s6
 obtain ⟨s0,s1,s2,s3,s4,s5,s6⟩:=HK.out _ HB.out
 refine hK.out _ _ ?_ (fun hHeld => ?_)
 ·(try dsimp only)
  exact ⟨s3,s4,s5,s6⟩
 clear hK K
 refine tkR 8 rfl ?_
 refine tkR 9 rfl ?_
 refine tkR 10 rfl ?_
 refine tkR 11 rfl ?_
 refine tkR 12 rfl ?_
 refine wpAnyH_done (by kernel_rfl) ?_ _
 clear hHeld
 go_wp2_with (first | go_big_skip | fail)
 refine (HR2.out _).mono ?_
 rintro e w13 ⟨rfl,hb⟩
 have HB:=Lib.hid (HB.out.trans (hb.mono HB.out.size))
 clear hb s0 s1 s2 s3 s4 s5 s6
 obtain ⟨s0,s1,s2,s3,s4,s5,s6⟩:=HK.out _ HB.out
 go_wp2_with (first | go_big_skip | fail)
 refine (HR2.out _).mono ?_
 rintro e w14 ⟨rfl,hb⟩
 have HB:=Lib.hid (HB.out.trans (hb.mono HB.out.size))
 clear hb s0 s1 s2 s3 s4 s5 s6
 obtain ⟨s0,s1,s2,s3,s4,s5,s6⟩:=HK.out _ HB.out
 go_wp2_with (first | go_big_skip | fail)
 refine wp_region_held_drew (S:=fun w' => w'.cell? ⟨W.heap.size,3,none⟩=some (.int .i64 t0)∧w'.cell? ⟨W.heap.size + 1,0,none⟩=some (.int .i64 (S:Nat))∧w'.cell? ⟨W.heap.size + 1,1,none⟩=some (.int .i64 (B:Nat))∧w'.cell? ⟨W.heap.size + 1,2,none⟩=some (.int .i64 (n:Nat))) (by kernel_rfl) ?_ (fun hHeld => ?_)
 ·exact ⟨s3,s4,s5,s6⟩
 obtain ⟨v0,hv0⟩:∃ w',w'=w14.drew:=⟨_,rfl⟩
 have hb:Below w14.heap.size w14 v0:=by rw [hv0]; exact (Below.refl _ _).drew
 rw [← hv0] at hHeld ⊢
 clear hv0
 have HB:=Lib.hid (HB.out.trans (hb.mono HB.out.size))
 clear hb s0 s1 s2 s3 s4 s5 s6
 obtain ⟨s0,s1,s2,s3,s4,s5,s6⟩:=HK.out _ HB.out
 refine clR 0 rfl fun K hK => ?_
 go_simp
 refine (HTOLD.out _).mono ?_
 rintro e w15 ⟨rfl,hb⟩
 have HB:=Lib.hid (HB.out.trans (hb.mono HB.out.size))
 clear hb s0 s1 s2 s3 s4 s5 s6
 obtain ⟨s0,s1,s2,s3,s4,s5,s6⟩:=HK.out _ HB.out
 refine hK.out _ _ ?_ (fun hHeld => ?_)
 ·(try dsimp only)
  exact ⟨s3,s4,s5,s6⟩
 clear hK K
 refine tkR 1 rfl ?_
 refine tkR 2 rfl ?_
 refine tkR 3 rfl ?_
 refine tkR 4 rfl ?_
 refine tkR 5 rfl ?_
 refine tkR 6 rfl ?_
 refine tkR 7 rfl ?_
 refine tkR 8 rfl ?_
 refine tkR 9 rfl ?_
 refine tkR 10 rfl ?_
 refine tkR 11 rfl ?_
 refine tkR 12 rfl ?_
 refine tkR 13 rfl ?_
 refine tkR 14 rfl ?_
 refine tkR 15 rfl ?_
 refine tkR 16 rfl ?_
 refine tkR 17 rfl ?_
 refine tkR 18 rfl ?_
 refine tkR 19 rfl ?_
 refine tkR 20 rfl ?_
 refine tkR 21 rfl ?_
 refine tkR 22 rfl ?_
 refine tkR 23 rfl ?_
 refine tkR 26 rfl ?_
 refine clR 24 rfl fun K hK => ?_
 go_simp
 refine (HTO.out _).mono ?_
 rintro e w16 ⟨rfl,hb⟩
 have HB:=Lib.hid (HB.out.trans (hb.mono HB.out.size))
 clear hb s0 s1 s2 s3 s4 s5 s6
 obtain ⟨s0,s1,s2,s3,s4,s5,s6⟩:=HK.out _ HB.out
 refine hK.out _ _ ?_ (fun hHeld => ?_)
 ·(try dsimp only)
  exact ⟨s3,s4,s5,s6⟩
 clear hK K
 (try simp only [Act.put,sqA,sqB,sqC])
 refine clR 25 rfl fun K hK => ?_
 go_simp
 refine (HC1.out _).mono ?_
 rintro e w17 ⟨rfl,hb⟩
 have HB:=Lib.hid (HB.out.trans (hb.mono HB.out.size))
 clear hb s0 s1 s2 s3 s4 s5 s6
 obtain ⟨s0,s1,s2,s3,s4,s5,s6⟩:=HK.out _ HB.out
 refine hK.out _ _ ?_ (fun hHeld => ?_)
 ·(try dsimp only)
  exact ⟨s3,s4,s5,s6⟩
 clear hK K
 (try simp only [Act.put,sqA,sqB,sqC])
 refine clR 27 rfl fun K hK => ?_
 go_simp
 refine (HC2.out _).mono ?_
 rintro e w18 ⟨rfl,hb⟩
 have HB:=Lib.hid (HB.out.trans (hb.mono HB.out.size))
 clear hb s0 s1 s2 s3 s4 s5 s6
 obtain ⟨s0,s1,s2,s3,s4,s5,s6⟩:=HK.out _ HB.out
 refine hK.out _ _ ?_ (fun hHeld => ?_)
 ·(try dsimp only)
  exact ⟨s3,s4,s5,s6⟩
 clear hK K
 refine tkR 28 rfl ?_
 refine tkR 29 rfl ?_
 refine tkR 30 rfl ?_
 refine tkR 31 rfl ?_
 refine tkR 34 rfl ?_
 refine clR 32 rfl fun K hK => ?_
 go_simp
 refine (HTO.out _).mono ?_
 rintro e w19 ⟨rfl,hb⟩
 have HB:=Lib.hid (HB.out.trans (hb.mono HB.out.size))
 clear hb s0 s1 s2 s3 s4 s5 s6
 obtain ⟨s0,s1,s2,s3,s4,s5,s6⟩:=HK.out _ HB.out
 refine hK.out _ _ ?_ (fun hHeld => ?_)
 ·(try dsimp only)
  exact ⟨s3,s4,s5,s6⟩
 clear hK K
 (try simp only [Act.put,sqA,sqB,sqC])
 refine clR 33 rfl fun K hK => ?_
 go_simp
 refine (HLK.out _).mono ?_
 rintro e w20 ⟨rfl,hb⟩
 have HB:=Lib.hid (HB.out.trans (hb.mono HB.out.size))
 clear hb s0 s1 s2 s3 s4 s5 s6
 obtain ⟨s0,s1,s2,s3,s4,s5,s6⟩:=HK.out _ HB.out
 refine hK.out _ _ ?_ (fun hHeld => ?_)
 ·(try dsimp only)
  exact ⟨s3,s4,s5,s6⟩
 clear hK K
 refine tkR 35 rfl ?_
 refine tkR 36 rfl ?_
 refine tkR 37 rfl ?_
 refine tkR 38 rfl ?_
 refine tkR 40 rfl ?_
 refine tkR 41 rfl ?_
 refine tkR 43 rfl ?_
 refine tkR 44 rfl ?_
 refine tkR 45 rfl ?_
 refine clR 39 rfl fun K hK => ?_
 go_simp
 refine (HTO.out _).mono ?_
 rintro e w21 ⟨rfl,hb⟩
 have HB:=Lib.hid (HB.out.trans (hb.mono HB.out.size))
 clear hb s0 s1 s2 s3 s4 s5 s6
 obtain ⟨s0,s1,s2,s3,s4,s5,s6⟩:=HK.out _ HB.out
 refine hK.out _ _ ?_ (fun hHeld => ?_)
 ·(try dsimp only)
  exact ⟨s3,s4,s5,s6⟩
 clear hK K
 (try simp only [Act.put,sqA,sqB,sqC])
 refine clR 42 rfl fun K hK => ?_
 go_simp
 refine (HB1.out _).mono ?_
 rintro e w22 ⟨rfl,hb⟩
 have HB:=Lib.hid (HB.out.trans (hb.mono HB.out.size))
 clear hb s0 s1 s2 s3 s4 s5 s6
 obtain ⟨s0,s1,s2,s3,s4,s5,s6⟩:=HK.out _ HB.out
 refine hK.out _ _ ?_ (fun hHeld => ?_)
 ·(try dsimp only)
  exact ⟨s3,s4,s5,s6⟩
 clear hK K
 (try simp only [Act.put,sqA,sqB,sqC])
 refine clR 46 rfl fun K hK => ?_
 go_simp
 refine (HB2.out _).mono ?_
 rintro e w23 ⟨rfl,hb⟩
 have HB:=Lib.hid (HB.out.trans (hb.mono HB.out.size))
 clear hb s0 s1 s2 s3 s4 s5 s6
 obtain ⟨s0,s1,s2,s3,s4,s5,s6⟩:=HK.out _ HB.out
 refine hK.out _ _ ?_ (fun hHeld => ?_)
 ·(try dsimp only)
  exact ⟨s3,s4,s5,s6⟩
 clear hK K
 refine tkR 47 rfl ?_
 refine tkR 48 rfl ?_
 refine wpAnyH_done (by kernel_rfl) ?_ _
 clear hHeld
 go_wp2_with (first | go_big_skip | fail)
 refine (HFX.out _).mono ?_
 rintro e w24 ⟨rfl,hb⟩
 have HB:=Lib.hid (HB.out.trans (hb.mono HB.out.size))
 clear hb s0 s1 s2 s3 s4 s5 s6
 obtain ⟨s0,s1,s2,s3,s4,s5,s6⟩:=HK.out _ HB.out
 go_wp2_with (first | go_big_skip | fail)
 refine (HTX.out _).mono ?_
 rintro e w25 ⟨rfl,hb⟩
 have HB:=Lib.hid (HB.out.trans (hb.mono HB.out.size))
 clear hb s0 s1 s2 s3 s4 s5 s6
 obtain ⟨s0,s1,s2,s3,s4,s5,s6⟩:=HK.out _ HB.out
 go_wp2_with (first | go_big_skip | fail)
 refine (HNN.out _ _ _).mono ?_
 rintro e w26 ⟨rfl,hb⟩
 have HB:=Lib.hid (HB.out.trans (hb.mono HB.out.size))
 clear hb s0 s1 s2 s3 s4 s5 s6
 obtain ⟨s0,s1,s2,s3,s4,s5,s6⟩:=HK.out _ HB.out
 go_wp2_with (first | go_big_skip | fail)
 refine (HTK.out _).mono ?_
 rintro e w27 ⟨rfl,hb⟩
 have HB:=Lib.hid (HB.out.trans (hb.mono HB.out.size))
 clear hb s0 s1 s2 s3 s4 s5 s6
 obtain ⟨s0,s1,s2,s3,s4,s5,s6⟩:=HK.out _ HB.out
 go_wp2_with (first | go_big_skip | fail)
 refine (HLN.out _).mono ?_
 rintro e w28 ⟨rfl,hb⟩
 have HB:=Lib.hid (HB.out.trans (hb.mono HB.out.size))
 clear hb s0 s1 s2 s3 s4 s5 s6
 obtain ⟨s0,s1,s2,s3,s4,s5,s6⟩:=HK.out _ HB.out
 go_wp2_with (first | go_big_skip | fail)
 refine (HBN.out _).mono ?_
 rintro e w29 ⟨rfl,hb⟩
 have HB:=Lib.hid (HB.out.trans (hb.mono HB.out.size))
 clear hb s0 s1 s2 s3 s4 s5 s6
 obtain ⟨s0,s1,s2,s3,s4,s5,s6⟩:=HK.out _ HB.out
 go_wp2_with (first | go_big_skip | fail)
 refine (HStep.out _).mono ?_
 rintro e w30 ⟨rfl,hb⟩
 have HB:=Lib.hid (HB.out.trans (hb.mono HB.out.size))
 clear hb s0 s1 s2 s3 s4 s5 s6
 obtain ⟨s0,s1,s2,s3,s4,s5,s6⟩:=HK.out _ HB.out
 go_wp2_with (first | go_big_skip | fail)
 refine (HOver.out _).mono ?_
 rintro e w31 ⟨rfl,hb⟩
 have HB:=Lib.hid (HB.out.trans (hb.mono HB.out.size))
 clear hb s0 s1 s2 s3 s4 s5 s6
 obtain ⟨s0,s1,s2,s3,s4,s5,s6⟩:=HK.out _ HB.out
 go_wp2_with (first | go_big_skip | fail)
 refine (HMark.out _).mono ?_
 rintro e w32 ⟨rfl,hb⟩
 have HB:=Lib.hid (HB.out.trans (hb.mono HB.out.size))
 clear hb s0 s1 s2 s3 s4 s5 s6
 obtain ⟨s0,s1,s2,s3,s4,s5,s6⟩:=HK.out _ HB.out
 go_wp2_with (first | go_big_skip | fail)
 refine (HAnswer.out _).mono ?_
 rintro e w33 ⟨rfl,hb⟩
 have HB:=Lib.hid (HB.out.trans (hb.mono HB.out.size))
 clear hb s0 s1 s2 s3 s4 s5 s6
 obtain ⟨s0,s1,s2,s3,s4,s5,s6⟩:=HK.out _ HB.out
 go_wp2_with (first | go_big_skip | fail)
 refine (HTries.out _).mono ?_
 rintro e w34 ⟨rfl,hb⟩
 have HB:=Lib.hid (HB.out.trans (hb.mono HB.out.size))
 clear hb s0 s1 s2 s3 s4 s5 s6
 obtain ⟨s0,s1,s2,s3,s4,s5,s6⟩:=HK.out _ HB.out
 go_wp2
 go_ret
 exact ⟨by first | rfl | (simp; done),HW1.out.trans (HB.out.mono HW1.out.size)⟩
set_option maxRecDepth 20000 in
set_option maxHeartbeats 25600000 in
theorem news_2b (W:World) (S B n:Nat) (t0:Int) (a1 a2:Int) (b1:-9223372036854775808≤a1∧a1≤9223372036854775807) (b2:-9223372036854775808≤a2∧a2≤9223372036854775807) (hS:1≤S∧S≤8) (hB:1≤B∧B≤16) (hn:1≤n∧n≤8) (ht:inB t0 8=false) (h1:¬ 1≤t0):Calls Try.prog 3 #[.agg #[.int .i64 (S:Int),.int .i64 (B:Int),.int .i64 (n:Int),.int .i64 t0],.int .i64 a1,.int .i64 a2] W (Says (.bool true) W):=by
 have HM:=Lib.hid fun V => show Calls Try.prog 6 #[.int .i64 300,.int .i64 3] V fun e w' => ∃ b,e=.returned (.tuple #[.pointer (some ⟨b,0,none⟩),.int .i64 0])∧MemAt w' 82 V.heap.size b (newS 300 3)∧Below V.heap.size V w' from mem_New 300 3 (by omega) (by omega) V
 have HTOLD:=Lib.hid fun V => law12_told V
 have HTK:=Lib.hid fun V => law8_ToK 1 2 V
 have HTB:=Lib.hid fun V => law8_ToK 0 2 V
 have HLN:=Lib.hid fun V => show Calls Try.prog 17 #[.pointer none,.int .i64 0,.agg #[.int .i64 1,.int .u64 2]] V (Says (.pointer none) V) from fdb_LookupNil 0 1 2
 have HBN:=Lib.hid fun V => show Calls Try.prog 19 #[.pointer none,.int .i64 0,.int .i64 0] V (Says (.slice none 0 0) V) from fdb_BucketNil 0 0
 have HStep:=Lib.hid fun V => none_Step V
 have HOver:=Lib.hid fun V => none_Over V
 have HMark:=Lib.hid fun V => none_Mark V
 have HAnswer:=Lib.hid fun V => none_Answer V
 have HTries:=Lib.hid fun V => none_Tries V
 obtain ⟨S9,_,_,hSw⟩:=fix_sizeK (S:Int) 8 (by omega) (by omega)
 obtain ⟨B9,_,_,hBw⟩:=fix_sizeK (B:Int) 16 (by omega) (by omega)
 obtain ⟨n9,_,_,hnw⟩:=fix_sizeK (n:Int) 8 (by omega) (by omega)
 have HFX:=Lib.hid fun V => ref11_FixK (S:Int) (B:Int) (n:Int) S9 B9 n9 hSw hBw hnw V
 have HTX:=Lib.hid fun V => law11_To (S9:Int) (B9:Int) (n9:Int) V
 have HNN:=Lib.hid fun V (lo:Int) (lk:Int) => show Calls Try.prog 7 #[.pointer none,.int .i64 lo,.int .i64 lk,.agg #[.int .i64 (S9:Nat),.int .i64 (B9:Nat),.int .i64 (n9:Nat)],.int .i64 1] V (Says (.tuple #[.pointer none,.int .i64 1]) V) from fdb_NewNil (w:=V) (S9:Int) (B9:Int) (n9:Int) 1 lo lk
 have HTO:=Lib.hid fun V => law11_To (S:Int) (B:Int) (n:Int) V
 have HR2:=Lib.hid fun V => ref11_Right (S:Int) (B:Int) (n:Int) V
 clear hSw hBw hnw
 have hr:=rightS_nat hS hB hn
 rw [hr] at HR2
 obtain ⟨CE,hCE⟩:∃ CE,CE=S * B * (1 + 2 * n):=⟨_,rfl⟩
 have bCE:CE≤2176:=by rw [hCE]; exact Nat.mul_le_mul (Nat.mul_le_mul hS.2 hB.2:S * B≤128) (show 1 + 2 * n≤17 by omega)
 have HC1:=Lib.hid fun V => fdb_CellsY S B n hS hB hn V
 have HC2:=Lib.hid fun V => ref12_CellsY S B n hS hB hn V
 have HLK:=Lib.hid fun V => fdb_LocksY S B n hS hB hn V
 rw [← hCE] at HC1 HC2
 have hbad:badNew (S:Int) (B:Int) (n:Int) t0 a1 a2 300 3:=.inr (.inl ht)
 have HB1:=Lib.hid fun V => fdb_BoundN (S:Int) (B:Int) (n:Int) t0 (.inr ht) V
 have HB2:=Lib.hid fun V => ref12_BoundN (S:Int) (B:Int) (n:Int) t0 (.inr ht) V
 have HNEW:=Lib.hid fun V lo b (hlo:lo + 3≤V.heap.size) (hm:MemAt V 82 lo b (newS 300 3)) => show Calls Try.prog 7 #[.pointer (some ⟨b,0,none⟩),.int .i64 a1,.int .i64 a2,.agg #[.int .i64 (S:Int),.int .i64 (B:Int),.int .i64 (n:Int)],.int .i64 t0] V (Says (.tuple #[.pointer none,.int .i64 1]) V) from fdb_NewN hm (by decide) (by decide) (S:Int) (B:Int) (n:Int) t0 a1 a2 hbad
 have d1:decide (1≤t0)=false:=decide_eq_false h1
 clear hbad hr ht h1 hS hB hn hCE bCE b1 b2
 go_enter Try.func3,Try.ntmps3
 go_wp2_with fail
 refine (HM.out _).mono ?_
 rintro e w1 ⟨b,rfl,hm,hb⟩
 have s0:w1.cell? ⟨W.heap.size,0,none⟩=some (.int .i64 (S:Nat)):=(hb.cell (p:=⟨W.heap.size,0,none⟩) (by first | (simp; done) | (simp; omega))).trans (by simp [go_sem])
 have s1:w1.cell? ⟨W.heap.size,1,none⟩=some (.int .i64 (B:Nat)):=(hb.cell (p:=⟨W.heap.size,1,none⟩) (by first | (simp; done) | (simp; omega))).trans (by simp [go_sem])
 have s2:w1.cell? ⟨W.heap.size,2,none⟩=some (.int .i64 (n:Nat)):=(hb.cell (p:=⟨W.heap.size,2,none⟩) (by first | (simp; done) | (simp; omega))).trans (by simp [go_sem])
 have s3:w1.cell? ⟨W.heap.size,3,none⟩=some (.int .i64 t0):=(hb.cell (p:=⟨W.heap.size,3,none⟩) (by first | (simp; done) | (simp; omega))).trans (by simp [go_sem])
 have s4:w1.cell? ⟨W.heap.size + 1,0,none⟩=some (.int .i64 (S:Nat)):=(hb.cell (p:=⟨W.heap.size + 1,0,none⟩) (by first | (simp; done) | (simp; omega))).trans (by simp [go_sem])
 have s5:w1.cell? ⟨W.heap.size + 1,1,none⟩=some (.int .i64 (B:Nat)):=(hb.cell (p:=⟨W.heap.size + 1,1,none⟩) (by first | (simp; done) | (simp; omega))).trans (by simp [go_sem])
 have s6:w1.cell? ⟨W.heap.size + 1,2,none⟩=some (.int .i64 (n:Nat)):=(hb.cell (p:=⟨W.heap.size + 1,2,none⟩) (by first | (simp; done) | (simp; omega))).trans (by simp [go_sem])
 have hz1:W.heap.size + 1 < w1.heap.size:=Nat.lt_of_lt_of_le (by first | (simp; done) | (simp; omega)) hb.size
 have HW1:Hid (Below W.heap.size W w1):=(((Below.refl W.heap.size W).alloc (Nat.le_refl _) _).alloc (by first | (simp; done) | (simp; omega)) _).trans (hb.mono (by first | (simp; done) | (simp; omega)))
 have HB:Hid (Below w1.heap.size w1 w1):=Below.refl _ _
 have HK:=Lib.hid fun V (hb:Below w1.heap.size w1 V) => show V.cell? ⟨W.heap.size,0,none⟩=some (.int .i64 (S:Nat))∧V.cell? ⟨W.heap.size,1,none⟩=some (.int .i64 (B:Nat))∧V.cell? ⟨W.heap.size,2,none⟩=some (.int .i64 (n:Nat))∧V.cell? ⟨W.heap.size,3,none⟩=some (.int .i64 t0)∧V.cell? ⟨W.heap.size + 1,0,none⟩=some (.int .i64 (S:Nat))∧V.cell? ⟨W.heap.size + 1,1,none⟩=some (.int .i64 (B:Nat))∧V.cell? ⟨W.heap.size + 1,2,none⟩=some (.int .i64 (n:Nat)) from ⟨(hb.cell (p:=⟨W.heap.size,0,none⟩) (by show W.heap.size < _; omega)).trans s0,(hb.cell (p:=⟨W.heap.size,1,none⟩) (by show W.heap.size < _; omega)).trans s1,(hb.cell (p:=⟨W.heap.size,2,none⟩) (by show W.heap.size < _; omega)).trans s2,(hb.cell (p:=⟨W.heap.size,3,none⟩) (by show W.heap.size < _; omega)).trans s3,(hb.cell (p:=⟨W.heap.size + 1,0,none⟩) (by show W.heap.size + 1 < _; omega)).trans s4,(hb.cell (p:=⟨W.heap.size + 1,1,none⟩) (by show W.heap.size + 1 < _; omega)).trans s5,(hb.cell (p:=⟨W.heap.size + 1,2,none⟩) (by show W.heap.size + 1 < _; omega)).trans s6⟩
 obtain ⟨LO,hLO⟩:∃ LO,LO + 3≤w1.heap.size∧MemAt w1 82 LO b (newS 300 3):=⟨_,mem_lo hm,hm⟩
 have HMA:=Lib.hid fun V (hb:Below w1.heap.size w1 V) => show LO + 3≤V.heap.size∧MemAt V 82 LO b (newS 300 3) from ⟨Nat.le_trans hLO.1 hb.size,hLO.2.below hb⟩
 clear hb hm hLO hz1
 go_wp2_with fail
 refine wp_region_held_drew (S:=fun w' => w'.cell? ⟨W.heap.size,3,none⟩=some (.int .i64 t0)∧w'.cell? ⟨W.heap.size + 1,0,none⟩=some (.int .i64 (S:Nat))∧w'.cell? ⟨W.heap.size + 1,1,none⟩=some (.int .i64 (B:Nat))∧w'.cell? ⟨W.heap.size + 1,2,none⟩=some (.int .i64 (n:Nat))) (by kernel_rfl) ?_ (fun hHeld => ?_)
 ·exact ⟨s3,s4,s5,s6⟩
 obtain ⟨v0,hv0⟩:∃ w',w'=w1.drew:=⟨_,rfl⟩
 have hb:Below w1.heap.size w1 v0:=by rw [hv0]; exact (Below.refl _ _).drew
 rw [← hv0] at hHeld ⊢
 clear hv0
 have HB:=Lib.hid (HB.out.trans (hb.mono HB.out.size))
 clear hb s0 s1 s2 s3 s4 s5 s6
 obtain ⟨s0,s1,s2,s3,s4,s5,s6⟩:=HK.out _ HB.out
 refine tkR 0 rfl ?_
 refine tkR 1 rfl ?_
 refine tkR 2 rfl ?_
 refine tkR 3 rfl ?_
 refine tkR 5 rfl ?_
 refine tkR 6 rfl ?_
 refine clR 4 rfl fun K hK => ?_
 go_simp
 refine (HTO.out _).mono ?_
 rintro e w11 ⟨rfl,hb⟩
 have HB:=Lib.hid (HB.out.trans (hb.mono HB.out.size))
 clear hb s0 s1 s2 s3 s4 s5 s6
 obtain ⟨s0,s1,s2,s3,s4,s5,s6⟩:=HK.out _ HB.out
 refine hK.out _ _ ?_ (fun hHeld => ?_)
 ·(try dsimp only)
  exact ⟨s3,s4,s5,s6⟩
 clear hK K
 (try simp only [Act.put,sqA,sqB,sqC])
 refine clR 7 rfl fun K hK => ?_
 go_simp
 refine (HNEW.out _ LO b (HMA.out _ HB.out).1 (HMA.out _ HB.out).2).mono ?_
 rintro e w12 ⟨rfl,hb⟩
 have HB:=Lib.hid (HB.out.trans (hb.mono HB.out.size))
 clear hb s0 s1 s2 s3 s4 s5 s6
 obtain ⟨s0,s1,s2,s3,s4,s5,s6⟩:=HK.out _ HB.out
 refine hK.out _ _ ?_ (fun hHeld => ?_)
 ·(try dsimp only)
  exact ⟨s3,s4,s5,s6⟩
 clear hK K
 refine tkR 8 rfl ?_
 refine tkR 9 rfl ?_
 refine tkR 10 rfl ?_
 refine tkR 11 rfl ?_
 refine tkR 12 rfl ?_
 refine wpAnyH_done (by kernel_rfl) ?_ _
 clear hHeld
 go_wp2_with (first | go_big_skip | fail)
 refine (HR2.out _).mono ?_
 rintro e w13 ⟨rfl,hb⟩
 have HB:=Lib.hid (HB.out.trans (hb.mono HB.out.size))
 clear hb s0 s1 s2 s3 s4 s5 s6
 obtain ⟨s0,s1,s2,s3,s4,s5,s6⟩:=HK.out _ HB.out
 go_wp2_with (first | go_big_skip | fail)
 refine (HR2.out _).mono ?_
 rintro e w14 ⟨rfl,hb⟩
 have HB:=Lib.hid (HB.out.trans (hb.mono HB.out.size))
 clear hb s0 s1 s2 s3 s4 s5 s6
 obtain ⟨s0,s1,s2,s3,s4,s5,s6⟩:=HK.out _ HB.out
 go_wp2_with (first | go_big_skip | fail)
 refine wp_region_held_drew (S:=fun w' => w'.cell? ⟨W.heap.size,3,none⟩=some (.int .i64 t0)∧w'.cell? ⟨W.heap.size + 1,0,none⟩=some (.int .i64 (S:Nat))∧w'.cell? ⟨W.heap.size + 1,1,none⟩=some (.int .i64 (B:Nat))∧w'.cell? ⟨W.heap.size + 1,2,none⟩=some (.int .i64 (n:Nat))) (by kernel_rfl) ?_ (fun hHeld => ?_)
 ·exact ⟨s3,s4,s5,s6⟩
 obtain ⟨v0,hv0⟩:∃ w',w'=w14.drew:=⟨_,rfl⟩
 have hb:Below w14.heap.size w14 v0:=by rw [hv0]; exact (Below.refl _ _).drew
 rw [← hv0] at hHeld ⊢
 clear hv0
 have HB:=Lib.hid (HB.out.trans (hb.mono HB.out.size))
 clear hb s0 s1 s2 s3 s4 s5 s6
 obtain ⟨s0,s1,s2,s3,s4,s5,s6⟩:=HK.out _ HB.out
 refine clR 0 rfl fun K hK => ?_
 go_simp
 refine (HTOLD.out _).mono ?_
 rintro e w15 ⟨rfl,hb⟩
 have HB:=Lib.hid (HB.out.trans (hb.mono HB.out.size))
 clear hb s0 s1 s2 s3 s4 s5 s6
 obtain ⟨s0,s1,s2,s3,s4,s5,s6⟩:=HK.out _ HB.out
 refine hK.out _ _ ?_ (fun hHeld => ?_)
 ·(try dsimp only)
  exact ⟨s3,s4,s5,s6⟩
 clear hK K
 refine tkR 1 rfl ?_
 refine tkR 2 rfl ?_
 refine tkR 3 rfl ?_
 refine tkR 4 rfl ?_
 refine tkR 5 rfl ?_
 refine tkR 6 rfl ?_
 refine tkR 7 rfl ?_
 refine tkR 8 rfl ?_
 refine tkR 9 rfl ?_
 refine tkR 10 rfl ?_
 refine tkR 11 rfl ?_
 refine tkR 12 rfl ?_
 refine tkR 13 rfl ?_
 refine tkR 14 rfl ?_
 refine tkR 15 rfl ?_
 refine tkR 16 rfl ?_
 refine tkR 17 rfl ?_
 refine tkR 18 rfl ?_
 refine tkR 19 rfl ?_
 refine tkR 20 rfl ?_
 refine tkR 21 rfl ?_
 refine tkR 22 rfl ?_
 refine tkR 23 rfl ?_
 refine tkR 26 rfl ?_
 refine clR 24 rfl fun K hK => ?_
 go_simp
 refine (HTO.out _).mono ?_
 rintro e w16 ⟨rfl,hb⟩
 have HB:=Lib.hid (HB.out.trans (hb.mono HB.out.size))
 clear hb s0 s1 s2 s3 s4 s5 s6
 obtain ⟨s0,s1,s2,s3,s4,s5,s6⟩:=HK.out _ HB.out
 refine hK.out _ _ ?_ (fun hHeld => ?_)
 ·(try dsimp only)
  exact ⟨s3,s4,s5,s6⟩
 clear hK K
 (try simp only [Act.put,sqA,sqB,sqC])
 refine clR 25 rfl fun K hK => ?_
 go_simp
 refine (HC1.out _).mono ?_
 rintro e w17 ⟨rfl,hb⟩
 have HB:=Lib.hid (HB.out.trans (hb.mono HB.out.size))
 clear hb s0 s1 s2 s3 s4 s5 s6
 obtain ⟨s0,s1,s2,s3,s4,s5,s6⟩:=HK.out _ HB.out
 refine hK.out _ _ ?_ (fun hHeld => ?_)
 ·(try dsimp only)
  exact ⟨s3,s4,s5,s6⟩
 clear hK K
 (try simp only [Act.put,sqA,sqB,sqC])
 refine clR 27 rfl fun K hK => ?_
 go_simp
 refine (HC2.out _).mono ?_
 rintro e w18 ⟨rfl,hb⟩
 have HB:=Lib.hid (HB.out.trans (hb.mono HB.out.size))
 clear hb s0 s1 s2 s3 s4 s5 s6
 obtain ⟨s0,s1,s2,s3,s4,s5,s6⟩:=HK.out _ HB.out
 refine hK.out _ _ ?_ (fun hHeld => ?_)
 ·(try dsimp only)
  exact ⟨s3,s4,s5,s6⟩
 clear hK K
 refine tkR 28 rfl ?_
 refine tkR 29 rfl ?_
 refine tkR 30 rfl ?_
 refine tkR 31 rfl ?_
 refine tkR 34 rfl ?_
 refine clR 32 rfl fun K hK => ?_
 go_simp
 refine (HTO.out _).mono ?_
 rintro e w19 ⟨rfl,hb⟩
 have HB:=Lib.hid (HB.out.trans (hb.mono HB.out.size))
 clear hb s0 s1 s2 s3 s4 s5 s6
 obtain ⟨s0,s1,s2,s3,s4,s5,s6⟩:=HK.out _ HB.out
 refine hK.out _ _ ?_ (fun hHeld => ?_)
 ·(try dsimp only)
  exact ⟨s3,s4,s5,s6⟩
 clear hK K
 (try simp only [Act.put,sqA,sqB,sqC])
 refine clR 33 rfl fun K hK => ?_
 go_simp
 refine (HLK.out _).mono ?_
 rintro e w20 ⟨rfl,hb⟩
 have HB:=Lib.hid (HB.out.trans (hb.mono HB.out.size))
 clear hb s0 s1 s2 s3 s4 s5 s6
 obtain ⟨s0,s1,s2,s3,s4,s5,s6⟩:=HK.out _ HB.out
 refine hK.out _ _ ?_ (fun hHeld => ?_)
 ·(try dsimp only)
  exact ⟨s3,s4,s5,s6⟩
 clear hK K
 refine tkR 35 rfl ?_
 refine tkR 36 rfl ?_
 refine tkR 37 rfl ?_
 refine tkR 38 rfl ?_
 refine tkR 40 rfl ?_
 refine tkR 41 rfl ?_
 refine tkR 43 rfl ?_
 refine tkR 44 rfl ?_
 refine tkR 45 rfl ?_
 refine clR 39 rfl fun K hK => ?_
 go_simp
 refine (HTO.out _).mono ?_
 rintro e w21 ⟨rfl,hb⟩
 have HB:=Lib.hid (HB.out.trans (hb.mono HB.out.size))
 clear hb s0 s1 s2 s3 s4 s5 s6
 obtain ⟨s0,s1,s2,s3,s4,s5,s6⟩:=HK.out _ HB.out
 refine hK.out _ _ ?_ (fun hHeld => ?_)
 ·(try dsimp only)
  exact ⟨s3,s4,s5,s6⟩
 clear hK K
 (try simp only [Act.put,sqA,sqB,sqC])
 refine clR 42 rfl fun K hK => ?_
 go_simp
 refine (HB1.out _).mono ?_
 rintro e w22 ⟨rfl,hb⟩
 have HB:=Lib.hid (HB.out.trans (hb.mono HB.out.size))
 clear hb s0 s1 s2 s3 s4 s5 s6
 obtain ⟨s0,s1,s2,s3,s4,s5,s6⟩:=HK.out _ HB.out
 refine hK.out _ _ ?_ (fun hHeld => ?_)
 ·(try dsimp only)
  exact ⟨s3,s4,s5,s6⟩
 clear hK K
 (try simp only [Act.put,sqA,sqB,sqC])
 refine clR 46 rfl fun K hK => ?_
 go_simp
 refine (HB2.out _).mono ?_
 rintro e w23 ⟨rfl,hb⟩
 have HB:=Lib.hid (HB.out.trans (hb.mono HB.out.size))
 clear hb s0 s1 s2 s3 s4 s5 s6
 obtain ⟨s0,s1,s2,s3,s4,s5,s6⟩:=HK.out _ HB.out
 refine hK.out _ _ ?_ (fun hHeld => ?_)
 ·(try dsimp only)
  exact ⟨s3,s4,s5,s6⟩
 clear hK K
 refine tkR 47 rfl ?_
 refine tkR 48 rfl ?_
 refine wpAnyH_done (by kernel_rfl) ?_ _
 clear hHeld
 go_wp2_with (first | go_big_skip | fail)
 refine (HFX.out _).mono ?_
 rintro e w24 ⟨rfl,hb⟩
 have HB:=Lib.hid (HB.out.trans (hb.mono HB.out.size))
 clear hb s0 s1 s2 s3 s4 s5 s6
 obtain ⟨s0,s1,s2,s3,s4,s5,s6⟩:=HK.out _ HB.out
 go_wp2_with (first | go_big_skip | fail)
 refine (HTX.out _).mono ?_
 rintro e w25 ⟨rfl,hb⟩
 have HB:=Lib.hid (HB.out.trans (hb.mono HB.out.size))
 clear hb s0 s1 s2 s3 s4 s5 s6
 obtain ⟨s0,s1,s2,s3,s4,s5,s6⟩:=HK.out _ HB.out
 go_wp2_with (first | go_big_skip | fail)
 refine (HNN.out _ _ _).mono ?_
 rintro e w26 ⟨rfl,hb⟩
 have HB:=Lib.hid (HB.out.trans (hb.mono HB.out.size))
 clear hb s0 s1 s2 s3 s4 s5 s6
 obtain ⟨s0,s1,s2,s3,s4,s5,s6⟩:=HK.out _ HB.out
 go_wp2_with (first | go_big_skip | fail)
 refine (HTK.out _).mono ?_
 rintro e w27 ⟨rfl,hb⟩
 have HB:=Lib.hid (HB.out.trans (hb.mono HB.out.size))
 clear hb s0 s1 s2 s3 s4 s5 s6
 obtain ⟨s0,s1,s2,s3,s4,s5,s6⟩:=HK.out _ HB.out
 go_wp2_with (first | go_big_skip | fail)
 refine (HLN.out _).mono ?_
 rintro e w28 ⟨rfl,hb⟩
 have HB:=Lib.hid (HB.out.trans (hb.mono HB.out.size))
 clear hb s0 s1 s2 s3 s4 s5 s6
 obtain ⟨s0,s1,s2,s3,s4,s5,s6⟩:=HK.out _ HB.out
 go_wp2_with (first | go_big_skip | fail)
 refine (HBN.out _).mono ?_
 rintro e w29 ⟨rfl,hb⟩
 have HB:=Lib.hid (HB.out.trans (hb.mono HB.out.size))
 clear hb s0 s1 s2 s3 s4 s5 s6
 obtain ⟨s0,s1,s2,s3,s4,s5,s6⟩:=HK.out _ HB.out
 go_wp2_with (first | go_big_skip | fail)
 refine (HStep.out _).mono ?_
 rintro e w30 ⟨rfl,hb⟩
 have HB:=Lib.hid (HB.out.trans (hb.mono HB.out.size))
 clear hb s0 s1 s2 s3 s4 s5 s6
 obtain ⟨s0,s1,s2,s3,s4,s5,s6⟩:=HK.out _ HB.out
 go_wp2_with (first | go_big_skip | fail)
 refine (HOver.out _).mono ?_
 rintro e w31 ⟨rfl,hb⟩
 have HB:=Lib.hid (HB.out.trans (hb.mono HB.out.size))
 clear hb s0 s1 s2 s3 s4 s5 s6
 obtain ⟨s0,s1,s2,s3,s4,s5,s6⟩:=HK.out _ HB.out
 go_wp2_with (first | go_big_skip | fail)
 refine (HMark.out _).mono ?_
 rintro e w32 ⟨rfl,hb⟩
 have HB:=Lib.hid (HB.out.trans (hb.mono HB.out.size))
 clear hb s0 s1 s2 s3 s4 s5 s6
 obtain ⟨s0,s1,s2,s3,s4,s5,s6⟩:=HK.out _ HB.out
 go_wp2_with (first | go_big_skip | fail)
 refine (HAnswer.out _).mono ?_
 rintro e w33 ⟨rfl,hb⟩
 have HB:=Lib.hid (HB.out.trans (hb.mono HB.out.size))
 clear hb s0 s1 s2 s3 s4 s5 s6
 obtain ⟨s0,s1,s2,s3,s4,s5,s6⟩:=HK.out _ HB.out
 go_wp2_with (first | go_big_skip | fail)
 refine (HTries.out _).mono ?_
 rintro e w34 ⟨rfl,hb⟩
 have HB:=Lib.hid (HB.out.trans (hb.mono HB.out.size))
 clear hb s0 s1 s2 s3 s4 s5 s6
 obtain ⟨s0,s1,s2,s3,s4,s5,s6⟩:=HK.out _ HB.out
 go_wp2
 go_ret
 exact ⟨by first | rfl | (simp; done),HW1.out.trans (HB.out.mono HW1.out.size)⟩
end Go.Proofs.Ythloabdfkakehaa
