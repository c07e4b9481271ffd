/-
  Words and contracts that a statement's proof rests on (NwD). No statement is proved here.
-/
import Derived.WalkMore
import Derived.WalkKit
import Derived.Test.YthloabdfkakehaaBase2
import Derived.Test.YthloabdfkakehaaPlainFrame
import Derived.Test.YthloabdfkakehaaPlainFk
import Derived.Test.YthloabdfkakehaaFgT
import Derived.Test.YthloabdfkakehaaFeI
import Derived.Test.YthloabdfkakehaaFeC
import Derived.Test.YthloabdfkakehaaFeK
import Derived.Test.YthloabdfkakehaaFeL
set_option linter.unusedVariables false
set_option linter.unusedSimpArgs false
namespace Go.Proofs.Ythloabdfkakehaa
open Go.RowKit
set_option maxRecDepth 20000 in
set_option maxHeartbeats 25600000 in
theorem news_4 (W:World) (S B n T:Nat) (a1 a2:Int) (b1:-9223372036854775808≤a1∧a1≤9223372036854775807) (b2:-9223372036854775808≤a2∧a2≤9223372036854775807) (hS:1≤S∧S≤8) (hB:1≤B∧B≤16) (hn:1≤n∧n≤8) (hT:1≤T∧T≤8) (g0:0≤a1) (g1:0≤a2) (g2:a1≤300) (g3:a2≤3) (g4:((S * B * (1 + 2 * n):Nat):Int)≤300 - a1) (g5:(S:Int)≤3 - a2):Calls Try.prog 3 #[.agg #[.int .i64 (S:Int),.int .i64 (B:Int),.int .i64 (n:Int),.int .i64 (T:Int)],.int .i64 a1,.int .i64 a2] W (Says (.bool true) W):=by
 have HM:=Lib.hid fun V => show Calls Try.prog 6 #[.int .i64 300,.int .i64 3] V fun e w' => ∃ b,e=.returned (.tuple #[.pointer (some ⟨b,0,none⟩),.int .i64 0])∧MemAt w' 82 V.heap.size b (newS 300 3)∧Below V.heap.size V w' from mem_New 300 3 (by omega) (by omega) V
 have HTOLD:=Lib.hid fun V => law12_told V
 have HTK:=Lib.hid fun V => law8_ToK 1 2 V
 have HTB:=Lib.hid fun V => law8_ToK 0 2 V
 have HLN:=Lib.hid fun V => show Calls Try.prog 17 #[.pointer none,.int .i64 0,.agg #[.int .i64 1,.int .u64 2]] V (Says (.pointer none) V) from fdb_LookupNil 0 1 2
 have HBN:=Lib.hid fun V => show Calls Try.prog 19 #[.pointer none,.int .i64 0,.int .i64 0] V (Says (.slice none 0 0) V) from fdb_BucketNil 0 0
 have HStep:=Lib.hid fun V => none_Step V
 have HOver:=Lib.hid fun V => none_Over V
 have HMark:=Lib.hid fun V => none_Mark V
 have HAnswer:=Lib.hid fun V => none_Answer V
 have HTries:=Lib.hid fun V => none_Tries V
 obtain ⟨S9,_,_,hSw⟩:=fix_sizeK (S:Int) 8 (by omega) (by omega)
 obtain ⟨B9,_,_,hBw⟩:=fix_sizeK (B:Int) 16 (by omega) (by omega)
 obtain ⟨n9,_,_,hnw⟩:=fix_sizeK (n:Int) 8 (by omega) (by omega)
 have HFX:=Lib.hid fun V => ref11_FixK (S:Int) (B:Int) (n:Int) S9 B9 n9 hSw hBw hnw V
 have HTX:=Lib.hid fun V => law11_To (S9:Int) (B9:Int) (n9:Int) V
 have HNN:=Lib.hid fun V (lo:Int) (lk:Int) => show Calls Try.prog 7 #[.pointer none,.int .i64 lo,.int .i64 lk,.agg #[.int .i64 (S9:Nat),.int .i64 (B9:Nat),.int .i64 (n9:Nat)],.int .i64 1] V (Says (.tuple #[.pointer none,.int .i64 1]) V) from fdb_NewNil (w:=V) (S9:Int) (B9:Int) (n9:Int) 1 lo lk
 have HTO:=Lib.hid fun V => law11_To (S:Int) (B:Int) (n:Int) V
 have HR2:=Lib.hid fun V => ref11_Right (S:Int) (B:Int) (n:Int) V
 clear hSw hBw hnw
 have hr:=rightS_nat hS hB hn
 rw [hr] at HR2
 obtain ⟨CE,hCE⟩:∃ CE,CE=S * B * (1 + 2 * n):=⟨_,rfl⟩
 have bCE:CE≤2176:=by rw [hCE]; exact Nat.mul_le_mul (Nat.mul_le_mul hS.2 hB.2:S * B≤128) (show 1 + 2 * n≤17 by omega)
 have HC1:=Lib.hid fun V => fdb_CellsY S B n hS hB hn V
 have HC2:=Lib.hid fun V => ref12_CellsY S B n hS hB hn V
 have HLK:=Lib.hid fun V => fdb_LocksY S B n hS hB hn V
 rw [← hCE] at HC1 HC2
 rw [← hCE] at g4
 have HB1:=Lib.hid fun V => fdb_BoundY S B n hS hB hn T hT V
 have HB2:=Lib.hid fun V => ref12_BoundY S B n hS hB hn T hT V
 generalize 16 + T * (4 + 4 * n) + S * (4 + B * (8 + 8 * n))=BO at *
 have d1:decide (1≤(T:Int))=true:=decide_eq_true (by omega)
 have d2:decide ((T:Int)≤8)=true:=decide_eq_true (by omega)
 have hfit:FFit ⟨a1.toNat,a2.toNat,S,B,n,T⟩ (newS 300 3).C (newS 300 3).L:=⟨hS,hB,hn,hT,by show a1.toNat + S * B * (1 + 2 * n)≤300; rw [← hCE]; omega,by show a2.toNat + S≤3; omega,by show (300:Nat)≤_; decide,by show (3:Nat)≤_; decide⟩
 obtain ⟨DB,hDB⟩:∃ DB,DB=300 - a1:=⟨_,rfl⟩
 have x1:wrap64 (300 - a1)=DB:=by rw [hDB]; exact IntWalk.wrap64_in _ (by omega)
 have x2:IntKind.i64.wrap (300 - a1)=DB:=by rw [hDB]; exact IntWalk.i64_in _ (by clear x1; omega)
 obtain ⟨DL,hDL⟩:∃ DL,DL=3 - a2:=⟨_,rfl⟩
 have x3:wrap64 (3 - a2)=DL:=by rw [hDL]; exact IntWalk.wrap64_in _ (by clear x1 x2; omega)
 have x4:IntKind.i64.wrap (3 - a2)=DL:=by rw [hDL]; exact IntWalk.i64_in _ (by clear x1 x2 x3; omega)
 have d3:decide (0≤a1)=true:=decide_eq_true (by clear x1 x2 x3 x4; omega)
 have d4:decide (0≤a2)=true:=decide_eq_true (by clear x1 x2 x3 x4; omega)
 have d5:decide (a1≤300)=true:=decide_eq_true (by clear x1 x2 x3 x4; omega)
 have d6:decide (a2≤3)=true:=decide_eq_true (by clear x1 x2 x3 x4; omega)
 have d7:decide ((CE:Int)≤DB)=true:=decide_eq_true (by clear x1 x2 x3 x4; omega)
 have d8:decide ((S:Int)≤DL)=true:=decide_eq_true (by clear x1 x2 x3 x4; omega)
 have HNEW:=Lib.hid fun V lo b (hlo:lo + 3≤V.heap.size) (hm:MemAt V 82 lo b (newS 300 3)) => show Calls Try.prog 7 #[.pointer (some ⟨b,0,none⟩),.int .i64 a1,.int .i64 a2,.agg #[.int .i64 (S:Nat),.int .i64 (B:Nat),.int .i64 (n:Nat)],.int .i64 (T:Nat)] V fun e w' => ∃ fb,e=.returned (.tuple #[.pointer (some ⟨fb,0,none⟩),.int .i64 0])∧V.heap.size≤fb∧FdbAt w' lo b fb ⟨a1.toNat,a2.toNat,S,B,n,T⟩ (newS 300 3)∧Below V.heap.size V w' from by
  have h9:=fdb_NewY hm ⟨a1.toNat,a2.toNat,S,B,n,T⟩ hfit hlo
  dsimp only at h9
  rw [Int.toNat_of_nonneg g0,Int.toNat_of_nonneg g1] at h9
  exact h9
 obtain ⟨F,hF⟩:∃ F:FcS,F=⟨a1.toNat,a2.toNat,S,B,n,T⟩:=⟨_,rfl⟩
 rw [← hF] at HNEW
 have hFS:F.S=S:=by rw [hF]
 have hFB:F.B=B:=by rw [hF]
 have HQ1:=Lib.hid fun V {lo b fb:Nat} (hf:FdbAt V lo b fb F (newS 300 3)) => show Calls Try.prog 17 #[.pointer (some ⟨fb,0,none⟩),.int .i64 (-1),.agg #[.int .i64 1,.int .u64 2]] V (Says (.pointer none) V) from fdb_LookupW hf (-1) (by decide) 1 2 (by decide) (by decide +kernel)
 have HQ2:=Lib.hid fun V {fb:Nat} => show Calls Try.prog 17 #[.pointer (some ⟨fb,0,none⟩),.int .i64 0,.agg #[.int .i64 0,.int .u64 2]] V (Says (.pointer none) V) from fdb_LookupN (w:=V) (fb:=fb) 0 0 2 (by decide) (by decide +kernel)
 have HQ3:=Lib.hid fun V {fb:Nat} => show Calls Try.prog 25 #[.pointer (some ⟨fb,0,none⟩),.int .i64 0,.agg #[.int .i64 1,.int .u64 2],.int .i64 64,.int .u32 0] V (Says (.pointer none) V) from fdb_LearnP (w:=V) (fb:=fb) 0 1 2 64 (by decide) 0
 have HQ4:=Lib.hid fun V {fb:Nat} => show Calls Try.prog 26 #[.pointer (some ⟨fb,0,none⟩),.int .i64 0,.agg #[.int .i64 1,.int .u64 2],.int .i64 (-1),.int .u32 0] V (Says (.pointer none) V) from fdb_OrderP (w:=V) (fb:=fb) 0 1 2 (-1) (by decide) 0
 have HQ5:=Lib.hid fun V {fb:Nat} => show Calls Try.prog 27 #[.pointer (some ⟨fb,0,none⟩),.int .i64 0,.agg #[.int .i64 0,.int .u64 2]] V (Says (.pointer none) V) from fdb_DropN (w:=V) (fb:=fb) 0 0 2 (by decide) (by decide +kernel)
 have HQ6:=Lib.hid fun V {lo b fb:Nat} (hf:FdbAt V lo b fb F (newS 300 3)) => show Calls Try.prog 28 #[.pointer (some ⟨fb,0,none⟩),.int .i64 0,.int .i64 (S:Nat),.int .i64 0,.int .u32 0,.int .u32 0] V (Says (.pointer none) V) from fdb_AgeN hf 0 S 0 (.inr (by unfold hasF; rw [hFS]; simp)) 0 0
 have HQ7:=Lib.hid fun V {lo b fb:Nat} (hf:FdbAt V lo b fb F (newS 300 3)) => show Calls Try.prog 28 #[.pointer (some ⟨fb,0,none⟩),.int .i64 0,.int .i64 0,.int .i64 (B:Nat),.int .u32 0,.int .u32 0] V (Says (.pointer none) V) from fdb_AgeN hf 0 0 B (.inr (by unfold hasF; rw [hFB]; simp)) 0 0
 have HQ8:=Lib.hid fun V {lo b fb:Nat} (hf:FdbAt V lo b fb F (newS 300 3)) => show Calls Try.prog 29 #[.pointer (some ⟨fb,0,none⟩),.int .i64 (-1),.agg #[.int .i64 0,.int .i64 0]] V (Says (.pointer none) V) from fdb_FlushW hf (-1) (by decide) 0 0
 have HQ9:=Lib.hid fun V {lo b fb:Nat} (hf:FdbAt V lo b fb F (newS 300 3)) => show Calls Try.prog 17 #[.pointer (some ⟨fb,0,none⟩),.int .i64 0,.agg #[.int .i64 1,.int .u64 2]] V (Began lo b fb V.heap.size noE F (newS 300 3) (newA 0 (.look 1 2) (F.lk + shN F 1 2) 1 (shN F 1 2 * F.B + buN F 1 2) 1 1) V) from fdb_LookupY hf 0 (by decide) 1 2 (by decide) (by decide +kernel) (Nat.le_refl _)
 have HQ10:=Lib.hid fun V {lo b:Nat} (hm:MemAt V 82 lo b (newS 300 3)) => show Calls Try.prog 30 #[.pointer (some ⟨b,0,none⟩)] V fun e w' => e=.returned (.int .i64 0)∧V=w' from mem_Time hm
 clear hr hS hB hn hCE bCE hT g0 g1 g2 g3 g4 g5 hDB hDL hfit hF hFS hFB b1 b2
 go_enter Try.func3,Try.ntmps3
 go_wp2_with fail
 refine (HM.out _).mono ?_
 rintro e w1 ⟨b,rfl,hm,hb⟩
 have s0:w1.cell? ⟨W.heap.size,0,none⟩=some (.int .i64 (S:Nat)):=(hb.cell (p:=⟨W.heap.size,0,none⟩) (by first | (simp; done) | (simp; omega))).trans (by simp [go_sem])
 have s1:w1.cell? ⟨W.heap.size,1,none⟩=some (.int .i64 (B:Nat)):=(hb.cell (p:=⟨W.heap.size,1,none⟩) (by first | (simp; done) | (simp; omega))).trans (by simp [go_sem])
 have s2:w1.cell? ⟨W.heap.size,2,none⟩=some (.int .i64 (n:Nat)):=(hb.cell (p:=⟨W.heap.size,2,none⟩) (by first | (simp; done) | (simp; omega))).trans (by simp [go_sem])
 have s3:w1.cell? ⟨W.heap.size,3,none⟩=some (.int .i64 (T:Nat)):=(hb.cell (p:=⟨W.heap.size,3,none⟩) (by first | (simp; done) | (simp; omega))).trans (by simp [go_sem])
 have s4:w1.cell? ⟨W.heap.size + 1,0,none⟩=some (.int .i64 (S:Nat)):=(hb.cell (p:=⟨W.heap.size + 1,0,none⟩) (by first | (simp; done) | (simp; omega))).trans (by simp [go_sem])
 have s5:w1.cell? ⟨W.heap.size + 1,1,none⟩=some (.int .i64 (B:Nat)):=(hb.cell (p:=⟨W.heap.size + 1,1,none⟩) (by first | (simp; done) | (simp; omega))).trans (by simp [go_sem])
 have s6:w1.cell? ⟨W.heap.size + 1,2,none⟩=some (.int .i64 (n:Nat)):=(hb.cell (p:=⟨W.heap.size + 1,2,none⟩) (by first | (simp; done) | (simp; omega))).trans (by simp [go_sem])
 have hz1:W.heap.size + 1 < w1.heap.size:=Nat.lt_of_lt_of_le (by first | (simp; done) | (simp; omega)) hb.size
 have HW1:Hid (Below W.heap.size W w1):=(((Below.refl W.heap.size W).alloc (Nat.le_refl _) _).alloc (by first | (simp; done) | (simp; omega)) _).trans (hb.mono (by first | (simp; done) | (simp; omega)))
 have HB:Hid (Below w1.heap.size w1 w1):=Below.refl _ _
 have HK:=Lib.hid fun V (hb:Below w1.heap.size w1 V) => show V.cell? ⟨W.heap.size,0,none⟩=some (.int .i64 (S:Nat))∧V.cell? ⟨W.heap.size,1,none⟩=some (.int .i64 (B:Nat))∧V.cell? ⟨W.heap.size,2,none⟩=some (.int .i64 (n:Nat))∧V.cell? ⟨W.heap.size,3,none⟩=some (.int .i64 (T:Nat))∧V.cell? ⟨W.heap.size + 1,0,none⟩=some (.int .i64 (S:Nat))∧V.cell? ⟨W.heap.size + 1,1,none⟩=some (.int .i64 (B:Nat))∧V.cell? ⟨W.heap.size + 1,2,none⟩=some (.int .i64 (n:Nat)) from ⟨(hb.cell (p:=⟨W.heap.size,0,none⟩) (by show W.heap.size < _; omega)).trans s0,(hb.cell (p:=⟨W.heap.size,1,none⟩) (by show W.heap.size < _; omega)).trans s1,(hb.cell (p:=⟨W.heap.size,2,none⟩) (by show W.heap.size < _; omega)).trans s2,(hb.cell (p:=⟨W.heap.size,3,none⟩) (by show W.heap.size < _; omega)).trans s3,(hb.cell (p:=⟨W.heap.size + 1,0,none⟩) (by show W.heap.size + 1 < _; omega)).trans s4,(hb.cell (p:=⟨W.heap.size + 1,1,none⟩) (by show W.heap.size + 1 < _; omega)).trans s5,(hb.cell (p:=⟨W.heap.size + 1,2,none⟩) (by show W.heap.size + 1 < _; omega)).trans s6⟩
 obtain ⟨LO,hLO⟩:∃ LO,LO + 3≤w1.heap.size∧MemAt w1 82 LO b (newS 300 3):=⟨_,mem_lo hm,hm⟩
 have HMA:=Lib.hid fun V (hb:Below w1.heap.size w1 V) => show LO + 3≤V.heap.size∧MemAt V 82 LO b (newS 300 3) from ⟨Nat.le_trans hLO.1 hb.size,hLO.2.below hb⟩
 clear hb hm hLO hz1
 go_wp2_with fail
 refine wp_region_held_drew (S:=fun w' => w'.cell? ⟨W.heap.size,3,none⟩=some (.int .i64 (T:Nat))∧w'.cell? ⟨W.heap.size + 1,0,none⟩=some (.int .i64 (S:Nat))∧w'.cell? ⟨W.heap.size + 1,1,none⟩=some (.int .i64 (B:Nat))∧w'.cell? ⟨W.heap.size + 1,2,none⟩=some (.int .i64 (n:Nat))) (by kernel_rfl) ?_ (fun hHeld => ?_)
 ·exact ⟨s3,s4,s5,s6⟩
 obtain ⟨v0,hv0⟩:∃ w',w'=w1.drew:=⟨_,rfl⟩
 have hb:Below w1.heap.size w1 v0:=by rw [hv0]; exact (Below.refl _ _).drew
 rw [← hv0] at hHeld ⊢
 clear hv0
 have HB:=Lib.hid (HB.out.trans (hb.mono HB.out.size))
 clear hb s0 s1 s2 s3 s4 s5 s6
 obtain ⟨s0,s1,s2,s3,s4,s5,s6⟩:=HK.out _ HB.out
 refine tkR 0 rfl ?_
 refine tkR 1 rfl ?_
 refine tkR 2 rfl ?_
 refine tkR 3 rfl ?_
 refine tkR 5 rfl ?_
 refine tkR 6 rfl ?_
 refine clR 4 rfl fun K hK => ?_
 go_simp
 refine (HTO.out _).mono ?_
 rintro e w11 ⟨rfl,hb⟩
 have HB:=Lib.hid (HB.out.trans (hb.mono HB.out.size))
 clear hb s0 s1 s2 s3 s4 s5 s6
 obtain ⟨s0,s1,s2,s3,s4,s5,s6⟩:=HK.out _ HB.out
 refine hK.out _ _ ?_ (fun hHeld => ?_)
 ·(try dsimp only)
  exact ⟨s3,s4,s5,s6⟩
 clear hK K
 (try simp only [Act.put,sqA,sqB,sqC])
 refine clR 7 rfl fun K hK => ?_
 go_simp
 refine (HNEW.out _ LO b (HMA.out _ HB.out).1 (HMA.out _ HB.out).2).mono ?_
 rintro e w12 ⟨fb,rfl,hfb,hfd,hb⟩
 have HFD:=Lib.hid hfd
 clear hfb hfd
 have HB:=Lib.hid (HB.out.trans (hb.mono HB.out.size))
 clear hb s0 s1 s2 s3 s4 s5 s6
 obtain ⟨s0,s1,s2,s3,s4,s5,s6⟩:=HK.out _ HB.out
 have HW1:=Lib.hid (HW1.out.trans (HB.out.mono HW1.out.size))
 have HK:=Lib.hid fun V (hb:Below w12.heap.size w12 V) => HK.out V (HB.out.trans (hb.mono HB.out.size))
 have HMA:=Lib.hid fun V (hb:Below w12.heap.size w12 V) => HMA.out V (HB.out.trans (hb.mono HB.out.size))
 have HB:Hid (Below w12.heap.size w12 w12):=Below.refl _ _
 have HFA:=Lib.hid fun V (hb:Below w12.heap.size w12 V) => HFD.out.below hb
 refine hK.out _ _ ?_ (fun hHeld => ?_)
 ·(try dsimp only)
  exact ⟨s3,s4,s5,s6⟩
 clear hK K
 refine tkR 8 rfl ?_
 refine tkR 9 rfl ?_
 refine tkR 10 rfl ?_
 refine tkR 11 rfl ?_
 refine tkR 12 rfl ?_
 refine wpAnyH_done (by kernel_rfl) ?_ _
 clear hHeld
 go_wp2_with (first | go_big_skip | fail)
 refine (HR2.out _).mono ?_
 rintro e w13 ⟨rfl,hb⟩
 have HB:=Lib.hid (HB.out.trans (hb.mono HB.out.size))
 clear hb s0 s1 s2 s3 s4 s5 s6
 obtain ⟨s0,s1,s2,s3,s4,s5,s6⟩:=HK.out _ HB.out
 go_wp2_with (first | go_big_skip | fail)
 refine (HC2.out _).mono ?_
 rintro e w14 ⟨rfl,hb⟩
 have HB:=Lib.hid (HB.out.trans (hb.mono HB.out.size))
 clear hb s0 s1 s2 s3 s4 s5 s6
 obtain ⟨s0,s1,s2,s3,s4,s5,s6⟩:=HK.out _ HB.out
 go_wp2_with (first | go_big_skip | fail)
 refine (HR2.out _).mono ?_
 rintro e w15 ⟨rfl,hb⟩
 have HB:=Lib.hid (HB.out.trans (hb.mono HB.out.size))
 clear hb s0 s1 s2 s3 s4 s5 s6
 obtain ⟨s0,s1,s2,s3,s4,s5,s6⟩:=HK.out _ HB.out
 go_wp2_with (first | go_big_skip | fail)
 refine wp_region_held_drew (S:=fun w' => w'.cell? ⟨W.heap.size,3,none⟩=some (.int .i64 (T:Nat))∧w'.cell? ⟨W.heap.size + 1,0,none⟩=some (.int .i64 (S:Nat))∧w'.cell? ⟨W.heap.size + 1,1,none⟩=some (.int .i64 (B:Nat))∧w'.cell? ⟨W.heap.size + 1,2,none⟩=some (.int .i64 (n:Nat))) (by kernel_rfl) ?_ (fun hHeld => ?_)
 ·exact ⟨s3,s4,s5,s6⟩
 obtain ⟨v0,hv0⟩:∃ w',w'=w15.drew:=⟨_,rfl⟩
 have hb:Below w15.heap.size w15 v0:=by rw [hv0]; exact (Below.refl _ _).drew
 rw [← hv0] at hHeld ⊢
 clear hv0
 have HB:=Lib.hid (HB.out.trans (hb.mono HB.out.size))
 clear hb s0 s1 s2 s3 s4 s5 s6
 obtain ⟨s0,s1,s2,s3,s4,s5,s6⟩:=HK.out _ HB.out
 refine clR 0 rfl fun K hK => ?_
 go_simp
 refine (HTOLD.out _).mono ?_
 rintro e w16 ⟨rfl,hb⟩
 have HB:=Lib.hid (HB.out.trans (hb.mono HB.out.size))
 clear hb s0 s1 s2 s3 s4 s5 s6
 obtain ⟨s0,s1,s2,s3,s4,s5,s6⟩:=HK.out _ HB.out
 refine hK.out _ _ ?_ (fun hHeld => ?_)
 ·(try dsimp only)
  exact ⟨s3,s4,s5,s6⟩
 clear hK K
 refine tkR 1 rfl ?_
 refine tkR 2 rfl ?_
 refine tkR 3 rfl ?_
 refine tkR 4 rfl ?_
 refine tkR 5 rfl ?_
 refine tkR 6 rfl ?_
 refine tkR 7 rfl ?_
 refine tkR 8 rfl ?_
 refine tkR 9 rfl ?_
 refine tkR 10 rfl ?_
 refine tkR 11 rfl ?_
 refine tkR 12 rfl ?_
 refine tkR 13 rfl ?_
 refine tkR 14 rfl ?_
 refine tkR 15 rfl ?_
 refine tkR 16 rfl ?_
 refine tkR 17 rfl ?_
 refine skR 18 rfl ?_
 refine skR 19 rfl ?_
 refine tkR 20 rfl ?_
 refine tkR 21 rfl ?_
 refine tkR 22 rfl ?_
 refine tkR 23 rfl ?_
 refine tkR 26 rfl ?_
 refine clR 24 rfl fun K hK => ?_
 go_simp
 refine (HTO.out _).mono ?_
 rintro e w17 ⟨rfl,hb⟩
 have HB:=Lib.hid (HB.out.trans (hb.mono HB.out.size))
 clear hb s0 s1 s2 s3 s4 s5 s6
 obtain ⟨s0,s1,s2,s3,s4,s5,s6⟩:=HK.out _ HB.out
 refine hK.out _ _ ?_ (fun hHeld => ?_)
 ·(try dsimp only)
  exact ⟨s3,s4,s5,s6⟩
 clear hK K
 (try simp only [Act.put,sqA,sqB,sqC])
 refine clR 25 rfl fun K hK => ?_
 go_simp
 refine (HC1.out _).mono ?_
 rintro e w18 ⟨rfl,hb⟩
 have HB:=Lib.hid (HB.out.trans (hb.mono HB.out.size))
 clear hb s0 s1 s2 s3 s4 s5 s6
 obtain ⟨s0,s1,s2,s3,s4,s5,s6⟩:=HK.out _ HB.out
 refine hK.out _ _ ?_ (fun hHeld => ?_)
 ·(try dsimp only)
  exact ⟨s3,s4,s5,s6⟩
 clear hK K
 (try simp only [Act.put,sqA,sqB,sqC])
 refine clR 27 rfl fun K hK => ?_
 go_simp
 refine (HC2.out _).mono ?_
 rintro e w19 ⟨rfl,hb⟩
 have HB:=Lib.hid (HB.out.trans (hb.mono HB.out.size))
 clear hb s0 s1 s2 s3 s4 s5 s6
 obtain ⟨s0,s1,s2,s3,s4,s5,s6⟩:=HK.out _ HB.out
 refine hK.out _ _ ?_ (fun hHeld => ?_)
 ·(try dsimp only)
  exact ⟨s3,s4,s5,s6⟩
 clear hK K
 refine tkR 28 rfl ?_
 refine tkR 29 rfl ?_
 refine tkR 30 rfl ?_
 refine tkR 31 rfl ?_
 refine tkR 34 rfl ?_
 refine clR 32 rfl fun K hK => ?_
 go_simp
 refine (HTO.out _).mono ?_
 rintro e w20 ⟨rfl,hb⟩
 have HB:=Lib.hid (HB.out.trans (hb.mono HB.out.size))
 clear hb s0 s1 s2 s3 s4 s5 s6
 obtain ⟨s0,s1,s2,s3,s4,s5,s6⟩:=HK.out _ HB.out
 refine hK.out _ _ ?_ (fun hHeld => ?_)
 ·(try dsimp only)
  exact ⟨s3,s4,s5,s6⟩
 clear hK K
 (try simp only [Act.put,sqA,sqB,sqC])
 refine clR 33 rfl fun K hK => ?_
 go_simp
 refine (HLK.out _).mono ?_
 rintro e w21 ⟨rfl,hb⟩
 have HB:=Lib.hid (HB.out.trans (hb.mono HB.out.size))
 clear hb s0 s1 s2 s3 s4 s5 s6
 obtain ⟨s0,s1,s2,s3,s4,s5,s6⟩:=HK.out _ HB.out
 refine hK.out _ _ ?_ (fun hHeld => ?_)
 ·(try dsimp only)
  exact ⟨s3,s4,s5,s6⟩
 clear hK K
 refine tkR 35 rfl ?_
 refine tkR 36 rfl ?_
 refine tkR 37 rfl ?_
 refine tkR 38 rfl ?_
 refine tkR 40 rfl ?_
 refine tkR 41 rfl ?_
 refine tkR 43 rfl ?_
 refine tkR 44 rfl ?_
 refine tkR 45 rfl ?_
 refine clR 39 rfl fun K hK => ?_
 go_simp
 refine (HTO.out _).mono ?_
 rintro e w22 ⟨rfl,hb⟩
 have HB:=Lib.hid (HB.out.trans (hb.mono HB.out.size))
 clear hb s0 s1 s2 s3 s4 s5 s6
 obtain ⟨s0,s1,s2,s3,s4,s5,s6⟩:=HK.out _ HB.out
 refine hK.out _ _ ?_ (fun hHeld => ?_)
 ·(try dsimp only)
  exact ⟨s3,s4,s5,s6⟩
 clear hK K
 (try simp only [Act.put,sqA,sqB,sqC])
 refine clR 42 rfl fun K hK => ?_
 go_simp
 refine (HB1.out _).mono ?_
 rintro e w23 ⟨rfl,hb⟩
 have HB:=Lib.hid (HB.out.trans (hb.mono HB.out.size))
 clear hb s0 s1 s2 s3 s4 s5 s6
 obtain ⟨s0,s1,s2,s3,s4,s5,s6⟩:=HK.out _ HB.out
 refine hK.out _ _ ?_ (fun hHeld => ?_)
 ·(try dsimp only)
  exact ⟨s3,s4,s5,s6⟩
 clear hK K
 (try simp only [Act.put,sqA,sqB,sqC])
 refine clR 46 rfl fun K hK => ?_
 go_simp
 refine (HB2.out _).mono ?_
 rintro e w24 ⟨rfl,hb⟩
 have HB:=Lib.hid (HB.out.trans (hb.mono HB.out.size))
 clear hb s0 s1 s2 s3 s4 s5 s6
 obtain ⟨s0,s1,s2,s3,s4,s5,s6⟩:=HK.out _ HB.out
 refine hK.out _ _ ?_ (fun hHeld => ?_)
 ·(try dsimp only)
  exact ⟨s3,s4,s5,s6⟩
 clear hK K
 refine tkR 47 rfl ?_
 refine tkR 48 rfl ?_
 refine wpAnyH_done (by kernel_rfl) ?_ _
 clear hHeld
 go_wp2_with (first | go_big_skip | fail)
 refine (HFX.out _).mono ?_
 rintro e w25 ⟨rfl,hb⟩
 have HB:=Lib.hid (HB.out.trans (hb.mono HB.out.size))
 clear hb s0 s1 s2 s3 s4 s5 s6
 obtain ⟨s0,s1,s2,s3,s4,s5,s6⟩:=HK.out _ HB.out
 go_wp2_with (first | go_big_skip | fail)
 refine (HTX.out _).mono ?_
 rintro e w26 ⟨rfl,hb⟩
 have HB:=Lib.hid (HB.out.trans (hb.mono HB.out.size))
 clear hb s0 s1 s2 s3 s4 s5 s6
 obtain ⟨s0,s1,s2,s3,s4,s5,s6⟩:=HK.out _ HB.out
 go_wp2_with (first | go_big_skip | fail)
 refine (HNN.out _ _ _).mono ?_
 rintro e w27 ⟨rfl,hb⟩
 have HB:=Lib.hid (HB.out.trans (hb.mono HB.out.size))
 clear hb s0 s1 s2 s3 s4 s5 s6
 obtain ⟨s0,s1,s2,s3,s4,s5,s6⟩:=HK.out _ HB.out
 go_wp2_with (first | go_big_skip | fail)
 refine (HTK.out _).mono ?_
 rintro e w28 ⟨rfl,hb⟩
 have HB:=Lib.hid (HB.out.trans (hb.mono HB.out.size))
 clear hb s0 s1 s2 s3 s4 s5 s6
 obtain ⟨s0,s1,s2,s3,s4,s5,s6⟩:=HK.out _ HB.out
 go_wp2_with (first | go_big_skip | fail)
 refine (HLN.out _).mono ?_
 rintro e w29 ⟨rfl,hb⟩
 have HB:=Lib.hid (HB.out.trans (hb.mono HB.out.size))
 clear hb s0 s1 s2 s3 s4 s5 s6
 obtain ⟨s0,s1,s2,s3,s4,s5,s6⟩:=HK.out _ HB.out
 go_wp2_with (first | go_big_skip | fail)
 refine (HBN.out _).mono ?_
 rintro e w30 ⟨rfl,hb⟩
 have HB:=Lib.hid (HB.out.trans (hb.mono HB.out.size))
 clear hb s0 s1 s2 s3 s4 s5 s6
 obtain ⟨s0,s1,s2,s3,s4,s5,s6⟩:=HK.out _ HB.out
 go_wp2_with (first | go_big_skip | fail)
 refine (HStep.out _).mono ?_
 rintro e w31 ⟨rfl,hb⟩
 have HB:=Lib.hid (HB.out.trans (hb.mono HB.out.size))
 clear hb s0 s1 s2 s3 s4 s5 s6
 obtain ⟨s0,s1,s2,s3,s4,s5,s6⟩:=HK.out _ HB.out
 go_wp2_with (first | go_big_skip | fail)
 refine (HOver.out _).mono ?_
 rintro e w32 ⟨rfl,hb⟩
 have HB:=Lib.hid (HB.out.trans (hb.mono HB.out.size))
 clear hb s0 s1 s2 s3 s4 s5 s6
 obtain ⟨s0,s1,s2,s3,s4,s5,s6⟩:=HK.out _ HB.out
 go_wp2_with (first | go_big_skip | fail)
 refine (HMark.out _).mono ?_
 rintro e w33 ⟨rfl,hb⟩
 have HB:=Lib.hid (HB.out.trans (hb.mono HB.out.size))
 clear hb s0 s1 s2 s3 s4 s5 s6
 obtain ⟨s0,s1,s2,s3,s4,s5,s6⟩:=HK.out _ HB.out
 go_wp2_with (first | go_big_skip | fail)
 refine (HAnswer.out _).mono ?_
 rintro e w34 ⟨rfl,hb⟩
 have HB:=Lib.hid (HB.out.trans (hb.mono HB.out.size))
 clear hb s0 s1 s2 s3 s4 s5 s6
 obtain ⟨s0,s1,s2,s3,s4,s5,s6⟩:=HK.out _ HB.out
 go_wp2_with (first | go_big_skip | fail)
 refine (HTries.out _).mono ?_
 rintro e w35 ⟨rfl,hb⟩
 have HB:=Lib.hid (HB.out.trans (hb.mono HB.out.size))
 clear hb s0 s1 s2 s3 s4 s5 s6
 obtain ⟨s0,s1,s2,s3,s4,s5,s6⟩:=HK.out _ HB.out
 go_wp2_with (first | go_big_skip | fail)
 refine (HTK.out _).mono ?_
 rintro e w36 ⟨rfl,hb⟩
 have HB:=Lib.hid (HB.out.trans (hb.mono HB.out.size))
 clear hb s0 s1 s2 s3 s4 s5 s6
 obtain ⟨s0,s1,s2,s3,s4,s5,s6⟩:=HK.out _ HB.out
 go_wp2_with (first | go_big_skip | fail)
 obtain ⟨wk,hwk⟩:∃ wk,wk=w36.alloc (.cells #[.int .i64 1,.int .u64 2] 47):=⟨_,rfl⟩
 rw [← hwk]
 have k0:wk.cell? ⟨w36.heap.size,0,none⟩=some (.int .i64 1):=by rw [hwk]; simp [go_sem]
 have k1:wk.cell? ⟨w36.heap.size,1,none⟩=some (.int .u64 2):=by rw [hwk]; simp [go_sem]
 have hkz:w36.heap.size < wk.heap.size:=by rw [hwk]; simp
 have hb:Below w36.heap.size w36 wk:=by rw [hwk]; exact (Below.refl _ _).alloc (Nat.le_refl _) _
 clear hwk
 have HB:=Lib.hid (HB.out.trans (hb.mono HB.out.size))
 clear hb s0 s1 s2 s3 s4 s5 s6
 obtain ⟨s0,s1,s2,s3,s4,s5,s6⟩:=HK.out _ HB.out
 obtain ⟨kb,hkb⟩:∃ kb,kb=w36.heap.size:=⟨_,rfl⟩
 rw [← hkb] at k0 k1 hkz ⊢
 clear hkb
 have HW1:=Lib.hid (HW1.out.trans (HB.out.mono HW1.out.size))
 have HK:=Lib.hid fun V (hb:Below wk.heap.size wk V) => HK.out V (HB.out.trans (hb.mono HB.out.size))
 have HMA:=Lib.hid fun V (hb:Below wk.heap.size wk V) => HMA.out V (HB.out.trans (hb.mono HB.out.size))
 have HFA:=Lib.hid fun V (hb:Below wk.heap.size wk V) => HFA.out V (HB.out.trans (hb.mono HB.out.size))
 have HB:Hid (Below wk.heap.size wk wk):=Below.refl _ _
 refine (HTB.out _).mono ?_
 rintro e w37 ⟨rfl,hb⟩
 have k0:=(hb.cell (p:=⟨kb,0,none⟩) hkz).trans k0
 have k1:=(hb.cell (p:=⟨kb,1,none⟩) hkz).trans k1
 have hkz:=Nat.lt_of_lt_of_le hkz hb.size
 have HB:=Lib.hid (HB.out.trans (hb.mono HB.out.size))
 clear hb s0 s1 s2 s3 s4 s5 s6
 obtain ⟨s0,s1,s2,s3,s4,s5,s6⟩:=HK.out _ HB.out
 go_wp2_with (first | go_big_skip | fail)
 obtain ⟨wj,hwj⟩:∃ wj,wj=w37.alloc (.cells #[.int .i64 0,.int .u64 2] 47):=⟨_,rfl⟩
 rw [← hwj]
 have j0:wj.cell? ⟨w37.heap.size,0,none⟩=some (.int .i64 0):=by rw [hwj]; simp [go_sem]
 have j1:wj.cell? ⟨w37.heap.size,1,none⟩=some (.int .u64 2):=by rw [hwj]; simp [go_sem]
 have hjz:w37.heap.size < wj.heap.size:=by rw [hwj]; simp
 have hb:Below w37.heap.size w37 wj:=by rw [hwj]; exact (Below.refl _ _).alloc (Nat.le_refl _) _
 have k0:=(hb.cell (p:=⟨kb,0,none⟩) hkz).trans k0
 have k1:=(hb.cell (p:=⟨kb,1,none⟩) hkz).trans k1
 have hkz:=Nat.lt_of_lt_of_le hkz hb.size
 clear hwj
 have HB:=Lib.hid (HB.out.trans (hb.mono HB.out.size))
 clear hb s0 s1 s2 s3 s4 s5 s6
 obtain ⟨s0,s1,s2,s3,s4,s5,s6⟩:=HK.out _ HB.out
 obtain ⟨jb,hjb⟩:∃ jb,jb=w37.heap.size:=⟨_,rfl⟩
 rw [← hjb] at j0 j1 hjz ⊢
 clear hjb
 have HW1:=Lib.hid (HW1.out.trans (HB.out.mono HW1.out.size))
 have HK:=Lib.hid fun V (hb:Below wj.heap.size wj V) => HK.out V (HB.out.trans (hb.mono HB.out.size))
 have HMA:=Lib.hid fun V (hb:Below wj.heap.size wj V) => HMA.out V (HB.out.trans (hb.mono HB.out.size))
 have HFA:=Lib.hid fun V (hb:Below wj.heap.size wj V) => HFA.out V (HB.out.trans (hb.mono HB.out.size))
 have HB:Hid (Below wj.heap.size wj wj):=Below.refl _ _
 have HK:=Lib.hid fun V (hb:Below wj.heap.size wj V) => show V.cell? ⟨W.heap.size,0,none⟩=some (.int .i64 (S:Nat))∧V.cell? ⟨W.heap.size,1,none⟩=some (.int .i64 (B:Nat))∧V.cell? ⟨W.heap.size,2,none⟩=some (.int .i64 (n:Nat))∧V.cell? ⟨W.heap.size,3,none⟩=some (.int .i64 (T:Nat))∧V.cell? ⟨W.heap.size + 1,0,none⟩=some (.int .i64 (S:Nat))∧V.cell? ⟨W.heap.size + 1,1,none⟩=some (.int .i64 (B:Nat))∧V.cell? ⟨W.heap.size + 1,2,none⟩=some (.int .i64 (n:Nat))∧V.cell? ⟨kb,0,none⟩=some (.int .i64 1)∧V.cell? ⟨kb,1,none⟩=some (.int .u64 2)∧V.cell? ⟨jb,0,none⟩=some (.int .i64 0)∧V.cell? ⟨jb,1,none⟩=some (.int .u64 2) from by
  obtain ⟨p0,p1,p2,p3,p4,p5,p6⟩:=HK.out V hb
  exact ⟨p0,p1,p2,p3,p4,p5,p6,(hb.cell (p:=⟨kb,0,none⟩) hkz).trans k0,(hb.cell (p:=⟨kb,1,none⟩) hkz).trans k1,(hb.cell (p:=⟨jb,0,none⟩) hjz).trans j0,(hb.cell (p:=⟨jb,1,none⟩) hjz).trans j1⟩
 clear k0 k1 j0 j1 hkz hjz s0 s1 s2 s3 s4 s5 s6
 obtain ⟨s0,s1,s2,s3,s4,s5,s6,s7,s8,s9,s10⟩:=HK.out _ HB.out
 refine (HQ1.out _ (HFA.out _ HB.out)).mono ?_
 rintro e w38 ⟨rfl,hb⟩
 have HB:=Lib.hid (HB.out.trans (hb.mono HB.out.size))
 clear hb s0 s1 s2 s3 s4 s5 s6 s7 s8 s9 s10
 obtain ⟨s0,s1,s2,s3,s4,s5,s6,s7,s8,s9,s10⟩:=HK.out _ HB.out
 go_wp2_with (first | go_big_skip | fail)
 refine (HQ2.out _).mono ?_
 rintro e w39 ⟨rfl,hb⟩
 have HB:=Lib.hid (HB.out.trans (hb.mono HB.out.size))
 clear hb s0 s1 s2 s3 s4 s5 s6 s7 s8 s9 s10
 obtain ⟨s0,s1,s2,s3,s4,s5,s6,s7,s8,s9,s10⟩:=HK.out _ HB.out
 go_wp2_with (first | go_big_skip | fail)
 refine (HQ3.out _).mono ?_
 rintro e w40 ⟨rfl,hb⟩
 have HB:=Lib.hid (HB.out.trans (hb.mono HB.out.size))
 clear hb s0 s1 s2 s3 s4 s5 s6 s7 s8 s9 s10
 obtain ⟨s0,s1,s2,s3,s4,s5,s6,s7,s8,s9,s10⟩:=HK.out _ HB.out
 go_wp2_with (first | go_big_skip | fail)
 refine (HQ4.out _).mono ?_
 rintro e w41 ⟨rfl,hb⟩
 have HB:=Lib.hid (HB.out.trans (hb.mono HB.out.size))
 clear hb s0 s1 s2 s3 s4 s5 s6 s7 s8 s9 s10
 obtain ⟨s0,s1,s2,s3,s4,s5,s6,s7,s8,s9,s10⟩:=HK.out _ HB.out
 go_wp2_with (first | go_big_skip | fail)
 refine (HQ5.out _).mono ?_
 rintro e w42 ⟨rfl,hb⟩
 have HB:=Lib.hid (HB.out.trans (hb.mono HB.out.size))
 clear hb s0 s1 s2 s3 s4 s5 s6 s7 s8 s9 s10
 obtain ⟨s0,s1,s2,s3,s4,s5,s6,s7,s8,s9,s10⟩:=HK.out _ HB.out
 go_wp2_with (first | go_big_skip | fail)
 refine (HQ6.out _ (HFA.out _ HB.out)).mono ?_
 rintro e w43 ⟨rfl,hb⟩
 have HB:=Lib.hid (HB.out.trans (hb.mono HB.out.size))
 clear hb s0 s1 s2 s3 s4 s5 s6 s7 s8 s9 s10
 obtain ⟨s0,s1,s2,s3,s4,s5,s6,s7,s8,s9,s10⟩:=HK.out _ HB.out
 go_wp2_with (first | go_big_skip | fail)
 refine (HQ7.out _ (HFA.out _ HB.out)).mono ?_
 rintro e w44 ⟨rfl,hb⟩
 have HB:=Lib.hid (HB.out.trans (hb.mono HB.out.size))
 clear hb s0 s1 s2 s3 s4 s5 s6 s7 s8 s9 s10
 obtain ⟨s0,s1,s2,s3,s4,s5,s6,s7,s8,s9,s10⟩:=HK.out _ HB.out
 go_wp2_with (first | go_big_skip | fail)
 refine (HQ8.out _ (HFA.out _ HB.out)).mono ?_
 rintro e w45 ⟨rfl,hb⟩
 have HB:=Lib.hid (HB.out.trans (hb.mono HB.out.size))
 clear hb s0 s1 s2 s3 s4 s5 s6 s7 s8 s9 s10
 obtain ⟨s0,s1,s2,s3,s4,s5,s6,s7,s8,s9,s10⟩:=HK.out _ HB.out
 go_wp2_with (first | go_big_skip | fail)
 refine (HQ9.out _ (HFA.out _ HB.out)).mono ?_
 rintro e w46 ⟨ab,rfl,hz,hb,hact⟩
 clear hz hact
 have HB:=Lib.hid (HB.out.trans (hb.mono HB.out.size))
 clear hb s0 s1 s2 s3 s4 s5 s6 s7 s8 s9 s10
 obtain ⟨s0,s1,s2,s3,s4,s5,s6,s7,s8,s9,s10⟩:=HK.out _ HB.out
 go_wp2_with (first | go_big_skip | fail)
 refine (HQ10.out _ (HMA.out _ HB.out).2).mono ?_
 rintro e w47 ⟨rfl,rfl⟩
 go_wp2
 go_ret
 exact ⟨by first | rfl | (simp; done),HW1.out.trans (HB.out.mono HW1.out.size)⟩
end Go.Proofs.Ythloabdfkakehaa
