/-
  Of all plans and histories it is told what is wrong first, and where; what is handed in stays: for every plan, every row of entries. No condition.
-/
import Derived.Test.YtfekhdgjgjodlaaGreatRows
import Derived.Test.YtfekhdgjgjodlaaGreatMsH
import Derived.Test.YtfekhdgjgjodlaaGreatOpenVl
import Derived.Test.YtfekhdgjgjodlaaGreatHiT
import Derived.Test.YtfekhdgjgjodlaaGreatHiG
import Derived.Test.YtfekhdgjgjodlaaGreatHiU
import Derived.Test.YtfekhdgjgjodlaaGreatSrB
import Derived.Test.YtfekhdgjgjodlaaGreatSrF
import Derived.WalkKit
import Derived.ProofKit
import Derived.OpenShut
namespace Go.Proofs.YtfekhdgjgjodlaaGreat.histChecks
open Go.ChangeShapes Go.WideShapes Go.ChangeAt Go.RowKit
open Go.ChangeMaps (open_string)
set_option linter.unusedVariables false

theorem own:ownKnob Tryz.prog.godebug=none:=by kernel_rfl
theorem natV_kv (o:List Nat):natV o=kv .i64 (o.map fun (i:Nat)=>(i:Int)):=by
  unfold natV kv;rw [List.map_map]
  rfl

set_option maxRecDepth 20000 in
set_option maxHeartbeats 6400000 in
theorem walk (W:World) (P0:Int) (vr0 vv0:Value) (a0 b0 c0 T0 R0:Int) (nm0 sh0:Nat) (lr0:List Rl) (lv0:List Vl) (hr0:Sl W W.heap.size 2 vr0 lr0.length (rlc lr0)) (hv0:Sl W W.heap.size 3 vv0 lv0.length (vlc lv0)) (ho0:∀ x∈lv0,x.ok) (a1:Value) (b1:Ents18 W a1) :
    Calls Tryz.prog 3 #[zbb P0 vr0 vv0 a0 b0 c0 T0 R0 nm0 sh0,a1] W (Says (.bool true) W):=by
  obtain ⟨n0,L,⟨A,cap,rfl,h1,h2,h3⟩,hok⟩:=b1
  have hcut:=zbj.cut (show zbj W W.heap.size n0 (.slice A n0 cap) L from ⟨A,cap,rfl,h1,h2,h3⟩) (Nat.min_le_left n0 80)
  obtain ⟨K,hK⟩:∃ K,K=min n0 80:=⟨_,rfl⟩;rw [<- hK] at hcut
  have hrow:zbj W W.heap.size K (.slice A K cap) L:=by
    obtain ⟨A',c',e,_,_,h⟩:=hcut
    injection e with e1 _ e2
    subst e1 e2
    exact h
  have HFW:=Lib.hid fun W=>zo9 (A:=A) (w:=W) h1 h2
  rw [<- hK] at HFW
  have hK80:K<=80:=by omega
  have HRW:=Lib.hid hrow
  have HOK:Hid (∀ i,i<K->(L i).op.ok/\rngI (L i).who/\rngI (L i).mar):=fun i hi=>⟨(hok i (by omega)).1,(hok i (by omega)).2.1,(hok i (by omega)).2.2.1⟩
  obtain ⟨o,ho⟩:=OrdL.ex K (fun i=>(L i).mar)
  have HOO:=Lib.hid ho;clear hcut hrow h1 h2 h3 hok hK ho;obtain ⟨Ar,cr,rfl,hcr,hcm⟩:=hr0.form;obtain ⟨Av,cv,rfl,hcv,hcw⟩:=hv0.form;obtain ⟨P,hP⟩:∃ x,x=2+fx 7 P0:=⟨_,rfl⟩;obtain ⟨S,hS⟩:∃ x,x=1+fx 8 a0:=⟨_,rfl⟩;obtain ⟨B,hB⟩:∃ x,x=1+fx 16 b0:=⟨_,rfl⟩;obtain ⟨n,hn⟩:∃ x,x=1+fx 8 c0:=⟨_,rfl⟩;obtain ⟨T,hT⟩:∃ x,x=1+fx 8 T0:=⟨_,rfl⟩;obtain ⟨Rg,hG⟩:∃ x,x=1+fx 64 R0:=⟨_,rfl⟩
  have hfix:=fun w' (hb:Below W.heap.size W w')=>ziz (hr0.below hb) (hv0.below hb) ho0 hb.size P0 a0 b0 c0 T0 R0 nm0 sh0 P S B n T Rg hP hT hG hS hB hn
  unfold zbb at hfix |-;have HFX:=Lib.hid hfix;have HN:=Lib.hid (And.intro hP (And.intro hS (And.intro hB (And.intro hn (And.intro hT hG)))));clear hfix hr0 hv0 ho0 hP hS hB hn hT hG hcr hcm hcv hcw
  go_enter Tryz.func3,Tryz.ntmps3
  go_upto_region 3 with (first
    |(go_at_call 6;(with_reducible refine Calls.mono (HFW.out _) ?_);rintro e w1 ⟨rfl,rfl⟩)
    |(go_at_call 7;(with_reducible refine Calls.mono (HFX.out _ ((Below.refl _ _).alloc (Nat.le_refl _) _)) ?_);rintro e wa ⟨ur,uw,rfl,h1,h2,hba⟩;(obtain ⟨Ax,cx,hx,_,_⟩:=(Sl.of_own h1).form);(obtain ⟨Ay,cy,hy,_,_⟩:=(Sl.of_own h2).form);subst hx;subst hy;(have H1:=Lib.hid h1);(have H2:=Lib.hid h2);(have HBA:=Lib.hid hba);(have HTH:Hid (wa.there W.heap.size 0 10):=za2 (zb6 (cs:=#[.int .i64 P0,.slice Ar lr0.length cr,.slice Av lv0.length cv,.int .i64 a0,.int .i64 b0,.int .i64 c0,.int .i64 T0,.int .i64 R0,.int .u32 (nm0:Int),.int .u32 (sh0:Int)]) (zbd W _ 28)) hba (by simp));clear h1 h2 hba)
    |(refine zak (by rfl) 28 _ _ (by rfl) W.heap.size 0 #[.int .i64 (P:Nat),.slice Ax P cx,.slice Ay (min lv0.length 8) cy,.int .i64 (S:Nat),.int .i64 (B:Nat),.int .i64 (n:Nat),.int .i64 (T:Nat),.int .i64 (Rg:Nat),.int .u32 (nm0:Int),.int .u32 (sh0:Int)] (by rfl) (by rfl) HTH.out (by kernel_rfl) (by simp [Value.oneCell']) ?_;intro wz hst;(have hWz:W.heap.size<wa.heap.size:=by have:=HBA.out.size;simp at this;omega);(have HBX:Hid (∀ w',Below wz.heap.size wz w'->w'.cell? ⟨W.heap.size,0,none⟩=some (.int .i64 (P:Nat))/\w'.cell? ⟨W.heap.size,1,none⟩=some (.slice Ax P cx)/\w'.cell? ⟨W.heap.size,2,none⟩=some (.slice Ay (min lv0.length 8) cy)/\w'.cell? ⟨W.heap.size,3,none⟩=some (.int .i64 (S:Nat))/\w'.cell? ⟨W.heap.size,4,none⟩=some (.int .i64 (B:Nat))/\w'.cell? ⟨W.heap.size,5,none⟩=some (.int .i64 (n:Nat))/\w'.cell? ⟨W.heap.size,6,none⟩=some (.int .i64 (T:Nat))/\w'.cell? ⟨W.heap.size,7,none⟩=some (.int .i64 (Rg:Nat))/\w'.cell? ⟨W.heap.size,8,none⟩=some (.int .u32 (nm0:Int))/\w'.cell? ⟨W.heap.size,9,none⟩=some (.int .u32 (sh0:Int))):=fun w' hb=>⟨(hb.cell (p:=⟨W.heap.size,0,none⟩) (by show W.heap.size<_;rw [hst.size];omega)).trans (hst.cells 0 _ rfl),(hb.cell (p:=⟨W.heap.size,1,none⟩) (by show W.heap.size<_;rw [hst.size];omega)).trans (hst.cells 1 _ rfl),(hb.cell (p:=⟨W.heap.size,2,none⟩) (by show W.heap.size<_;rw [hst.size];omega)).trans (hst.cells 2 _ rfl),(hb.cell (p:=⟨W.heap.size,3,none⟩) (by show W.heap.size<_;rw [hst.size];omega)).trans (hst.cells 3 _ rfl),(hb.cell (p:=⟨W.heap.size,4,none⟩) (by show W.heap.size<_;rw [hst.size];omega)).trans (hst.cells 4 _ rfl),(hb.cell (p:=⟨W.heap.size,5,none⟩) (by show W.heap.size<_;rw [hst.size];omega)).trans (hst.cells 5 _ rfl),(hb.cell (p:=⟨W.heap.size,6,none⟩) (by show W.heap.size<_;rw [hst.size];omega)).trans (hst.cells 6 _ rfl),(hb.cell (p:=⟨W.heap.size,7,none⟩) (by show W.heap.size<_;rw [hst.size];omega)).trans (hst.cells 7 _ rfl),(hb.cell (p:=⟨W.heap.size,8,none⟩) (by show W.heap.size<_;rw [hst.size];omega)).trans (hst.cells 8 _ rfl),(hb.cell (p:=⟨W.heap.size,9,none⟩) (by show W.heap.size<_;rw [hst.size];omega)).trans (hst.cells 9 _ rfl)⟩);(have HLZ:Hid (Below W.heap.size W wz):=(((Below.refl _ _).alloc (Nat.le_refl _) _).trans (HBA.out.mono (by simp))).trans (hst.below _ (Nat.le_refl _)));(have HR:=Lib.hid (Sl.of_own (za1 H1.out hst (fun e=>by have:=(H1.out.lt _ e).1;simp at this;omega))));(have HV:=Lib.hid (Sl.of_own (za1 H2.out hst (fun e=>by have:=(H2.out.lt _ e).1;simp at this;omega))));clear hst H1 H2 HBA HTH))
  have HFG:=Lib.hid (zl5 lr0 lv0 P0 a0 b0 c0 T0 R0 P S B n T Rg lv0.length HN.out.1 HN.out.2.2.2.2.1 HN.out.2.2.2.2.2 HN.out.2.1 HN.out.2.2.1 HN.out.2.2.2.1)
  have HBD:Hid ((2<=P/\P<=8)/\(1<=S/\S<=8)/\(1<=B/\B<=16)/\(1<=n/\n<=8)/\(1<=Rg/\Rg<=64)):=by
    obtain ⟨e1,e2,e3,e4,e5,e6⟩:=HN.out
    have k1:=zdd (k:=7) (by omega) P0
    have k2:=zdd (k:=8) (by omega) a0
    have k3:=zdd (k:=16) (by omega) b0
    have k4:=zdd (k:=8) (by omega) c0
    have k5:=zdd (k:=64) (by omega) R0
    exact ⟨by omega,by omega,by omega,by omega,by omega⟩
  have HPO:Hid (PlanOk (zck lr0 P) (zcj (allN P) lv0 (min lv0.length 8)) P (min lv0.length 8) P P S B n Rg (T:Nat)):=⟨zlv _ _ (zd8 _) _ (by omega),zfz lr0 P,by have:=HBD.out;omega,HBD.out.2.1,HBD.out.2.2.1,HBD.out.2.2.2.1,by have:=HBD.out;omega,by omega,HFG.out⟩
  have hto:=fun w' (hb:Below wz.heap.size wz w')=>zlt (HR.out.below hb) (HV.out.below hb) hb.size (by omega) (by have:=HBD.out.1.2;omega) (P:Nat) (S:Nat) (B:Nat) (n:Nat) (T:Nat) (Rg:Nat) nm0 sh0
  have HRZ:Hid (∀ w',Below wz.heap.size wz w'->zbj w' w'.heap.size K (.slice A K cap) L):=fun w' hb=>(HRW.out.below (HLZ.out.trans (hb.mono HLZ.out.size))).mono (Nat.le_trans HLZ.out.size hb.size)
  obtain ⟨ck,hck⟩:∃ c,c=chkH P Rg S B n (min lv0.length 8) L K o (ms0 (zcj (allN P) lv0 (min lv0.length 8))):=⟨_,rfl⟩
  have HTE:Hid (∀ w',Below wz.heap.size wz w'->Calls Tryz.prog 8 #[.slice A K cap] w' fun e w2=>∃ u,e=.returned u/\w2.ownsRow w'.heap.size 68 19 u K (encE (zcp L K))/\Below w'.heap.size w' w2):=fun w' hb=>law18_To (by omega) (HRZ.out w' hb) (Nat.le_refl _)
  have hck1:∀ (w':World) (vr vv u:Value),Sl w' w'.heap.size 2 vr P (rlc (zck lr0 P))->Sl w' w'.heap.size 3 vv (min lv0.length 8) (vlc (zcj (allN P) lv0 (min lv0.length 8)))->zbj w' w'.heap.size K u L->Calls Tryz.prog 9 #[zbb P vr vv S B n T Rg nm0 sh0,u] w' (Says (.tuple #[.int .i64 ck.1,.int .i64 ck.2]) w'):=fun w' vr vv u h1 h2 h3=>by
    rw [hck]
    exact zhj h1 h2 (Nat.le_refl _) HPO.out (by omega) h3 (fun i hi=>(HOK.out i hi).1) (fun i hi=>(HOK.out i hi).2) nm0 sh0 HOO.out
  have hck2:∀ (w':World),Below wz.heap.size wz w'->Calls Tryz.prog 11 #[zbb P (.slice Ax P cx) (.slice Ay (min lv0.length 8) cy) S B n T Rg nm0 sh0,.slice A K cap] w' (Says (.tuple #[.int .i64 ck.1,.int .i64 ck.2]) w'):=fun w' hb=>by
    rw [hck]
    exact zku ((HR.out.below hb).mono hb.size) ((HV.out.below hb).mono hb.size) (Nat.le_refl _) HPO.out (by omega) (HRZ.out w' hb) (fun i hi=>(HOK.out i hi).1) nm0 sh0 HOO.out
  have HOD:Hid (∀ w',Below wz.heap.size wz w'->Calls Tryz.prog 15 #[.slice A K cap] w' fun e w2=>∃ A1 c1,e=.returned (.slice A1 o.length c1)/\Sl w2 w2.heap.size 1 (.slice A1 o.length c1) o.length (kv .i64 (o.map fun (i:Nat)=>(i:Int)))/\Below w'.heap.size w' w2):=fun w' hb=>by
    refine (zfu (by omega) (HRZ.out w' hb) (Nat.le_refl _)).mono ?_
    rintro e w2 ⟨A1,c1,o1,rfl,ho1,hs1,hb1,_⟩
    obtain rfl:o1=o:=ho1.uniq HOO.out
    exact ⟨A1,c1,rfl,by rw [<- natV_kv];exact hs1,hb1⟩
  have HOH:Hid (∀ (w':World) (u:Value),zbj w' w'.heap.size K u L->Calls Tryz.prog 14 #[u] w' fun e w2=>∃ A1 c1,e=.returned (.slice A1 o.length c1)/\Sl w2 w2.heap.size 1 (.slice A1 o.length c1) o.length (kv .i64 (o.map fun (i:Nat)=>(i:Int)))/\Below w'.heap.size w' w2):=fun w' u hu=>by
    refine (ze4 (by omega) hu (Nat.le_refl _)).mono ?_
    rintro e w2 ⟨A1,c1,o1,rfl,ho1,hs1,hb1,_⟩
    obtain rfl:o1=o:=ho1.uniq HOO.out
    exact ⟨A1,c1,rfl,by rw [<- natV_kv];exact hs1,hb1⟩
  have HFM:Hid (∀ (w':World) (u:Value),zbj w' w'.heap.size K u L->Calls Tryz.prog 16 #[u] w' fun e w2=>∃ x,e=.returned x/\w2.ownsRow w'.heap.size 57 19 x K (encE (zcp L K))/\Below w'.heap.size w' w2):=fun w' u hu=>zmo (by omega) hu (Nat.le_refl _)
  unfold zbb at hto hck1 hck2;have HTO:=Lib.hid hto;have HC1:=Lib.hid hck1;have HC2:=Lib.hid hck2
  have HTD:=Lib.hid fun w=>zm1 w
  have hq:Below wz.heap.size wz wz:=Below.refl _ _;obtain ⟨z0,z1,z2,z3,z4,z5,z6,z7,z8,z9⟩:=HBX.out _ hq;clear hto hck1 hck2 hck;obtain ⟨k1,k2⟩:=ck
  go_upto_region 5 with (first
    |(go_at_call 8;(with_reducible refine Calls.mono (HTE.out _ hq) ?_);rintro e w3 ⟨u,rfl,hu,hb3⟩;(have hq:=hq.trans (hb3.mono hq.size));(have hfm:=(Sl.of_own hu).form);(obtain ⟨Au,cu,rfl,_,_⟩:=hfm);(have HU:=Lib.hid (zbj.of_own hu));(obtain ⟨z0,z1,z2,z3,z4,z5,z6,z7,z8,z9⟩:=HBX.out _ hq);clear hu hb3)
    |(go_at_call 10;(with_reducible refine Calls.mono (HTO.out _ hq) ?_);rintro e w4 ⟨ur,uw,rfl,h1,h2,hba⟩;(obtain ⟨Az,cz,hx,_,_⟩:=(Sl.of_own h1).form);(obtain ⟨Ay',cy',hy,_,_⟩:=(Sl.of_own h2).form);subst hx;subst hy;(have HT1:=Lib.hid (Sl.of_own h1));(have HT2:=Lib.hid (Sl.of_own h2));(have hq:=hq.trans (hba.mono hq.size));(have HU4:=Lib.hid ((HU.out.below hba).mono hba.size));clear h1 h2 hba)
    |(go_at_call 9;(with_reducible refine Calls.mono (HC1.out _ _ _ _ HT1.out HT2.out HU4.out) ?_);rintro e w5 ⟨rfl,hb5⟩;(have hq:=hq.trans (hb5.mono hq.size));(have HU5:=Lib.hid ((HU4.out.below hb5).mono hb5.size));clear hb5)
    |fail)
  clear HU HU4 HT1 HT2 HTE HTO HC1 z0 z1 z2 z3 z4 z5 z6 z7 z8 z9;obtain ⟨z0,z1,z2,z3,z4,z5,z6,z7,z8,z9⟩:=HBX.out _ hq
  go_upto_region 6 with (first
    |(go_at_call 11;(with_reducible refine Calls.mono (HC2.out _ hq) ?_);rintro e w6 ⟨rfl,hb6⟩;(have hq:=hq.trans (hb6.mono hq.size));(have HU6:=Lib.hid ((HU5.out.below hb6).mono hb6.size));clear hb6)
    |fail)
  clear HC2 HU5 z0 z1 z2 z3 z4 z5 z6 z7 z8 z9
  have e1:(k1 != k1)=false:=by simp
  have e2:(k2 != k2)=false:=by simp
  have HQ6:=Lib.hid hq;clear hq
  go_wp2_with (first
    |go_big_skip
    |(go_at_call 12;(with_reducible refine Calls.mono (HTD.out _) ?_);rintro e w7 ⟨rfl,hb7⟩;(have HQ7:=Lib.hid (HQ6.out.trans (hb7.mono HQ6.out.size)));(have HU7:=Lib.hid ((HU6.out.below hb7).mono hb7.size));clear hb7)
    |(go_at_call 14;(with_reducible refine Calls.mono (HOH.out _ _ HU7.out) ?_);rintro e w8 ⟨A8,c8,rfl,hs8,hb8⟩;(have HQ8:=Lib.hid (HQ7.out.trans (hb8.mono HQ7.out.size)));(have HU8:=Lib.hid ((HU7.out.below hb8).mono hb8.size));(have HS8:=Lib.hid hs8);clear hb8 hs8)
    |(go_at_call 15;(with_reducible refine Calls.mono (HOD.out _ HQ8.out) ?_);rintro e w9 ⟨A9,c9,rfl,hs9,hb9⟩;(have HQ9:=Lib.hid (HQ8.out.trans (hb9.mono HQ8.out.size)));(have HU9:=Lib.hid ((HU8.out.below hb9).mono hb9.size));(have HS9:=Lib.hid hs9);(have HS8:=Lib.hid (HS8.out.below hb9));clear hb9 hs9)
    |(go_at_call 13;(with_reducible refine Calls.mono (zfa HS8.out HS9.out) ?_);rintro e w10 ⟨rfl,n10,hw10⟩;(have hb10:Below w9.heap.size w9 w10:=by rw [hw10];exact zf6 (Below.refl _ _) n10);(have HQ10:=Lib.hid (HQ9.out.trans (hb10.mono HQ9.out.size)));(have HU10:=Lib.hid ((HU9.out.below hb10).mono hb10.size));clear hb10 hw10)
    |(go_at_call 16;(with_reducible refine Calls.mono (HFM.out _ _ HU10.out) ?_);rintro e w11 ⟨y,rfl,hy,hb11⟩;(have HQ11:=Lib.hid (HQ10.out.trans (hb11.mono HQ10.out.size)));(have hfm:=(Sl.of_own hy).form);(obtain ⟨Ab,cb,rfl,_,_⟩:=hfm);(have HY:=Lib.hid (zbj.of_own hy));clear hb11 hy)
    |fail)
  clear HU6 HU7 HU8 HU9 HU10 HS8 HS9 HQ6 HQ7 HQ8 HQ9 HQ10 HOH HOD HFM HTD HFW e1 e2 HOO HOK HPO HBD HFG HN
  go_loopw [11] (fun iv wr=>∃ (k:Nat) (wx:World),wx=wr/\k<=K/\iv=.int .i64 k/\Hid (Below w11.heap.size w11 wr)) (fun iv _=>K - (intOf iv).toNat)
  case atStart=>exact ⟨0,_,rfl,Nat.zero_le _,rfl,Below.refl _ _⟩
  case round =>
    obtain ⟨k,wr,rfl,hk,rfl,HI⟩:=hrel
    by_cases hlt:k<K
    · have d1:decide (k<K)=true:=decide_eq_true hlt
      have g0:(0:Int)<=(k:Int):=Int.natCast_nonneg _
      have g1:(k:Int)<(K:Int):=by omega
      obtain ⟨A',c',e,_,_,hc⟩:=HRZ.out wr (HQ11.out.trans (HI.out.mono HQ11.out.size))
      injection e with ea _ ec
      subst ea ec
      obtain ⟨b,off,rfl,hbl,hcl⟩:=hc (by omega)
      obtain ⟨A',c',e,_,_,hc2⟩:=HY.out.below HI.out
      injection e with ea _ ec
      subst ea ec
      obtain ⟨bb,ob,rfl,hbl2,hcl2⟩:=hc2 (by omega)
      have HSP:Hid (∀ w',Below wr.heap.size wr w'->w'.rangeAt bb (ob+k*19) (L k).cells/\w'.rangeAt b (off+k*19) (L k).cells):=fun w' hb=>⟨((hcl2 k hlt).keep fun p hp=>hb.cell (by rw [hp];have:=HI.out.size;omega)).range,((hcl k hlt).keep fun p hp=>hb.cell (by rw [hp];exact hbl)).range⟩
      obtain ⟨x,hx⟩:∃ x,x=L k:=⟨_,rfl⟩;rw [<- hx] at HSP;clear hx hc hc2 hcl hcl2 hbl hbl2;obtain ⟨who,beg,mar,fin,⟨kd,po,tt,vi,sx,kv,km,me,un,nw,li,sh,bu,id⟩,ans⟩:=x;unfold Ent.cells at HSP
      simp only [] at HSP
      go_wp2_with fail
      refine wp_region_held_drew (S:=fun w'=>w'.rangeAt bb (ob+k*19) [.int .i64 who,.int .i64 beg,.int .i64 mar,.int .i64 fin,.int .i64 kd,.int .i64 po,.int .i64 tt,.int .i64 vi,.int .i64 sx,.int .i64 kv,.int .u64 (km:Nat),.int .u64 (me:Nat),.int .u64 (un:Nat),.int .u32 (nw:Nat),.int .u32 (li:Nat),.int .i64 sh,.int .i64 bu,.int .i64 id,.int .i64 ans]/\w'.rangeAt b (off+k*19) [.int .i64 who,.int .i64 beg,.int .i64 mar,.int .i64 fin,.int .i64 kd,.int .i64 po,.int .i64 tt,.int .i64 vi,.int .i64 sx,.int .i64 kv,.int .u64 (km:Nat),.int .u64 (me:Nat),.int .u64 (un:Nat),.int .u32 (nw:Nat),.int .u32 (li:Nat),.int .i64 sh,.int .i64 bu,.int .i64 id,.int .i64 ans]) (by kernel_rfl) ?_ (fun hHeld=>?_)
      · exact HSP.out _ (Below.refl _ _).drew
      obtain ⟨v0,hv0⟩:∃ w',w'=wr.drew:=⟨_,rfl⟩
      have hvb:Below wr.heap.size wr v0:=by rw [hv0];exact (Below.refl _ _).drew
      rw [<- hv0] at hHeld |-;clear hv0;have HV0:=Lib.hid hvb;clear hvb;refine tk 0 ?_;refine tk 1 ?_;refine tk 2 ?_
      refine tkL 3 rfl ?_ (yieldsIf_load_mid (by rfl) _ _ rfl bb (ob+k*19) rfl [.int .i64 who,.int .i64 beg,.int .i64 mar,.int .i64 fin,.int .i64 kd,.int .i64 po,.int .i64 tt,.int .i64 vi,.int .i64 sx,.int .i64 kv,.int .u64 (km:Nat),.int .u64 (me:Nat),.int .u64 (un:Nat),.int .u32 (nw:Nat),.int .u32 (li:Nat),.int .i64 sh,.int .i64 bu,.int .i64 id,.int .i64 ans] _ (fun _ h=>h.1) Tryz.underlying57 (by rfl) (by kernel_rfl))
      refine tk 4 ?_;refine tk 5 ?_;refine tk 6 ?_
      refine tkL 7 rfl ?_ (yieldsIf_load_mid (by rfl) _ _ rfl b (off+k*19) rfl [.int .i64 who,.int .i64 beg,.int .i64 mar,.int .i64 fin,.int .i64 kd,.int .i64 po,.int .i64 tt,.int .i64 vi,.int .i64 sx,.int .i64 kv,.int .u64 (km:Nat),.int .u64 (me:Nat),.int .u64 (un:Nat),.int .u32 (nw:Nat),.int .u32 (li:Nat),.int .i64 sh,.int .i64 bu,.int .i64 id,.int .i64 ans] _ (fun _ h=>h.2) Tryz.underlying57 (by rfl) (by kernel_rfl))
      refine tk 8 ?_
      refine dnR ?_
      go_wp2
      go_roundw
      case rel=>exact ⟨k+1,_,rfl,by omega,by go_num,HI.out.trans (HV0.out.mono HI.out.size)⟩
      case measure=>simp [intOf];omega
    · have d1:decide (k<K)=false:=decide_eq_false hlt
      go_wp2
      go_ret
      exact ⟨by first|rfl|(simp;done),HLZ.out.trans ((HQ11.out.trans (HI.out.mono HQ11.out.size)).mono HLZ.out.size)⟩

set_option maxRecDepth 100000 in
theorem contract (H:Type) (enc:TypeId×Value->H) (W:World) (base:Nat) (args:Array Value) (ds gs:List (DataW H)) (before:List MemPlace)
    (hval:∀ (j:Nat) t v,Tryz.f3.params[j]?=some t->args[j]?=some v->Value.okWide Tryz.prog W .any base t v)
    (hW:DataW.Whole enc Tryz.prog Tryz.f3.params.toList Rows.histChecksSpec.vars false W args.toList ds gs before) :
    Calls Tryz.prog 3 args W fun e W'=>∃ v,e=.returned v/\Rows.histChecksSpec.post enc Tryz.prog Tryz.f3 false true false false W args v W':=by
  have hW':=hW;obtain ⟨p,q,hA0,hV,rfl,hfz,hnd⟩:=hW
  have hA:DataW.TrodAll enc Tryz.prog W 0 (fun _=>true) true Tryz.f3.params.toList args.toList ds p:=hA0
  rw [Tryz.params3] at hA hval;obtain ⟨v0,vs0,d0,ds0,p0,q0,hargs,rfl,rfl,h0,r0⟩:=trodAll_cons hA;obtain ⟨v1,vs1,d1,ds1,p1,q1,rfl,rfl,rfl,h1,r1⟩:=trodAll_cons r0;obtain ⟨rfl,rfl,rfl⟩:=trodAll_nil r1
  obtain rfl:args=#[v0,v1]:=by cases args;simp_all
  obtain ⟨P0,vr0,vv0,a0,b0,c0,T0,R0,nm0,sh0,lr0,lv0,rfl,hr0,hv0,ho0⟩:=zqk Tryz.underlying28 (tr:=22) (tv:=23) (er:=85) (ev:=88) (i:=3) (u:=26) (q:=51) (by kernel_rfl) (by kernel_rfl) Tryz.underlying3 Tryz.underlying26 Tryz.underlying51 Tryz.underlying22 (by kernel_rfl) (by kernel_rfl) Tryz.underlying23 (by kernel_rfl) (by kernel_rfl) (hval 0 28 v0 rfl rfl) h0
  have b1:=zk0 Tryz.underlying29 (i:=3) (q:=51) (u:=26) (by kernel_rfl) (by kernel_rfl) Tryz.underlying3 Tryz.underlying51 Tryz.underlying26 (hval 1 29 v1 rfl rfl) h1
  refine (walk W P0 vr0 vv0 a0 b0 c0 T0 R0 nm0 sh0 lr0 lv0 hr0 hv0 ho0 v1 b1).mono fun e W' ⟨he,hb⟩=>?_
  subst he
  exact znp (by kernel_rfl) Tryz.underlying4 (by kernel_rfl) (by kernel_rfl) rfl rfl hW' hb

set_option maxRecDepth 100000 in
theorem lifted (os:Os) (started:os.Started) (H:Type) (enc:TypeId×Value->H) :
    ReturnsInHanded {} Tryz.checked os 3 .any (Rows.histChecksSpec.pre6 enc Tryz.prog Tryz.f3 Rows.histChecksRow.domain false) (Rows.histChecksSpec.post enc Tryz.prog Tryz.f3 false true false false):=by
  refine returnsInHanded_of_change (C:=Tryz.checked) own started (by kernel_rfl) Tryz.func3
    (ChangeSpec.witness6 (enc:=enc) (C:=Tryz.checked) false ⟨#[],#[.agg #[.int .i64 0,.slice none 0 0,.slice none 0 0,.int .i64 0,.int .i64 0,.int .i64 0,.int .i64 0,.int .i64 0,.int .u32 0,.int .u32 0],.slice none 0 0],[]⟩ 8 (by kernel_rfl) (by kernel_rfl) (by kernel_rfl) (by kernel_rfl)) ?_
  intro W base args ds gs before hval hW _ _
  exact contract H enc W base args ds gs before hval hW

theorem proved:Rows.HistChecksSaid :=
  OpenClaim.holds_of_wide 3 Tryz.f3 rfl rfl rfl rfl rfl rfl rfl ⟨rfl,rfl,rfl,rfl,rfl⟩ rfl rfl rfl rfl rfl (by kernel_rfl) Tryz.func3 (by kernel_rfl)
    (of_decide_eq_true (by kernel_rfl)) (by unfold Func.isWrapper;first|(rw [if_pos (by decide +kernel)];kernel_rfl)|(rw [if_neg (by decide +kernel)];exact ⟨rfl,rfl⟩))
    (fun os started H enc _=>lifted os started H enc)
#print axioms proved
end Go.Proofs.YtfekhdgjgjodlaaGreat.histChecks
