/-
  Words and contracts that a statement's proof rests on (HiS). No statement is proved here.
-/
import Derived.Test.YtfekhdgjgjodlaaGreatHiE
import Derived.Test.YtfekhdgjgjodlaaGreatHiR
import Derived.Test.YtfekhdgjgjodlaaGreatMsH
import Derived.Test.YtfekhdgjgjodlaaGreatMrO
import Derived.Test.YtfekhdgjgjodlaaGreatVlanI
set_option linter.unusedVariables false
set_option linter.unusedSimpArgs false
namespace Go.Proofs.YtfekhdgjgjodlaaGreat
open Go.RowKit
section
variable {w:World} {N Bo nr nv m:Nat} {vr vv v:Value} {lr:List Rl} {lv:List Vl} {L:Nat->Ent} {P S B n r:Nat} {t:Int}
set_option maxRecDepth 20000 in
set_option maxHeartbeats 12800000 in
theorem zjg (hr:Sl w Bo 2 vr nr (rlc lr)) (hv:Sl w Bo 3 vv nv (vlc lv)) (hB:Bo<=w.heap.size) (hp:PlanOk lr lv nr nv m P S B n r t) (hN:N<=1000000) (hl:zbj w Bo N v L) (hop:∀ i,i<N->(L i).op.ok) (hfn:∀ i,i<N->0<=(L i).fin) (nm sh:Int) {o:List Nat} (ho:OrdL N (fun i=>(L i).mar) o) :
  Calls Tryz.prog 33 #[zbb P vr vv S B n t r nm sh,v] w fun e w'=>∃ A:Nat,e=.returned (.tuple #[.pointer (some ⟨A,0,none⟩),.int .i64 (rpl P r S B n nv L o (ms0 lv) (-1)).2])/\Below w.heap.size w w':=by
 have HCK:Hid (∀ w',Below w.heap.size w w'->Calls Tryz.prog 32 #[zbb P vr vv S B n t r nm sh] w' (Says (.int .i64 0) w')):=fun w' hb=>by
  have h9:=zfs (hr.below (hb.mono hB)) (hv.below (hb.mono hB)) hp.ok (Nat.le_trans hB hb.size) hp.fb P S B n t r nm sh;rw [hp.hK] at h9
  exact h9
 have HNW:Hid (∀ w',Below w.heap.size w w'->Calls Tryz.prog 18 #[zbb P vr vv S B n t r nm sh] w' fun e w2=>∃ (A S1 Q cQ:Nat) (X:Nat->Value) (bp bq:Nat) (uv:Value) (R:Nat->Nat) (G:Nat->Value),e=.returned (.pointer (some ⟨A,0,none⟩))/\RfAll (fun b=>b<w'.heap.size) w2 w'.heap.size A S1 Q cQ X bp bq P r S B n nv uv (ms0 lv).lv (ms0 lv).st (ms0 lv).g G R (fun _ _=>.slice none 0 0) (ms0 lv).qs/\Below w'.heap.size w' w2):=fun w' hb=>zp3 (hr.below (hb.mono hB)) (hv.below (hb.mono hB)) (Nat.le_trans hB hb.size) hp.hv P S B n r t nm sh hp.hP hp.hS hp.hB hp.hn
 have HOR:Hid (∀ w',Below w.heap.size w w'->Calls Tryz.prog 15 #[v] w' (ze6 N (fun i=>(L i).mar) w')):=fun w' hb=>zfu hN (hl.below (hb.mono hB)) (Nat.le_trans hB hb.size)
 obtain ⟨Ar,cr,rfl,hcr,hcm⟩:=hr.form;obtain ⟨Av,cv,rfl,hcv,hcw⟩:=hv.form;obtain ⟨Al,cl,rfl,hcl,hcx,hlc⟩:=hl;unfold maxLen at hcx;have HC:=Lib.hid hlc;have HPK:=Lib.hid (And.intro hp (And.intro hN (And.intro hB (And.intro hop (And.intro ho (And.intro hcl hfn))))))
 have HRN:Hid (∃ z,z=(rpl P r S B n nv L o (ms0 lv) (-1)).2):=⟨_,rfl⟩
 obtain ⟨ans,hans⟩:=HRN.out;rw [<- hans];have HAN:=Lib.hid hans;clear hr hv hB hp hN hop ho hcr hcm hcv hcw hlc hcl hans HRN hfn;unfold zbb at HNW HCK |-
 go_enter Tryz.func33,Tryz.ntmps33
 go_upto_region 1 with fail
 obtain ⟨wa,hwa⟩:∃ wa,wa=w.alloc (.cells #[.int .i64 (P:Nat),.slice Ar nr cr,.slice Av nv cv,.int .i64 (S:Nat),.int .i64 (B:Nat),.int .i64 (n:Nat),.int .i64 t,.int .i64 (r:Nat),.int .u32 nm,.int .u32 sh] 28):=⟨_,rfl⟩;have HWA:=Lib.hid (zbk hwa)
 have HRP:Hid (∀ w',Below wa.heap.size wa w'->w'.rangeAt w.heap.size 0 [.int .i64 (P:Nat),.slice Ar nr cr,.slice Av nv cv,.int .i64 (S:Nat),.int .i64 (B:Nat),.int .i64 (n:Nat),.int .i64 t,.int .i64 (r:Nat),.int .u32 nm,.int .u32 sh]):=fun w' hb=>zbw (zjr hwa) hb (by rw [HWA.out.2];omega)
 (try rw [<- hwa])
 clear hwa;have HBA:Hid (Below wa.heap.size wa wa):=Below.refl _ _
 go_upto_region 3 with (first
  |(refine wpList_load_mid (by rfl) 28 _ (by rfl) w.heap.size 0 (by rfl) [.int .i64 (P:Nat),.slice Ar nr cr,.slice Av nv cv,.int .i64 (S:Nat),.int .i64 (B:Nat),.int .i64 (n:Nat),.int .i64 t,.int .i64 (r:Nat),.int .u32 nm,.int .u32 sh] _ (HRP.out _ HBA.out) Tryz.underlying28 (by rfl) (by kernel_rfl) ?_)
  |(go_at_call 32;(with_reducible refine Calls.mono (HCK.out _ HWA.out.1) ?_);rintro e w0 ⟨rfl,hb1⟩;(have HB0:=Lib.hid hb1);clear hb1)
  |fail)
 have HW0:Hid (Below w.heap.size w w0/\w.heap.size+1<=w0.heap.size):=⟨HWA.out.1.trans (HB0.out.mono HWA.out.1.size),by have:=HWA.out.2;have:=HB0.out.size;omega⟩
 go_wp2_with (first
  |(refine wpList_load_mid (by rfl) 28 _ (by rfl) w.heap.size 0 (by rfl) [.int .i64 (P:Nat),.slice Ar nr cr,.slice Av nv cv,.int .i64 (S:Nat),.int .i64 (B:Nat),.int .i64 (n:Nat),.int .i64 t,.int .i64 (r:Nat),.int .u32 nm,.int .u32 sh] _ (HRP.out _ HB0.out) Tryz.underlying28 (by rfl) (by kernel_rfl) ?_;clear HRP)
  |(go_at_call 18;(with_reducible refine Calls.mono (HNW.out _ HW0.out.1) ?_);rintro e w1 ⟨A,S1,Q,cQ,X,bp,bq,uv,Rf,G,rfl,hm,hb1⟩;(have HM1:=Lib.hid hm);(have HB1:=Lib.hid hb1);clear hm hb1)
  |(go_at_call 15;(with_reducible refine Calls.mono (HOR.out _ (HW0.out.1.trans (HB1.out.mono HW0.out.1.size))) ?_);rintro e w2 ⟨Ao,co,o',rfl,ho',hs',hb2,hlo⟩;(obtain rfl:o'=o:=ho'.uniq HPK.out.2.2.2.2.1);(have HM2:=Lib.hid (HM1.out.grow hb2.size (fun b hlt _=>hb2.block b hlt)));(have HS2:=Lib.hid (And.intro hs' hlo));(have HB2:=Lib.hid hb2);clear ho' hs' hb2 hlo)
  |fail)
 clear HNW HOR HCK HBA HWA HB0
 have hol:o'.length<=1000000:=by have:=HPK.out.2.2.2.2.1.len;have:=HPK.out.2.1;omega
 go_loopw [7,9] (fun bv iv wr=>∃ (k:Nat) (b:Int) (s:Ms) (qv':Nat->Nat->Value) (wx:World),wx=wr/\k<=o'.length/\-1<=b/\bv=.int .i64 b/\iv=.int .i64 k/\Hid (RfAll (fun b=>(b<w0.heap.size)\/(w1.heap.size<=b/\b<w2.heap.size)) wr w0.heap.size A S1 Q cQ X bp bq P r S B n nv uv s.lv s.st s.g G Rf qv' s.qs/\s.good/\Below w0.heap.size w2 wr/\(∀ b,w1.heap.size<=b->b<w2.heap.size->wr.heap[b]?=w2.heap[b]?)/\rpl P r S B n nv L (o'.drop k) s b=rpl P r S B n nv L o' (ms0 lv) (-1)/\∀ i j,i<P->j<P->(s.qs i j).length<=r)) (fun _ iv _=>o'.length - (intOf iv).toNat)
 case atStart=>exact ⟨0,-1,ms0 lv,_,_,rfl,Nat.zero_le _,by omega,rfl,rfl,HM2.out,zl3 HPK.out.1.ok,Below.refl _ _,fun _ _ _=>rfl,rfl,fun _ _ _ _=>Nat.zero_le _⟩
 case round =>
  obtain ⟨k,b,s,qv',wr,rfl,hk,hb1,rfl,rfl,HI⟩:=hrel
  by_cases hlt:k<o'.length
  ·have d1:decide (k<o'.length)=true:=decide_eq_true hlt
   have g0:(0:Int)<=(k:Int):=Int.natCast_nonneg _
   have g1:(k:Int)<(o'.length:Int):=by omega
   have hmem:=(HPK.out.2.2.2.2.1.2 _).1 (zcv hlt);obtain ⟨i,hi⟩:∃ i,i=getN o' k:=⟨_,rfl⟩;rw [<- hi] at hmem
   obtain ⟨be,oe,rfl,hbe,hce⟩:=HC.out (by omega)
   obtain ⟨pb,po,cp,hsv,hp1,hp2,hpb,hpc⟩:=HS2.out.1.at_ (by omega)
   injection hsv with hA _ hcp
   subst hA hcp
   have hpl:=HS2.out.2 pb po rfl (by omega)
   have hpx:(Sl w2 w2.heap.size 1 (.slice (some ⟨pb,po,none⟩) o'.length co) o'.length (natV o')):=HS2.out.1
   have q0:wr.cell? ⟨pb,po+k,none⟩=some (.int .i64 (i:Nat)):=by
    rw [World.cell?_of_block (HI.out.2.2.2.1 pb hpl hpb),hpc k (by omega),zh8 hlt,hi]
   have HPB:Hid (w1.heap.size<=pb/\pb<w2.heap.size):=⟨hpl,hpb⟩
   have h0:(0:Int)<=(i:Int):=Int.natCast_nonneg _
   have h1:(i:Int)<(N:Int):=by omega
   have HWL:Hid (zaf wr be (oe+i*19) (L i)):=(hce i hmem.1).keep fun p hp=>((HW0.out.1.trans (HB1.out.mono HW0.out.1.size)).trans ((HB2.out.mono (by have:=HB1.out.size;have:=HW0.out.2;omega)).trans (HI.out.2.2.1.mono HW0.out.1.size))).cell (by rw [hp];have:=HPK.out.2.2.1;omega)
   have HRG:=Lib.hid HWL.out.range
   have hdo:∀ E2 w',RfAll E2 w' w0.heap.size A S1 Q cQ X bp bq P r S B n nv uv s.lv s.st s.g G Rf qv' s.qs->Calls Tryz.prog 19 #[.pointer (some ⟨A,0,none⟩),.agg (L i).op.cells.toArray] w' (za8 E2 w' w0.heap.size A S1 Q cQ X bp bq P r S B n nv uv G Rf (doS P r S B n nv s (L i).op) (doA P r S B n nv s (L i).op)):=fun E2 w' hrf=>zjp hrf HPK.out.1.hr HPK.out.1.hS HPK.out.1.hB HPK.out.1.hn HI.out.2.1 (fun i j hi hj=>Nat.le_trans (HI.out.2.2.2.2.2 i j hi hj) (by have:=HPK.out.1.hr;omega)) (L i).op (HPK.out.2.2.2.1 i hmem.1)
   have HQL:Hid (∀ i2 j2,i2<P->j2<P->((doS P r S B n nv s (L i).op).qs i2 j2).length<=r):=doS_len HI.out.2.2.2.2.2
   have hf0:=HPK.out.2.2.2.2.2.2 i hmem.1;have hstep:=zl1 P r S B n nv L hlt s b;rw [<- hi,HI.out.2.2.2.2.1] at hstep;obtain ⟨x,hx⟩:∃ x,x=L i:=⟨_,rfl⟩;rw [<- hx] at HRG hdo hstep HQL hf0;obtain ⟨s2,hs2⟩:∃ z,z=doS P r S B n nv s x.op:=⟨_,rfl⟩;obtain ⟨av,hav⟩:∃ z,z=doA P r S B n nv s x.op:=⟨_,rfl⟩;rw [<- hs2,<- hav] at hdo hstep;rw [<- hs2] at HQL;have HDO:=Lib.hid hdo;have HST:=Lib.hid hstep;clear hstep hx hs2 hav hi hmem hce hpb hpc hpl HWL hdo hpx
   by_cases e1:b=-1
   ·subst e1
    by_cases e2:x.fin=0
    ·have d2:decide (x.fin > 0)=false:=decide_eq_false (by omega)
     have HST2:Hid (rpl P r S B n nv L (o'.drop (k+1)) s2 (-1)=rpl P r S B n nv L o' (ms0 lv) (-1)):=Lib.hid (by rw [HST.out,if_neg (fun h=>h.2.1 e2)])
     clear e2 hf0
     go_upto_region 10 with (first
      |(refine wpList_load_mid (by rfl) 57 _ (by rfl) be (oe+i*19) (by rfl) x.cells _ HRG.out Tryz.underlying57 (by rfl) (by rw [Ent.cells_length];kernel_rfl) ?_;clear HRG)
      |(refine zak (by rfl) 57 _ _ (by rfl) wr.heap.size 0 x.cells.toArray (by rfl) (by rfl) (zco _ _) (by rw [List.size_toArray,Ent.cells_length];kernel_rfl) (all_oneCell_toArray x.cells_one) ?_;intro wz hst;(have HZT:=Lib.hid hst);clear hst)
      |fail)
     have HZB:Hid (Below wr.heap.size wr wz/\wz.heap.size=wr.heap.size+1):=⟨((Below.refl _ _).alloc (Nat.le_refl _) _).trans (HZT.out.below _ (Nat.le_refl _)),by rw [HZT.out.size];simp⟩
     have HZE:Hid (zaf wz wr.heap.size 0 x):=zaf.of_stored (w:=wz) HZT.out.cells;have HRO:Hid (wz.rangeAt wr.heap.size 4 x.op.cells):=HZE.out.oprange
     have HGZ:=Lib.hid (HI.out.1.grow HZB.out.1.size fun b9 hlt9 _=>HZB.out.1.block b9 hlt9)
     clear HZT
     go_wp2_with (first
      |go_big_skip
      |(refine wpList_load_mid (by rfl) 55 _ (by rfl) wr.heap.size 4 (by rfl) x.op.cells _ HRO.out Tryz.underlying55 (by rfl) (by rw [Od.cells_length];kernel_rfl) ?_;clear HRO)
      |(go_at_call 19;(with_reducible refine Calls.mono (HDO.out _ _ HGZ.out) ?_);rintro e wd ⟨qv2,rfl,hm2,hg2,hf2⟩;(have HM3:=Lib.hid (And.intro (hm2.less (E':=(fun b=>(b<w0.heap.size)\/(w1.heap.size<=b/\b<w2.heap.size))) (fun b9 h9=>.inl h9)) (And.intro hg2 hf2)));(have HWD:Hid (zaf wd wr.heap.size 0 x):=HZE.out.keep (fun p hp=>World.cell?_of_block (hf2.kp p.block (.inr ⟨by rw [hp];omega,by rw [hp];have:=HZB.out.2;omega⟩))));(have e3:wd.cell? ⟨wr.heap.size,3,none⟩=some (.int .i64 x.fin):=HWD.out.2.2.2.1);(have e18:wd.cell? ⟨wr.heap.size,18,none⟩=some (.int .i64 x.ans):=HWD.out.ans_);(have q0:wd.cell? ⟨pb,po+k,none⟩=some (.int .i64 (i:Nat)):=(World.cell?_of_block (a:=⟨pb,po+k,none⟩) (hf2.kp pb (.inl (.inr HPB.out)))).trans ((World.cell?_of_block (a:=⟨pb,po+k,none⟩) (HZB.out.1.block pb (World.block_lt_of_cell? _ _ q0))).trans q0));clear hm2 hg2 hf2)
      |fail)
     go_roundw
     case rel=>exact ⟨k+1,-1,s2,qv2,_,rfl,by omega,by omega,rfl,by go_num,HM3.out.1,HM3.out.2.1,(HI.out.2.2.1.trans (HZB.out.1.mono HI.out.1.base)).trans HM3.out.2.2.low,fun b9 h9 h8=>(HM3.out.2.2.kp b9 (.inl (.inr ⟨h9,h8⟩))).trans ((HZB.out.1.block b9 (HI.out.1.lt b9 (.inr ⟨h9,h8⟩))).trans (HI.out.2.2.2.1 b9 h9 h8)),HST2.out,HQL.out⟩
     case measure=>simp [intOf];omega
    ·have d2:decide (x.fin > 0)=true:=decide_eq_true (by omega)
     by_cases e3:x.ans=av
     ·have d3:(av != x.ans)=false:=by simp [e3]
      have HST2:Hid (rpl P r S B n nv L (o'.drop (k+1)) s2 (-1)=rpl P r S B n nv L o' (ms0 lv) (-1)):=Lib.hid (by rw [HST.out,if_neg (fun h=>h.2.2 e3)])
      clear e2 e3 hf0
      go_upto_region 10 with (first
       |(refine wpList_load_mid (by rfl) 57 _ (by rfl) be (oe+i*19) (by rfl) x.cells _ HRG.out Tryz.underlying57 (by rfl) (by rw [Ent.cells_length];kernel_rfl) ?_;clear HRG)
       |(refine zak (by rfl) 57 _ _ (by rfl) wr.heap.size 0 x.cells.toArray (by rfl) (by rfl) (zco _ _) (by rw [List.size_toArray,Ent.cells_length];kernel_rfl) (all_oneCell_toArray x.cells_one) ?_;intro wz hst;(have HZT:=Lib.hid hst);clear hst)
       |fail)
      have HZB:Hid (Below wr.heap.size wr wz/\wz.heap.size=wr.heap.size+1):=⟨((Below.refl _ _).alloc (Nat.le_refl _) _).trans (HZT.out.below _ (Nat.le_refl _)),by rw [HZT.out.size];simp⟩
      have HZE:Hid (zaf wz wr.heap.size 0 x):=zaf.of_stored (w:=wz) HZT.out.cells;have HRO:Hid (wz.rangeAt wr.heap.size 4 x.op.cells):=HZE.out.oprange
      have HGZ:=Lib.hid (HI.out.1.grow HZB.out.1.size fun b9 hlt9 _=>HZB.out.1.block b9 hlt9)
      clear HZT
      go_wp2_with (first
       |go_big_skip
       |(refine wpList_load_mid (by rfl) 55 _ (by rfl) wr.heap.size 4 (by rfl) x.op.cells _ HRO.out Tryz.underlying55 (by rfl) (by rw [Od.cells_length];kernel_rfl) ?_;clear HRO)
       |(go_at_call 19;(with_reducible refine Calls.mono (HDO.out _ _ HGZ.out) ?_);rintro e wd ⟨qv2,rfl,hm2,hg2,hf2⟩;(have HM3:=Lib.hid (And.intro (hm2.less (E':=(fun b=>(b<w0.heap.size)\/(w1.heap.size<=b/\b<w2.heap.size))) (fun b9 h9=>.inl h9)) (And.intro hg2 hf2)));(have HWD:Hid (zaf wd wr.heap.size 0 x):=HZE.out.keep (fun p hp=>World.cell?_of_block (hf2.kp p.block (.inr ⟨by rw [hp];omega,by rw [hp];have:=HZB.out.2;omega⟩))));(have e3:wd.cell? ⟨wr.heap.size,3,none⟩=some (.int .i64 x.fin):=HWD.out.2.2.2.1);(have e18:wd.cell? ⟨wr.heap.size,18,none⟩=some (.int .i64 x.ans):=HWD.out.ans_);(have q0:wd.cell? ⟨pb,po+k,none⟩=some (.int .i64 (i:Nat)):=(World.cell?_of_block (a:=⟨pb,po+k,none⟩) (hf2.kp pb (.inl (.inr HPB.out)))).trans ((World.cell?_of_block (a:=⟨pb,po+k,none⟩) (HZB.out.1.block pb (World.block_lt_of_cell? _ _ q0))).trans q0));clear hm2 hg2 hf2)
       |fail)
      go_roundw
      case rel=>exact ⟨k+1,-1,s2,qv2,_,rfl,by omega,by omega,rfl,by go_num,HM3.out.1,HM3.out.2.1,(HI.out.2.2.1.trans (HZB.out.1.mono HI.out.1.base)).trans HM3.out.2.2.low,fun b9 h9 h8=>(HM3.out.2.2.kp b9 (.inl (.inr ⟨h9,h8⟩))).trans ((HZB.out.1.block b9 (HI.out.1.lt b9 (.inr ⟨h9,h8⟩))).trans (HI.out.2.2.2.1 b9 h9 h8)),HST2.out,HQL.out⟩
      case measure=>simp [intOf];omega
     ·have d3:(av != x.ans)=true:=by simpa using Ne.symm e3
      have HST2:Hid (rpl P r S B n nv L (o'.drop (k+1)) s2 (i:Int)=rpl P r S B n nv L o' (ms0 lv) (-1)):=Lib.hid (by rw [HST.out,if_pos ⟨rfl,e2,e3⟩])
      clear e2 e3 hf0
      go_upto_region 10 with (first
       |(refine wpList_load_mid (by rfl) 57 _ (by rfl) be (oe+i*19) (by rfl) x.cells _ HRG.out Tryz.underlying57 (by rfl) (by rw [Ent.cells_length];kernel_rfl) ?_;clear HRG)
       |(refine zak (by rfl) 57 _ _ (by rfl) wr.heap.size 0 x.cells.toArray (by rfl) (by rfl) (zco _ _) (by rw [List.size_toArray,Ent.cells_length];kernel_rfl) (all_oneCell_toArray x.cells_one) ?_;intro wz hst;(have HZT:=Lib.hid hst);clear hst)
       |fail)
      have HZB:Hid (Below wr.heap.size wr wz/\wz.heap.size=wr.heap.size+1):=⟨((Below.refl _ _).alloc (Nat.le_refl _) _).trans (HZT.out.below _ (Nat.le_refl _)),by rw [HZT.out.size];simp⟩
      have HZE:Hid (zaf wz wr.heap.size 0 x):=zaf.of_stored (w:=wz) HZT.out.cells;have HRO:Hid (wz.rangeAt wr.heap.size 4 x.op.cells):=HZE.out.oprange
      have HGZ:=Lib.hid (HI.out.1.grow HZB.out.1.size fun b9 hlt9 _=>HZB.out.1.block b9 hlt9)
      clear HZT
      go_wp2_with (first
       |go_big_skip
       |(refine wpList_load_mid (by rfl) 55 _ (by rfl) wr.heap.size 4 (by rfl) x.op.cells _ HRO.out Tryz.underlying55 (by rfl) (by rw [Od.cells_length];kernel_rfl) ?_;clear HRO)
       |(go_at_call 19;(with_reducible refine Calls.mono (HDO.out _ _ HGZ.out) ?_);rintro e wd ⟨qv2,rfl,hm2,hg2,hf2⟩;(have HM3:=Lib.hid (And.intro (hm2.less (E':=(fun b=>(b<w0.heap.size)\/(w1.heap.size<=b/\b<w2.heap.size))) (fun b9 h9=>.inl h9)) (And.intro hg2 hf2)));(have HWD:Hid (zaf wd wr.heap.size 0 x):=HZE.out.keep (fun p hp=>World.cell?_of_block (hf2.kp p.block (.inr ⟨by rw [hp];omega,by rw [hp];have:=HZB.out.2;omega⟩))));(have e3:wd.cell? ⟨wr.heap.size,3,none⟩=some (.int .i64 x.fin):=HWD.out.2.2.2.1);(have e18:wd.cell? ⟨wr.heap.size,18,none⟩=some (.int .i64 x.ans):=HWD.out.ans_);(have q0:wd.cell? ⟨pb,po+k,none⟩=some (.int .i64 (i:Nat)):=(World.cell?_of_block (a:=⟨pb,po+k,none⟩) (hf2.kp pb (.inl (.inr HPB.out)))).trans ((World.cell?_of_block (a:=⟨pb,po+k,none⟩) (HZB.out.1.block pb (World.block_lt_of_cell? _ _ q0))).trans q0));clear hm2 hg2 hf2)
       |fail)
      go_roundw
      case rel=>exact ⟨k+1,(i:Int),s2,qv2,_,rfl,by omega,by omega,rfl,by go_num,HM3.out.1,HM3.out.2.1,(HI.out.2.2.1.trans (HZB.out.1.mono HI.out.1.base)).trans HM3.out.2.2.low,fun b9 h9 h8=>(HM3.out.2.2.kp b9 (.inl (.inr ⟨h9,h8⟩))).trans ((HZB.out.1.block b9 (HI.out.1.lt b9 (.inr ⟨h9,h8⟩))).trans (HI.out.2.2.2.1 b9 h9 h8)),HST2.out,HQL.out⟩
      case measure=>simp [intOf];omega
   ·have d4:decide (b<0)=false:=decide_eq_false (by omega)
    have HST2:Hid (rpl P r S B n nv L (o'.drop (k+1)) s2 b=rpl P r S B n nv L o' (ms0 lv) (-1)):=Lib.hid (by rw [HST.out,if_neg (fun h=>e1 h.1)])
    clear e1 hf0
    go_upto_region 10 with (first
     |(refine wpList_load_mid (by rfl) 57 _ (by rfl) be (oe+i*19) (by rfl) x.cells _ HRG.out Tryz.underlying57 (by rfl) (by rw [Ent.cells_length];kernel_rfl) ?_;clear HRG)
     |(refine zak (by rfl) 57 _ _ (by rfl) wr.heap.size 0 x.cells.toArray (by rfl) (by rfl) (zco _ _) (by rw [List.size_toArray,Ent.cells_length];kernel_rfl) (all_oneCell_toArray x.cells_one) ?_;intro wz hst;(have HZT:=Lib.hid hst);clear hst)
     |fail)
    have HZB:Hid (Below wr.heap.size wr wz/\wz.heap.size=wr.heap.size+1):=⟨((Below.refl _ _).alloc (Nat.le_refl _) _).trans (HZT.out.below _ (Nat.le_refl _)),by rw [HZT.out.size];simp⟩
    have HZE:Hid (zaf wz wr.heap.size 0 x):=zaf.of_stored (w:=wz) HZT.out.cells;have HRO:Hid (wz.rangeAt wr.heap.size 4 x.op.cells):=HZE.out.oprange
    have HGZ:=Lib.hid (HI.out.1.grow HZB.out.1.size fun b9 hlt9 _=>HZB.out.1.block b9 hlt9)
    clear HZT
    go_wp2_with (first
     |go_big_skip
     |(refine wpList_load_mid (by rfl) 55 _ (by rfl) wr.heap.size 4 (by rfl) x.op.cells _ HRO.out Tryz.underlying55 (by rfl) (by rw [Od.cells_length];kernel_rfl) ?_;clear HRO)
     |(go_at_call 19;(with_reducible refine Calls.mono (HDO.out _ _ HGZ.out) ?_);rintro e wd ⟨qv2,rfl,hm2,hg2,hf2⟩;(have HM3:=Lib.hid (And.intro (hm2.less (E':=(fun b=>(b<w0.heap.size)\/(w1.heap.size<=b/\b<w2.heap.size))) (fun b9 h9=>.inl h9)) (And.intro hg2 hf2)));(have HWD:Hid (zaf wd wr.heap.size 0 x):=HZE.out.keep (fun p hp=>World.cell?_of_block (hf2.kp p.block (.inr ⟨by rw [hp];omega,by rw [hp];have:=HZB.out.2;omega⟩))));(have e3:wd.cell? ⟨wr.heap.size,3,none⟩=some (.int .i64 x.fin):=HWD.out.2.2.2.1);(have e18:wd.cell? ⟨wr.heap.size,18,none⟩=some (.int .i64 x.ans):=HWD.out.ans_);(have q0:wd.cell? ⟨pb,po+k,none⟩=some (.int .i64 (i:Nat)):=(World.cell?_of_block (a:=⟨pb,po+k,none⟩) (hf2.kp pb (.inl (.inr HPB.out)))).trans ((World.cell?_of_block (a:=⟨pb,po+k,none⟩) (HZB.out.1.block pb (World.block_lt_of_cell? _ _ q0))).trans q0));clear hm2 hg2 hf2)
     |fail)
    go_roundw
    case rel=>exact ⟨k+1,b,s2,qv2,_,rfl,by omega,by omega,rfl,by go_num,HM3.out.1,HM3.out.2.1,(HI.out.2.2.1.trans (HZB.out.1.mono HI.out.1.base)).trans HM3.out.2.2.low,fun b9 h9 h8=>(HM3.out.2.2.kp b9 (.inl (.inr ⟨h9,h8⟩))).trans ((HZB.out.1.block b9 (HI.out.1.lt b9 (.inr ⟨h9,h8⟩))).trans (HI.out.2.2.2.1 b9 h9 h8)),HST2.out,HQL.out⟩
    case measure=>simp [intOf];omega
  ·have hko:k=o'.length:=by omega
   have d1:decide (k<o'.length)=false:=decide_eq_false hlt
   have HE:Hid (b=ans):=Lib.hid (by rw [HAN.out,<- HI.out.2.2.2.2.1,hko,List.drop_length];rfl)
   clear hko
   go_wp2
   exact bodyPost_ret (v:=.tuple #[.pointer (some ⟨A,0,none⟩),.int .i64 b]) (by simp [results,Tryz.results33,go_sem]) rfl ⟨A,by rw [HE.out],(HW0.out.1.trans (HB1.out.mono HW0.out.1.size)).trans ((HB2.out.mono (by have:=HB1.out.size;have:=HW0.out.2;omega)).trans (HI.out.2.2.1.mono HW0.out.1.size))⟩
end
end Go.Proofs.YtfekhdgjgjodlaaGreat
