/-
  Words and contracts that a statement's proof rests on (HiE). No statement is proved here.
-/
import Derived.Test.YtfekhdgjgjodlaaGreatOpenVl
import Derived.Test.YtfekhdgjgjodlaaGreatSrG
import Derived.Test.YtfekhdgjgjodlaaGreatHiD
set_option linter.unusedVariables false
set_option linter.unusedSimpArgs false
namespace Go.Proofs.YtfekhdgjgjodlaaGreat
open Go.RowKit
section
variable {w:World} {N B:Nat} {v:Value} {L:Nat->Ent}
set_option maxRecDepth 20000 in
set_option maxHeartbeats 3200000 in
theorem zmy (hn:N<=1000000) (h:zbj w B N v L) (hB:B<=w.heap.size) :
  Calls Tryz.prog 26 #[v,.func (.func 27) #[] #[]] w (Says (.int .i64 (zaw (fun i=>misT (L i)) N)) w):=by
 obtain ⟨A,cap,rfl,h1,h2,h3⟩:=h;have HC:=Lib.hid h3;have HN:=Lib.hid (And.intro hn (And.intro h1 hB));unfold maxLen at h2
 obtain ⟨ans,hans⟩:∃ a,a=zaw (fun i=>misT (L i)) N:=⟨_,rfl⟩
 rw [<- hans];have HAN:=Lib.hid hans
 have HW:=Lib.hid fun x W=>zgi x W
 clear h3 h1 hB hn hans
 go_enter Tryz.func26,Tryz.ntmps26
 go_wp2
 go_loopw [8] (fun i wr=>∃ k:Nat,k<=N/\i=.int .i64 k/\Hid (Below w.heap.size w wr/\∀ i,i<k->misT (L i)=false)) (fun i _=>N - (intOf i).toNat)
 case atStart=>exact ⟨0,Nat.zero_le _,rfl,Below.refl _ _,fun i hi=>by omega⟩
 case round =>
  obtain ⟨k,hk,rfl,HI⟩:=hrel
  rename_i wr _
  by_cases hlt:k<N
  ·have d1:decide (k<N)=true:=decide_eq_true hlt
   obtain ⟨b,off,rfl,hb,hc⟩:=HC.out (by omega)
   have HRG:=Lib.hid ((hc k hlt).keep (w':=wr) fun p hp=>HI.out.1.cell (by rw [hp];have:=HN.out;omega)).range
   have g0:(0:Int)<=(k:Int):=Int.natCast_nonneg _
   have g1:(k:Int)<(N:Int):=by omega
   have hKN:k<=1000000:=by have:=HN.out.1;omega
   have HK:=HW.out (L k);unfold Ent.val at HK
   cases hq:misT (L k)
   ·rw [hq] at HK
    have HK:=Lib.hid HK
    have HNX:Hid (∀ i,i<k+1->misT (L i)=false):=zcq HI.out.2 hq
    clear hq hc
    go_wp2_with (first
     |(refine wpList_load_mid (by rfl) 68 _ (by rfl) b (off+k*19) (by rfl) (L k).cells _ HRG.out Tryz.underlying68 (by rfl) (by rw [Ent.cells_length];kernel_rfl) ?_;clear HRG)
     |((with_reducible refine Calls.mono (HK.out _) ?_);rintro e w1 ⟨rfl,hb1⟩;(have HB1:=Lib.hid (HI.out.1.trans (hb1.mono HI.out.1.size)));clear hb1)
     |fail)
    go_roundw
    case rel=>exact ⟨k+1,by omega,by go_num,HB1.out,HNX.out⟩
    case measure=>simp [intOf];omega
   ·rw [hq] at HK
    have HK:=Lib.hid HK;have HQ:=Lib.hid (And.intro hq rfl:misT (L k)=true/\True=True);clear hq hc
    go_wp2_with (first
     |(refine wpList_load_mid (by rfl) 68 _ (by rfl) b (off+k*19) (by rfl) (L k).cells _ HRG.out Tryz.underlying68 (by rfl) (by rw [Ent.cells_length];kernel_rfl) ?_;clear HRG)
     |((with_reducible refine Calls.mono (HK.out _) ?_);rintro e w1 ⟨rfl,hb1⟩;(have HB1:=Lib.hid (HI.out.1.trans (hb1.mono HI.out.1.size)));clear hb1)
     |fail)
    go_ret
    exact ⟨by rw [HAN.out,za5 _ k HI.out.2 HQ.out.1 N hlt];rfl,HB1.out⟩
  ·have:k=N:=by omega
   subst this
   have d1:decide (k<k)=false:=decide_eq_false hlt
   go_wp2
   go_ret
   exact ⟨by rw [HAN.out,zbi _ _ HI.out.2];rfl,HI.out.1⟩
end
theorem zb1 {P:Program} {ops:Array Oper} {rest:List Oper} {op:Oper} {a:Act} {w:World} {Q:Exit->Act->World->Prop} (ty:TypeId) (x:Operand) (ho:op.op=.load ty x) (hw:Region.wanted op (yielded ops a.tmps)=true)
  (b o:Nat) (hx:a.eval x=.pointer (some ⟨b,o,none⟩)) (cs:List Value) (d:TypeDesc) (hc:w.rangeAt b o cs)
  (hu:P.underlying ty=some d) (hd:d.isRow=true) (hi:(P.info? ty).map (·.size)=some cs.length)
  (h:wpList P ops Q rest (a.put op.dst (.agg cs.toArray)) w):wpList P ops Q (op :: rest) a w:=by
 simp only [wpList,hw,if_true]
 exact .inl (wp_load_mid ty x ho b o hx cs d hc hu hd hi h)
theorem zhs (f:Nat->Bool) {j:Nat} (hf:f j=true):∀ {n:Nat},j<n->zaw f n≠-1
 |n+1,hj=>by
  rw [zaw]
  have:=zb0 f n
  by_cases h:0<=zaw f n
  ·rw [if_pos h];omega
  ·rw [if_neg h]
   rcases Nat.lt_or_ge j n with c|c
   ·have:=zhs f hf c
    omega
   ·have:j=n:=by omega
    subst this;rw [if_pos hf]
    omega
structure PlanOk (lr:List Rl) (lv:List Vl) (nr nv m P S B n r:Nat) (t:Int):Prop where
 ok:∀ x∈lv,x.ok
 fb:zdh lr nr m
 hP:2<=P/\P<=64
 hS:1<=S/\S<=8
 hB:1<=B/\B<=16
 hn:1<=n/\n<=8
 hr:r<=64
 hv:nv<=1000000
 hK:zgd (zb4 lv P nv) (decide ((nr:Int)=P)) (!decide (m<nr)) (zct S B n && (zaq t 8 && zaq r 64))=0
theorem zp1 {o:List Nat} {k:Nat} (h:k<o.length):o.drop k=getN o k :: o.drop (k+1):=by
 rw [List.drop_eq_getElem_cons h]
 congr 1
 have:=zft h
 rw [List.getElem?_eq_getElem h] at this
 injection this
theorem zl1 (P r S B n nv:Nat) (L:Nat->Ent) {o:List Nat} {k:Nat} (h:k<o.length) (s:Ms) (b:Int) :
  rpl P r S B n nv L (o.drop k) s b=rpl P r S B n nv L (o.drop (k+1)) (doS P r S B n nv s (L (getN o k)).op) (if b=-1/\(L (getN o k)).fin≠0/\(L (getN o k)).ans≠doA P r S B n nv s (L (getN o k)).op then (getN o k:Int) else b):=by
 rw [zp1 h,rpl]
def ms0 (lv:List Vl):Ms:=⟨lv,fun _=>(0,0),fun _ _=>pl0,fun _ _=>[]⟩
theorem zl3 {lv:List Vl} (h:∀ x∈lv,x.ok):(ms0 lv).good:=⟨fun _ _=>by show (0:Nat)<_;omega,h⟩
section
variable {w:World} {N Bo nr nv m:Nat} {vr vv v:Value} {lr:List Rl} {lv:List Vl} {L:Nat->Ent} {P S B n r:Nat} {t:Int}
set_option maxRecDepth 20000 in
set_option maxHeartbeats 12800000 in
theorem zjt (hr:Sl w Bo 2 vr nr (rlc lr)) (hv:Sl w Bo 3 vv nv (vlc lv)) (hB:Bo<=w.heap.size) (hp:PlanOk lr lv nr nv m P S B n r t) (hN:N<=1000000) (hl:zbj w Bo N v L) (hop:∀ i,i<N->(L i).op.ok) (nm sh:Int) {o:List Nat} (ho:OrdL N (fun i=>(L i).mar) o) :
  Calls Tryz.prog 29 #[zbb P vr vv S B n t r nm sh,v] w fun e w'=>∃ A:Nat,e=.returned (.tuple #[.pointer (some ⟨A,0,none⟩),.int .i64 (rpl P r S B n nv L o (ms0 lv) (-1)).2])/\Below w.heap.size w w':=by
 have HNW:Hid (∀ w',Below w.heap.size w w'->Calls Tryz.prog 57 #[zbb P vr vv S B n t r nm sh] w' fun e w2=>∃ (A S1 Q bp bq:Nat) (uv:Value) (R:Nat->Nat) (G:Nat->Value),e=.returned (.tuple #[.pointer (some ⟨A,0,none⟩),.int .i64 0])/\MdAll (fun b=>b<w'.heap.size) w2 w'.heap.size A S1 Q bp bq P r S B n nv uv (ms0 lv).lv (ms0 lv).st (ms0 lv).g G R (fun _ _=>.slice none 0 0) (ms0 lv).qs/\Below w'.heap.size w' w2):=fun w' hb=>by
  refine (zp6 (hr.below (hb.mono hB)) (hv.below (hb.mono hB)) hp.ok (Nat.le_trans hB hb.size) hp.fb P S B n r t nm sh hp.hP hp.hS hp.hB hp.hn hp.hv hp.hK).mono ?_
  rintro e w2 ⟨A,S1,Q,bp,bq,hN,uv,Rf,G,rfl,hm,hk,o1,o2,o3,o4,o5,hu,hqn,hbn⟩
  exact ⟨A,S1,Q,bp,bq,uv,Rf,G,rfl,MdAll.of_new hm hk o1 o2 o3 o4 o5 hu hqn (fun _ h=>h),hbn⟩
 have HOR:Hid (∀ w',Below w.heap.size w w'->Calls Tryz.prog 14 #[v] w' (ze6 N (fun i=>(L i).mar) w')):=fun w' hb=>ze4 hN (hl.below (hb.mono hB)) (Nat.le_trans hB hb.size)
 have HIO:=Lib.hid fun x W=>zed x W
 obtain ⟨Ar,cr,rfl,hcr,hcm⟩:=hr.form;obtain ⟨Av,cv,rfl,hcv,hcw⟩:=hv.form;obtain ⟨Al,cl,rfl,hcl,hcx,hlc⟩:=hl;unfold maxLen at hcx;have HC:=Lib.hid hlc;have HPK:=Lib.hid (And.intro hp (And.intro hN (And.intro hB (And.intro hop (And.intro ho hcl)))))
 have HRN:Hid (∃ z,z=(rpl P r S B n nv L o (ms0 lv) (-1)).2):=⟨_,rfl⟩
 obtain ⟨ans,hans⟩:=HRN.out;rw [<- hans];have HAN:=Lib.hid hans;clear hr hv hB hp hN hop ho hcr hcm hcv hcw hlc hcl hans HRN;unfold zbb at HNW |-
 go_enter Tryz.func29,Tryz.ntmps29
 go_upto_region 1 with fail
 obtain ⟨w0,hw0⟩:∃ w0,w0=w.alloc (.cells #[.int .i64 (P:Nat),.slice Ar nr cr,.slice Av nv cv,.int .i64 (S:Nat),.int .i64 (B:Nat),.int .i64 (n:Nat),.int .i64 t,.int .i64 (r:Nat),.int .u32 nm,.int .u32 sh] 41):=⟨_,rfl⟩;have HW0:=Lib.hid (zbk hw0);have HRP:Hid (w0.rangeAt w.heap.size 0 [.int .i64 (P:Nat),.slice Ar nr cr,.slice Av nv cv,.int .i64 (S:Nat),.int .i64 (B:Nat),.int .i64 (n:Nat),.int .i64 t,.int .i64 (r:Nat),.int .u32 nm,.int .u32 sh]):=zjr hw0;rw [<- hw0];clear hw0
 go_wp2_with (first
  |(refine wpList_load_mid (by rfl) 41 _ (by rfl) w.heap.size 0 (by rfl) [.int .i64 (P:Nat),.slice Ar nr cr,.slice Av nv cv,.int .i64 (S:Nat),.int .i64 (B:Nat),.int .i64 (n:Nat),.int .i64 t,.int .i64 (r:Nat),.int .u32 nm,.int .u32 sh] _ HRP.out Tryz.underlying41 (by rfl) (by kernel_rfl) ?_;clear HRP)
  |(go_at_call 57;(with_reducible refine Calls.mono (HNW.out _ HW0.out.1) ?_);rintro e w1 ⟨A,S1,Q,bp,bq,uv,Rf,G,rfl,hm,hb1⟩;(have HM1:=Lib.hid hm);(have HB1:=Lib.hid hb1);clear hm hb1)
  |(go_at_call 14;(with_reducible refine Calls.mono (HOR.out _ (HW0.out.1.trans (HB1.out.mono HW0.out.1.size))) ?_);rintro e w2 ⟨Ao,co,o',rfl,ho',hs',hb2,hlo⟩;(obtain rfl:o'=o:=ho'.uniq HPK.out.2.2.2.2.1);(have HM2:=Lib.hid (HM1.out.grow hb2.size (fun b hlt _=>hb2.block b hlt)));(have HS2:=Lib.hid (And.intro hs' hlo));(have HB2:=Lib.hid hb2);clear ho' hs' hb2 hlo)
  |fail)
 clear HNW HOR
 have HLO:Hid (w.heap.size+1=w0.heap.size):=HW0.out.2.symm
 have hol:o'.length<=1000000:=by have:=HPK.out.2.2.2.2.1.len;have:=HPK.out.2.1;omega
 go_loopw [8,22] (fun bv iv wr=>∃ (k:Nat) (b:Int) (s:Ms) (qv':Nat->Nat->Value) (wx:World),wx=wr/\k<=o'.length/\bv=.int .i64 b/\iv=.int .i64 k/\Hid (MdAll (fun b=>(b<w0.heap.size)\/(w1.heap.size<=b/\b<w2.heap.size)) wr w0.heap.size A S1 Q bp bq P r S B n nv uv s.lv s.st s.g G Rf qv' s.qs/\s.good/\Below w0.heap.size w2 wr/\(∀ b,w1.heap.size<=b->b<w2.heap.size->wr.heap[b]?=w2.heap[b]?)/\rpl P r S B n nv L (o'.drop k) s b=rpl P r S B n nv L o' (ms0 lv) (-1))) (fun _ iv _=>o'.length - (intOf iv).toNat)
 case atStart=>exact ⟨0,-1,ms0 lv,_,_,rfl,Nat.zero_le _,rfl,rfl,HM2.out,zl3 HPK.out.1.ok,Below.refl _ _,fun _ _ _=>rfl,rfl⟩
 case round =>
  obtain ⟨k,b,s,qv',wr,rfl,hk,rfl,rfl,HI⟩:=hrel
  by_cases hlt:k<o'.length
  ·have d1:decide (k<o'.length)=true:=decide_eq_true hlt
   have g0:(0:Int)<=(k:Int):=Int.natCast_nonneg _
   have g1:(k:Int)<(o'.length:Int):=by omega
   have hmem:=(HPK.out.2.2.2.2.1.2 _).1 (zcv hlt);obtain ⟨i,hi⟩:∃ i,i=getN o' k:=⟨_,rfl⟩;rw [<- hi] at hmem
   obtain ⟨be,oe,rfl,hbe,hce⟩:=HC.out (by omega)
   obtain ⟨pb,po,cp,hsv,hp1,hp2,hpb,hpc⟩:=HS2.out.1.at_ (by omega)
   injection hsv with hA _ hcp
   subst hA hcp
   have hpl:=HS2.out.2 pb po rfl (by omega)
   have q0:wr.cell? ⟨pb,po+k,none⟩=some (.int .i64 (i:Nat)):=by
    rw [World.cell?_of_block (HI.out.2.2.2.1 pb hpl hpb),hpc k (by omega),zh8 hlt,hi]
   have h0:(0:Int)<=(i:Int):=Int.natCast_nonneg _
   have h1:(i:Int)<(N:Int):=by omega
   have HWL:Hid (∀ w',Below w0.heap.size wr w'->zaf w' be (oe+i*19) (L i)):=fun w' hb9=>(hce i hmem.1).keep fun p hp=>((HW0.out.1.trans (HB1.out.mono HW0.out.1.size)).trans ((HB2.out.mono (by have:=HB1.out.size;have:=HLO.out;omega)).trans ((HI.out.2.2.1.trans hb9).mono HW0.out.1.size))).cell (by rw [hp];have:=HPK.out.2.2.1;omega)
   have HRO:Hid (wr.rangeAt be (oe+i*19+4) (L i).op.cells):=(HWL.out wr (Below.refl _ _)).oprange
   have HDO:Hid (∀ w',Below wr.heap.size wr w'->Calls Tryz.prog 58 #[.pointer (some ⟨A,0,none⟩),.agg (L i).op.cells.toArray] w' (zbu (fun b=>(b<w0.heap.size)\/(w1.heap.size<=b/\b<w2.heap.size)) w' w0.heap.size A S1 Q bp bq P r S B n nv uv G Rf (doS P r S B n nv s (L i).op) (doA P r S B n nv s (L i).op))):=fun w' hb=>zkp (HI.out.1.call hb) HPK.out.1.hP.2 HPK.out.1.hr HPK.out.1.hS HPK.out.1.hB HPK.out.1.hn HI.out.2.1 (L i).op (HPK.out.2.2.2.1 i hmem.1)
   have hstep:=zl1 P r S B n nv L hlt s b;rw [<- hi,HI.out.2.2.2.2] at hstep;obtain ⟨x,hx⟩:∃ x,x=L i:=⟨_,rfl⟩;rw [<- hx] at HWL HRO HDO hstep;obtain ⟨s2,hs2⟩:∃ z,z=doS P r S B n nv s x.op:=⟨_,rfl⟩;obtain ⟨av,hav⟩:∃ z,z=doA P r S B n nv s x.op:=⟨_,rfl⟩;rw [<- hs2,<- hav] at HDO hstep;have HST:=Lib.hid hstep
   have HIO:=Lib.hid fun W=>HIO.out x W
   unfold Ent.val at HIO;clear hstep hx hs2 hav hi hmem hce hpb hpc hpl
   by_cases e1:b=-1
   ·subst e1
    by_cases e2:x.fin=0
    ·have d2:(x.fin != 0)=false:=by simp [e2]
     rw [d2] at HIO
     have HST2:Hid (rpl P r S B n nv L (o'.drop (k+1)) s2 (-1)=rpl P r S B n nv L o' (ms0 lv) (-1)):=Lib.hid (by rw [HST.out,if_neg (fun h=>h.2.1 e2)])
     clear e2 d2
     go_wp2_with (first
      |go_big_skip
      |(refine wpList_load_mid (by rfl) 66 _ (by rfl) be (oe+i*19+4) (by rfl) x.op.cells _ HRO.out Tryz.underlying66 (by rfl) (by rw [Od.cells_length];kernel_rfl) ?_;clear HRO)
      |(go_at_call 58;(with_reducible refine Calls.mono (HDO.out _ (Below.refl _ _)) ?_);rintro e wd ⟨qv2,rfl,hm2,hg2,hf2⟩;(have HM3:=Lib.hid (And.intro hm2 (And.intro hg2 hf2)));(have HWD:=Lib.hid (HWL.out wd hf2.low));(have HRX:=Lib.hid HWD.out.range);(have c5:=HWD.out.ans_);clear hm2 hg2 hf2)
      |(refine zb1 68 _ (by rfl) (by rfl) be (oe+i*19) (by rfl) x.cells _ HRX.out Tryz.underlying68 (by rfl) (by rw [Ent.cells_length];kernel_rfl) ?_;clear HRX)
      |(go_at_call 55;(with_reducible refine Calls.mono (HIO.out _) ?_);rintro e wo ⟨rfl,hbo⟩;(have HBO:=Lib.hid hbo);(have c5:=(hbo.cell (p:=⟨be,oe+i*19+18,none⟩) (World.block_lt_of_cell? _ _ c5)).trans c5);clear hbo)
      |fail)
     go_roundw
     case rel=>exact ⟨k+1,-1,s2,qv2,_,rfl,by omega,rfl,by go_num,HM3.out.1.call HBO.out,HM3.out.2.1,(HI.out.2.2.1.trans HM3.out.2.2.low).trans (HBO.out.mono HM3.out.1.base),fun b9 h9 h8=>(HBO.out.block b9 (HM3.out.1.lt b9 (.inr ⟨h9,h8⟩))).trans ((HM3.out.2.2.kp b9 (.inr ⟨h9,h8⟩)).trans (HI.out.2.2.2.1 b9 h9 h8)),HST2.out⟩
     case measure=>simp [intOf];omega
    ·have d2:(x.fin != 0)=true:=by simpa using e2
     rw [d2] at HIO
     by_cases e3:x.ans=av
     ·have d3:(x.ans != av)=false:=by simp [e3]
      have HST2:Hid (rpl P r S B n nv L (o'.drop (k+1)) s2 (-1)=rpl P r S B n nv L o' (ms0 lv) (-1)):=Lib.hid (by rw [HST.out,if_neg (fun h=>h.2.2 e3)])
      clear e2 d2 e3
      go_wp2_with (first
       |go_big_skip
       |(refine wpList_load_mid (by rfl) 66 _ (by rfl) be (oe+i*19+4) (by rfl) x.op.cells _ HRO.out Tryz.underlying66 (by rfl) (by rw [Od.cells_length];kernel_rfl) ?_;clear HRO)
       |(go_at_call 58;(with_reducible refine Calls.mono (HDO.out _ (Below.refl _ _)) ?_);rintro e wd ⟨qv2,rfl,hm2,hg2,hf2⟩;(have HM3:=Lib.hid (And.intro hm2 (And.intro hg2 hf2)));(have HWD:=Lib.hid (HWL.out wd hf2.low));(have HRX:=Lib.hid HWD.out.range);(have c5:=HWD.out.ans_);clear hm2 hg2 hf2)
       |(refine zb1 68 _ (by rfl) (by rfl) be (oe+i*19) (by rfl) x.cells _ HRX.out Tryz.underlying68 (by rfl) (by rw [Ent.cells_length];kernel_rfl) ?_;clear HRX)
       |(go_at_call 55;(with_reducible refine Calls.mono (HIO.out _) ?_);rintro e wo ⟨rfl,hbo⟩;(have HBO:=Lib.hid hbo);(have c5:=(hbo.cell (p:=⟨be,oe+i*19+18,none⟩) (World.block_lt_of_cell? _ _ c5)).trans c5);clear hbo)
       |fail)
      go_roundw
      case rel=>exact ⟨k+1,-1,s2,qv2,_,rfl,by omega,rfl,by go_num,HM3.out.1.call HBO.out,HM3.out.2.1,(HI.out.2.2.1.trans HM3.out.2.2.low).trans (HBO.out.mono HM3.out.1.base),fun b9 h9 h8=>(HBO.out.block b9 (HM3.out.1.lt b9 (.inr ⟨h9,h8⟩))).trans ((HM3.out.2.2.kp b9 (.inr ⟨h9,h8⟩)).trans (HI.out.2.2.2.1 b9 h9 h8)),HST2.out⟩
      case measure=>simp [intOf];omega
     ·have d3:(x.ans != av)=true:=by simpa using e3
      have HST2:Hid (rpl P r S B n nv L (o'.drop (k+1)) s2 (i:Int)=rpl P r S B n nv L o' (ms0 lv) (-1)):=Lib.hid (by rw [HST.out,if_pos ⟨rfl,e2,e3⟩])
      clear e2 d2 e3
      go_wp2_with (first
       |go_big_skip
       |(refine wpList_load_mid (by rfl) 66 _ (by rfl) be (oe+i*19+4) (by rfl) x.op.cells _ HRO.out Tryz.underlying66 (by rfl) (by rw [Od.cells_length];kernel_rfl) ?_;clear HRO)
       |(go_at_call 58;(with_reducible refine Calls.mono (HDO.out _ (Below.refl _ _)) ?_);rintro e wd ⟨qv2,rfl,hm2,hg2,hf2⟩;(have HM3:=Lib.hid (And.intro hm2 (And.intro hg2 hf2)));(have HWD:=Lib.hid (HWL.out wd hf2.low));(have HRX:=Lib.hid HWD.out.range);(have c5:=HWD.out.ans_);clear hm2 hg2 hf2)
       |(refine zb1 68 _ (by rfl) (by rfl) be (oe+i*19) (by rfl) x.cells _ HRX.out Tryz.underlying68 (by rfl) (by rw [Ent.cells_length];kernel_rfl) ?_;clear HRX)
       |(go_at_call 55;(with_reducible refine Calls.mono (HIO.out _) ?_);rintro e wo ⟨rfl,hbo⟩;(have HBO:=Lib.hid hbo);(have c5:=(hbo.cell (p:=⟨be,oe+i*19+18,none⟩) (World.block_lt_of_cell? _ _ c5)).trans c5);clear hbo)
       |fail)
      go_roundw
      case rel=>exact ⟨k+1,(i:Int),s2,qv2,_,rfl,by omega,rfl,by go_num,HM3.out.1.call HBO.out,HM3.out.2.1,(HI.out.2.2.1.trans HM3.out.2.2.low).trans (HBO.out.mono HM3.out.1.base),fun b9 h9 h8=>(HBO.out.block b9 (HM3.out.1.lt b9 (.inr ⟨h9,h8⟩))).trans ((HM3.out.2.2.kp b9 (.inr ⟨h9,h8⟩)).trans (HI.out.2.2.2.1 b9 h9 h8)),HST2.out⟩
      case measure=>simp [intOf];omega
   ·have d4:(b == -1)=false:=by simpa using e1
    have HST2:Hid (rpl P r S B n nv L (o'.drop (k+1)) s2 b=rpl P r S B n nv L o' (ms0 lv) (-1)):=Lib.hid (by rw [HST.out,if_neg (fun h=>e1 h.1)])
    clear e1
    go_wp2_with (first
     |go_big_skip
     |(refine wpList_load_mid (by rfl) 66 _ (by rfl) be (oe+i*19+4) (by rfl) x.op.cells _ HRO.out Tryz.underlying66 (by rfl) (by rw [Od.cells_length];kernel_rfl) ?_;clear HRO)
     |(go_at_call 58;(with_reducible refine Calls.mono (HDO.out _ (Below.refl _ _)) ?_);rintro e wd ⟨qv2,rfl,hm2,hg2,hf2⟩;(have HM3:=Lib.hid (And.intro hm2 (And.intro hg2 hf2)));(have HWD:=Lib.hid (HWL.out wd hf2.low));(have HRX:=Lib.hid HWD.out.range);(have c5:=HWD.out.ans_);clear hm2 hg2 hf2)
     |(refine zb1 68 _ (by rfl) (by rfl) be (oe+i*19) (by rfl) x.cells _ HRX.out Tryz.underlying68 (by rfl) (by rw [Ent.cells_length];kernel_rfl) ?_;clear HRX)
     |(go_at_call 55;(with_reducible refine Calls.mono (HIO.out _) ?_);rintro e wo ⟨rfl,hbo⟩;(have HBO:=Lib.hid hbo);(have c5:=(hbo.cell (p:=⟨be,oe+i*19+18,none⟩) (World.block_lt_of_cell? _ _ c5)).trans c5);clear hbo)
     |fail)
    go_roundw
    case rel=>exact ⟨k+1,b,s2,qv2,_,rfl,by omega,rfl,by go_num,HM3.out.1,HM3.out.2.1,HI.out.2.2.1.trans HM3.out.2.2.low,fun b9 h9 h8=>(HM3.out.2.2.kp b9 (.inr ⟨h9,h8⟩)).trans (HI.out.2.2.2.1 b9 h9 h8),HST2.out⟩
    case measure=>simp [intOf];omega
  ·have hko:k=o'.length:=by omega
   have d1:decide (k<o'.length)=false:=decide_eq_false hlt
   have HE:Hid (b=ans):=Lib.hid (by rw [HAN.out,<- HI.out.2.2.2.2,hko,List.drop_length];rfl)
   clear hko
   go_wp2
   exact bodyPost_ret (v:=.tuple #[.pointer (some ⟨A,0,none⟩),.int .i64 b]) (by simp [results,Tryz.results29,go_sem]) rfl ⟨A,by rw [HE.out],(HW0.out.1.trans (HB1.out.mono HW0.out.1.size)).trans ((HB2.out.mono (by have:=HB1.out.size;have:=HLO.out;omega)).trans (HI.out.2.2.1.mono HW0.out.1.size))⟩
set_option maxRecDepth 20000 in
set_option maxHeartbeats 6400000 in
theorem zhj (hr:Sl w Bo 2 vr nr (rlc lr)) (hv:Sl w Bo 3 vv nv (vlc lv)) (hB:Bo<=w.heap.size) (hp:PlanOk lr lv nr nv m P S B n r t) (hN:N<=1000000) (hl:zbj w Bo N v L) (hop:∀ i,i<N->(L i).op.ok) (hrg:∀ i,i<N->rngI (L i).who/\rngI (L i).mar) (nm sh:Int) {o:List Nat} (ho:OrdL N (fun i=>(L i).mar) o) :
  Calls Tryz.prog 9 #[zbb P vr vv S B n t r nm sh,v] w (Says (.tuple #[.int .i64 (chkH P r S B n nv L N o (ms0 lv)).1,.int .i64 (chkH P r S B n nv L N o (ms0 lv)).2]) w):=by
 have HCK:Hid (∀ w',Below w.heap.size w w'->Calls Tryz.prog 25 #[zbb P vr vv S B n t r nm sh] w' (Says (.int .i64 0) w')):=fun w' hb=>by
  have h9:=zgh (hr.below (hb.mono hB)) (hv.below (hb.mono hB)) hp.ok (Nat.le_trans hB hb.size) hp.fb P S B n t r nm sh;rw [hp.hK] at h9
  exact h9
 have HIX:Hid (∀ w',Below w.heap.size w w'->Calls Tryz.prog 26 #[v,.func (.func 27) #[] #[]] w' (Says (.int .i64 (zaw (fun i=>misT (L i)) N)) w')):=fun w' hb=>zmy hN (hl.below (hb.mono hB)) (Nat.le_trans hB hb.size)
 have HFB:Hid ((∀ j,j<N->misT (L j)=false)->∀ w',Below w.heap.size w w'->Calls Tryz.prog 28 #[v] w' (Says (.int .i64 (zaw (busB L) N)) w')):=fun hm w' hb=>zgs hN (hl.below (hb.mono hB)) (Nat.le_trans hB hb.size) hrg hm
 have HRE:Hid (∀ w',Below w.heap.size w w'->Calls Tryz.prog 29 #[zbb P vr vv S B n t r nm sh,v] w' fun e w2=>∃ A:Nat,e=.returned (.tuple #[.pointer (some ⟨A,0,none⟩),.int .i64 (rpl P r S B n nv L o (ms0 lv) (-1)).2])/\Below w'.heap.size w' w2):=fun w' hb=>zjt (hr.below (hb.mono hB)) (hv.below (hb.mono hB)) (Nat.le_trans hB hb.size) hp hN (hl.below (hb.mono hB)) hop nm sh ho
 obtain ⟨Ar,cr,rfl,hcr,hcm⟩:=hr.form;obtain ⟨Av,cv,rfl,hcv,hcw⟩:=hv.form;obtain ⟨Al,cl,rfl,hcl,hcx,hlc⟩:=hl
 have HMS:Hid (zaw (fun i=>misT (L i)) N=-1->∀ j,j<N->misT (L j)=false):=fun e j hj=>by
  cases hq:misT (L j)
  ·rfl
  ·exfalso
   exact zhs (fun i=>misT (L i)) hq hj e
 obtain ⟨ck,hck⟩:∃ c,c=chkH P r S B n nv L N o (ms0 lv):=⟨_,rfl⟩;rw [<- hck];unfold chkH at hck
 obtain ⟨i1,hi1⟩:∃ i,i=zaw (fun i=>misT (L i)) N:=⟨_,rfl⟩
 obtain ⟨i2,hi2⟩:∃ i,i=zaw (busB L) N:=⟨_,rfl⟩;obtain ⟨i3,hi3⟩:∃ i,i=(rpl P r S B n nv L o (ms0 lv) (-1)).2:=⟨_,rfl⟩;rw [<- hi1] at hck HMS HIX;rw [<- hi2] at hck HFB;rw [<- hi3] at hck HRE;have HCC:=Lib.hid hck;clear hr hv hB hp hN hop ho hcr hcm hcv hcw hlc hcl hck hi1 hi2 hi3 hrg hcx;unfold zbb at HCK HRE |-
 by_cases e1:i1=-1
 ·subst e1
  have HFB2:=Lib.hid (HFB.out (HMS.out rfl));clear HMS HFB
  by_cases e2:i2=-1
  ·subst e2
   by_cases e3:i3=-1
   ·subst e3
    have HCC:Hid (ck=(-1,0)):=Lib.hid (by rw [HCC.out,if_neg (fun h=>h rfl),if_neg (fun h=>h rfl),if_neg (fun h=>h rfl)])
    go_enter Tryz.func9,Tryz.ntmps9
    go_upto_region 1 with fail
    obtain ⟨w0,hw0⟩:∃ w0,w0=w.alloc (.cells #[.int .i64 (P:Nat),.slice Ar nr cr,.slice Av nv cv,.int .i64 (S:Nat),.int .i64 (B:Nat),.int .i64 (n:Nat),.int .i64 t,.int .i64 (r:Nat),.int .u32 nm,.int .u32 sh] 41):=⟨_,rfl⟩;have HW0:=Lib.hid (zbk hw0)
    have HRP:Hid (∀ w',Below w0.heap.size w0 w'->w'.rangeAt w.heap.size 0 [.int .i64 (P:Nat),.slice Ar nr cr,.slice Av nv cv,.int .i64 (S:Nat),.int .i64 (B:Nat),.int .i64 (n:Nat),.int .i64 t,.int .i64 (r:Nat),.int .u32 nm,.int .u32 sh]):=fun w' hb=>zbw (zjr hw0) hb (by rw [HW0.out.2];omega)
    rw [<- hw0];clear hw0;have HB:Hid (Below w0.heap.size w0 w0):=Below.refl _ _
    go_wp2_with (first
     |(refine wpList_load_mid (by rfl) 41 _ (by rfl) w.heap.size 0 (by rfl) [.int .i64 (P:Nat),.slice Ar nr cr,.slice Av nv cv,.int .i64 (S:Nat),.int .i64 (B:Nat),.int .i64 (n:Nat),.int .i64 t,.int .i64 (r:Nat),.int .u32 nm,.int .u32 sh] _ (HRP.out _ HB.out) Tryz.underlying41 (by rfl) (by kernel_rfl) ?_)
     |(go_at_call 25;(with_reducible refine Calls.mono (HCK.out _ (HW0.out.1.trans (HB.out.mono HW0.out.1.size))) ?_);rintro e w1 ⟨rfl,hb1⟩;(have HB:=Lib.hid (HB.out.trans (hb1.mono HB.out.size)));clear hb1)
     |(go_at_call 26;(with_reducible refine Calls.mono (HIX.out _ (HW0.out.1.trans (HB.out.mono HW0.out.1.size))) ?_);rintro e w1 ⟨rfl,hb1⟩;(have HB:=Lib.hid (HB.out.trans (hb1.mono HB.out.size)));clear hb1)
     |(go_at_call 28;(with_reducible refine Calls.mono (HFB2.out _ (HW0.out.1.trans (HB.out.mono HW0.out.1.size))) ?_);rintro e w1 ⟨rfl,hb1⟩;(have HB:=Lib.hid (HB.out.trans (hb1.mono HB.out.size)));clear hb1)
     |(go_at_call 29;(with_reducible refine Calls.mono (HRE.out _ (HW0.out.1.trans (HB.out.mono HW0.out.1.size))) ?_);rintro e w1 ⟨A9,rfl,hb1⟩;(have HB:=Lib.hid (HB.out.trans (hb1.mono HB.out.size)));clear hb1)
     |fail)
    exact bodyPost_ret (v:=.tuple #[.int .i64 (-1),.int .i64 0]) (by simp [results,Tryz.results9,go_sem]) rfl ⟨by rw [HCC.out],HW0.out.1.trans (HB.out.mono HW0.out.1.size)⟩
   ·have d3:(i3 != -1)=true:=by simpa using e3
    have HCC:Hid (ck=(i3,7)):=Lib.hid (by rw [HCC.out,if_neg (fun h=>h rfl),if_neg (fun h=>h rfl),if_pos e3])
    clear e3
    go_enter Tryz.func9,Tryz.ntmps9
    go_upto_region 1 with fail
    obtain ⟨w0,hw0⟩:∃ w0,w0=w.alloc (.cells #[.int .i64 (P:Nat),.slice Ar nr cr,.slice Av nv cv,.int .i64 (S:Nat),.int .i64 (B:Nat),.int .i64 (n:Nat),.int .i64 t,.int .i64 (r:Nat),.int .u32 nm,.int .u32 sh] 41):=⟨_,rfl⟩;have HW0:=Lib.hid (zbk hw0)
    have HRP:Hid (∀ w',Below w0.heap.size w0 w'->w'.rangeAt w.heap.size 0 [.int .i64 (P:Nat),.slice Ar nr cr,.slice Av nv cv,.int .i64 (S:Nat),.int .i64 (B:Nat),.int .i64 (n:Nat),.int .i64 t,.int .i64 (r:Nat),.int .u32 nm,.int .u32 sh]):=fun w' hb=>zbw (zjr hw0) hb (by rw [HW0.out.2];omega)
    rw [<- hw0];clear hw0;have HB:Hid (Below w0.heap.size w0 w0):=Below.refl _ _
    go_wp2_with (first
     |(refine wpList_load_mid (by rfl) 41 _ (by rfl) w.heap.size 0 (by rfl) [.int .i64 (P:Nat),.slice Ar nr cr,.slice Av nv cv,.int .i64 (S:Nat),.int .i64 (B:Nat),.int .i64 (n:Nat),.int .i64 t,.int .i64 (r:Nat),.int .u32 nm,.int .u32 sh] _ (HRP.out _ HB.out) Tryz.underlying41 (by rfl) (by kernel_rfl) ?_)
     |(go_at_call 25;(with_reducible refine Calls.mono (HCK.out _ (HW0.out.1.trans (HB.out.mono HW0.out.1.size))) ?_);rintro e w1 ⟨rfl,hb1⟩;(have HB:=Lib.hid (HB.out.trans (hb1.mono HB.out.size)));clear hb1)
     |(go_at_call 26;(with_reducible refine Calls.mono (HIX.out _ (HW0.out.1.trans (HB.out.mono HW0.out.1.size))) ?_);rintro e w1 ⟨rfl,hb1⟩;(have HB:=Lib.hid (HB.out.trans (hb1.mono HB.out.size)));clear hb1)
     |(go_at_call 28;(with_reducible refine Calls.mono (HFB2.out _ (HW0.out.1.trans (HB.out.mono HW0.out.1.size))) ?_);rintro e w1 ⟨rfl,hb1⟩;(have HB:=Lib.hid (HB.out.trans (hb1.mono HB.out.size)));clear hb1)
     |(go_at_call 29;(with_reducible refine Calls.mono (HRE.out _ (HW0.out.1.trans (HB.out.mono HW0.out.1.size))) ?_);rintro e w1 ⟨A9,rfl,hb1⟩;(have HB:=Lib.hid (HB.out.trans (hb1.mono HB.out.size)));clear hb1)
     |fail)
    exact bodyPost_ret (v:=.tuple #[.int .i64 i3,.int .i64 7]) (by simp [results,Tryz.results9,go_sem]) rfl ⟨by rw [HCC.out],HW0.out.1.trans (HB.out.mono HW0.out.1.size)⟩
  ·have d2:(i2 != -1)=true:=by simpa using e2
   have HCC:Hid (ck=(i2,10)):=Lib.hid (by rw [HCC.out,if_neg (fun h=>h rfl),if_pos e2])
   clear e2
   go_enter Tryz.func9,Tryz.ntmps9
   go_upto_region 1 with fail
   obtain ⟨w0,hw0⟩:∃ w0,w0=w.alloc (.cells #[.int .i64 (P:Nat),.slice Ar nr cr,.slice Av nv cv,.int .i64 (S:Nat),.int .i64 (B:Nat),.int .i64 (n:Nat),.int .i64 t,.int .i64 (r:Nat),.int .u32 nm,.int .u32 sh] 41):=⟨_,rfl⟩;have HW0:=Lib.hid (zbk hw0)
   have HRP:Hid (∀ w',Below w0.heap.size w0 w'->w'.rangeAt w.heap.size 0 [.int .i64 (P:Nat),.slice Ar nr cr,.slice Av nv cv,.int .i64 (S:Nat),.int .i64 (B:Nat),.int .i64 (n:Nat),.int .i64 t,.int .i64 (r:Nat),.int .u32 nm,.int .u32 sh]):=fun w' hb=>zbw (zjr hw0) hb (by rw [HW0.out.2];omega)
   rw [<- hw0];clear hw0;have HB:Hid (Below w0.heap.size w0 w0):=Below.refl _ _
   go_wp2_with (first
    |(refine wpList_load_mid (by rfl) 41 _ (by rfl) w.heap.size 0 (by rfl) [.int .i64 (P:Nat),.slice Ar nr cr,.slice Av nv cv,.int .i64 (S:Nat),.int .i64 (B:Nat),.int .i64 (n:Nat),.int .i64 t,.int .i64 (r:Nat),.int .u32 nm,.int .u32 sh] _ (HRP.out _ HB.out) Tryz.underlying41 (by rfl) (by kernel_rfl) ?_)
    |(go_at_call 25;(with_reducible refine Calls.mono (HCK.out _ (HW0.out.1.trans (HB.out.mono HW0.out.1.size))) ?_);rintro e w1 ⟨rfl,hb1⟩;(have HB:=Lib.hid (HB.out.trans (hb1.mono HB.out.size)));clear hb1)
    |(go_at_call 26;(with_reducible refine Calls.mono (HIX.out _ (HW0.out.1.trans (HB.out.mono HW0.out.1.size))) ?_);rintro e w1 ⟨rfl,hb1⟩;(have HB:=Lib.hid (HB.out.trans (hb1.mono HB.out.size)));clear hb1)
    |(go_at_call 28;(with_reducible refine Calls.mono (HFB2.out _ (HW0.out.1.trans (HB.out.mono HW0.out.1.size))) ?_);rintro e w1 ⟨rfl,hb1⟩;(have HB:=Lib.hid (HB.out.trans (hb1.mono HB.out.size)));clear hb1)
    |(go_at_call 29;(with_reducible refine Calls.mono (HRE.out _ (HW0.out.1.trans (HB.out.mono HW0.out.1.size))) ?_);rintro e w1 ⟨A9,rfl,hb1⟩;(have HB:=Lib.hid (HB.out.trans (hb1.mono HB.out.size)));clear hb1)
    |fail)
   exact bodyPost_ret (v:=.tuple #[.int .i64 i2,.int .i64 10]) (by simp [results,Tryz.results9,go_sem]) rfl ⟨by rw [HCC.out],HW0.out.1.trans (HB.out.mono HW0.out.1.size)⟩
 ·have d1:(i1 != -1)=true:=by simpa using e1
  have HCC:Hid (ck=(i1,4)):=Lib.hid (by rw [HCC.out,if_pos e1])
  clear e1 HMS HFB
  go_enter Tryz.func9,Tryz.ntmps9
  go_upto_region 1 with fail
  obtain ⟨w0,hw0⟩:∃ w0,w0=w.alloc (.cells #[.int .i64 (P:Nat),.slice Ar nr cr,.slice Av nv cv,.int .i64 (S:Nat),.int .i64 (B:Nat),.int .i64 (n:Nat),.int .i64 t,.int .i64 (r:Nat),.int .u32 nm,.int .u32 sh] 41):=⟨_,rfl⟩;have HW0:=Lib.hid (zbk hw0)
  have HRP:Hid (∀ w',Below w0.heap.size w0 w'->w'.rangeAt w.heap.size 0 [.int .i64 (P:Nat),.slice Ar nr cr,.slice Av nv cv,.int .i64 (S:Nat),.int .i64 (B:Nat),.int .i64 (n:Nat),.int .i64 t,.int .i64 (r:Nat),.int .u32 nm,.int .u32 sh]):=fun w' hb=>zbw (zjr hw0) hb (by rw [HW0.out.2];omega)
  rw [<- hw0];clear hw0;have HB:Hid (Below w0.heap.size w0 w0):=Below.refl _ _
  go_wp2_with (first
   |(refine wpList_load_mid (by rfl) 41 _ (by rfl) w.heap.size 0 (by rfl) [.int .i64 (P:Nat),.slice Ar nr cr,.slice Av nv cv,.int .i64 (S:Nat),.int .i64 (B:Nat),.int .i64 (n:Nat),.int .i64 t,.int .i64 (r:Nat),.int .u32 nm,.int .u32 sh] _ (HRP.out _ HB.out) Tryz.underlying41 (by rfl) (by kernel_rfl) ?_)
   |(go_at_call 25;(with_reducible refine Calls.mono (HCK.out _ (HW0.out.1.trans (HB.out.mono HW0.out.1.size))) ?_);rintro e w1 ⟨rfl,hb1⟩;(have HB:=Lib.hid (HB.out.trans (hb1.mono HB.out.size)));clear hb1)
   |(go_at_call 26;(with_reducible refine Calls.mono (HIX.out _ (HW0.out.1.trans (HB.out.mono HW0.out.1.size))) ?_);rintro e w1 ⟨rfl,hb1⟩;(have HB:=Lib.hid (HB.out.trans (hb1.mono HB.out.size)));clear hb1)
   |(go_at_call 28;(with_reducible refine Calls.mono (HFB2.out _ (HW0.out.1.trans (HB.out.mono HW0.out.1.size))) ?_);rintro e w1 ⟨rfl,hb1⟩;(have HB:=Lib.hid (HB.out.trans (hb1.mono HB.out.size)));clear hb1)
   |(go_at_call 29;(with_reducible refine Calls.mono (HRE.out _ (HW0.out.1.trans (HB.out.mono HW0.out.1.size))) ?_);rintro e w1 ⟨A9,rfl,hb1⟩;(have HB:=Lib.hid (HB.out.trans (hb1.mono HB.out.size)));clear hb1)
   |fail)
  exact bodyPost_ret (v:=.tuple #[.int .i64 i1,.int .i64 4]) (by simp [results,Tryz.results9,go_sem]) rfl ⟨by rw [HCC.out],HW0.out.1.trans (HB.out.mono HW0.out.1.size)⟩
end
end Go.Proofs.YtfekhdgjgjodlaaGreat
