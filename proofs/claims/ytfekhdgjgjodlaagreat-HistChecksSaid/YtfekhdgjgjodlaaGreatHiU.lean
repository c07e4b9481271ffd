/-
  Words and contracts that a statement's proof rests on (HiU). No statement is proved here.
-/
import Derived.Test.YtfekhdgjgjodlaaGreatHiS
set_option linter.unusedVariables false
set_option linter.unusedSimpArgs false
namespace Go.Proofs.YtfekhdgjgjodlaaGreat
open Go.RowKit
theorem rpl_ge (P r S B n nv:Nat) (L:Nat->Ent):∀ (o:List Nat) (s:Ms) (b:Int),-1<=b->-1<=(rpl P r S B n nv L o s b).2
 |[],_,_,h=>h
 |i :: o,s,b,h=>by
  rw [rpl]
  refine rpl_ge P r S B n nv L o _ _ ?_
  split <;> omega
theorem mis9 (a b d f c u k g:Bool):(((a || b || (d && f) || c) || (u && (k || g)))=true/\((a=true)\/(a=false/\b=true)\/(a=false/\b=false/\d=true/\f=true)\/(a=false/\b=false/\d=true/\f=false/\c=true)\/(a=false/\b=false/\d=false/\c=true)\/(a=false/\b=false/\d=true/\f=false/\c=false/\u=true/\k=true)\/(a=false/\b=false/\d=false/\c=false/\u=true/\k=true)\/(a=false/\b=false/\d=true/\f=false/\c=false/\u=true/\k=false/\g=true)\/(a=false/\b=false/\d=false/\c=false/\u=true/\k=false/\g=true)))\/(((a || b || (d && f) || c) || (u && (k || g)))=false/\((a=false/\b=false/\d=true/\f=false/\c=false/\u=false)\/(a=false/\b=false/\d=false/\c=false/\u=false)\/(a=false/\b=false/\d=true/\f=false/\c=false/\u=true/\k=false/\g=false)\/(a=false/\b=false/\d=false/\c=false/\u=true/\k=false/\g=false))):=by
 cases a <;> cases b <;> cases d <;> cases f <;> cases c <;> cases u <;> cases k <;> cases g <;> simp
theorem misT_pos {x:Ent}:misT x=((decide (x.beg<0) || decide (x.mar<0) || (decide (x.mar > 0) && decide (x.mar<=x.beg)) || decide (x.fin<0)) || (decide (x.fin > 0) && (decide (x.fin<x.mar) || decide (x.mar=0)))):=by
 unfold misT
 by_cases h3:x.fin<0
 ·simp [h3]
 ·have e:decide (x.fin≠0)=decide (x.fin > 0):=decide_eq_decide.2 (by omega)
  have e2:decide (0<x.mar)=decide (x.mar > 0):=rfl
  rw [e,e2,decide_eq_false h3]
  generalize decide (x.beg<0)=a
  generalize decide (x.mar<0)=b
  generalize decide (x.mar > 0)=d
  generalize decide (x.mar<=x.beg)=f
  generalize decide (x.fin > 0)=u
  generalize decide (x.fin<x.mar)=k
  generalize decide (x.mar=0)=g
  cases a <;> cases b <;> cases d <;> cases f <;> cases u <;> cases k <;> cases g <;> rfl
section
variable {w:World} {N Bo nr nv m:Nat} {vr vv v:Value} {lr:List Rl} {lv:List Vl} {L:Nat->Ent} {P S B n r:Nat} {t:Int}
set_option maxRecDepth 20000 in
set_option maxHeartbeats 25600000 in
theorem zku (hr:Sl w Bo 2 vr nr (rlc lr)) (hv:Sl w Bo 3 vv nv (vlc lv)) (hB:Bo<=w.heap.size) (hp:PlanOk lr lv nr nv m P S B n r t) (hN:N<=1000000) (hl:zbj w Bo N v L) (hop:∀ i,i<N->(L i).op.ok) (nm sh:Int) {o:List Nat} (ho:OrdL N (fun i=>(L i).mar) o) :
  Calls Tryz.prog 11 #[zbb P vr vv S B n t r nm sh,v] w (Says (.tuple #[.int .i64 (chkH P r S B n nv L N o (ms0 lv)).1,.int .i64 (chkH P r S B n nv L N o (ms0 lv)).2]) w):=by
 have HCK:Hid (∀ w',Below w.heap.size w w'->Calls Tryz.prog 32 #[zbb P vr vv S B n t r nm sh] w' (Says (.int .i64 0) w')):=fun w' hb=>by
  have h9:=zfs (hr.below (hb.mono hB)) (hv.below (hb.mono hB)) hp.ok (Nat.le_trans hB hb.size) hp.fb P S B n t r nm sh;rw [hp.hK] at h9
  exact h9
 have HRE:Hid ((∀ j,j<N->misT (L j)=false)->∀ w',Below w.heap.size w w'->Calls Tryz.prog 33 #[zbb P vr vv S B n t r nm sh,v] w' fun e w2=>∃ A:Nat,e=.returned (.tuple #[.pointer (some ⟨A,0,none⟩),.int .i64 (rpl P r S B n nv L o (ms0 lv) (-1)).2])/\Below w'.heap.size w' w2):=fun hm w' hb=>zjg (hr.below (hb.mono hB)) (hv.below (hb.mono hB)) (Nat.le_trans hB hb.size) hp hN (hl.below (hb.mono hB)) hop (fun i hi=>(zg6 (hm i hi)).2.2.1) nm sh ho
 have HRB:Hid (-1<=(rpl P r S B n nv L o (ms0 lv) (-1)).2):=rpl_ge P r S B n nv L o _ _ (by omega)
 obtain ⟨Ar,cr,rfl,hcr,hcm⟩:=hr.form;obtain ⟨Av,cv,rfl,hcv,hcw⟩:=hv.form;obtain ⟨Al,cl,rfl,hcl,hcx,hlc⟩:=hl;unfold maxLen at hcx;have HC:=Lib.hid hlc;have HPK:=Lib.hid (And.intro hN (And.intro hB hcl));obtain ⟨ck,hck⟩:∃ c,c=chkH P r S B n nv L N o (ms0 lv):=⟨_,rfl⟩;rw [<- hck];unfold chkH at hck;obtain ⟨i3,hi3⟩:∃ i,i=(rpl P r S B n nv L o (ms0 lv) (-1)).2:=⟨_,rfl⟩;rw [<- hi3] at hck HRE HRB;have HCC:=Lib.hid hck;clear hr hv hB hp hN hop ho hcr hcm hcv hcw hlc hcl hck hi3;unfold zbb at HCK HRE |-
 go_enter Tryz.func11,Tryz.ntmps11
 go_upto_region 1 with fail
 obtain ⟨wa,hwa⟩:∃ wa,wa=w.alloc (.cells #[.int .i64 (P:Nat),.slice Ar nr cr,.slice Av nv cv,.int .i64 (S:Nat),.int .i64 (B:Nat),.int .i64 (n:Nat),.int .i64 t,.int .i64 (r:Nat),.int .u32 nm,.int .u32 sh] 28):=⟨_,rfl⟩;have HWA:=Lib.hid (zbk hwa)
 have HRP:Hid (∀ w',Below wa.heap.size wa w'->w'.rangeAt w.heap.size 0 [.int .i64 (P:Nat),.slice Ar nr cr,.slice Av nv cv,.int .i64 (S:Nat),.int .i64 (B:Nat),.int .i64 (n:Nat),.int .i64 t,.int .i64 (r:Nat),.int .u32 nm,.int .u32 sh]):=fun w' hb=>zbw (zjr hwa) hb (by rw [HWA.out.2];omega)
 (try rw [<- hwa])
 clear hwa;have HBA:Hid (Below wa.heap.size wa wa):=Below.refl _ _
 go_wp2_with (first
  |(refine wpList_load_mid (by rfl) 28 _ (by rfl) w.heap.size 0 (by rfl) [.int .i64 (P:Nat),.slice Ar nr cr,.slice Av nv cv,.int .i64 (S:Nat),.int .i64 (B:Nat),.int .i64 (n:Nat),.int .i64 t,.int .i64 (r:Nat),.int .u32 nm,.int .u32 sh] _ (HRP.out _ HBA.out) Tryz.underlying28 (by rfl) (by kernel_rfl) ?_)
  |(go_at_call 32;(with_reducible refine Calls.mono (HCK.out _ HWA.out.1) ?_);rintro e w0 ⟨rfl,hb1⟩;(have HB0:=Lib.hid hb1);clear hb1)
  |fail)
 clear HBA HCK
 go_loopw [7] (fun iv wr=>∃ (k:Nat) (wx:World),wx=wr/\k<=N/\iv=.int .i64 k/\Hid (Below wa.heap.size wa wr/\∀ i,i<k->misT (L i)=false)) (fun iv _=>N - (intOf iv).toNat)
 case atStart=>exact ⟨0,_,rfl,Nat.zero_le _,rfl,HB0.out,fun i hi=>by omega⟩
 case round =>
  clear HB0;obtain ⟨k,wr,rfl,hk,rfl,HI⟩:=hrel
  by_cases hlt:k<N
  ·have d1:decide (k<N)=true:=decide_eq_true hlt
   obtain ⟨b,off,rfl,hb,hc⟩:=HC.out (by omega)
   have HRG:=Lib.hid ((hc k hlt).keep (w':=wr) fun p hp=>(HWA.out.1.trans (HI.out.1.mono HWA.out.1.size)).cell (by rw [hp];have:=HPK.out;omega)).range
   have g0:(0:Int)<=(k:Int):=Int.natCast_nonneg _
   have g1:(k:Int)<(N:Int):=by omega
   have hKN:k<=1000000:=by have:=HPK.out.1;omega
   obtain ⟨x,hx⟩:∃ x,x=L k:=⟨_,rfl⟩;rw [<- hx] at HRG
   have HMT:Hid (misT (L k)=((decide (x.beg<0) || decide (x.mar<0) || (decide (x.mar > 0) && decide (x.mar<=x.beg)) || decide (x.fin<0)) || (decide (x.fin > 0) && (decide (x.fin<x.mar) || decide (x.mar=0))))):=Lib.hid (by rw [<- hx];exact misT_pos)
   clear hx hc hb;obtain ⟨qa,ha⟩:∃ q,q=decide (x.beg<0):=⟨_,rfl⟩;obtain ⟨qb,hb⟩:∃ q,q=decide (x.mar<0):=⟨_,rfl⟩;obtain ⟨qd,hd⟩:∃ q,q=decide (x.mar > 0):=⟨_,rfl⟩;obtain ⟨qf,hf⟩:∃ q,q=decide (x.mar<=x.beg):=⟨_,rfl⟩;obtain ⟨qc,hc⟩:∃ q,q=decide (x.fin<0):=⟨_,rfl⟩;obtain ⟨qu,hu⟩:∃ q,q=decide (x.fin > 0):=⟨_,rfl⟩;obtain ⟨qk,hqk⟩:∃ q,q=decide (x.fin<x.mar):=⟨_,rfl⟩;obtain ⟨qg,hg⟩:∃ q,q=decide (x.mar=0):=⟨_,rfl⟩;rw [<- ha,<- hb,<- hd,<- hf,<- hc,<- hu,<- hqk,<- hg] at HMT;have HEQ:=Lib.hid (And.intro ha (And.intro hb (And.intro hd (And.intro hf (And.intro hc (And.intro hu (And.intro hqk hg)))))));clear ha hb hd hf hc hu hqk hg
   rcases mis9 qa qb qd qf qc qu qk qg with ⟨hz,H⟩|⟨hz,H⟩
   ·have HMF:Hid (misT (L k)=true):=Lib.hid (HMT.out.trans hz)
    have HCC2:Hid (ck=((k:Int),4)):=Lib.hid (by rw [HCC.out,za5 _ k HI.out.2 HMF.out N hlt,if_pos (by omega)])
    have ta:decide (x.beg<0)=qa:=HEQ.out.1.symm
    have tb:decide (x.mar<0)=qb:=HEQ.out.2.1.symm
    have td:decide (x.mar > 0)=qd:=HEQ.out.2.2.1.symm
    have tf:decide (x.mar<=x.beg)=qf:=HEQ.out.2.2.2.1.symm
    have tc:decide (x.fin<0)=qc:=HEQ.out.2.2.2.2.1.symm
    have tu:decide (x.fin > 0)=qu:=HEQ.out.2.2.2.2.2.1.symm
    have tk:decide (x.fin<x.mar)=qk:=HEQ.out.2.2.2.2.2.2.1.symm
    have tg:(x.mar == 0)=qg:=HEQ.out.2.2.2.2.2.2.2.symm
    clear HEQ;clear hz HMT
    rcases H with rfl|⟨rfl,rfl⟩|⟨rfl,rfl,rfl,rfl⟩|⟨rfl,rfl,rfl,rfl,rfl⟩|⟨rfl,rfl,rfl,rfl⟩|⟨rfl,rfl,rfl,rfl,rfl,rfl,rfl⟩|⟨rfl,rfl,rfl,rfl,rfl,rfl⟩|⟨rfl,rfl,rfl,rfl,rfl,rfl,rfl,rfl⟩|⟨rfl,rfl,rfl,rfl,rfl,rfl,rfl⟩
    all_goals as_aux_lemma =>
     go_wp2_with (first
      |go_big_skip
      |(refine wpList_load_mid (by rfl) 57 _ (by rfl) b (off+k*19) (by rfl) x.cells _ HRG.out Tryz.underlying57 (by rfl) (by rw [Ent.cells_length];kernel_rfl) ?_;clear HRG)
      |(refine zak (by rfl) 57 _ _ (by rfl) wr.heap.size 0 x.cells.toArray (by rfl) (by rfl) (zco _ _) (by rw [List.size_toArray,Ent.cells_length];kernel_rfl) (all_oneCell_toArray x.cells_one) ?_;intro wz hst;(have HZE:Hid (zaf wz wr.heap.size 0 x):=zaf.of_stored (w:=wz) hst.cells);(have HZB:Hid (Below wa.heap.size wa wz):=(HI.out.1.alloc HI.out.1.size _).trans (hst.below _ HI.out.1.size));(have z1:wz.cell? ⟨wr.heap.size,1,none⟩=some (.int .i64 x.beg):=HZE.out.2.1);(have z2:wz.cell? ⟨wr.heap.size,2,none⟩=some (.int .i64 x.mar):=HZE.out.2.2.1);(have z3:wz.cell? ⟨wr.heap.size,3,none⟩=some (.int .i64 x.fin):=HZE.out.2.2.2.1);clear hst)
      |fail)
     exact bodyPost_ret (v:=.tuple #[.int .i64 (k:Nat),.int .i64 4]) (by simp [results,Tryz.results11,go_sem]) rfl ⟨by rw [HCC2.out],HWA.out.1.trans (HZB.out.mono HWA.out.1.size)⟩
   ·have HNX:Hid (∀ i,i<k+1->misT (L i)=false):=zcq HI.out.2 (HMT.out.trans hz)
    have ta:decide (x.beg<0)=qa:=HEQ.out.1.symm
    have tb:decide (x.mar<0)=qb:=HEQ.out.2.1.symm
    have td:decide (x.mar > 0)=qd:=HEQ.out.2.2.1.symm
    have tf:decide (x.mar<=x.beg)=qf:=HEQ.out.2.2.2.1.symm
    have tc:decide (x.fin<0)=qc:=HEQ.out.2.2.2.2.1.symm
    have tu:decide (x.fin > 0)=qu:=HEQ.out.2.2.2.2.2.1.symm
    have tk:decide (x.fin<x.mar)=qk:=HEQ.out.2.2.2.2.2.2.1.symm
    have tg:(x.mar == 0)=qg:=HEQ.out.2.2.2.2.2.2.2.symm
    clear HEQ;clear hz HMT
    rcases H with ⟨rfl,rfl,rfl,rfl,rfl,rfl⟩|⟨rfl,rfl,rfl,rfl,rfl⟩|⟨rfl,rfl,rfl,rfl,rfl,rfl,rfl,rfl⟩|⟨rfl,rfl,rfl,rfl,rfl,rfl,rfl⟩
    all_goals as_aux_lemma =>
     go_wp2_with (first
      |go_big_skip
      |(refine wpList_load_mid (by rfl) 57 _ (by rfl) b (off+k*19) (by rfl) x.cells _ HRG.out Tryz.underlying57 (by rfl) (by rw [Ent.cells_length];kernel_rfl) ?_;clear HRG)
      |(refine zak (by rfl) 57 _ _ (by rfl) wr.heap.size 0 x.cells.toArray (by rfl) (by rfl) (zco _ _) (by rw [List.size_toArray,Ent.cells_length];kernel_rfl) (all_oneCell_toArray x.cells_one) ?_;intro wz hst;(have HZE:Hid (zaf wz wr.heap.size 0 x):=zaf.of_stored (w:=wz) hst.cells);(have HZB:Hid (Below wa.heap.size wa wz):=(HI.out.1.alloc HI.out.1.size _).trans (hst.below _ HI.out.1.size));(have z1:wz.cell? ⟨wr.heap.size,1,none⟩=some (.int .i64 x.beg):=HZE.out.2.1);(have z2:wz.cell? ⟨wr.heap.size,2,none⟩=some (.int .i64 x.mar):=HZE.out.2.2.1);(have z3:wz.cell? ⟨wr.heap.size,3,none⟩=some (.int .i64 x.fin):=HZE.out.2.2.2.1);clear hst)
      |fail)
     go_roundw
     case rel=>exact ⟨k+1,_,rfl,by omega,by go_num,HZB.out,HNX.out⟩
     case measure=>simp [intOf];omega
  ·have hkN:k=N:=by omega
   subst hkN
   have d1:decide (k<k)=false:=decide_eq_false hlt
   have HM1:Hid (zaw (fun i=>misT (L i)) k=-1):=zbi _ _ HI.out.2
   have HRE2:=Lib.hid (HRE.out HI.out.2);clear HRE hlt;have HB1:Hid (Below wa.heap.size wa wr):=HI.out.1;clear HI
   go_wp2
   clear d1
   go_loopw [9] (fun iv wq=>∃ (i:Nat) (wx:World),wx=wq/\i<=k/\iv=.int .i64 i/\Hid (Below wa.heap.size wa wq/\∀ j,j<i->busB L j=false)) (fun iv _=>k - (intOf iv).toNat)
   case atStart=>exact ⟨0,_,rfl,Nat.zero_le _,rfl,HB1.out,fun i hi=>by omega⟩
   case round =>
    clear HB1;obtain ⟨i,wq,rfl,hik,rfl,HI⟩:=hrel
    by_cases hlt:i<k
    ·have d1:decide (i<k)=true:=decide_eq_true hlt
     have i0:(0:Int)<=(i:Int):=Int.natCast_nonneg _
     have hi9:i<=1000000:=by have:=HPK.out.1;omega
     have i1:(i:Int)<(k:Int):=by omega
     obtain ⟨b,off,rfl,hb,hc⟩:=HC.out (by omega)
     have HMS:Hid (∀ w',Below wa.heap.size wa w'->∀ j,j<k->zaf w' b (off+j*19) (L j)):=fun w' hb9 j hj=>(hc j hj).keep fun p hp=>(HWA.out.1.trans (hb9.mono HWA.out.1.size)).cell (by rw [hp];have:=HPK.out;omega)
     clear hc hb
     go_wp2
     go_loopw [10] (fun jv wz=>∃ (j:Nat) (wx:World),wx=wz/\j<=i/\jv=.int .i64 j/\Hid (Below wa.heap.size wa wz/\∀ q,q<j->¬ busP L i q)) (fun jv _=>i - (intOf jv).toNat)
     case atStart=>exact ⟨0,_,rfl,Nat.zero_le _,rfl,HI.out.1,fun i hi=>by omega⟩
     case round =>
      have HI0:Hid (∀ j,j<i->busB L j=false):=HI.out.2
      clear HI;obtain ⟨j,wz,rfl,hji,rfl,HI⟩:=hrel
      by_cases hlt2:j<i
      ·have d2:decide (j<i)=true:=decide_eq_true hlt2
       have j0:(0:Int)<=(j:Int):=Int.natCast_nonneg _
       have j1:(j:Int)<(k:Int):=by omega
       have HSP:Hid (∀ w',Below wz.heap.size wz w'->w'.cell? ⟨b,off+i*19+2,none⟩=some (.int .i64 (L i).mar)/\w'.cell? ⟨b,off+j*19+2,none⟩=some (.int .i64 (L j).mar)/\w'.cell? ⟨b,off+i*19,none⟩=some (.int .i64 (L i).who)/\w'.cell? ⟨b,off+j*19,none⟩=some (.int .i64 (L j).who)/\w'.cell? ⟨b,off+j*19+3,none⟩=some (.int .i64 (L j).fin)/\w'.cell? ⟨b,off+i*19+1,none⟩=some (.int .i64 (L i).beg)):=fun w' hb9=>by
        have hx:=HMS.out w' (HI.out.1.trans (hb9.mono HI.out.1.size)) i hlt
        have hy:=HMS.out w' (HI.out.1.trans (hb9.mono HI.out.1.size)) j (by omega)
        exact ⟨hx.2.2.1,hy.2.2.1,hx.1,hy.1,hy.2.2.2.1,hx.2.1⟩
       have HBP:Hid (busP L i j↔(0<(L i).mar/\(L i).mar=(L j).mar)\/((L i).who=(L j).who/\((L j).fin=0\/(L i).beg<(L j).fin))):=Iff.rfl
       obtain ⟨x,hx⟩:∃ x,x=L i:=⟨_,rfl⟩;obtain ⟨y,hy⟩:∃ x,x=L j:=⟨_,rfl⟩;rw [<- hx,<- hy] at HSP HBP;clear hx hy
       by_cases p1:0<x.mar
       ·have d3:decide (x.mar > 0)=true:=decide_eq_true p1
        by_cases p2:x.mar=y.mar
        ·have d4:(x.mar == y.mar)=true:=by simpa using p2
         as_aux_lemma =>
          have HBT:Hid (busB L i=true):=Lib.hid (zc6.2 ⟨j,hlt2,HBP.out.2 (.inl ⟨p1,p2⟩)⟩)
          have HCC2:Hid (ck=((i:Int),10)):=Lib.hid (by rw [HCC.out,HM1.out,za5 _ i HI0.out HBT.out k hlt,if_neg (fun h=>h rfl),if_pos (by omega)])
          clear p1 p2 HBP
          go_wp2_with fail
          refine wp_region_held_drew (S:=fun w'=>w'.cell? ⟨b,off+i*19+2,none⟩=some (.int .i64 x.mar)/\w'.cell? ⟨b,off+j*19+2,none⟩=some (.int .i64 y.mar)/\w'.cell? ⟨b,off+i*19,none⟩=some (.int .i64 x.who)/\w'.cell? ⟨b,off+j*19,none⟩=some (.int .i64 y.who)/\w'.cell? ⟨b,off+j*19+3,none⟩=some (.int .i64 y.fin)/\w'.cell? ⟨b,off+i*19+1,none⟩=some (.int .i64 x.beg)) (by kernel_rfl) ?_ (fun hHeld=>?_)
          ·exact HSP.out _ (Below.refl _ _).drew
          obtain ⟨v0,hv0⟩:∃ w',w'=wz.drew:=⟨_,rfl⟩
          have hvb:Below wz.heap.size wz v0:=by rw [hv0];exact (Below.refl _ _).drew
          have HV0:=Lib.hid hvb;rw [<- hv0] at hHeld |-;clear hv0 hvb;refine tk 0 ?_;refine tk 1 ?_;refine tk 2 ?_;refine tk 3 ?_;refine tk 4 ?_;refine tk 5 ?_;refine tk 6 ?_;refine tk 7 ?_;refine tk 8 ?_;refine tk 9 ?_;refine tk 10 ?_;refine tk 11 ?_;refine tk 12 ?_;refine tk 13 ?_;refine tk 14 ?_;refine tk 15 ?_;refine tk 16 ?_;refine tk 17 ?_;refine tk 18 ?_;refine tk 19 ?_;refine skR 20 rfl ?_;refine skR 21 rfl ?_;refine skR 22 rfl ?_;refine skR 23 rfl ?_;refine skR 24 rfl ?_;refine skR 25 rfl ?_;refine skR 26 rfl ?_;refine skR 27 rfl ?_;refine skR 28 rfl ?_;refine skR 29 rfl ?_;refine skR 30 rfl ?_;refine skR 31 rfl ?_;refine skR 32 rfl ?_;refine skR 33 rfl ?_;refine skR 34 rfl ?_;refine skR 35 rfl ?_;refine skR 36 rfl ?_;refine skR 37 rfl ?_;refine skR 38 rfl ?_;refine skR 39 rfl ?_;refine skR 40 rfl ?_;refine skR 41 rfl ?_;refine skR 42 rfl ?_;refine skR 43 rfl ?_;refine skR 44 rfl ?_;refine skR 45 rfl ?_;refine skR 46 rfl ?_;refine skR 47 rfl ?_;refine skR 48 rfl ?_;refine skR 49 rfl ?_;refine skR 50 rfl ?_;refine skR 51 rfl ?_;refine tk 52 ?_
          refine dnR ?_
          go_wp2
          exact bodyPost_ret (v:=.tuple #[.int .i64 (i:Nat),.int .i64 10]) (by simp [results,Tryz.results11,go_sem]) rfl ⟨by rw [HCC2.out],HWA.out.1.trans ((HI.out.1.trans (HV0.out.mono HI.out.1.size)).mono HWA.out.1.size)⟩
        ·have d4:(x.mar == y.mar)=false:=by simpa using p2
         by_cases p3:x.who=y.who
         ·have d5:(x.who == y.who)=true:=by simpa using p3
          by_cases p4:y.fin=0
          ·have d6:(y.fin == 0)=true:=by simpa using p4
           as_aux_lemma =>
            have HBT:Hid (busB L i=true):=Lib.hid (zc6.2 ⟨j,hlt2,HBP.out.2 (.inr ⟨p3,.inl p4⟩)⟩)
            have HCC2:Hid (ck=((i:Int),10)):=Lib.hid (by rw [HCC.out,HM1.out,za5 _ i HI0.out HBT.out k hlt,if_neg (fun h=>h rfl),if_pos (by omega)])
            clear p1 p2;clear p3 p4 HBP
            go_wp2_with fail
            refine wp_region_held_drew (S:=fun w'=>w'.cell? ⟨b,off+i*19+2,none⟩=some (.int .i64 x.mar)/\w'.cell? ⟨b,off+j*19+2,none⟩=some (.int .i64 y.mar)/\w'.cell? ⟨b,off+i*19,none⟩=some (.int .i64 x.who)/\w'.cell? ⟨b,off+j*19,none⟩=some (.int .i64 y.who)/\w'.cell? ⟨b,off+j*19+3,none⟩=some (.int .i64 y.fin)/\w'.cell? ⟨b,off+i*19+1,none⟩=some (.int .i64 x.beg)) (by kernel_rfl) ?_ (fun hHeld=>?_)
            ·exact HSP.out _ (Below.refl _ _).drew
            obtain ⟨v0,hv0⟩:∃ w',w'=wz.drew:=⟨_,rfl⟩
            have hvb:Below wz.heap.size wz v0:=by rw [hv0];exact (Below.refl _ _).drew
            have HV0:=Lib.hid hvb;rw [<- hv0] at hHeld |-;clear hv0 hvb;refine tk 0 ?_;refine tk 1 ?_;refine tk 2 ?_;refine tk 3 ?_;refine tk 4 ?_;refine tk 5 ?_;refine tk 6 ?_;refine tk 7 ?_;refine tk 8 ?_;refine tk 9 ?_;refine tk 10 ?_;refine tk 11 ?_;refine tk 12 ?_;refine tk 13 ?_;refine tk 14 ?_;refine tk 15 ?_;refine tk 16 ?_;refine tk 17 ?_;refine tk 18 ?_;refine tk 19 ?_;refine tk 20 ?_;refine tk 21 ?_;refine tk 22 ?_;refine tk 23 ?_;refine tk 24 ?_;refine tk 25 ?_;refine tk 26 ?_;refine tk 27 ?_;refine tk 28 ?_;refine tk 29 ?_;refine tk 30 ?_;refine tk 31 ?_;refine tk 32 ?_;refine tk 33 ?_;refine tk 34 ?_;refine tk 35 ?_;refine tk 36 ?_;refine tk 37 ?_;refine tk 38 ?_;refine skR 39 rfl ?_;refine skR 40 rfl ?_;refine skR 41 rfl ?_;refine skR 42 rfl ?_;refine skR 43 rfl ?_;refine skR 44 rfl ?_;refine skR 45 rfl ?_;refine skR 46 rfl ?_;refine skR 47 rfl ?_;refine skR 48 rfl ?_;refine skR 49 rfl ?_;refine tk 50 ?_;refine tk 51 ?_;refine tk 52 ?_
            refine dnR ?_
            go_wp2
            exact bodyPost_ret (v:=.tuple #[.int .i64 (i:Nat),.int .i64 10]) (by simp [results,Tryz.results11,go_sem]) rfl ⟨by rw [HCC2.out],HWA.out.1.trans ((HI.out.1.trans (HV0.out.mono HI.out.1.size)).mono HWA.out.1.size)⟩
          ·have d6:(y.fin == 0)=false:=by simpa using p4
           by_cases p5:x.beg<y.fin
           ·have d7:decide (y.fin > x.beg)=true:=decide_eq_true p5
            as_aux_lemma =>
             have HBT:Hid (busB L i=true):=Lib.hid (zc6.2 ⟨j,hlt2,HBP.out.2 (.inr ⟨p3,.inr p5⟩)⟩)
             have HCC2:Hid (ck=((i:Int),10)):=Lib.hid (by rw [HCC.out,HM1.out,za5 _ i HI0.out HBT.out k hlt,if_neg (fun h=>h rfl),if_pos (by omega)])
             clear p1 p2;clear p3 p4 p5 HBP
             go_wp2_with fail
             refine wp_region_held_drew (S:=fun w'=>w'.cell? ⟨b,off+i*19+2,none⟩=some (.int .i64 x.mar)/\w'.cell? ⟨b,off+j*19+2,none⟩=some (.int .i64 y.mar)/\w'.cell? ⟨b,off+i*19,none⟩=some (.int .i64 x.who)/\w'.cell? ⟨b,off+j*19,none⟩=some (.int .i64 y.who)/\w'.cell? ⟨b,off+j*19+3,none⟩=some (.int .i64 y.fin)/\w'.cell? ⟨b,off+i*19+1,none⟩=some (.int .i64 x.beg)) (by kernel_rfl) ?_ (fun hHeld=>?_)
             ·exact HSP.out _ (Below.refl _ _).drew
             obtain ⟨v0,hv0⟩:∃ w',w'=wz.drew:=⟨_,rfl⟩
             have hvb:Below wz.heap.size wz v0:=by rw [hv0];exact (Below.refl _ _).drew
             have HV0:=Lib.hid hvb;rw [<- hv0] at hHeld |-;clear hv0 hvb;refine tk 0 ?_;refine tk 1 ?_;refine tk 2 ?_;refine tk 3 ?_;refine tk 4 ?_;refine tk 5 ?_;refine tk 6 ?_;refine tk 7 ?_;refine tk 8 ?_;refine tk 9 ?_;refine tk 10 ?_;refine tk 11 ?_;refine tk 12 ?_;refine tk 13 ?_;refine tk 14 ?_;refine tk 15 ?_;refine tk 16 ?_;refine tk 17 ?_;refine tk 18 ?_;refine tk 19 ?_;refine tk 20 ?_;refine tk 21 ?_;refine tk 22 ?_;refine tk 23 ?_;refine tk 24 ?_;refine tk 25 ?_;refine tk 26 ?_;refine tk 27 ?_;refine tk 28 ?_;refine tk 29 ?_;refine tk 30 ?_;refine tk 31 ?_;refine tk 32 ?_;refine tk 33 ?_;refine tk 34 ?_;refine tk 35 ?_;refine tk 36 ?_;refine tk 37 ?_;refine tk 38 ?_;refine tk 39 ?_;refine tk 40 ?_;refine tk 41 ?_;refine tk 42 ?_;refine tk 43 ?_;refine tk 44 ?_;refine tk 45 ?_;refine tk 46 ?_;refine tk 47 ?_;refine tk 48 ?_;refine tk 49 ?_;refine tk 50 ?_;refine tk 51 ?_;refine tk 52 ?_
             refine dnR ?_
             go_wp2
             exact bodyPost_ret (v:=.tuple #[.int .i64 (i:Nat),.int .i64 10]) (by simp [results,Tryz.results11,go_sem]) rfl ⟨by rw [HCC2.out],HWA.out.1.trans ((HI.out.1.trans (HV0.out.mono HI.out.1.size)).mono HWA.out.1.size)⟩
           ·have d7:decide (y.fin > x.beg)=false:=decide_eq_false p5
            as_aux_lemma =>
             have HNX:Hid (∀ q,q<j+1->¬ busP L i q):=fun q hq=>by
              rcases Nat.lt_or_ge q j with c|c
              ·exact HI.out.2 q c
              ·have:q=j:=by omega
               subst this
               exact fun h9=>by
                have h8:=HBP.out.1 h9
                omega
             clear p1 p2;clear p3 p4 p5 HBP
             go_wp2_with fail
             refine wp_region_held_drew (S:=fun w'=>w'.cell? ⟨b,off+i*19+2,none⟩=some (.int .i64 x.mar)/\w'.cell? ⟨b,off+j*19+2,none⟩=some (.int .i64 y.mar)/\w'.cell? ⟨b,off+i*19,none⟩=some (.int .i64 x.who)/\w'.cell? ⟨b,off+j*19,none⟩=some (.int .i64 y.who)/\w'.cell? ⟨b,off+j*19+3,none⟩=some (.int .i64 y.fin)/\w'.cell? ⟨b,off+i*19+1,none⟩=some (.int .i64 x.beg)) (by kernel_rfl) ?_ (fun hHeld=>?_)
             ·exact HSP.out _ (Below.refl _ _).drew
             obtain ⟨v0,hv0⟩:∃ w',w'=wz.drew:=⟨_,rfl⟩
             have hvb:Below wz.heap.size wz v0:=by rw [hv0];exact (Below.refl _ _).drew
             have HV0:=Lib.hid hvb;rw [<- hv0] at hHeld |-;clear hv0 hvb;refine tk 0 ?_;refine tk 1 ?_;refine tk 2 ?_;refine tk 3 ?_;refine tk 4 ?_;refine tk 5 ?_;refine tk 6 ?_;refine tk 7 ?_;refine tk 8 ?_;refine tk 9 ?_;refine tk 10 ?_;refine tk 11 ?_;refine tk 12 ?_;refine tk 13 ?_;refine tk 14 ?_;refine tk 15 ?_;refine tk 16 ?_;refine tk 17 ?_;refine tk 18 ?_;refine tk 19 ?_;refine tk 20 ?_;refine tk 21 ?_;refine tk 22 ?_;refine tk 23 ?_;refine tk 24 ?_;refine tk 25 ?_;refine tk 26 ?_;refine tk 27 ?_;refine tk 28 ?_;refine tk 29 ?_;refine tk 30 ?_;refine tk 31 ?_;refine tk 32 ?_;refine tk 33 ?_;refine tk 34 ?_;refine tk 35 ?_;refine tk 36 ?_;refine tk 37 ?_;refine tk 38 ?_;refine tk 39 ?_;refine tk 40 ?_;refine tk 41 ?_;refine tk 42 ?_;refine tk 43 ?_;refine tk 44 ?_;refine tk 45 ?_;refine tk 46 ?_;refine tk 47 ?_;refine tk 48 ?_;refine tk 49 ?_;refine tk 50 ?_;refine tk 51 ?_;refine tk 52 ?_
             refine dnR ?_
             go_wp2
             go_roundw
             case rel=>exact ⟨j+1,_,rfl,by omega,by go_num,HI.out.1.trans (HV0.out.mono HI.out.1.size),HNX.out⟩
             case measure=>simp [intOf];omega
         ·have d5:(x.who == y.who)=false:=by simpa using p3
          as_aux_lemma =>
           have HNX:Hid (∀ q,q<j+1->¬ busP L i q):=fun q hq=>by
            rcases Nat.lt_or_ge q j with c|c
            ·exact HI.out.2 q c
            ·have:q=j:=by omega
             subst this
             exact fun h9=>by
              have h8:=HBP.out.1 h9
              omega
           clear p1 p2;clear p3 HBP
           go_wp2_with fail
           refine wp_region_held_drew (S:=fun w'=>w'.cell? ⟨b,off+i*19+2,none⟩=some (.int .i64 x.mar)/\w'.cell? ⟨b,off+j*19+2,none⟩=some (.int .i64 y.mar)/\w'.cell? ⟨b,off+i*19,none⟩=some (.int .i64 x.who)/\w'.cell? ⟨b,off+j*19,none⟩=some (.int .i64 y.who)/\w'.cell? ⟨b,off+j*19+3,none⟩=some (.int .i64 y.fin)/\w'.cell? ⟨b,off+i*19+1,none⟩=some (.int .i64 x.beg)) (by kernel_rfl) ?_ (fun hHeld=>?_)
           ·exact HSP.out _ (Below.refl _ _).drew
           obtain ⟨v0,hv0⟩:∃ w',w'=wz.drew:=⟨_,rfl⟩
           have hvb:Below wz.heap.size wz v0:=by rw [hv0];exact (Below.refl _ _).drew
           have HV0:=Lib.hid hvb;rw [<- hv0] at hHeld |-;clear hv0 hvb;refine tk 0 ?_;refine tk 1 ?_;refine tk 2 ?_;refine tk 3 ?_;refine tk 4 ?_;refine tk 5 ?_;refine tk 6 ?_;refine tk 7 ?_;refine tk 8 ?_;refine tk 9 ?_;refine tk 10 ?_;refine tk 11 ?_;refine tk 12 ?_;refine tk 13 ?_;refine tk 14 ?_;refine tk 15 ?_;refine tk 16 ?_;refine tk 17 ?_;refine tk 18 ?_;refine tk 19 ?_;refine tk 20 ?_;refine tk 21 ?_;refine tk 22 ?_;refine tk 23 ?_;refine tk 24 ?_;refine tk 25 ?_;refine tk 26 ?_;refine tk 27 ?_;refine tk 28 ?_;refine tk 29 ?_;refine tk 30 ?_;refine tk 31 ?_;refine skR 32 rfl ?_;refine skR 33 rfl ?_;refine skR 34 rfl ?_;refine skR 35 rfl ?_;refine skR 36 rfl ?_;refine skR 37 rfl ?_;refine skR 38 rfl ?_;refine skR 39 rfl ?_;refine skR 40 rfl ?_;refine skR 41 rfl ?_;refine skR 42 rfl ?_;refine skR 43 rfl ?_;refine skR 44 rfl ?_;refine skR 45 rfl ?_;refine skR 46 rfl ?_;refine skR 47 rfl ?_;refine skR 48 rfl ?_;refine skR 49 rfl ?_;refine skR 50 rfl ?_;refine tk 51 ?_;refine tk 52 ?_
           refine dnR ?_
           go_wp2
           go_roundw
           case rel=>exact ⟨j+1,_,rfl,by omega,by go_num,HI.out.1.trans (HV0.out.mono HI.out.1.size),HNX.out⟩
           case measure=>simp [intOf];omega
       ·have d3:decide (x.mar > 0)=false:=decide_eq_false p1
        by_cases p3:x.who=y.who
        ·have d5:(x.who == y.who)=true:=by simpa using p3
         by_cases p4:y.fin=0
         ·have d6:(y.fin == 0)=true:=by simpa using p4
          as_aux_lemma =>
           have HBT:Hid (busB L i=true):=Lib.hid (zc6.2 ⟨j,hlt2,HBP.out.2 (.inr ⟨p3,.inl p4⟩)⟩)
           have HCC2:Hid (ck=((i:Int),10)):=Lib.hid (by rw [HCC.out,HM1.out,za5 _ i HI0.out HBT.out k hlt,if_neg (fun h=>h rfl),if_pos (by omega)])
           clear p1;clear p3 p4 HBP
           go_wp2_with fail
           refine wp_region_held_drew (S:=fun w'=>w'.cell? ⟨b,off+i*19+2,none⟩=some (.int .i64 x.mar)/\w'.cell? ⟨b,off+j*19+2,none⟩=some (.int .i64 y.mar)/\w'.cell? ⟨b,off+i*19,none⟩=some (.int .i64 x.who)/\w'.cell? ⟨b,off+j*19,none⟩=some (.int .i64 y.who)/\w'.cell? ⟨b,off+j*19+3,none⟩=some (.int .i64 y.fin)/\w'.cell? ⟨b,off+i*19+1,none⟩=some (.int .i64 x.beg)) (by kernel_rfl) ?_ (fun hHeld=>?_)
           ·exact HSP.out _ (Below.refl _ _).drew
           obtain ⟨v0,hv0⟩:∃ w',w'=wz.drew:=⟨_,rfl⟩
           have hvb:Below wz.heap.size wz v0:=by rw [hv0];exact (Below.refl _ _).drew
           have HV0:=Lib.hid hvb;rw [<- hv0] at hHeld |-;clear hv0 hvb;refine tk 0 ?_;refine tk 1 ?_;refine tk 2 ?_;refine tk 3 ?_;refine tk 4 ?_;refine tk 5 ?_;refine tk 6 ?_;refine skR 7 rfl ?_;refine skR 8 rfl ?_;refine skR 9 rfl ?_;refine skR 10 rfl ?_;refine skR 11 rfl ?_;refine skR 12 rfl ?_;refine skR 13 rfl ?_;refine skR 14 rfl ?_;refine skR 15 rfl ?_;refine skR 16 rfl ?_;refine skR 17 rfl ?_;refine tk 18 ?_;refine tk 19 ?_;refine tk 20 ?_;refine tk 21 ?_;refine tk 22 ?_;refine tk 23 ?_;refine tk 24 ?_;refine tk 25 ?_;refine tk 26 ?_;refine tk 27 ?_;refine tk 28 ?_;refine tk 29 ?_;refine tk 30 ?_;refine tk 31 ?_;refine tk 32 ?_;refine tk 33 ?_;refine tk 34 ?_;refine tk 35 ?_;refine tk 36 ?_;refine tk 37 ?_;refine tk 38 ?_;refine skR 39 rfl ?_;refine skR 40 rfl ?_;refine skR 41 rfl ?_;refine skR 42 rfl ?_;refine skR 43 rfl ?_;refine skR 44 rfl ?_;refine skR 45 rfl ?_;refine skR 46 rfl ?_;refine skR 47 rfl ?_;refine skR 48 rfl ?_;refine skR 49 rfl ?_;refine tk 50 ?_;refine tk 51 ?_;refine tk 52 ?_
           refine dnR ?_
           go_wp2
           exact bodyPost_ret (v:=.tuple #[.int .i64 (i:Nat),.int .i64 10]) (by simp [results,Tryz.results11,go_sem]) rfl ⟨by rw [HCC2.out],HWA.out.1.trans ((HI.out.1.trans (HV0.out.mono HI.out.1.size)).mono HWA.out.1.size)⟩
         ·have d6:(y.fin == 0)=false:=by simpa using p4
          by_cases p5:x.beg<y.fin
          ·have d7:decide (y.fin > x.beg)=true:=decide_eq_true p5
           as_aux_lemma =>
            have HBT:Hid (busB L i=true):=Lib.hid (zc6.2 ⟨j,hlt2,HBP.out.2 (.inr ⟨p3,.inr p5⟩)⟩)
            have HCC2:Hid (ck=((i:Int),10)):=Lib.hid (by rw [HCC.out,HM1.out,za5 _ i HI0.out HBT.out k hlt,if_neg (fun h=>h rfl),if_pos (by omega)])
            clear p1;clear p3 p4 p5 HBP
            go_wp2_with fail
            refine wp_region_held_drew (S:=fun w'=>w'.cell? ⟨b,off+i*19+2,none⟩=some (.int .i64 x.mar)/\w'.cell? ⟨b,off+j*19+2,none⟩=some (.int .i64 y.mar)/\w'.cell? ⟨b,off+i*19,none⟩=some (.int .i64 x.who)/\w'.cell? ⟨b,off+j*19,none⟩=some (.int .i64 y.who)/\w'.cell? ⟨b,off+j*19+3,none⟩=some (.int .i64 y.fin)/\w'.cell? ⟨b,off+i*19+1,none⟩=some (.int .i64 x.beg)) (by kernel_rfl) ?_ (fun hHeld=>?_)
            ·exact HSP.out _ (Below.refl _ _).drew
            obtain ⟨v0,hv0⟩:∃ w',w'=wz.drew:=⟨_,rfl⟩
            have hvb:Below wz.heap.size wz v0:=by rw [hv0];exact (Below.refl _ _).drew
            have HV0:=Lib.hid hvb;rw [<- hv0] at hHeld |-;clear hv0 hvb;refine tk 0 ?_;refine tk 1 ?_;refine tk 2 ?_;refine tk 3 ?_;refine tk 4 ?_;refine tk 5 ?_;refine tk 6 ?_;refine skR 7 rfl ?_;refine skR 8 rfl ?_;refine skR 9 rfl ?_;refine skR 10 rfl ?_;refine skR 11 rfl ?_;refine skR 12 rfl ?_;refine skR 13 rfl ?_;refine skR 14 rfl ?_;refine skR 15 rfl ?_;refine skR 16 rfl ?_;refine skR 17 rfl ?_;refine tk 18 ?_;refine tk 19 ?_;refine tk 20 ?_;refine tk 21 ?_;refine tk 22 ?_;refine tk 23 ?_;refine tk 24 ?_;refine tk 25 ?_;refine tk 26 ?_;refine tk 27 ?_;refine tk 28 ?_;refine tk 29 ?_;refine tk 30 ?_;refine tk 31 ?_;refine tk 32 ?_;refine tk 33 ?_;refine tk 34 ?_;refine tk 35 ?_;refine tk 36 ?_;refine tk 37 ?_;refine tk 38 ?_;refine tk 39 ?_;refine tk 40 ?_;refine tk 41 ?_;refine tk 42 ?_;refine tk 43 ?_;refine tk 44 ?_;refine tk 45 ?_;refine tk 46 ?_;refine tk 47 ?_;refine tk 48 ?_;refine tk 49 ?_;refine tk 50 ?_;refine tk 51 ?_;refine tk 52 ?_
            refine dnR ?_
            go_wp2
            exact bodyPost_ret (v:=.tuple #[.int .i64 (i:Nat),.int .i64 10]) (by simp [results,Tryz.results11,go_sem]) rfl ⟨by rw [HCC2.out],HWA.out.1.trans ((HI.out.1.trans (HV0.out.mono HI.out.1.size)).mono HWA.out.1.size)⟩
          ·have d7:decide (y.fin > x.beg)=false:=decide_eq_false p5
           as_aux_lemma =>
            have HNX:Hid (∀ q,q<j+1->¬ busP L i q):=fun q hq=>by
             rcases Nat.lt_or_ge q j with c|c
             ·exact HI.out.2 q c
             ·have:q=j:=by omega
              subst this
              exact fun h9=>by
               have h8:=HBP.out.1 h9
               omega
            clear p1;clear p3 p4 p5 HBP
            go_wp2_with fail
            refine wp_region_held_drew (S:=fun w'=>w'.cell? ⟨b,off+i*19+2,none⟩=some (.int .i64 x.mar)/\w'.cell? ⟨b,off+j*19+2,none⟩=some (.int .i64 y.mar)/\w'.cell? ⟨b,off+i*19,none⟩=some (.int .i64 x.who)/\w'.cell? ⟨b,off+j*19,none⟩=some (.int .i64 y.who)/\w'.cell? ⟨b,off+j*19+3,none⟩=some (.int .i64 y.fin)/\w'.cell? ⟨b,off+i*19+1,none⟩=some (.int .i64 x.beg)) (by kernel_rfl) ?_ (fun hHeld=>?_)
            ·exact HSP.out _ (Below.refl _ _).drew
            obtain ⟨v0,hv0⟩:∃ w',w'=wz.drew:=⟨_,rfl⟩
            have hvb:Below wz.heap.size wz v0:=by rw [hv0];exact (Below.refl _ _).drew
            have HV0:=Lib.hid hvb;rw [<- hv0] at hHeld |-;clear hv0 hvb;refine tk 0 ?_;refine tk 1 ?_;refine tk 2 ?_;refine tk 3 ?_;refine tk 4 ?_;refine tk 5 ?_;refine tk 6 ?_;refine skR 7 rfl ?_;refine skR 8 rfl ?_;refine skR 9 rfl ?_;refine skR 10 rfl ?_;refine skR 11 rfl ?_;refine skR 12 rfl ?_;refine skR 13 rfl ?_;refine skR 14 rfl ?_;refine skR 15 rfl ?_;refine skR 16 rfl ?_;refine skR 17 rfl ?_;refine tk 18 ?_;refine tk 19 ?_;refine tk 20 ?_;refine tk 21 ?_;refine tk 22 ?_;refine tk 23 ?_;refine tk 24 ?_;refine tk 25 ?_;refine tk 26 ?_;refine tk 27 ?_;refine tk 28 ?_;refine tk 29 ?_;refine tk 30 ?_;refine tk 31 ?_;refine tk 32 ?_;refine tk 33 ?_;refine tk 34 ?_;refine tk 35 ?_;refine tk 36 ?_;refine tk 37 ?_;refine tk 38 ?_;refine tk 39 ?_;refine tk 40 ?_;refine tk 41 ?_;refine tk 42 ?_;refine tk 43 ?_;refine tk 44 ?_;refine tk 45 ?_;refine tk 46 ?_;refine tk 47 ?_;refine tk 48 ?_;refine tk 49 ?_;refine tk 50 ?_;refine tk 51 ?_;refine tk 52 ?_
            refine dnR ?_
            go_wp2
            go_roundw
            case rel=>exact ⟨j+1,_,rfl,by omega,by go_num,HI.out.1.trans (HV0.out.mono HI.out.1.size),HNX.out⟩
            case measure=>simp [intOf];omega
        ·have d5:(x.who == y.who)=false:=by simpa using p3
         as_aux_lemma =>
          have HNX:Hid (∀ q,q<j+1->¬ busP L i q):=fun q hq=>by
           rcases Nat.lt_or_ge q j with c|c
           ·exact HI.out.2 q c
           ·have:q=j:=by omega
            subst this
            exact fun h9=>by
             have h8:=HBP.out.1 h9
             omega
          clear p1;clear p3 HBP
          go_wp2_with fail
          refine wp_region_held_drew (S:=fun w'=>w'.cell? ⟨b,off+i*19+2,none⟩=some (.int .i64 x.mar)/\w'.cell? ⟨b,off+j*19+2,none⟩=some (.int .i64 y.mar)/\w'.cell? ⟨b,off+i*19,none⟩=some (.int .i64 x.who)/\w'.cell? ⟨b,off+j*19,none⟩=some (.int .i64 y.who)/\w'.cell? ⟨b,off+j*19+3,none⟩=some (.int .i64 y.fin)/\w'.cell? ⟨b,off+i*19+1,none⟩=some (.int .i64 x.beg)) (by kernel_rfl) ?_ (fun hHeld=>?_)
          ·exact HSP.out _ (Below.refl _ _).drew
          obtain ⟨v0,hv0⟩:∃ w',w'=wz.drew:=⟨_,rfl⟩
          have hvb:Below wz.heap.size wz v0:=by rw [hv0];exact (Below.refl _ _).drew
          have HV0:=Lib.hid hvb;rw [<- hv0] at hHeld |-;clear hv0 hvb;refine tk 0 ?_;refine tk 1 ?_;refine tk 2 ?_;refine tk 3 ?_;refine tk 4 ?_;refine tk 5 ?_;refine tk 6 ?_;refine skR 7 rfl ?_;refine skR 8 rfl ?_;refine skR 9 rfl ?_;refine skR 10 rfl ?_;refine skR 11 rfl ?_;refine skR 12 rfl ?_;refine skR 13 rfl ?_;refine skR 14 rfl ?_;refine skR 15 rfl ?_;refine skR 16 rfl ?_;refine skR 17 rfl ?_;refine tk 18 ?_;refine tk 19 ?_;refine tk 20 ?_;refine tk 21 ?_;refine tk 22 ?_;refine tk 23 ?_;refine tk 24 ?_;refine tk 25 ?_;refine tk 26 ?_;refine tk 27 ?_;refine tk 28 ?_;refine tk 29 ?_;refine tk 30 ?_;refine tk 31 ?_;refine skR 32 rfl ?_;refine skR 33 rfl ?_;refine skR 34 rfl ?_;refine skR 35 rfl ?_;refine skR 36 rfl ?_;refine skR 37 rfl ?_;refine skR 38 rfl ?_;refine skR 39 rfl ?_;refine skR 40 rfl ?_;refine skR 41 rfl ?_;refine skR 42 rfl ?_;refine skR 43 rfl ?_;refine skR 44 rfl ?_;refine skR 45 rfl ?_;refine skR 46 rfl ?_;refine skR 47 rfl ?_;refine skR 48 rfl ?_;refine skR 49 rfl ?_;refine skR 50 rfl ?_;refine tk 51 ?_;refine tk 52 ?_
          refine dnR ?_
          go_wp2
          go_roundw
          case rel=>exact ⟨j+1,_,rfl,by omega,by go_num,HI.out.1.trans (HV0.out.mono HI.out.1.size),HNX.out⟩
          case measure=>simp [intOf];omega
      ·have hji2:j=i:=by omega
       have d2:decide (j<i)=false:=decide_eq_false hlt2
       have HNX:Hid (∀ q,q<i+1->busB L q=false):=zcq HI0.out (zhe.2 fun q hq=>HI.out.2 q (by omega))
       clear hji2 hlt2
       go_wp2
       go_roundw
       case rel=>exact ⟨i+1,_,rfl,by omega,by go_num,HI.out.1,HNX.out⟩
       case measure=>simp [intOf];omega
    ·have hiN:i=k:=by omega
     subst hiN
     have d1:decide (i<i)=false:=decide_eq_false hlt
     have HM2:Hid (zaw (busB L) i=-1):=zbi _ _ HI.out.2
     have HRQ:=HRP.out wq HI.out.1;have hbq:Below w.heap.size w wq:=HWA.out.1.trans (HI.out.1.mono HWA.out.1.size);have HRX:=Lib.hid HRQ;have HBQ:=Lib.hid hbq;have hi3:=HRB.out;clear HRQ hbq
     by_cases e3:i3=-1
     ·subst e3
      have HCC2:Hid (ck=(-1,0)):=Lib.hid (by rw [HCC.out,HM1.out,HM2.out,if_neg (fun h=>h rfl),if_neg (fun h=>h rfl),if_neg (fun h=>h rfl)])
      as_aux_lemma =>
       go_wp2_with (first
        |(refine wpList_load_mid (by rfl) 28 _ (by rfl) w.heap.size 0 (by rfl) [.int .i64 (P:Nat),.slice Ar nr cr,.slice Av nv cv,.int .i64 (S:Nat),.int .i64 (B:Nat),.int .i64 (n:Nat),.int .i64 t,.int .i64 (r:Nat),.int .u32 nm,.int .u32 sh] _ HRX.out Tryz.underlying28 (by rfl) (by kernel_rfl) ?_)
        |(go_at_call 33;(with_reducible refine Calls.mono (HRE2.out _ HBQ.out) ?_);rintro e w9 ⟨A9,rfl,hb9⟩;(have HB9:=Lib.hid hb9);clear hb9)
        |fail)
       exact bodyPost_ret (v:=.tuple #[.int .i64 (-1),.int .i64 0]) (by simp [results,Tryz.results11,go_sem]) rfl ⟨by rw [HCC2.out],HBQ.out.trans (HB9.out.mono HBQ.out.size)⟩
     ·have d3:decide (i3≥0)=true:=decide_eq_true (by omega)
      have HCC2:Hid (ck=(i3,7)):=Lib.hid (by rw [HCC.out,HM1.out,HM2.out,if_neg (fun h=>h rfl),if_neg (fun h=>h rfl),if_pos e3])
      clear e3
      as_aux_lemma =>
       go_wp2_with (first
        |(refine wpList_load_mid (by rfl) 28 _ (by rfl) w.heap.size 0 (by rfl) [.int .i64 (P:Nat),.slice Ar nr cr,.slice Av nv cv,.int .i64 (S:Nat),.int .i64 (B:Nat),.int .i64 (n:Nat),.int .i64 t,.int .i64 (r:Nat),.int .u32 nm,.int .u32 sh] _ HRX.out Tryz.underlying28 (by rfl) (by kernel_rfl) ?_)
        |(go_at_call 33;(with_reducible refine Calls.mono (HRE2.out _ HBQ.out) ?_);rintro e w9 ⟨A9,rfl,hb9⟩;(have HB9:=Lib.hid hb9);clear hb9)
        |fail)
       exact bodyPost_ret (v:=.tuple #[.int .i64 i3,.int .i64 7]) (by simp [results,Tryz.results11,go_sem]) rfl ⟨by rw [HCC2.out],HBQ.out.trans (HB9.out.mono HBQ.out.size)⟩
end
end Go.Proofs.YtfekhdgjgjodlaaGreat
