/-
  Words and contracts that a statement's proof rests on (HiR). No statement is proved here.
-/
import Derived.Test.YtfekhdgjgjodlaaGreatSrF
import Derived.Test.YtfekhdgjgjodlaaGreatHiC
set_option linter.unusedVariables false
set_option linter.unusedSimpArgs false
namespace Go.Proofs.YtfekhdgjgjodlaaGreat
open Go.RowKit
theorem zl4 (f:Nat->Nat) {i j:Nat} (h:i≠j):swK f i j=swK f j i:=funext fun p=>by
 unfold swK
 by_cases e1:p=i
 ·subst e1;rw [if_pos rfl,if_neg h,if_pos rfl]
 ·by_cases e2:p=j
  ·subst e2;rw [if_neg e1,if_pos rfl,if_pos rfl]
  ·rw [if_neg e1,if_neg e2,if_neg e2,if_neg e1]
def rowV (F:Nat->Nat) (n:Nat):List Value:=(List.range n).map fun i=>.int .i64 (F i:Nat)
theorem zbh (F:Nat->Nat) (n:Nat):(rowV F n).length=n:=by simp [rowV]
theorem ze1 (F:Nat->Nat) {n i:Nat} (h:i<n):(rowV F n)[i]?=some (.int .i64 (F i:Nat)):=by
 unfold rowV;rw [List.getElem?_map,List.getElem?_range h]
 rfl
theorem zol (F G:Nat->Nat) (n:Nat):rowV F n ++ [.int .i64 (G n:Nat)]=rowV (fun p=>if p<n then F p else G p) (n+1):=by
 apply List.ext_getElem?
 intro i
 rcases Nat.lt_trichotomy i n with h|h|h
 ·rw [List.getElem?_append_left (by rw [zbh];exact h),ze1 _ h,ze1 _ (by omega),if_pos h]
 ·subst h
  rw [List.getElem?_append_right (by rw [zbh];omega),zbh,ze1 _ (by omega),if_neg (by omega)]
  simp
 ·rw [List.getElem?_eq_none (by rw [List.length_append,zbh];simp;omega),List.getElem?_eq_none (by rw [zbh];omega)]
theorem rowV_set (F:Nat->Nat) {n i j:Nat} (hi:i<n) (hj:j<n) (hne:i≠j):((rowV F n).set i (.int .i64 (F j:Nat))).set j (.int .i64 (F i:Nat))=rowV (swK F i j) n:=by
 apply List.ext_getElem?
 intro p
 rcases Nat.lt_or_ge p n with h|h
 ·rw [ze1 _ h]
  by_cases e2:p=j
  ·subst e2
   rw [List.getElem?_set_self (by rw [List.length_set,zbh];exact h),zi5]
  ·rw [List.getElem?_set_ne (Ne.symm e2)]
   by_cases e1:p=i
   ·subst e1
    rw [List.getElem?_set_self (by rw [zbh];exact h),zhx]
   ·rw [List.getElem?_set_ne (Ne.symm e1),ze1 _ h,zke e1 e2]
 ·rw [List.getElem?_eq_none (by rw [List.length_set,List.length_set,zbh];exact h),List.getElem?_eq_none (by rw [zbh];exact h)]
def zdi (w:World) (base pb n cap:Nat) (F:Nat->Nat):Prop:=w.ownsRow base 3 1 (.slice (some ⟨pb,0,none⟩) n cap) n (rowV F n)
section
variable {w w':World} {base pb n cap:Nat} {F:Nat->Nat}
theorem zdi.lt (h:zdi w base pb n cap F):base<=pb/\pb<w.heap.size:=World.ownsRow.lt h pb rfl
theorem zdi.call (h:zdi w base pb n cap F) (hb:Below w.heap.size w w'):zdi w' base pb n cap F:=zac h hb
theorem zdi.cell (h:zdi w base pb n cap F) {i:Nat} (hi:i<n):w.cell? ⟨pb,i,none⟩=some (.int .i64 (F i:Nat)):=by
 have:=World.ownsRow.cellAt h i (by omega)
 rw [ze1 _ hi] at this
 exact this
theorem zdi.frozen (h:zdi w base pb n cap F) (hn:0<n) (i:Nat):w.frozen? ⟨pb,i,none⟩=false:=by
 obtain ⟨b,c,G,e,_,_,hr,_⟩:=zeq h hn
 injection e with e
 injection e with e
 injection e with e
 rw [e]
 exact hr.frozen i
theorem zdi.swap (h:zdi w base pb n cap F) {X Y:Nat} (hX:X<n) (hY:Y<n) (hXY:X≠Y):zdi ((w.setCell ⟨pb,X,none⟩ (.int .i64 (F Y:Nat))).setCell ⟨pb,Y,none⟩ (.int .i64 (F X:Nat))) base pb n cap (swK F X Y):=by
 have h1:=(World.ownsRow.stored h X (.int .i64 (F Y:Nat))).1;have h2:=(World.ownsRow.stored h1 Y (.int .i64 (F X:Nat))).1;rw [rowV_set F hX hY hXY] at h2
 exact h2
theorem zdi.set_cell (h:zdi w base pb n cap F) {X Y:Nat} (hY:Y<n) (hXY:Y≠X) (u:Value):(w.setCell ⟨pb,X,none⟩ u).cell? ⟨pb,Y,none⟩=some (.int .i64 (F Y:Nat))/\((0<n)->(w.setCell ⟨pb,X,none⟩ u).frozen? ⟨pb,Y,none⟩=false) :=
 ⟨(World.cell?_setCell_other _ _ _ _ (fun e=>hXY (by injection e with _ e;exact e.symm))).trans (h.cell hY),fun hn=>by rw [World.frozen?_setCell];exact h.frozen hn Y⟩
end
section
variable {key:Nat->Int} {F:Nat->Nat} {k:Nat}
theorem zlr (l:List Nat) (x:Nat) {p:Nat} (h:p<l.length+1):getN (l ++ [x]) p=if p<l.length then getN l p else x:=by
 unfold getN;rw [List.getD_eq_getElem?_getD]
 by_cases e:p<l.length
 ·rw [if_pos e,List.getElem?_append_left e,List.getD_eq_getElem?_getD]
 ·rw [if_neg e,List.getElem?_append_right (by omega),show p - l.length=0 by omega]
  rfl
theorem put_last {n:Nat} (hn:n=(pls key k).length) (hm:MgK key (getN (pls key k)) F 0 n) (hk:0<key k) :
  getN (pls key (k+1)) n=k/\SdK key (fun p=>if p<n then F p else getN (pls key (k+1)) p) 0 n/\StK key (fun p=>if p<n then F p else getN (pls key (k+1)) p) 0 (n+1)/\ImK (getN (pls key (k+1))) (fun p=>if p<n then F p else getN (pls key (k+1)) p) 0 (n+1):=by
 have hp:pls key (k+1)=pls key k ++ [k]:=by rw [zfr,if_pos hk]
 have hgn:getN (pls key (k+1)) n=k:=by rw [hp,zlr _ _ (by omega),if_neg (by omega)]
 have hF:∀ p,p<n->F p<k:=fun p hp2=>by
  obtain ⟨q,_,q2,e⟩:=hm.im.2 p (Nat.zero_le _) hp2;rw [e]
  exact (zdb.1 (zcv (by omega))).1
 have hst:=hm.whole (by rw [hn];exact zqm key k) (Nat.le_refl _) (Nat.le_refl _)
 refine ⟨hgn,hm.sd.congr fun p _ h2=>if_pos h2,fun p q p1 p2 p3 e=>?_,fun p hp2=>?_,fun p _ h2=>?_⟩
 ·have hpn:p<n:=by omega
  simp only [if_pos hpn] at e |-
  by_cases hq:q<n
  ·simp only [if_pos hq] at e |-
   exact hst p q p1 p2 hq e
  ·simp only [if_neg hq] at e |-
   rw [show q=n by omega,hgn]
   exact hF p hpn
 ·exact if_neg (by omega)
 ·by_cases hpn:p<n
  ·obtain ⟨q,_,q2,e⟩:=hm.im.2 p (Nat.zero_le _) hpn
   exact ⟨q,Nat.zero_le _,by omega,by simp only [if_pos hpn];rw [e,hp,zlr _ _ (by omega),if_pos (by omega)]⟩
  ·exact ⟨n,Nat.zero_le _,by omega,by simp only [if_neg hpn];rw [show p=n by omega]⟩
end
section
variable {w:World} {N B:Nat} {v:Value} {L:Nat->Ent}
set_option maxRecDepth 20000 in
set_option maxHeartbeats 12800000 in
theorem zfu (hn:N<=1000000) (h:zbj w B N v L) (hB:B<=w.heap.size) :
  Calls Tryz.prog 15 #[v] w (ze6 N (fun i=>(L i).mar) w):=by
 obtain ⟨A,cap,rfl,h1,h2,h3⟩:=h
 obtain ⟨key,hkey⟩:∃ key,key=fun i=>(L i).mar:=⟨_,rfl⟩
 rw [<- hkey]
 have HC:Hid (0<N->∃ b off,A=some ⟨b,off,none⟩/\b<w.heap.size/\∀ i,i<N->w.cell? ⟨b,off+i*19+2,none⟩=some (.int .i64 (key i))):=fun hk=>by
  obtain ⟨b,off,e,hb,hc⟩:=h3 hk
  exact ⟨b,off,e,by omega,fun i hi=>by rw [hkey];exact (hc i hi).2.2.1⟩
 have HN:=Lib.hid (And.intro hn h1);have HMX:=Lib.hid h2
 have HLE:=Lib.hid fun k=>znz key k
 unfold maxLen at h2;clear h3 hkey h1 hB hn
 go_enter Tryz.func15,Tryz.ntmps15
 go_wp2
 go_loopw [3,4] (fun pv iv wr=>∃ (k n:Nat) (F:Nat->Nat) (pw:Value) (wx:World),pw=pv/\wx=wr/\k<=N/\n<=k/\iv=.int .i64 k/\Hid (n=(pls key k).length/\MgK key (getN (pls key k)) F 0 n/\wr.ownsRow w.heap.size 3 1 pv n (rowV F n)/\Below w.heap.size w wr)) (fun _ iv _=>N - (intOf iv).toNat)
 case atStart=>exact ⟨0,0,getN (pls key 0),_,_,rfl,rfl,Nat.zero_le _,Nat.le_refl _,rfl,rfl,⟨ImK.refl _ _ _,fun p q _ _ h=>by omega,fun p q _ _ h=>by omega⟩,⟨rfl,.inl ⟨rfl,rfl⟩⟩,Below.refl _ _⟩
 case round =>
  obtain ⟨k,n,F,pv,wr,rfl,rfl,hk,hnk,rfl,HO⟩:=hrel
  by_cases hlt:k<N
  ·have d1:decide (k<N)=true:=decide_eq_true hlt
   obtain ⟨b,off,rfl,hb,hc⟩:=HC.out (by omega)
   have HMS:Hid (∀ w',Below w.heap.size w w'->∀ i,i<N->w'.cell? ⟨b,off+i*19+2,none⟩=some (.int .i64 (key i))):=fun w' hb9 i hi=>(hb9.cell (p:=⟨b,off+i*19+2,none⟩) hb).trans (hc i hi)
   have c0:=HMS.out wr HO.out.2.2.2 k hlt
   have g0:(0:Int)<=(k:Int):=Int.natCast_nonneg _
   have g1:(k:Int)<(N:Int):=by omega
   have hKN:k<=1000000:=by have:=HN.out.1;omega
   have HKN:=Lib.hid hKN;clear hc hb
   by_cases hm:0<key k
   ·have d2:decide (key k<=0)=false:=decide_eq_false (by omega)
    have HPT:=Lib.hid (put_last HO.out.1 HO.out.2.1 hm)
    have HNS:Hid (n+1=(pls key (k+1)).length):=Lib.hid (by rw [zjh hm,HO.out.1])
    clear hm
    go_wp2_with (first
     |(at_builtin;refine zdp _ rfl zqn (.tmp 18) (.tmp 20) rfl w.heap.size pv n _ rfl (HO.out.2.2.1.alloc _) (wr.heap.size+1) _ 1 [.int .i64 (k:Int)] rfl (Sl.lit wr #[.int .i64 (k:Int)] _ 1 rfl (by decide)) (by simp [Value.oneCell']) (by omega) (by have:=HO.out.2.2.2.size;simp;omega) ?_;intro v2 w2 hown2 hgr2 hat2 hbel2;(have HO2:=Lib.hid hown2);(have HB2:Hid (Below w.heap.size w w2):=(HO.out.2.2.2.alloc HO.out.2.2.2.size _).trans hbel2);clear hown2 hgr2 hat2 hbel2;(have hfm:=(Sl.of_own HO2.out).form);(obtain ⟨Ap,cp,rfl,hcp,hcm⟩:=hfm);(have HCP:=Lib.hid (And.intro hcp hcm));clear hcp hcm))
    obtain ⟨G,hG⟩:∃ G,G=fun p=>if p<n then F p else getN (pls key (k+1)) p:=⟨_,rfl⟩
    have HOG:Hid (w2.ownsRow w.heap.size 3 1 (.slice Ap (n+1) cp) (n+1) (rowV G (n+1))):=Lib.hid (by rw [hG,<- zol F (getN (pls key (k+1))) n,HPT.out.1];exact HO2.out)
    have HPG:Hid (InK key G 0 n n/\StK key G 0 (n+1)/\ImK (getN (pls key (k+1))) G 0 (n+1)):=by
     rw [hG]
     exact ⟨InK.start HPT.out.2.1 (Nat.zero_le _),HPT.out.2.2.1,HPT.out.2.2.2⟩
    obtain ⟨pb,cap',G',hsv,hnc,hbp,_,_⟩:=zeq HOG.out (by omega)
    injection hsv with hA _ hcp
    subst hA hcp;have HPO:Hid (zdi w2 w.heap.size pb (n+1) cp G):=HOG.out;clear HO2 hG HPT HOG hnc hbp HO c0
    have hn1:n<=1000000:=by omega
    go_loopw [5] (fun jv wq=>∃ (j:Nat) (H:Nat->Nat) (wx:World),wx=wq/\j<=n/\jv=.int .i64 j/\Hid (InK key H 0 n j/\StK key H 0 (n+1)/\ImK (getN (pls key (k+1))) H 0 (n+1)/\zdi wq w.heap.size pb (n+1) cp H/\Below w.heap.size w wq)) (fun jv _=>(intOf jv).toNat)
    case atStart=>exact ⟨n,G,_,rfl,Nat.le_refl _,by first|rfl|(congr 1;simp)|(congr 1;omega),HPG.out.1,HPG.out.2.1,HPG.out.2.2,HPO.out,HB2.out⟩
    case round =>
     clear HPG HPO HB2;obtain ⟨j,H,wq,rfl,hj,rfl,HI⟩:=hrel
     rcases Nat.eq_zero_or_pos j with hz|hz
     ·subst hz
      have HEN:Hid (SdK key H 0 (n+1)):=InK.end HI.out.1 (Nat.le_refl _) (Nat.zero_le _) (.inl rfl)
      go_wp2_with fail
      refine wp_region_held_drew (S:=fun w'=>True) (by kernel_rfl) ?_ (fun hHeld=>?_)
      ·trivial
      obtain ⟨v0,hv0⟩:∃ w',w'=wq.drew:=⟨_,rfl⟩
      have hvb:Below wq.heap.size wq v0:=by rw [hv0];exact (Below.refl _ _).drew
      have HV0:=Lib.hid hvb;rw [<- hv0];clear hv0 hvb;refine tk 0 ?_;refine tk 1 ?_;refine tk 2 ?_;refine skR 3 rfl ?_;refine skR 4 rfl ?_;refine skR 5 rfl ?_;refine skR 6 rfl ?_;refine skR 7 rfl ?_;refine skR 8 rfl ?_;refine skR 9 rfl ?_;refine skR 10 rfl ?_;refine skR 11 rfl ?_;refine skR 12 rfl ?_;refine skR 13 rfl ?_;refine skR 14 rfl ?_;refine skR 15 rfl ?_;refine skR 16 rfl ?_;refine skR 17 rfl ?_;refine skR 18 rfl ?_;refine skR 19 rfl ?_;refine skR 20 rfl ?_;refine tk 21 ?_
      refine dnR ?_
      have HRO:=Lib.hid (HI.out.2.2.2.1.call HV0.out);have HBU:Hid (Below w.heap.size w v0):=HI.out.2.2.2.2.trans (HV0.out.mono HI.out.2.2.2.2.size)
      go_wp2
      go_roundw
      case rel=>exact ⟨k+1,n+1,H,_,_,rfl,rfl,by omega,by omega,by go_num,HNS.out,⟨HI.out.2.2.1,HEN.out,HI.out.2.1⟩,HRO.out,HBU.out⟩
      case measure=>simp [intOf];omega
     ·obtain ⟨t,ht⟩:∃ t,j=t+1:=⟨j - 1,by omega⟩
      have HT:Hid (j=t+1):=ht
      have d3:decide (0<j)=true:=decide_eq_true (by omega)
      have s1:IntKind.i64.wrap ((j:Int) - 1)=(t:Int):=by rw [IntKind.wrap_i64];omega
      have hjn:j<n+1:=by omega
      have htn:t<n+1:=by omega
      have htj:j≠t:=by omega
      have j0:(0:Int)<=(j:Int):=Int.natCast_nonneg _
      have j1:(j:Int)<(n:Int)+1:=by omega
      have t0:(0:Int)<=(t:Int):=Int.natCast_nonneg _
      have t1:(t:Int)<(n:Int)+1:=by omega
      have HMJ:Hid (H j<N/\H t<N):=by
       obtain ⟨q,_,q2,e⟩:=HI.out.2.2.1.2 j (Nat.zero_le _) hjn;obtain ⟨q',_,q2',e'⟩:=HI.out.2.2.1.2 t (Nat.zero_le _) htn
       have h5:=(zdb.1 (zcv (l:=pls key (k+1)) (i:=q) (by have:=HNS.out;omega))).1
       have h6:=(zdb.1 (zcv (l:=pls key (k+1)) (i:=q') (by have:=HNS.out;omega))).1
       rw [e,e']
       exact ⟨by omega,by omega⟩
      have q0:(0:Int)<=((H j:Nat):Int):=Int.natCast_nonneg _
      have q1:((H j:Nat):Int)<(N:Int):=by have:=HMJ.out;omega
      have r0:(0:Int)<=((H t:Nat):Int):=Int.natCast_nonneg _
      have r1:((H t:Nat):Int)<(N:Int):=by have:=HMJ.out;omega
      have HSP:Hid (∀ w',Below wq.heap.size wq w'->w'.cell? ⟨pb,t,none⟩=some (.int .i64 (H t:Nat))/\w'.cell? ⟨pb,j,none⟩=some (.int .i64 (H j:Nat))/\w'.cell? ⟨b,off+H t*19+2,none⟩=some (.int .i64 (key (H t)))/\w'.cell? ⟨b,off+H j*19+2,none⟩=some (.int .i64 (key (H j)))):=fun w' hb9=>by
       have ho:=HI.out.2.2.2.1.call hb9;have hbw:=HI.out.2.2.2.2.trans (hb9.mono HI.out.2.2.2.2.size)
       exact ⟨ho.cell htn,ho.cell hjn,HMS.out w' hbw _ HMJ.out.2,HMS.out w' hbw _ HMJ.out.1⟩
      by_cases hk2:key (H j)<key (H t)
      ·have d4:decide (key (H t) > key (H j))=true:=decide_eq_true hk2
       have HIN:Hid (InK key (swK H j t) 0 n t/\StK key (swK H j t) 0 (n+1)/\ImK (getN (pls key (k+1))) (swK H j t) 0 (n+1)):=by
        have e:t=j - 1:=by omega
        rw [e] at hk2 |-
        exact ⟨HI.out.1.swap hz hj hk2,HI.out.2.1.swap hz hjn hk2,HI.out.2.2.1.trans (swK_im (Nat.zero_le _) hjn (Nat.zero_le _) (by omega))⟩
       clear hk2 ht hz
       go_wp2_with fail
       refine wp_region_held_drew (S:=fun w'=>w'.cell? ⟨pb,t,none⟩=some (.int .i64 (H t:Nat))/\w'.cell? ⟨pb,j,none⟩=some (.int .i64 (H j:Nat))/\w'.cell? ⟨b,off+H t*19+2,none⟩=some (.int .i64 (key (H t)))/\w'.cell? ⟨b,off+H j*19+2,none⟩=some (.int .i64 (key (H j)))) (by kernel_rfl) ?_ (fun hHeld=>?_)
       ·exact HSP.out _ (Below.refl _ _).drew
       obtain ⟨v0,hv0⟩:∃ w',w'=wq.drew:=⟨_,rfl⟩
       have hvb:Below wq.heap.size wq v0:=by rw [hv0];exact (Below.refl _ _).drew
       have HV0:=Lib.hid hvb;rw [<- hv0] at hHeld |-;clear hv0 hvb;refine tk 0 ?_;refine tk 1 ?_;refine tk 2 ?_;refine tk 3 ?_;refine tk 4 ?_;refine tk 5 ?_;refine tk 6 ?_;refine tk 7 ?_;refine tk 8 ?_;refine tk 9 ?_;refine tk 10 ?_;refine tk 11 ?_;refine tk 12 ?_;refine tk 13 ?_;refine tk 14 ?_;refine tk 15 ?_;refine tk 16 ?_;refine tk 17 ?_;refine tk 18 ?_;refine tk 19 ?_;refine tk 20 ?_;refine tk 21 ?_
       refine dnR ?_
       clear HSP d4 q0 q1 r0 r1
       go_wp2_with fail
       refine wp_region_held_drew (S:=fun w'=>True) (by kernel_rfl) ?_ (fun hHeld=>?_)
       ·trivial
       obtain ⟨v1,hv1⟩:∃ w',w'=v0.drew:=⟨_,rfl⟩
       have hvb:Below wq.heap.size wq v1:=by rw [hv1];exact HV0.out.drew
       have HR1:=Lib.hid (HI.out.2.2.2.1.call hvb);have HB1:Hid (Below w.heap.size w v1):=HI.out.2.2.2.2.trans (hvb.mono HI.out.2.2.2.2.size);have cX:=HR1.out.cell htn;have cY:=HR1.out.cell hjn
       have fX:=HR1.out.frozen (by omega) t
       (try rw [<- hv1])
       clear hHeld;have hHeld:True:=trivial;clear hv1 hvb;refine tk 0 ?_;refine tk 1 ?_;refine tk 2 ?_;refine tk 3 ?_;refine tk 4 ?_;refine tk 5 ?_;refine tk 6 ?_;refine tk 7 ?_;refine tk 9 ?_;refine tk 10 ?_;refine tk 11 ?_;refine tk 12 ?_
       refine wpAnyH_ready (rs:=[8,13]) (by kernel_rfl) (by simp) ?_
       refine (acR rfl (fun K hK=>?_) (acR rfl (fun K hK=>?_) AllReadyH.nil))
       ·go_simp
        refine hK.out _ _ ?_ (fun hHeld=>?_)
        ·(try dsimp only)
         (try trivial)
        clear hK K
        (try simp only [Act.put,sqA,sqB,sqC])
        refine wpAnyH_ready (rs:=[13]) (by kernel_rfl) (by simp) ?_
        refine ac1 rfl fun K hK=>?_
        go_simp
        refine hK.out _ _ ?_ (fun hHeld=>?_)
        ·(try dsimp only)
         (try trivial)
        clear hK K;refine tk 14 ?_
        refine wpAnyH_ready (rs:=[15]) (by kernel_rfl) (by simp) ?_
        refine ac1 rfl fun K hK=>?_
        go_simp
        refine hK.out _ _ ?_ (fun hHeld=>?_)
        ·(try dsimp only)
         (try trivial)
        clear hK K
        (try simp only [Act.put,sqA,sqB,sqC])
        obtain ⟨v2,hv2⟩:∃ x,x=v1.setCell ⟨pb,t,none⟩ (.int .i64 (H j:Nat)):=⟨_,rfl⟩;have cJ:=(HR1.out.set_cell hjn htj (.int .i64 (H j:Nat))).1
        have fJ:=(HR1.out.set_cell hjn htj (.int .i64 (H j:Nat))).2 (by omega)
        rw [<- hv2] at cJ fJ;have HV2:=Lib.hid hv2;rw [<- hv2];clear hv2;refine tk 16 ?_
        refine wpAnyH_ready (rs:=[17]) (by kernel_rfl) (by simp) ?_
        refine ac1 rfl fun K hK=>?_
        go_simp
        refine hK.out _ _ ?_ (fun hHeld=>?_)
        ·(try dsimp only)
         (try trivial)
        clear hK K
        (try simp only [Act.put,sqA,sqB,sqC])
        obtain ⟨v3,hv3⟩:∃ x,x=v2.setCell ⟨pb,j,none⟩ (.int .i64 (H t:Nat)):=⟨_,rfl⟩
        have HS3:Hid (zdi v3 w.heap.size pb (n+1) cp (swK H j t)/\Below w.heap.size w v3):=by
         rw [hv3,HV2.out]
         exact ⟨by rw [zl4 H htj];exact HR1.out.swap htn hjn (Ne.symm htj),(HB1.out.setCell HR1.out.lt.1 _).setCell HR1.out.lt.1 _⟩
        rw [<- hv3];clear hv3
        refine dnR ?_
        go_wp2
        go_roundw
        case rel=>exact ⟨t,_,_,rfl,by have:=HT.out;omega,by first|rfl|(have:=HT.out;congr 1;omega),Lib.hid ⟨HIN.out.1,HIN.out.2.1,HIN.out.2.2,HS3.out.1,HS3.out.2⟩⟩
        case measure=>have:=HT.out;simp [intOf];omega
       ·go_simp
        refine hK.out _ _ ?_ (fun hHeld=>?_)
        ·(try dsimp only)
         (try trivial)
        clear hK K
        (try simp only [Act.put,sqA,sqB,sqC])
        refine wpAnyH_ready (rs:=[8]) (by kernel_rfl) (by simp) ?_
        refine ac1 rfl fun K hK=>?_
        go_simp
        refine hK.out _ _ ?_ (fun hHeld=>?_)
        ·(try dsimp only)
         (try trivial)
        clear hK K;refine tk 14 ?_
        refine wpAnyH_ready (rs:=[15]) (by kernel_rfl) (by simp) ?_
        refine ac1 rfl fun K hK=>?_
        go_simp
        refine hK.out _ _ ?_ (fun hHeld=>?_)
        ·(try dsimp only)
         (try trivial)
        clear hK K
        (try simp only [Act.put,sqA,sqB,sqC])
        obtain ⟨v2,hv2⟩:∃ x,x=v1.setCell ⟨pb,t,none⟩ (.int .i64 (H j:Nat)):=⟨_,rfl⟩;have cJ:=(HR1.out.set_cell hjn htj (.int .i64 (H j:Nat))).1
        have fJ:=(HR1.out.set_cell hjn htj (.int .i64 (H j:Nat))).2 (by omega)
        rw [<- hv2] at cJ fJ;have HV2:=Lib.hid hv2;rw [<- hv2];clear hv2;refine tk 16 ?_
        refine wpAnyH_ready (rs:=[17]) (by kernel_rfl) (by simp) ?_
        refine ac1 rfl fun K hK=>?_
        go_simp
        refine hK.out _ _ ?_ (fun hHeld=>?_)
        ·(try dsimp only)
         (try trivial)
        clear hK K
        (try simp only [Act.put,sqA,sqB,sqC])
        obtain ⟨v3,hv3⟩:∃ x,x=v2.setCell ⟨pb,j,none⟩ (.int .i64 (H t:Nat)):=⟨_,rfl⟩
        have HS3:Hid (zdi v3 w.heap.size pb (n+1) cp (swK H j t)/\Below w.heap.size w v3):=by
         rw [hv3,HV2.out]
         exact ⟨by rw [zl4 H htj];exact HR1.out.swap htn hjn (Ne.symm htj),(HB1.out.setCell HR1.out.lt.1 _).setCell HR1.out.lt.1 _⟩
        rw [<- hv3];clear hv3
        refine dnR ?_
        go_wp2
        go_roundw
        case rel=>exact ⟨t,_,_,rfl,by have:=HT.out;omega,by first|rfl|(have:=HT.out;congr 1;omega),Lib.hid ⟨HIN.out.1,HIN.out.2.1,HIN.out.2.2,HS3.out.1,HS3.out.2⟩⟩
        case measure=>have:=HT.out;simp [intOf];omega
      ·have d4:decide (key (H t) > key (H j))=false:=decide_eq_false (by omega)
       have HEN:Hid (SdK key H 0 (n+1)):=InK.end HI.out.1 (Nat.zero_le _) hj (.inr (by rw [show j - 1=t by omega];omega))
       clear hk2 ht hz
       go_wp2_with fail
       refine wp_region_held_drew (S:=fun w'=>w'.cell? ⟨pb,t,none⟩=some (.int .i64 (H t:Nat))/\w'.cell? ⟨pb,j,none⟩=some (.int .i64 (H j:Nat))/\w'.cell? ⟨b,off+H t*19+2,none⟩=some (.int .i64 (key (H t)))/\w'.cell? ⟨b,off+H j*19+2,none⟩=some (.int .i64 (key (H j)))) (by kernel_rfl) ?_ (fun hHeld=>?_)
       ·exact HSP.out _ (Below.refl _ _).drew
       obtain ⟨v0,hv0⟩:∃ w',w'=wq.drew:=⟨_,rfl⟩
       have hvb:Below wq.heap.size wq v0:=by rw [hv0];exact (Below.refl _ _).drew
       have HV0:=Lib.hid hvb;rw [<- hv0] at hHeld |-;clear hv0 hvb;refine tk 0 ?_;refine tk 1 ?_;refine tk 2 ?_;refine tk 3 ?_;refine tk 4 ?_;refine tk 5 ?_;refine tk 6 ?_;refine tk 7 ?_;refine tk 8 ?_;refine tk 9 ?_;refine tk 10 ?_;refine tk 11 ?_;refine tk 12 ?_;refine tk 13 ?_;refine tk 14 ?_;refine tk 15 ?_;refine tk 16 ?_;refine tk 17 ?_;refine tk 18 ?_;refine tk 19 ?_;refine tk 20 ?_;refine tk 21 ?_
       refine dnR ?_
       have HRO:=Lib.hid (HI.out.2.2.2.1.call HV0.out);have HBU:Hid (Below w.heap.size w v0):=HI.out.2.2.2.2.trans (HV0.out.mono HI.out.2.2.2.2.size)
       go_wp2
       go_roundw
       case rel=>exact ⟨k+1,n+1,H,_,_,rfl,rfl,by omega,by omega,by go_num,HNS.out,⟨HI.out.2.2.1,HEN.out,HI.out.2.1⟩,HRO.out,HBU.out⟩
       case measure=>simp [intOf];omega
   ·have d2:decide (key k<=0)=true:=decide_eq_true (by omega)
    have HNS:Hid (n=(pls key (k+1)).length/\MgK key (getN (pls key (k+1))) F 0 n):=by
     have hp:pls key (k+1)=pls key k:=by rw [zfr,if_neg hm,List.append_nil]
     rw [hp]
     exact ⟨HO.out.1,HO.out.2.1⟩
    clear hm
    go_wp2
    go_roundw
    case rel=>exact ⟨k+1,n,F,_,_,rfl,rfl,by omega,by omega,by go_num,HNS.out.1,HNS.out.2,HO.out.2.2.1,HO.out.2.2.2⟩
    case measure=>simp [intOf];omega
  ·have hkN:k=N:=by omega
   subst hkN
   have d1:decide (k<k)=false:=decide_eq_false hlt
   go_wp2
   have hfm:=(Sl.of_own HO.out.2.2.1).form;obtain ⟨Ap,cp,rfl,hcp,hcm⟩:=hfm
   go_ret
   have hl:((List.range n).map F).length=n:=by simp
   refine ⟨Ap,cp,(List.range n).map F,by rw [hl];rfl,?_,?_,HO.out.2.2.2,fun b off e hlt2=>?_⟩
   ·have h9:=HO.out.2.1
    rw [HO.out.1] at h9 |-
    exact OrdL.of_sorted h9
   ·rw [hl]
    have:natV ((List.range n).map F)=rowV F n:=by unfold natV rowV;rw [List.map_map];rfl
    rw [this]
    exact Sl.of_own HO.out.2.2.1
   ·subst e
    have:=(HO.out.2.2.1.lt b (by
     rcases HO.out.2.2.1.2 with hn|⟨g,c,cur,hv,_⟩
     ·cases hn.1
     ·injection hv with e1
      injection e1 with e1
      injection e1 with e1 e2
      subst e1;subst e2
      rfl)).1
    exact this
end
end Go.Proofs.YtfekhdgjgjodlaaGreat
