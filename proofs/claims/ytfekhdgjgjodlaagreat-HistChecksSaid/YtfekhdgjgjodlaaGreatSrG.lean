/-
  Words and contracts that a statement's proof rests on (SrE, SrG, MoJ). No statement is proved here.
-/
import Derived.Deep.DeepCutAuto
import Derived.Test.YtfekhdgjgjodlaaGreatMoM
import Derived.Test.YtfekhdgjgjodlaaGreatSrD
set_option linter.unusedVariables false
set_option linter.unusedSimpArgs false
namespace Go.Proofs.YtfekhdgjgjodlaaGreat
section
open Go.RowKit
section
variable {pb n cp lb N:Nat} {key:Nat->Int}
theorem zli (hn:n<=1000000) {d:Nat} {w wr:World} {f:Nat->Nat} {a m b s e mid:Nat}
  (IH:∀ (w:World) (f:Nat->Nat) (a m b:Nat),SrAt w pb n lb N key f->b - a<=d->a<m->m<b->b<=n->SdK key f a m->SdK key f m b->StK key f a b ->
   Calls Tryz.prog 97 #[.slice (some ⟨pb,0,none⟩) n cp,.int .i64 (a:Nat),.int .i64 (m:Nat),.int .i64 (b:Nat),(.func (.func 35) #[] #[.pointer (some ⟨lb,0,none⟩)])] w (MgAt w pb n lb N key f a b))
  (hd:b - a<=d+1) (ham:a<m) (hmb:m<b) (hb:b<=n) (h:SrAt wr pb n lb N key f) (hbut:But pb w wr) (hl:SdK key f a m) (hr:SdK key f m b) (ht:StK key f a b)
  (hc:CutK key f a m b s e) (hmid:a<mid/\mid<b) (hem:s+(e - m)=mid) :
  ∃ P1 P2 P3:World->Prop,
   (s<m->m<e->Calls Tryz.prog 118 #[.slice (some ⟨pb,0,none⟩) n cp,.int .i64 (s:Nat),.int .i64 (m:Nat),.int .i64 (e:Nat),(.func (.func 35) #[] #[.pointer (some ⟨lb,0,none⟩)])] wr fun z w1=>z=.returned (.tuple #[])/\P1 w1) /\
   (¬ (s<m/\m<e)->P1 wr) /\
   (∀ w1,P1 w1->a<s->s<mid->Calls Tryz.prog 97 #[.slice (some ⟨pb,0,none⟩) n cp,.int .i64 (a:Nat),.int .i64 (s:Nat),.int .i64 (mid:Nat),(.func (.func 35) #[] #[.pointer (some ⟨lb,0,none⟩)])] w1 fun z w2=>z=.returned (.tuple #[])/\P2 w2) /\
   (∀ w1,P1 w1->¬ (a<s/\s<mid)->P2 w1) /\
   (∀ w2,P2 w2->mid<e->e<b->Calls Tryz.prog 97 #[.slice (some ⟨pb,0,none⟩) n cp,.int .i64 (mid:Nat),.int .i64 (e:Nat),.int .i64 (b:Nat),(.func (.func 35) #[] #[.pointer (some ⟨lb,0,none⟩)])] w2 fun z w3=>z=.returned (.tuple #[])/\P3 w3) /\
   (∀ w2,P2 w2->¬ (mid<e/\e<b)->P3 w2) /\
   (∀ w3,P3 w3->MgAt w pb n lb N key f a b (.returned (.tuple #[])) w3):=by
 obtain ⟨g,hg⟩:∃ g,g=roK f s m e:=⟨_,rfl⟩;obtain ⟨p1,p2,p3,p4,p5⟩:=sym_pre hc hl hr ht hg hem;have x1:=hc.s1;have x2:=hc.sm;have x3:=hc.me;have x4:=hc.eb
 refine ⟨fun w1=>SrAt w1 pb n lb N key g/\But pb w w1,fun w2=>∃ g1,MgK key g g1 a mid/\SrAt w2 pb n lb N key g1/\But pb w w2,fun w3=>∃ g2,MgK key f g2 a b/\SrAt w3 pb n lb N key g2/\But pb w w3,?_,?_,?_,?_,?_,?_,?_⟩
 ·intro c1 c2
  refine Calls.mono (zmz h hn m c1 c2 (by omega)) ?_
  rintro z w1 ⟨rfl,k1,k2⟩
  exact ⟨rfl,hg ▸ k1,hbut.trans k2⟩
 ·intro c
  have e1:g=f:=hg.trans (zpr (by omega) x2 x3)
  exact ⟨e1 ▸ h,hbut⟩
 ·rintro w1 ⟨k1,k2⟩ c1 c2
  refine Calls.mono (IH w1 g a s mid k1 (by omega) c1 c2 (by omega) p1 p2 (p5.mono (Nat.le_refl _) (by omega))) ?_
  rintro z w2 ⟨rfl,g1,j1,j2,j3⟩
  exact ⟨rfl,g1,j1,j2,k2.trans j3⟩
 ·rintro w1 ⟨k1,k2⟩ c
  refine ⟨g,MgK.same ?_ (p5.mono (Nat.le_refl _) (by omega)),k1,k2⟩
  by_cases c1:a<s
  ·rw [show mid=s by omega]
   exact p1
  ·rw [show a=s by omega]
   exact p2
 ·rintro w2 ⟨g1,j1,k1,k2⟩ c1 c2
  have y1:SdK key g1 mid e:=j1.beside p3 (.inr (Nat.le_refl _))
  have y2:SdK key g1 e b:=j1.beside p4 (.inr (by omega))
  have y3:StK key g1 a b:=j1.whole p5 (Nat.le_refl _) (by omega)
  refine Calls.mono (IH w2 g1 mid e b k1 (by omega) c1 c2 hb y1 y2 (y3.mono (by omega) (Nat.le_refl _))) ?_
  rintro z w3 ⟨rfl,g2,i1,i2,i3⟩
  exact ⟨rfl,g2,zqy hc hl hr ht hg hem j1 i1,i2,k2.trans i3⟩
 ·rintro w2 ⟨g1,j1,k1,k2⟩ c
  have y1:SdK key g1 mid e:=j1.beside p3 (.inr (Nat.le_refl _))
  have y2:SdK key g1 e b:=j1.beside p4 (.inr (by omega))
  have y3:StK key g1 a b:=j1.whole p5 (Nat.le_refl _) (by omega)
  refine ⟨g1,zqy hc hl hr ht hg hem j1 (MgK.same ?_ (y3.mono (by omega) (Nat.le_refl _))),k1,k2⟩
  by_cases c1:mid<e
  ·rw [show b=e by omega]
   exact y1
  ·rw [show mid=e by omega]
   exact y2
 ·rintro w3 ⟨g2,j1,j2,j3⟩
  exact ⟨rfl,g2,j1,j2,j3⟩
end
end
section
open Go.RowKit
section
variable {pb n cp lb N:Nat} {key:Nat->Int}
set_option maxRecDepth 20000 in
set_option maxHeartbeats 25600000 in
theorem sym_lo (hn:n<=1000000) {d:Nat} {w:World} {f:Nat->Nat} {a m b:Nat} (IH:(∀ (w:World) (f:Nat->Nat) (a m b:Nat),SrAt w pb n lb N key f->b - a<=d->a<m->m<b->b<=n->SdK key f a m->SdK key f m b->StK key f a b ->
   Calls Tryz.prog 97 #[.slice (some ⟨pb,0,none⟩) n cp,.int .i64 (a:Nat),.int .i64 (m:Nat),.int .i64 (b:Nat),(.func (.func 35) #[] #[.pointer (some ⟨lb,0,none⟩)])] w (MgAt w pb n lb N key f a b)))
  (h:SrAt w pb n lb N key f) (hd:b - a<=d+1) (ham:a<m) (hmb:m<b) (hb:b<=n) (hl:SdK key f a m) (hr:SdK key f m b) (ht:StK key f a b) (hm1:¬ m=a+1) (hb1:¬ b=m+1) (hc:¬ (a+b) / 2<m) :
  Calls Tryz.prog 97 #[.slice (some ⟨pb,0,none⟩) n cp,.int .i64 (a:Nat),.int .i64 (m:Nat),.int .i64 (b:Nat),(.func (.func 35) #[] #[.pointer (some ⟨lb,0,none⟩)])] w (MgAt w pb n lb N key f a b):=by
 have HIH:=Lib.hid IH;have HS:=Lib.hid h;have HLR:=Lib.hid (And.intro hl (And.intro hr ht))
 have s0':¬ (m:Int) - (a:Int)=1:=by omega
 have s1':¬ (b:Int) - (m:Int)=1:=by omega
 have s0:(((m:Int) - (a:Int)) == 1)=false:=by simp;omega
 have s1:(((b:Int) - (m:Int)) == 1)=false:=by simp;omega
 obtain ⟨mid,hmid⟩:∃ x,x=(a+b) / 2:=⟨_,rfl⟩;obtain ⟨nn,hnn⟩:∃ x,x=mid+m:=⟨_,rfl⟩
 obtain ⟨q,hq⟩:∃ x,nn=x+1:=⟨nn - 1,by omega⟩
 have HE0:=Lib.hid (show ((a:Int)+(b:Int)) / 2=(mid:Int) by omega)
 have HEN:=Lib.hid (show ((mid:Int)+(m:Int))=(nn:Int) by omega)
 have HEQ:=Lib.hid (show ((nn:Int) - 1)=(q:Int) by omega)
 have HMID:=Lib.hid (And.intro hmid (And.intro hnn hq))
 have hmb1:mid<b:=by omega
 have hma1:a<=mid:=by omega
 rw [<- hmid] at hc;clear h hl hr ht hmid hnn hq hm1 hb1 IH
 go_enter Tryz.func97,Tryz.ntmps97
 go_upto_region 25 with fail
 simp only [HE0.out]
 go_upto_region 26 with fail
 simp only [HEN.out]
 clear s0 s1 s0' s1'
 have hn2:nn<2000000:=by have:=HMID.out;omega
 have hn3:1<=nn:=by have:=HMID.out;omega
 have H0:Hid (m<=mid):=Nat.le_of_not_lt hc
 have h00:a<=m/\m<=m:=by omega
 have d1:decide (mid<m)=false:=decide_eq_false hc
 clear hc
 go_upto_region 32 with fail
 have hq2:q<2000000:=by have:=HMID.out;omega
 go_wp2
 simp only [HEQ.out]
 go_loopw [20,21] (fun sv rv wr=>∃ (s r:Nat) (wx:World),wx=wr/\sv=.int .i64 s/\rv=.int .i64 r/\a<=s/\s<=r/\r<=m/\Hid (SeK key f a m q s r/\SrAt wr pb n lb N key f/\But pb w wr)) (fun sv rv _=>(intOf rv).toNat - (intOf sv).toNat)
 case atStart=>exact ⟨a,m,_,rfl,rfl,rfl,by omega,by omega,by omega,⟨Nat.le_refl _,h00.1,Nat.le_refl _,.inl rfl,.inl rfl⟩,HS.out,But.of (Below.refl _ _) (Nat.le_of_lt HS.out.lt)⟩
 case round =>
  obtain ⟨s,r,wr,rfl,rfl,rfl,hss,hsr,hrr,HI⟩:=hrel
  by_cases hlt:s<r
  ·have d1:decide (s<r)=true:=decide_eq_true hlt
   obtain ⟨c,hc0⟩:∃ c,c=(s+r) / 2:=⟨_,rfl⟩
   have hc1:s<=c:=by omega
   have hc2:c<r:=by omega
   have HEC:=Lib.hid (show ((s:Int)+(r:Int)) / 2=(c:Int) by omega)
   obtain ⟨x,hx⟩:∃ x,x=q - c:=⟨_,rfl⟩
   have hxx:c<=q/\x<n/\c<n:=by have:=H0.out;have:=HMID.out;omega
   have s2:IntKind.i64.wrap (x:Int)=(x:Int):=by rw [IntKind.wrap_i64];omega
   have s3:(q:Int) - (c:Int)=(x:Int):=by omega
   have hxn:x<n:=hxx.2.1;have hcn:c<n:=hxx.2.2;have HX:=Lib.hid hx;clear hc0 hx hxx
   go_upto_region 35 with fail
   simp only [HEC.out]
   by_cases hk:key (f x)<key (f c)
   ·have hc:=ziq hk
    have HSE:Hid (SeK key f a m q s c):=HI.out.1.down hc1 hc2 (by rw [<- HX.out];exact hk)
    clear hk
    have c1:=HI.out.2.1.row.cell (i:=x) (by omega)
    have c2:=HI.out.2.1.row.cell (i:=c) (by omega)
    refine wp_region_held_drew (S:=fun w'=>w'.cell? ⟨pb,x,none⟩=some (.int .i64 (f x:Nat))/\w'.cell? ⟨pb,c,none⟩=some (.int .i64 (f c:Nat))) (by kernel_rfl) ?_ (fun hHeld=>?_)
    ·exact ⟨c1,c2⟩
    obtain ⟨v0,hv0⟩:∃ w',w'=wr.drew:=⟨_,rfl⟩
    have hvb:Below wr.heap.size wr v0:=by rw [hv0];exact (Below.refl _ _).drew
    have HR0:=Lib.hid (HI.out.2.1.call hvb)
    have HCC:=Lib.hid (za6 HR0.out.mks (f x) (f c) (HR0.out.mem _ (by omega)) (HR0.out.mem _ (by omega)))
    rw [<- hv0] at hHeld |-;clear hv0 c1 c2;refine tk 0 ?_;refine tk 1 ?_;refine tk 2 ?_;refine tk 3 ?_;refine tk 4 ?_;refine tk 5 ?_;refine tk 6 ?_;refine tk 7 ?_;refine tk 8 ?_;refine tk 9 ?_;refine tk 10 ?_
    refine clR 11 rfl fun K hK=>?_
    go_simp
    refine Calls.mono HCC.out ?_
    rintro e w1 ⟨rfl,hb1⟩;have hb01:Below wr.heap.size wr w1:=hvb.trans (hb1.mono hvb.size);have HSR:=Lib.hid (HI.out.2.1.call hb01);have HBU:Hid (But pb w w1):=HI.out.2.2.trans (But.of hb01 (Nat.le_of_lt HI.out.2.1.lt))
    have c1:=HSR.out.row.cell (i:=x) (by omega)
    have c2:=HSR.out.row.cell (i:=c) (by omega)
    clear hb1 hb01
    refine hK.out _ _ ?_ (fun hHeld=>?_)
    ·(try dsimp only)
     exact ⟨c1,c2⟩
    clear hK K;refine tk 12 ?_;refine tk 13 ?_
    refine dnR ?_
    clear hHeld hvb c1 c2 HCC HR0;clear hc
    go_wp2
    go_roundw
    case rel=>exact ⟨s,c,_,rfl,rfl,rfl,by omega,by omega,by omega,Lib.hid ⟨HSE.out,HSR.out,HBU.out⟩⟩
    case measure=>simp [intOf];omega
   ·have hc:=ziw hk
    have HSE:Hid (SeK key f a m q (c+1) r):=HI.out.1.up hc1 hc2 (by rw [<- HX.out];exact hk)
    clear hk
    have c1:=HI.out.2.1.row.cell (i:=x) (by omega)
    have c2:=HI.out.2.1.row.cell (i:=c) (by omega)
    refine wp_region_held_drew (S:=fun w'=>w'.cell? ⟨pb,x,none⟩=some (.int .i64 (f x:Nat))/\w'.cell? ⟨pb,c,none⟩=some (.int .i64 (f c:Nat))) (by kernel_rfl) ?_ (fun hHeld=>?_)
    ·exact ⟨c1,c2⟩
    obtain ⟨v0,hv0⟩:∃ w',w'=wr.drew:=⟨_,rfl⟩
    have hvb:Below wr.heap.size wr v0:=by rw [hv0];exact (Below.refl _ _).drew
    have HR0:=Lib.hid (HI.out.2.1.call hvb)
    have HCC:=Lib.hid (za6 HR0.out.mks (f x) (f c) (HR0.out.mem _ (by omega)) (HR0.out.mem _ (by omega)))
    rw [<- hv0] at hHeld |-;clear hv0 c1 c2;refine tk 0 ?_;refine tk 1 ?_;refine tk 2 ?_;refine tk 3 ?_;refine tk 4 ?_;refine tk 5 ?_;refine tk 6 ?_;refine tk 7 ?_;refine tk 8 ?_;refine tk 9 ?_;refine tk 10 ?_
    refine clR 11 rfl fun K hK=>?_
    go_simp
    refine Calls.mono HCC.out ?_
    rintro e w1 ⟨rfl,hb1⟩;have hb01:Below wr.heap.size wr w1:=hvb.trans (hb1.mono hvb.size);have HSR:=Lib.hid (HI.out.2.1.call hb01);have HBU:Hid (But pb w w1):=HI.out.2.2.trans (But.of hb01 (Nat.le_of_lt HI.out.2.1.lt))
    have c1:=HSR.out.row.cell (i:=x) (by omega)
    have c2:=HSR.out.row.cell (i:=c) (by omega)
    clear hb1 hb01
    refine hK.out _ _ ?_ (fun hHeld=>?_)
    ·(try dsimp only)
     exact ⟨c1,c2⟩
    clear hK K;refine tk 12 ?_;refine tk 13 ?_
    refine dnR ?_
    clear hHeld hvb c1 c2 HCC HR0;clear hc
    go_wp2
    go_roundw
    case rel=>exact ⟨c+1,r,_,rfl,by go_num,rfl,by omega,by omega,by omega,Lib.hid ⟨HSE.out,HSR.out,HBU.out⟩⟩
    case measure=>simp [intOf];omega
  ·have d1:decide (s<r)=false:=decide_eq_false hlt
   obtain rfl:s=r:=by omega
   obtain ⟨e,he⟩:∃ e,e=nn - s:=⟨_,rfl⟩
   have HCUT:Hid (CutK key f a m b s e/\s<=mid/\s+(e - m)=mid):=by
    have hx:=HI.out.1.cut ⟨ham,hmb⟩ HMID.out.1 (by have:=HMID.out;omega) (.inr ⟨H0.out,rfl,rfl⟩)
    rw [show mid+m - s=e by have:=HMID.out;omega] at hx
    exact hx
   have HEE:=Lib.hid (show (nn:Int) - (s:Int)=(e:Int) by have:=HMID.out;have:=HCUT.out.2.1;omega)
   obtain ⟨P1,P2,P3,q1,q2,q3,q4,q5,q6,q7⟩:=zli hn (d:=d) HIH.out hd ham hmb hb HI.out.2.1 HI.out.2.2 HLR.out.1 HLR.out.2.1 HLR.out.2.2 HCUT.out.1 (by have:=HMID.out;omega) HCUT.out.2.2
   have Q1:=Lib.hid q1;have Q2:=Lib.hid q2;have Q3:=Lib.hid q3;have Q4:=Lib.hid q4;have Q5:=Lib.hid q5;have Q6:=Lib.hid q6;have Q7:=Lib.hid q7
   have zE:s<mid↔m<e:=by have:=HCUT.out;have:=HCUT.out.1.me;constructor <;> intro <;> omega
   have zF:mid<e↔s<m:=by have:=HCUT.out;have:=HCUT.out.1.me;constructor <;> intro <;> omega
   have he2:e<2000000:=by omega
   have hse:s<=nn:=by have:=HMID.out;have:=HCUT.out.2.1;omega
   clear q1 q2 q3 q4 q5 q6 q7 HIH HI HLR H0 he
   go_upto_region 39 with fail
   simp only [HEE.out]
   clear d1
   by_cases zA:s<m <;> by_cases zB:m<e <;> by_cases zC:a<s <;> by_cases zD:e<b
   all_goals (
    first|have dA:=decide_eq_false zA|have dA:=decide_eq_true zA
    first|have dB:=decide_eq_false zB|have dB:=decide_eq_true zB
    first|have dC:=decide_eq_false zC|have dC:=decide_eq_true zC
    first|have dD:=decide_eq_false zD|have dD:=decide_eq_true zD
    first|have dE:=decide_eq_false (mt zE.1 zB)|have dE:=decide_eq_true (zE.2 zB)
    first|have dF:=decide_eq_false (mt zF.1 zA)|have dF:=decide_eq_true (zF.2 zA)
    try (have hp1:=Lib.hid (Q2.out (by omega)))
    try (have hp2:=Lib.hid (Q4.out _ hp1.out (by omega)))
    go_wp2_with first
     |(with_reducible refine Calls.mono (Q1.out zA zB) ?_;rintro _ w1 ⟨rfl,h1⟩;have hp1:=Lib.hid h1;clear h1;try (have hp2:=Lib.hid (Q4.out _ hp1.out (by omega))))
     |(with_reducible refine Calls.mono (Q3.out _ hp1.out zC (zE.2 zB)) ?_;rintro _ w2 ⟨rfl,h1⟩;have hp2:=Lib.hid h1;clear h1)
     |(with_reducible refine Calls.mono (Q5.out _ hp2.out (zF.2 zA) zD) ?_;rintro _ w3 ⟨rfl,h1⟩;have hp3:=Lib.hid h1;clear h1)
     |fail
    first|go_end0|go_ret
    first|exact Q7.out _ hp3.out|exact Q7.out _ (Q6.out _ hp2.out (by omega)))
end
end
section
open Go.RowKit
section
variable {P r S B n nv:Nat} {s:Ms} {o:Od}
theorem kd_cases (x:Int):(x<0\/12<x)\/x=0\/x=1\/x=2\/x=3\/x=4\/x=5\/x=6\/x=7\/x=8\/x=9\/x=10\/x=11\/x=12:=by omega
theorem doS_qs (h1:o.kd≠10) (h2:o.kd≠11):(doS P r S B n nv s o).qs=s.qs:=by
 rcases kd_cases o.kd with hx|hx|hx|hx|hx|hx|hx|hx|hx|hx|hx|hx|hx|hx
 ·rw [doS_X hx]
 ·rw [zpl hx]
 ·rw [doS_1 hx]
 ·rw [zow hx];unfold dS2;repeat' split
  all_goals rfl
 ·rw [doS_3 hx]
 ·rw [zqv hx];unfold dS4;repeat' split
  all_goals rfl
 ·rw [doS_5 hx];unfold dS5;repeat' split
  all_goals rfl
 ·rw [zo8 hx];unfold dS6;repeat' split
  all_goals rfl
 ·rw [doS_7 hx];unfold dS7;repeat' split
  all_goals rfl
 ·rw [zj8 hx];unfold dS8;repeat' split
  all_goals rfl
 ·rw [zo0 hx];unfold dS9;repeat' split
  all_goals rfl
 ·exact absurd hx (by assumption)
 ·exact absurd hx (by assumption)
 ·rw [zet hx]
theorem zhi (f:Nat->Bool):∀ k,0<=zbl f k->(zbl f k).toNat<k/\f (zbl f k).toNat=true
 |0,h=>by simp [zbl] at h
 |k+1,h=>by
  rw [zbl] at h |-
  by_cases h1:0<=zbl f k
  ·rw [if_pos h1]
   have:=zhi f k h1
   exact ⟨by omega,this.2⟩
  ·rw [if_neg h1] at h |-
   by_cases h2:f k=true
   ·rw [if_pos h2]
    exact ⟨by simp,by simpa using h2⟩
   ·rw [if_neg h2] at h
    omega
def qN (f t r:Nat) (o:Od) (q:List Int):List Int :=
 if o.po=(f:Int)/\o.tt=(t:Int)/\o.kd=10 then if r<=q.length then q else q ++ [o.id]
 else if o.po=(f:Int)/\o.tt=(t:Int)/\o.kd=11 then q.tail else q
theorem zje {P f:Nat} (h:f<P):zah P (f:Int)=true:=by
 unfold zah
 simp
 omega
theorem doS_q {f t:Nat} (hf:f<P) (ht:t<P):(doS P r S B n nv s o).qs f t=qN f t r o (s.qs f t):=by
 by_cases hsame:o.po=(f:Int)/\o.tt=(t:Int)
 ·have hp:zah P o.po=true:=by rw [hsame.1];exact zje hf
  have hp2:zah P o.tt=true:=by rw [hsame.2];exact zje ht
  have e1:o.po.toNat=f:=by rw [hsame.1];exact Int.toNat_natCast f
  have e2:o.tt.toNat=t:=by rw [hsame.2];exact Int.toNat_natCast t
  by_cases h10:o.kd=10
  ·have hc:o.po=(f:Int)/\o.tt=(t:Int)/\o.kd=10:=⟨hsame.1,hsame.2,h10⟩
   rw [zd4 h10];unfold dS10 qN;rw [if_pos hp,if_pos hp2,if_pos hc,e1,e2]
   by_cases hr:r<=(s.qs f t).length
   ·rw [if_pos hr,if_pos hr]
   ·rw [if_neg hr,if_neg hr]
    exact zbs _ _ _ _
  ·have hc:¬ (o.po=(f:Int)/\o.tt=(t:Int)/\o.kd=10):=fun e=>h10 e.2.2
   by_cases h11:o.kd=11
   ·have hc2:o.po=(f:Int)/\o.tt=(t:Int)/\o.kd=11:=⟨hsame.1,hsame.2,h11⟩
    rw [zd5 h11];unfold dS11 qN;rw [if_pos hp,if_pos hp2,if_neg hc,if_pos hc2,e1,e2]
    by_cases hr:s.qs f t=[]
    ·rw [if_pos hr,hr];rfl
    ·rw [if_neg hr]
     exact zbs _ _ _ _
   ·have hc2:¬ (o.po=(f:Int)/\o.tt=(t:Int)/\o.kd=11):=fun e=>h11 e.2.2
    rw [doS_qs h10 h11];unfold qN;rw [if_neg hc,if_neg hc2]
 ·have hc:¬ (o.po=(f:Int)/\o.tt=(t:Int)/\o.kd=10):=fun e=>hsame ⟨e.1,e.2.1⟩
  have hc2:¬ (o.po=(f:Int)/\o.tt=(t:Int)/\o.kd=11):=fun e=>hsame ⟨e.1,e.2.1⟩
  unfold qN;rw [if_neg hc,if_neg hc2]
  have hoth:zah P o.po=true->zah P o.tt=true->¬ (f=o.po.toNat/\t=o.tt.toNat):=fun hp hp2 e=>by
   obtain ⟨i,hi,_⟩:=zay hp;obtain ⟨k,hk,_⟩:=zay hp2
   refine hsame ⟨?_,?_⟩
   ·rw [e.1,hi,Int.toNat_natCast]
   ·rw [e.2,hk,Int.toNat_natCast]
  by_cases h10:o.kd=10
  ·rw [zd4 h10]
   unfold dS10
   by_cases hp:zah P o.po=true
   ·by_cases hp2:zah P o.tt=true
    ·rw [if_pos hp,if_pos hp2]
     by_cases hr:r<=(s.qs o.po.toNat o.tt.toNat).length
     ·rw [if_pos hr]
     ·rw [if_neg hr]
      exact zcu _ _ (hoth hp hp2)
    ·rw [if_pos hp,if_neg hp2]
   ·rw [if_neg hp]
  ·by_cases h11:o.kd=11
   ·rw [zd5 h11]
    unfold dS11
    by_cases hp:zah P o.po=true
    ·by_cases hp2:zah P o.tt=true
     ·rw [if_pos hp,if_pos hp2]
      by_cases hr:s.qs o.po.toNat o.tt.toNat=[]
      ·rw [if_pos hr]
      ·rw [if_neg hr]
       exact zcu _ _ (hoth hp hp2)
     ·rw [if_pos hp,if_neg hp2]
    ·rw [if_neg hp]
   ·rw [doS_qs h10 h11]
end
section
variable {E:Nat->Prop} {w:World} {L A S1 Q bp bq P r S B n nv:Nat} {uv:Value} {lv:List Vl} {st:Nat->Int×Nat} {g:Nat->Nat->Pl} {G:Nat->Value} {R:Nat->Nat} {qv:Nat->Nat->Value} {qs:Nat->Nat->List Int}
theorem MdAll.grow {w':World} (h:MdAll E w L A S1 Q bp bq P r S B n nv uv lv st g G R qv qs) (hz:w.heap.size<=w'.heap.size) (hk:∀ b,b<w.heap.size->¬ E b->w'.heap[b]?=w.heap[b]?):MdAll (fun b=>E b\/(w.heap.size<=b/\b<w'.heap.size)) w' L A S1 Q bp bq P r S B n nv uv lv st g G R qv qs:=by
 have h':=h.keepE hz hk;obtain ⟨D,h1,h2,h3,h4,h5⟩:=h.bk
 have hbk:BkAt w' D bp bq S B n g:=h1.keep hz fun b hlt hc=>hk b hlt (fun he=>by
  rcases hc with rfl|rfl|hc
  ·exact (h5 _ he).2.1 rfl
  ·exact (h5 _ he).2.2.1 rfl
  ·exact hc (h5 b he).1)
 refine ⟨h'.md,h'.qu,h'.lbk,fun b=>D b\/(w.heap.size<=b/\b<w'.heap.size),?_,fun b hd=>?_,.inl h3,fun b hc=>⟨.inl (h4 b hc).1,(h4 b hc).2⟩,fun b he=>?_⟩
 ·obtain ⟨k0,k1,k2,k3,k4,k5,k6,k9,k10⟩:=hbk
  obtain ⟨_,_,_,_,_,_,_,_,m10⟩:=h1
  refine ⟨k0,k1,k2,k3,k4,k5,k6,k9,fun a ha=>?_⟩
  obtain ⟨v0,hv0,hrow0⟩:=m10 a ha;obtain ⟨v,hv,Ax,cap,e1,e2,e3,e4⟩:=k10 a ha
  refine ⟨v,hv,Ax,cap,e1,e2,e3,fun hn=>?_⟩
  obtain ⟨b,off,f1,f2,f3,f4⟩:=e4 hn
  refine ⟨b,off,f1,f2,fun hd=>?_,f4⟩
  rcases hd with hd|hd
  ·exact f3 hd
  ·obtain ⟨Ay,cay,y1,y2,y3,y4⟩:=hrow0
   obtain ⟨b',off',z1,z2,z3,z4⟩:=y4 hn
   have hq0:w'.cell? ⟨bq,a,none⟩=w.cell? ⟨bq,a,none⟩:=World.cell?_of_block (hk bq (h2 bq h3) (fun he=>(h5 bq he).2.2.1 rfl))
   rw [hq0,hv0] at hv
   injection hv with hv
   rw [y1,e1] at hv
   injection hv with hv
   rw [z1,f1] at hv
   injection hv with hv
   injection hv with hv
   omega
 ·rcases hd with hd|hd
  ·exact Nat.lt_of_lt_of_le (h2 b hd) hz
  ·exact hd.2
 ·rcases he with he|he
  ·exact ⟨.inl (h5 b he).1,(h5 b he).2⟩
  ·refine ⟨.inr he,?_,?_,fun hc=>?_⟩
   ·have:=h1.1;omega
   ·have:=h1.2.1;omega
   ·have:=h2 b (h4 b hc).1;omega
end
end
end Go.Proofs.YtfekhdgjgjodlaaGreat
