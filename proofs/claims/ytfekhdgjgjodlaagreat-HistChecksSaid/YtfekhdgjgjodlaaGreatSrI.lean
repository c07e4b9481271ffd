/-
  Words and contracts that a statement's proof rests on (HiB, SrI). No statement is proved here.
-/
import Derived.BigGuard
import Derived.Deep.DeepCutAuto
import Derived.Test.YtfekhdgjgjodlaaGreatBuC
import Derived.Test.YtfekhdgjgjodlaaGreatHiA
import Derived.Test.YtfekhdgjgjodlaaGreatSrF
set_option linter.unusedVariables false
set_option linter.unusedSimpArgs false
namespace Go.Proofs.YtfekhdgjgjodlaaGreat
section
open Go.RowKit
set_option maxHeartbeats 1600000 in
theorem zed (x:Ent) (w:World):Calls Tryz.prog 55 #[x.val] w (Says (.bool (x.fin != 0)) w):=by
 obtain ⟨who,beg,mar,fin,⟨kd,po,tt,vi,sx,kv,km,me,un,nw,li,sh,bu,id⟩,ans⟩:=x;unfold Ent.val Ent.cells
 simp only []
 go_enter Tryz.func55,Tryz.ntmps55
 go_upto_region 1 with fail
 obtain ⟨w0,hw0⟩:∃ w0,w0=w.alloc (.cells #[.int .i64 who,.int .i64 beg,.int .i64 mar,.int .i64 fin,.int .i64 kd,.int .i64 po,.int .i64 tt,.int .i64 vi,.int .i64 sx,.int .i64 kv,.int .u64 (km:Nat),.int .u64 (me:Nat),.int .u64 (un:Nat),.int .u32 (nw:Nat),.int .u32 (li:Nat),.int .i64 sh,.int .i64 bu,.int .i64 id,.int .i64 ans] 68):=⟨_,rfl⟩;have HX:=Lib.hid (zmk hw0);have HW0:=Lib.hid (zbk hw0);rw [<- hw0];have HRG:=Lib.hid (rng19 hw0);obtain ⟨c0,c1,c2,c3,c4,c5,c6,c7,c8,c9,c10,c11,c12,c13,c14,c15,c16,c17,c18⟩:=HX.out _ (Below.refl _ _);clear hw0
 go_wp2
 go_ret
 exact ⟨by first|rfl|(simp;done),HW0.out.1⟩
set_option maxRecDepth 20000 in
set_option maxHeartbeats 3200000 in
theorem zqf (x:Ent) (t:Int) (w:World):Calls Tryz.prog 56 #[x.val,.int .i64 t] w (Says (.bool (!(x.fin != 0) || decide (t<x.fin))) w):=by
 have HO:=Lib.hid fun W=>zed x W
 obtain ⟨who,beg,mar,fin,⟨kd,po,tt,vi,sx,kv,km,me,un,nw,li,sh,bu,id⟩,ans⟩:=x;unfold Ent.val Ent.cells at HO |-
 simp only [] at HO |-
 have HB:Hid (∀ w',Below w.heap.size w w'->Below w.heap.size w w'):=fun _ h=>h
 by_cases h1:fin=0
 ·as_aux_lemma =>
  have d0:(fin != 0)=false:=by simpa using h1
  rw [d0] at HO |-
  have hq:(!false || decide (t<fin))=true:=rfl
  rw [hq];clear h1 hq
  go_enter Tryz.func56,Tryz.ntmps56
  go_upto_region 1 with fail
  obtain ⟨w0,hw0⟩:∃ w0,w0=w.alloc (.cells #[.int .i64 who,.int .i64 beg,.int .i64 mar,.int .i64 fin,.int .i64 kd,.int .i64 po,.int .i64 tt,.int .i64 vi,.int .i64 sx,.int .i64 kv,.int .u64 (km:Nat),.int .u64 (me:Nat),.int .u64 (un:Nat),.int .u32 (nw:Nat),.int .u32 (li:Nat),.int .i64 sh,.int .i64 bu,.int .i64 id,.int .i64 ans] 68):=⟨_,rfl⟩;have HX:=Lib.hid (zmk hw0);have HW0:=Lib.hid (zbk hw0);rw [<- hw0];have HRG:=Lib.hid (rng19 hw0);obtain ⟨c0,c1,c2,c3,c4,c5,c6,c7,c8,c9,c10,c11,c12,c13,c14,c15,c16,c17,c18⟩:=HX.out _ (Below.refl _ _);clear hw0
  go_wp2_with (first
   |go_big_skip
   |(refine wpList_load_mid (by rfl) 68 _ (by rfl) w.heap.size 0 (by rfl) [.int .i64 who,.int .i64 beg,.int .i64 mar,.int .i64 fin,.int .i64 kd,.int .i64 po,.int .i64 tt,.int .i64 vi,.int .i64 sx,.int .i64 kv,.int .u64 (km:Nat),.int .u64 (me:Nat),.int .u64 (un:Nat),.int .u32 (nw:Nat),.int .u32 (li:Nat),.int .i64 sh,.int .i64 bu,.int .i64 id,.int .i64 ans] _ HRG.out Tryz.underlying68 (by rfl) (by kernel_rfl) ?_;clear HRG)
   |(go_at_call 55;(with_reducible refine Calls.mono (HO.out _) ?_);rintro e w1 ⟨rfl,hb1⟩;(have HB1:Hid (Below w.heap.size w w1):=HW0.out.1.trans (hb1.mono HW0.out.1.size));clear hb1)
   |fail)
  go_ret
  exact ⟨by first|rfl|(simp;done),HB1.out⟩
 ·as_aux_lemma =>
  have d0:(fin != 0)=true:=by simpa using h1
  rw [d0] at HO |-;obtain ⟨q,hq⟩:∃ q,q=decide (t<fin):=⟨_,rfl⟩;rw [<- hq]
  have hq2:(!true || q)=q:=by simp
  rw [hq2];clear hq2
  have hq':decide (fin > t)=q:=hq.symm
  clear hq h1
  go_enter Tryz.func56,Tryz.ntmps56
  go_upto_region 1 with fail
  obtain ⟨w0,hw0⟩:∃ w0,w0=w.alloc (.cells #[.int .i64 who,.int .i64 beg,.int .i64 mar,.int .i64 fin,.int .i64 kd,.int .i64 po,.int .i64 tt,.int .i64 vi,.int .i64 sx,.int .i64 kv,.int .u64 (km:Nat),.int .u64 (me:Nat),.int .u64 (un:Nat),.int .u32 (nw:Nat),.int .u32 (li:Nat),.int .i64 sh,.int .i64 bu,.int .i64 id,.int .i64 ans] 68):=⟨_,rfl⟩;have HX:=Lib.hid (zmk hw0);have HW0:=Lib.hid (zbk hw0);rw [<- hw0];have HRG:=Lib.hid (rng19 hw0);obtain ⟨c0,c1,c2,c3,c4,c5,c6,c7,c8,c9,c10,c11,c12,c13,c14,c15,c16,c17,c18⟩:=HX.out _ (Below.refl _ _);clear hw0
  go_wp2_with (first
   |go_big_skip
   |(refine wpList_load_mid (by rfl) 68 _ (by rfl) w.heap.size 0 (by rfl) [.int .i64 who,.int .i64 beg,.int .i64 mar,.int .i64 fin,.int .i64 kd,.int .i64 po,.int .i64 tt,.int .i64 vi,.int .i64 sx,.int .i64 kv,.int .u64 (km:Nat),.int .u64 (me:Nat),.int .u64 (un:Nat),.int .u32 (nw:Nat),.int .u32 (li:Nat),.int .i64 sh,.int .i64 bu,.int .i64 id,.int .i64 ans] _ HRG.out Tryz.underlying68 (by rfl) (by kernel_rfl) ?_;clear HRG)
   |(go_at_call 55;(with_reducible refine Calls.mono (HO.out _) ?_);rintro e w1 ⟨rfl,hb1⟩;(have HB1:Hid (Below w.heap.size w w1):=HW0.out.1.trans (hb1.mono HW0.out.1.size));(obtain ⟨_,_,e2,e3,_⟩:=HX.out _ hb1);clear hb1)
   |fail)
  go_ret
  exact ⟨by first|rfl|(simp;done),HB1.out⟩
theorem zp7 (a b c d f g k u:Bool):(a=true)\/(a=false/\b=true)\/(a=false/\b=false/\c=true)\/(a=false/\b=false/\c=false/\d=true/\f=true)\/(a=false/\b=false/\c=false/\d=false/\u=false)\/(a=false/\b=false/\c=false/\d=true/\f=false/\u=false)\/(a=false/\b=false/\c=false/\d=false/\u=true/\g=true)\/(a=false/\b=false/\c=false/\d=true/\f=false/\u=true/\g=true)\/(a=false/\b=false/\c=false/\d=false/\u=true/\g=false/\k=true)\/(a=false/\b=false/\c=false/\d=true/\f=false/\u=true/\g=false/\k=true)\/(a=false/\b=false/\c=false/\d=false/\u=true/\g=false/\k=false)\/(a=false/\b=false/\c=false/\d=true/\f=false/\u=true/\g=false/\k=false):=by
 cases a <;> cases b <;> cases c <;> cases d <;> cases f <;> cases g <;> cases k <;> cases u <;> simp
set_option maxRecDepth 20000 in
set_option maxHeartbeats 6400000 in
theorem zgi (x:Ent) (w:World):Calls Tryz.prog 27 #[x.val] w (Says (.bool (misT x)) w):=by
 have HO:=Lib.hid fun W=>zed x W
 unfold misT;obtain ⟨who,beg,mar,fin,⟨kd,po,tt,vi,sx,kv,km,me,un,nw,li,sh,bu,id⟩,ans⟩:=x;unfold Ent.val Ent.cells at HO |-
 simp only [] at HO |-
 have hk:∀ (a b c d e f g:Bool),(decide (beg<0)=a)->decide (mar<0)=b->decide (fin<0)=c->decide (0<mar)=d->decide (mar<=beg)=e->decide (mar=0)=f->decide (fin<mar)=g->decide (fin≠0)=(fin != 0):=by
  intros
  by_cases h:fin=0 <;> simp [h]
 have hk2:=hk _ _ _ _ _ _ _ rfl rfl rfl rfl rfl rfl rfl;rw [hk2];clear hk hk2;obtain ⟨a,ha⟩:∃ a,a=decide (beg<0):=⟨_,rfl⟩;obtain ⟨b,hb⟩:∃ a,a=decide (mar<0):=⟨_,rfl⟩;obtain ⟨c,hc⟩:∃ a,a=decide (fin<0):=⟨_,rfl⟩;obtain ⟨d,hd⟩:∃ a,a=decide (0<mar):=⟨_,rfl⟩;obtain ⟨f,hf⟩:∃ a,a=decide (mar<=beg):=⟨_,rfl⟩;obtain ⟨g,hg⟩:∃ a,a=decide (mar=0):=⟨_,rfl⟩;obtain ⟨k,hk⟩:∃ a,a=decide (fin<mar):=⟨_,rfl⟩;obtain ⟨u,hu⟩:∃ a,a=(fin != 0):=⟨_,rfl⟩;rw [<- ha,<- hb,<- hc,<- hd,<- hf,<- hg,<- hk,<- hu];rw [<- hu] at HO;have ea:=ha.symm;have eb:=hb.symm;have ec:=hc.symm
 have ed:decide (mar > 0)=d:=hd.symm
 have ef:=hf.symm
 have eg:(mar == 0)=g:=hg.symm
 have ek:=hk.symm;clear ha hb hc hd hf hg hk hu
 obtain ⟨z,hz⟩:∃ z,z=((a || b || c) || ((d && f) || (u && (g || k)))):=⟨_,rfl⟩
 rw [<- hz]
 rcases zp7 a b c d f g k u with rfl|⟨rfl,rfl⟩|⟨rfl,rfl,rfl⟩|⟨rfl,rfl,rfl,rfl,rfl⟩|⟨rfl,rfl,rfl,rfl,rfl⟩|⟨rfl,rfl,rfl,rfl,rfl,rfl⟩|⟨rfl,rfl,rfl,rfl,rfl,rfl⟩|⟨rfl,rfl,rfl,rfl,rfl,rfl,rfl⟩|⟨rfl,rfl,rfl,rfl,rfl,rfl,rfl⟩|⟨rfl,rfl,rfl,rfl,rfl,rfl,rfl,rfl⟩|⟨rfl,rfl,rfl,rfl,rfl,rfl,rfl⟩|⟨rfl,rfl,rfl,rfl,rfl,rfl,rfl,rfl⟩
 all_goals simp at hz;subst hz
 all_goals as_aux_lemma =>
  go_enter Tryz.func27,Tryz.ntmps27
  go_upto_region 1 with fail
  obtain ⟨w0,hw0⟩:∃ w0,w0=w.alloc (.cells #[.int .i64 who,.int .i64 beg,.int .i64 mar,.int .i64 fin,.int .i64 kd,.int .i64 po,.int .i64 tt,.int .i64 vi,.int .i64 sx,.int .i64 kv,.int .u64 (km:Nat),.int .u64 (me:Nat),.int .u64 (un:Nat),.int .u32 (nw:Nat),.int .u32 (li:Nat),.int .i64 sh,.int .i64 bu,.int .i64 id,.int .i64 ans] 68):=⟨_,rfl⟩;have HX:=Lib.hid (zmk hw0);have HW0:=Lib.hid (zbk hw0);rw [<- hw0];have HRG:=Lib.hid (rng19 hw0);obtain ⟨c0,c1,c2,c3,c4,c5,c6,c7,c8,c9,c10,c11,c12,c13,c14,c15,c16,c17,c18⟩:=HX.out _ (Below.refl _ _);clear hw0
  go_wp2_with (first
   |go_big_skip
   |(refine wpList_load_mid (by rfl) 68 _ (by rfl) w.heap.size 0 (by rfl) [.int .i64 who,.int .i64 beg,.int .i64 mar,.int .i64 fin,.int .i64 kd,.int .i64 po,.int .i64 tt,.int .i64 vi,.int .i64 sx,.int .i64 kv,.int .u64 (km:Nat),.int .u64 (me:Nat),.int .u64 (un:Nat),.int .u32 (nw:Nat),.int .u32 (li:Nat),.int .i64 sh,.int .i64 bu,.int .i64 id,.int .i64 ans] _ HRG.out Tryz.underlying68 (by rfl) (by kernel_rfl) ?_;clear HRG)
   |(go_at_call 55;(with_reducible refine Calls.mono (HO.out _) ?_);rintro e w1 ⟨rfl,hb1⟩;(have HB1:Hid (Below w.heap.size w w1):=HW0.out.1.trans (hb1.mono HW0.out.1.size));(obtain ⟨_,_,e2,e3,_⟩:=HX.out _ hb1);clear hb1)
   |fail)
  go_ret
  exact ⟨by first|rfl|(simp;done),by first|exact HB1.out|exact HW0.out.1⟩
end
section
open Go.RowKit
section
variable {pb n cp lb N:Nat} {key:Nat->Int}
set_option maxRecDepth 20000 in
set_option maxHeartbeats 12800000 in
theorem zna (hn:n<=1000000) {w:World} {f:Nat->Nat} (h:SrAt w pb n lb N key f) (ht:StK key f 0 n) :
  Calls Tryz.prog 62 #[.slice (some ⟨pb,0,none⟩) n cp,.int .i64 (n:Nat),(.func (.func 35) #[] #[.pointer (some ⟨lb,0,none⟩)])] w (MgAt w pb n lb N key f 0 n):=by
 have HS:=Lib.hid h;have HT:=Lib.hid ht;clear h ht
 go_enter Tryz.func62,Tryz.ntmps62
 go_wp2
 go_loopw [7,8] (fun av bv wr=>∃ (k a b:Nat) (g:Nat->Nat) (wx:World),wx=wr/\av=.int .i64 a/\bv=.int .i64 b/\a<=n/\b=a+20/\Hid (a=k*20/\BlK key g n 20 k/\StK key g 0 n/\ImK f g 0 n/\SrAt wr pb n lb N key g/\But pb w wr)) (fun av bv _=>n+21 - (intOf bv).toNat)
 case atStart=>exact ⟨0,0,20,f,_,rfl,rfl,rfl,Nat.zero_le _,rfl,rfl,fun x hx=>absurd hx (Nat.not_lt_zero x),HT.out,ImK.refl _ _ _,HS.out,But.of (Below.refl _ _) (Nat.le_of_lt HS.out.lt)⟩
 case round =>
  obtain ⟨k,a,b,g,wr,rfl,rfl,rfl,han,hba,HI⟩:=hrel
  by_cases hlt:b<=n
  ·have d1:decide (b<=n)=true:=decide_eq_true hlt
   have HC:=Lib.hid (zl8 (cp:=cp) (a:=a) (b:=b) HI.out.2.2.2.2.1 hn (by omega) hlt (HI.out.2.2.1.mono (Nat.zero_le _) hlt))
   obtain ⟨c,hc⟩:∃ c,c=b+20:=⟨_,rfl⟩;have HCE:=Lib.hid hc;have HB:=Lib.hid hba;clear hba hc
   go_wp2_with first
    |(with_reducible refine Calls.mono HC.out ?_;rintro _ w1 ⟨rfl,g1,m1,m2,m3⟩;have HM:=Lib.hid (And.intro (zis HI.out.1 HB.out hlt HI.out.2.1 HI.out.2.2.1 HI.out.2.2.2.1 m1) (And.intro m2 (HI.out.2.2.2.2.2.trans m3)));clear m1 m2 m3)
    |fail
   go_roundw
   case rel=>exact ⟨k+1,b,c,g1,_,rfl,rfl,by first|rfl|(have:=HCE.out;congr 1 <;> omega),hlt,HCE.out,HM.out.1.1,HM.out.1.2.1,HM.out.1.2.2.1,HM.out.1.2.2.2,HM.out.2.1,HM.out.2.2⟩
   case measure=>have:=HCE.out;have:=HB.out;simp [intOf];omega
  ·have d1:decide (b<=n)=false:=decide_eq_false hlt
   have HC:=Lib.hid (zl8 (cp:=cp) (a:=a) (b:=n) HI.out.2.2.2.2.1 hn han (Nat.le_refl _) (HI.out.2.2.1.mono (Nat.zero_le _) (Nat.le_refl _)))
   have HL:Hid (∀ {g1:Nat->Nat},MgK key g g1 a n->(∀ k,BlK key g1 n 20 k)/\StK key g1 0 n/\ImK f g1 0 n):=fun {g1} m1=>zln HI.out.1 han (by omega) HI.out.2.1 HI.out.2.2.1 HI.out.2.2.2.1 m1
   have HBU:Hid (But pb w wr):=HI.out.2.2.2.2.2;clear hba HI hlt
   go_wp2_with first
    |(with_reducible refine Calls.mono HC.out ?_;rintro _ w1 ⟨rfl,g1,m1,m2,m3⟩;have HM:=Lib.hid (And.intro (HL.out m1) (And.intro m2 (HBU.out.trans m3)));clear m1 m2 m3)
    |fail
   clear HC HL HBU d1
   go_loopw [6,7,8,9] (fun Bv av bv mv wr=>∃ (B:Nat) (g:Nat->Nat) (wx:World),wx=wr/\Bv=.int .i64 B/\1<=B/\B<2000000/\Hid ((∀ k,BlK key g n B k)/\StK key g 0 n/\ImK f g 0 n/\SrAt wr pb n lb N key g/\But pb w wr)) (fun Bv av bv mv _=>n+n+n - (intOf Bv).toNat)
   case atStart=>exact ⟨20,g1,_,rfl,rfl,by omega,by omega,HM.out.1.1,HM.out.1.2.1,HM.out.1.2.2,HM.out.2.1,HM.out.2.2⟩
   case round =>
    obtain ⟨B,g2,wr,rfl,rfl,hB1,hB2,HI⟩:=hrel
    by_cases hlt:B<n
    ·have d2:decide (B<n)=true:=decide_eq_true hlt
     obtain ⟨C,hC⟩:∃ C,C=2*B:=⟨_,rfl⟩;have HC2:=Lib.hid hC
     have HEC:=Lib.hid (show 2*(B:Int)=(C:Int) by omega)
     have hC3:C<2000000:=by omega
     clear hC
     go_wp2
     (try simp only [HEC.out])
     go_loopw [7,8] (fun av bv wr=>∃ (k a b:Nat) (g:Nat->Nat) (wx:World),wx=wr/\av=.int .i64 a/\bv=.int .i64 b/\a<=n/\b=a+C/\Hid (a=k*(2*B)/\BlK key g n (2*B) k/\(∀ x,2*k<=x->SdK key g (x*B) (min (x*B+B) n))/\StK key g 0 n/\ImK f g 0 n/\SrAt wr pb n lb N key g/\But pb w wr)) (fun av bv _=>n+C+1 - (intOf bv).toNat)
     case atStart=>exact ⟨0,0,C,g2,_,rfl,rfl,rfl,Nat.zero_le _,by omega,by omega,fun x hx=>absurd hx (Nat.not_lt_zero x),fun x _=>HI.out.1 (x+1) x (by omega),HI.out.2.1,HI.out.2.2.1,HI.out.2.2.2.1,HI.out.2.2.2.2⟩
     case round =>
      obtain ⟨k,a,b,g,wr,rfl,rfl,rfl,han,hba,HJ⟩:=hrel;have HPP:=Lib.hid (pr_pre HJ.out.1 HJ.out.2.2.1)
      have HB2:=Lib.hid (show b=a+2*B by rw [hba,HC2.out])
      by_cases hlt2:b<=n
      ·have d3:decide (b<=n)=true:=decide_eq_true hlt2
       have hcall:=zek (cp:=cp) hn (b - a) wr g a (a+B) b HJ.out.2.2.2.2.2.1 (Nat.le_refl _) (by omega) (by have:=HB2.out;omega) hlt2 (by have h1:=HPP.out.1;rw [show min (a+B) n=a+B by have:=HB2.out;omega] at h1;exact h1) (by have h1:=HPP.out.2;rw [show min (a+2*B) n=b by have:=HB2.out;omega] at h1;exact h1) (HJ.out.2.2.2.1.mono (Nat.zero_le _) hlt2)
       rw [show ((a+B:Nat):Int)=(a:Int)+(B:Int) by omega] at hcall
       have HC:=Lib.hid hcall;obtain ⟨c,hc⟩:∃ c,c=b+C:=⟨_,rfl⟩;have HCE:=Lib.hid hc;have HB:=Lib.hid hba;clear hba hc hcall HPP
       go_wp2_with first
        |((with_reducible refine Calls.mono HC.out ?_);rintro _ w1 ⟨rfl,g3,m1,m2,m3⟩;have HM:=Lib.hid (And.intro (zis HJ.out.1 HB2.out hlt2 HJ.out.2.1 HJ.out.2.2.2.1 HJ.out.2.2.2.2.1 m1) (And.intro m2 (And.intro (HJ.out.2.2.2.2.2.2.trans m3) (pr_rest HJ.out.1 (Nat.le_of_eq HB2.out) HJ.out.2.2.1 m1))));clear m1 m2 m3)
        |fail
       go_roundw
       case rel=>exact ⟨k+1,b,c,g3,_,rfl,rfl,by first|rfl|(have:=HCE.out;have:=HC2.out;congr 1 <;> omega),hlt2,HCE.out,HM.out.1.1,HM.out.1.2.1,HM.out.2.2.2,HM.out.1.2.2.1,HM.out.1.2.2.2,HM.out.2.1,HM.out.2.2.1⟩
       case measure=>have:=HCE.out;have:=HB.out;simp [intOf];omega
      ·have d3:decide (b<=n)=false:=decide_eq_false hlt2
       obtain ⟨m,hm⟩:∃ m,m=a+B:=⟨_,rfl⟩
       have HEM:=Lib.hid (show (a:Int)+(B:Int)=(m:Int) by omega)
       have HLAST:Hid (∀ {g1:Nat->Nat},MgK key g g1 a n->(∀ k,BlK key g1 n C k)/\StK key g1 0 n/\ImK f g1 0 n):=fun {g1} m1=>by
        rw [HC2.out]
        exact zln HJ.out.1 han (by have:=HB2.out;omega) HJ.out.2.1 HJ.out.2.2.2.1 HJ.out.2.2.2.2.1 m1
       have hst:StK key g a n:=HJ.out.2.2.2.1.mono (Nat.zero_le _) (Nat.le_refl _)
       have HEB:=Lib.hid (show (B:Int)*2=(C:Int) by have:=HC2.out;omega)
       by_cases hmn:m<n
       ·have d4:decide (m<n)=true:=decide_eq_true hmn
        have HC:=Lib.hid (zek (cp:=cp) hn (n - a) wr g a m n HJ.out.2.2.2.2.2.1 (Nat.le_refl _) (by omega) hmn (Nat.le_refl _) (by have h1:=HPP.out.1;rw [show min (a+B) n=m by omega] at h1;exact h1) (by have h1:=HPP.out.2;rw [show min (a+2*B) n=n by have:=HB2.out;omega,<- hm] at h1;exact h1) hst)
        clear hm hba hst hlt2 HPP
        go_upto_region 14 with fail
        simp only [HEM.out]
        go_wp2_with first
         |((with_reducible refine Calls.mono HC.out ?_);rintro _ w1 ⟨rfl,g3,m1,m2,m3⟩;have HM:=Lib.hid (And.intro (HLAST.out m1) (And.intro m2 (HJ.out.2.2.2.2.2.2.trans m3)));clear m1 m2 m3)
         |fail
        go_roundw
        case rel=>exact ⟨C,g3,_,rfl,by first|rfl|(have:=HC2.out;congr 1 <;> omega),by have:=HC2.out;omega,hC3,HM.out.1.1,HM.out.1.2.1,HM.out.1.2.2,HM.out.2.1,HM.out.2.2⟩
        case measure=>have:=HC2.out;simp [intOf];omega
       ·have d4:decide (m<n)=false:=decide_eq_false hmn
        have HM:=Lib.hid (HLAST.out (MgK.same (by have h1:=HPP.out.1;rw [show min (a+B) n=n by omega] at h1;exact h1) hst))
        clear hm hba hst hlt2 HPP
        go_upto_region 14 with fail
        simp only [HEM.out]
        go_wp2
        go_roundw
        case rel=>exact ⟨C,g,_,rfl,by first|rfl|(have:=HC2.out;congr 1 <;> omega),by have:=HC2.out;omega,hC3,HM.out.1,HM.out.2.1,HM.out.2.2,HJ.out.2.2.2.2.2.1,HJ.out.2.2.2.2.2.2⟩
        case measure=>have:=HC2.out;simp [intOf];omega
    ·have d2:decide (B<n)=false:=decide_eq_false hlt
     have HF:Hid (MgAt w pb n lb N key f 0 n (.returned (.tuple #[])) wr):=⟨rfl,g2,⟨HI.out.2.2.1,blk_all HI.out.1 (by omega),HI.out.2.1⟩,HI.out.2.2.2.1,HI.out.2.2.2.2⟩
     go_wp2
     first|go_end0|go_ret
     exact HF.out
end
end
end Go.Proofs.YtfekhdgjgjodlaaGreat
