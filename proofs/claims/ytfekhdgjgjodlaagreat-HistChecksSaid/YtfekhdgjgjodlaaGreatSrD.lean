/-
  Words and contracts that a statement's proof rests on (SrD). No statement is proved here.
-/
import Derived.Deep.DeepCutAuto
import Derived.Test.YtfekhdgjgjodlaaGreatSrC
set_option linter.unusedVariables false
set_option linter.unusedSimpArgs false
namespace Go.Proofs.YtfekhdgjgjodlaaGreat
open Go.RowKit
section
variable {pb n cp lb N:Nat} {key:Nat->Int}
def MgAt (w:World) (pb n lb N:Nat) (key:Nat->Int) (f:Nat->Nat) (a b:Nat) (e:Ending) (w':World):Prop:=e=.returned (.tuple #[])/\∃ f',MgK key f f' a b/\SrAt w' pb n lb N key f'/\But pb w w'
set_option maxRecDepth 20000 in
set_option maxHeartbeats 12800000 in
theorem sym_left {w:World} {f:Nat->Nat} {a b:Nat} (h:SrAt w pb n lb N key f) (hn:n<=1000000) (hmb:a+1<b) (hb:b<=n) (hr:SdK key f (a+1) b) (ht:StK key f a b) :
  Calls Tryz.prog 97 #[.slice (some ⟨pb,0,none⟩) n cp,.int .i64 (a:Nat),.int .i64 ((a+1:Nat):Int),.int .i64 (b:Nat),(.func (.func 35) #[] #[.pointer (some ⟨lb,0,none⟩)])] w (MgAt w pb n lb N key f a b):=by
 obtain ⟨m,hm⟩:∃ m,m=a+1:=⟨_,rfl⟩;rw [<- hm] at hmb hr |-;have HM:=Lib.hid hm;have HS:=Lib.hid h;have HR:=Lib.hid hr;have HT:=Lib.hid ht
 have s0:((m:Int) - (a:Int))=1:=by omega
 have s0':wrap64 ((m:Int) - (a:Int))=1:=by rw [s0];unfold wrap64;omega
 clear h hr ht hm
 go_enter Tryz.func97,Tryz.ntmps97
 go_wp2
 clear s0 s0'
 go_loopw [10,11] (fun iv jv wr=>∃ (i j:Nat) (wx:World),wx=wr/\iv=.int .i64 i/\jv=.int .i64 j/\m<=i/\i<=j/\j<=b/\Hid ((∀ h,m<=h->h<i->key (f h)<key (f a))/\(∀ h,j<=h->h<b->key (f a)<=key (f h))/\SrAt wr pb n lb N key f/\But pb w wr)) (fun iv jv _=>(intOf jv).toNat - (intOf iv).toNat)
 case atStart=>exact ⟨m,b,_,rfl,rfl,rfl,by omega,by omega,by omega,fun h h1 h2=>absurd h2 (by omega),fun h h1 h2=>absurd h2 (by omega),HS.out,But.of (Below.refl _ _) (Nat.le_of_lt HS.out.lt)⟩
 case round =>
  obtain ⟨i,j,wr,rfl,rfl,rfl,hmi,hij,hjb,HI⟩:=hrel
  by_cases hlt:i<j
  ·have d1:decide (i<j)=true:=decide_eq_true hlt
   obtain ⟨h,hh⟩:∃ h,h=(i+j) / 2:=⟨_,rfl⟩
   have hh1:i<=h:=by omega
   have hh2:h<j:=by omega
   have HE:=Lib.hid (show ((i:Int)+(j:Int)) / 2=(h:Int) by omega)
   clear hh
   have hhn:h<n:=by omega
   have han:a<n:=by have:=HM.out;omega
   go_upto_region 5 with fail
   simp only [HE.out]
   by_cases hk:key (f h)<key (f a)
   ·have hc:=ziq hk
    have HLO:Hid (∀ x,m<=x->x<h+1->key (f x)<key (f a)):=fun x x1 x2=>by
     rcases Nat.lt_or_ge x h with x3|x3
     ·have:=HR.out x h x1 x3 (by omega);omega
     ·rw [show x=h by omega];exact hk
    clear hk
    have c1:=HI.out.2.2.1.row.cell (i:=h) (by omega)
    have c2:=HI.out.2.2.1.row.cell (i:=a) (by omega)
    refine wp_region_held_drew (S:=fun w'=>w'.cell? ⟨pb,h,none⟩=some (.int .i64 (f h:Nat))/\w'.cell? ⟨pb,a,none⟩=some (.int .i64 (f a:Nat))) (by kernel_rfl) ?_ (fun hHeld=>?_)
    ·exact ⟨c1,c2⟩
    obtain ⟨v0,hv0⟩:∃ w',w'=wr.drew:=⟨_,rfl⟩
    have hvb:Below wr.heap.size wr v0:=by rw [hv0];exact (Below.refl _ _).drew
    have HR0:=Lib.hid (HI.out.2.2.1.call hvb)
    have HCC:=Lib.hid (za6 HR0.out.mks (f h) (f a) (HR0.out.mem _ (by omega)) (HR0.out.mem _ (by omega)))
    rw [<- hv0] at hHeld |-;clear hv0 c1 c2;refine tk 0 ?_;refine tk 1 ?_;refine tk 2 ?_;refine tk 3 ?_;refine tk 4 ?_;refine tk 5 ?_;refine tk 6 ?_;refine tk 7 ?_;refine tk 8 ?_
    refine clR 9 rfl fun K hK=>?_
    go_simp
    refine Calls.mono HCC.out ?_
    rintro e w1 ⟨rfl,hb1⟩;have hb01:Below wr.heap.size wr w1:=hvb.trans (hb1.mono hvb.size);have HSR:=Lib.hid (HI.out.2.2.1.call hb01);have HBU:Hid (But pb w w1):=HI.out.2.2.2.trans (But.of hb01 (Nat.le_of_lt HI.out.2.2.1.lt))
    have c1:=HSR.out.row.cell (i:=h) (by omega)
    have c2:=HSR.out.row.cell (i:=a) (by omega)
    clear hb1 hb01
    refine hK.out _ _ ?_ (fun hHeld=>?_)
    ·(try dsimp only)
     exact ⟨c1,c2⟩
    clear hK K;refine tk 10 ?_
    refine dnR ?_
    clear hHeld hvb c1 c2 HCC HR0;clear hc
    go_wp2
    go_roundw
    case rel=>exact ⟨h+1,j,_,rfl,by go_num,rfl,by omega,by omega,by omega,Lib.hid ⟨HLO.out,HI.out.2.1,HSR.out,HBU.out⟩⟩
    case measure=>simp [intOf];omega
   ·have hc:=ziw hk
    have HHI:Hid (∀ x,h<=x->x<b->key (f a)<=key (f x)):=fun x x1 x2=>by
     rcases Nat.lt_or_ge h x with x3|x3
     ·have:=HR.out h x (by omega) x3 x2;omega
     ·rw [show x=h by omega];omega
    clear hk
    have c1:=HI.out.2.2.1.row.cell (i:=h) (by omega)
    have c2:=HI.out.2.2.1.row.cell (i:=a) (by omega)
    refine wp_region_held_drew (S:=fun w'=>w'.cell? ⟨pb,h,none⟩=some (.int .i64 (f h:Nat))/\w'.cell? ⟨pb,a,none⟩=some (.int .i64 (f a:Nat))) (by kernel_rfl) ?_ (fun hHeld=>?_)
    ·exact ⟨c1,c2⟩
    obtain ⟨v0,hv0⟩:∃ w',w'=wr.drew:=⟨_,rfl⟩
    have hvb:Below wr.heap.size wr v0:=by rw [hv0];exact (Below.refl _ _).drew
    have HR0:=Lib.hid (HI.out.2.2.1.call hvb)
    have HCC:=Lib.hid (za6 HR0.out.mks (f h) (f a) (HR0.out.mem _ (by omega)) (HR0.out.mem _ (by omega)))
    rw [<- hv0] at hHeld |-;clear hv0 c1 c2;refine tk 0 ?_;refine tk 1 ?_;refine tk 2 ?_;refine tk 3 ?_;refine tk 4 ?_;refine tk 5 ?_;refine tk 6 ?_;refine tk 7 ?_;refine tk 8 ?_
    refine clR 9 rfl fun K hK=>?_
    go_simp
    refine Calls.mono HCC.out ?_
    rintro e w1 ⟨rfl,hb1⟩;have hb01:Below wr.heap.size wr w1:=hvb.trans (hb1.mono hvb.size);have HSR:=Lib.hid (HI.out.2.2.1.call hb01);have HBU:Hid (But pb w w1):=HI.out.2.2.2.trans (But.of hb01 (Nat.le_of_lt HI.out.2.2.1.lt))
    have c1:=HSR.out.row.cell (i:=h) (by omega)
    have c2:=HSR.out.row.cell (i:=a) (by omega)
    clear hb1 hb01
    refine hK.out _ _ ?_ (fun hHeld=>?_)
    ·(try dsimp only)
     exact ⟨c1,c2⟩
    clear hK K;refine tk 10 ?_
    refine dnR ?_
    clear hHeld hvb c1 c2 HCC HR0;clear hc
    go_wp2
    go_roundw
    case rel=>exact ⟨i,h,_,rfl,rfl,rfl,by omega,by omega,by omega,Lib.hid ⟨HI.out.1,HHI.out,HSR.out,HBU.out⟩⟩
    case measure=>simp [intOf];omega
  ·have d1:decide (i<j)=false:=decide_eq_false hlt
   obtain rfl:i=j:=by omega
   have HMG:Hid (MgK key f (roK f a m i) a b):=ins_left HM.out hmi hjb HR.out HT.out HI.out.1 HI.out.2.1
   have hm1:m=a+1:=HM.out
   have hai:a<i:=by omega
   clear hm1
   go_wp2
   go_loopw [13] (fun kv wr2=>∃ (k:Nat) (F:Nat->Nat) (wx:World),wx=wr2/\kv=.int .i64 k/\a<=k/\k+1<=i/\Hid (F=roK f a (a+1) (k+1)/\SrAt wr2 pb n lb N key F/\But pb w wr2)) (fun kv _=>i - (intOf kv).toNat)
   case atStart=>exact ⟨a,f,_,rfl,rfl,by omega,by omega,(zpr (.inr rfl) (by omega) (Nat.le_refl _)).symm,HI.out.2.2.1,HI.out.2.2.2⟩
   case round =>
    obtain ⟨k,F,wq,rfl,rfl,hak,hki,HJ⟩:=hrel
    by_cases hlt2:k+1<i
    ·obtain ⟨y,hy⟩:∃ y,y=k+1:=⟨_,rfl⟩
     have HY:=Lib.hid hy
     have d2:decide ((k:Int)<(i:Int) - 1)=true:=decide_eq_true (by omega)
     have s1:IntKind.i64.wrap ((k:Int)+1)=(y:Int):=by rw [IntKind.wrap_i64];omega
     have hXn:k<n:=by omega
     have hYn:y<n:=by omega
     have hXYn:k≠y:=by omega
     have HROW:Hid (swK F k y=roK f a (a+1) (k+1+1)):=by rw [HJ.out.1,hy];exact roK_up hak
     clear hy
     go_wp2_with fail
     have HI:Hid (True/\SrAt wq pb n lb N key F/\But pb w wq):=⟨trivial,HJ.out.2.1,HJ.out.2.2⟩
     refine wp_region_held_drew (S:=fun w'=>True) (by kernel_rfl) ?_ (fun hHeld=>?_)
     ·trivial
     obtain ⟨v0,hv0⟩:∃ w',w'=wq.drew:=⟨_,rfl⟩
     have hvb:Below wq.heap.size wq v0:=by rw [hv0];exact (Below.refl _ _).drew
     have HR0:=Lib.hid (HI.out.2.1.call hvb);have HB0:Hid (But pb w v0):=HI.out.2.2.trans (But.of hvb (Nat.le_of_lt HI.out.2.1.lt));have cX:=HR0.out.row.cell hXn;have cY:=HR0.out.row.cell hYn;have fX:=HR0.out.row.frozen k;rw [<- hv0];clear hHeld;have hHeld:True:=trivial;clear hv0 hvb;refine tk 0 ?_;refine tk 1 ?_;refine tk 2 ?_;refine tk 3 ?_;refine tk 4 ?_;refine tk 5 ?_;refine tk 6 ?_;refine tk 7 ?_;refine tk 8 ?_;refine tk 10 ?_;refine tk 11 ?_;refine tk 12 ?_
     refine wpAnyH_ready (rs:=[9,13]) (by kernel_rfl) (by simp) ?_
     refine (acR rfl (fun K hK=>?_) (acR rfl (fun K hK=>?_) AllReadyH.nil))
     ·go_simp
      refine hK.out _ _ ?_ (fun hHeld=>?_)
      ·(try dsimp only)
       (try trivial)
      clear hK K
      (try simp only [Act.put,sqA,sqB,sqC])
      refine wpAnyH_ready (rs:=[13]) (by kernel_rfl) (by simp) ?_
      refine ac1 rfl fun K hK=>?_
      go_simp
      refine hK.out _ _ ?_ (fun hHeld=>?_)
      ·(try dsimp only)
       (try trivial)
      clear hK K;refine tk 14 ?_
      refine wpAnyH_ready (rs:=[15]) (by kernel_rfl) (by simp) ?_
      refine ac1 rfl fun K hK=>?_
      go_simp
      refine hK.out _ _ ?_ (fun hHeld=>?_)
      ·(try dsimp only)
       (try trivial)
      clear hK K
      (try simp only [Act.put,sqA,sqB,sqC])
      obtain ⟨v1,hv1⟩:∃ x,x=v0.setCell ⟨pb,k,none⟩ (.int .i64 (F y:Nat)):=⟨_,rfl⟩
      have cY1:v1.cell? ⟨pb,y,none⟩=some (.int .i64 (F y:Nat)):=by rw [hv1];exact ((HR0.out.row.set k _).cell hYn).trans (by show some (if y=k then _ else _)=_;rw [if_neg (Ne.symm hXYn)])
      have fY1:v1.frozen? ⟨pb,y,none⟩=false:=by rw [hv1];exact (HR0.out.row.set k _).frozen _
      have HV1:=Lib.hid hv1;rw [<- hv1];clear hv1;refine tk 16 ?_
      refine wpAnyH_ready (rs:=[17]) (by kernel_rfl) (by simp) ?_
      refine ac1 rfl fun K hK=>?_
      go_simp
      refine hK.out _ _ ?_ (fun hHeld=>?_)
      ·(try dsimp only)
       (try trivial)
      clear hK K
      (try simp only [Act.put,sqA,sqB,sqC])
      obtain ⟨v2,hv2⟩:∃ x,x=v1.setCell ⟨pb,y,none⟩ (.int .i64 (F k:Nat)):=⟨_,rfl⟩
      have HS2:Hid (SrAt v2 pb n lb N key (swK F k y)/\But pb w v2):=by
       rw [hv2,HV1.out]
       exact ⟨HR0.out.swap hXn hYn hXYn,(HB0.out.trans (But.set _ _)).trans (But.set _ _)⟩
      rw [<- hv2];clear hv2
      refine dnR ?_
      go_wp2
      go_roundw
      case rel=>exact ⟨k+1,_,_,rfl,by first|(have:=HY.out;congr 1;omega)|go_num,by omega,by omega,Lib.hid ⟨HROW.out,HS2.out.1,HS2.out.2⟩⟩
      case measure=>have:=HY.out;simp [intOf];omega
     ·go_simp
      refine hK.out _ _ ?_ (fun hHeld=>?_)
      ·(try dsimp only)
       (try trivial)
      clear hK K
      (try simp only [Act.put,sqA,sqB,sqC])
      refine wpAnyH_ready (rs:=[9]) (by kernel_rfl) (by simp) ?_
      refine ac1 rfl fun K hK=>?_
      go_simp
      refine hK.out _ _ ?_ (fun hHeld=>?_)
      ·(try dsimp only)
       (try trivial)
      clear hK K;refine tk 14 ?_
      refine wpAnyH_ready (rs:=[15]) (by kernel_rfl) (by simp) ?_
      refine ac1 rfl fun K hK=>?_
      go_simp
      refine hK.out _ _ ?_ (fun hHeld=>?_)
      ·(try dsimp only)
       (try trivial)
      clear hK K
      (try simp only [Act.put,sqA,sqB,sqC])
      obtain ⟨v1,hv1⟩:∃ x,x=v0.setCell ⟨pb,k,none⟩ (.int .i64 (F y:Nat)):=⟨_,rfl⟩
      have cY1:v1.cell? ⟨pb,y,none⟩=some (.int .i64 (F y:Nat)):=by rw [hv1];exact ((HR0.out.row.set k _).cell hYn).trans (by show some (if y=k then _ else _)=_;rw [if_neg (Ne.symm hXYn)])
      have fY1:v1.frozen? ⟨pb,y,none⟩=false:=by rw [hv1];exact (HR0.out.row.set k _).frozen _
      have HV1:=Lib.hid hv1;rw [<- hv1];clear hv1;refine tk 16 ?_
      refine wpAnyH_ready (rs:=[17]) (by kernel_rfl) (by simp) ?_
      refine ac1 rfl fun K hK=>?_
      go_simp
      refine hK.out _ _ ?_ (fun hHeld=>?_)
      ·(try dsimp only)
       (try trivial)
      clear hK K
      (try simp only [Act.put,sqA,sqB,sqC])
      obtain ⟨v2,hv2⟩:∃ x,x=v1.setCell ⟨pb,y,none⟩ (.int .i64 (F k:Nat)):=⟨_,rfl⟩
      have HS2:Hid (SrAt v2 pb n lb N key (swK F k y)/\But pb w v2):=by
       rw [hv2,HV1.out]
       exact ⟨HR0.out.swap hXn hYn hXYn,(HB0.out.trans (But.set _ _)).trans (But.set _ _)⟩
      rw [<- hv2];clear hv2
      refine dnR ?_
      go_wp2
      go_roundw
      case rel=>exact ⟨k+1,_,_,rfl,by first|(have:=HY.out;congr 1;omega)|go_num,by omega,by omega,Lib.hid ⟨HROW.out,HS2.out.1,HS2.out.2⟩⟩
      case measure=>have:=HY.out;simp [intOf];omega
    ·have d2:decide ((k:Int)<(i:Int) - 1)=false:=decide_eq_false (by omega)
     have HF:Hid (MgAt w pb n lb N key f a b (.returned (.tuple #[])) wq):=⟨rfl,_,HMG.out,(by
      have e:=HJ.out.1
      rw [show k+1=i by omega,<- HM.out] at e
      rw [<- e]
      exact HJ.out.2.1),HJ.out.2.2⟩
     go_wp2
     first|go_end0|go_ret
     exact HF.out
set_option maxRecDepth 20000 in
set_option maxHeartbeats 12800000 in
theorem zpf {w:World} {f:Nat->Nat} {a m:Nat} (h:SrAt w pb n lb N key f) (hn:n<=1000000) (ham:a+1<m) (hb:m+1<=n) (hl:SdK key f a m) (ht:StK key f a (m+1)) :
  Calls Tryz.prog 97 #[.slice (some ⟨pb,0,none⟩) n cp,.int .i64 (a:Nat),.int .i64 (m:Nat),.int .i64 ((m+1:Nat):Int),(.func (.func 35) #[] #[.pointer (some ⟨lb,0,none⟩)])] w (MgAt w pb n lb N key f a (m+1)):=by
 obtain ⟨b,hbm⟩:∃ b,b=m+1:=⟨_,rfl⟩;rw [<- hbm] at hb ht |-;have HM:=Lib.hid hbm;have HS:=Lib.hid h;have HL:=Lib.hid hl;have HT:=Lib.hid ht
 have s0:(((m:Int) - (a:Int)) == 1)=false:=by simp;omega
 have s1:((b:Int) - (m:Int))=1:=by omega
 have s1':wrap64 ((b:Int) - (m:Int))=1:=by rw [s1];unfold wrap64;omega
 have s0':¬ (m:Int) - (a:Int)=1:=by omega
 have hmb:m<b:=by omega
 clear h hl ht hbm
 go_enter Tryz.func97,Tryz.ntmps97
 go_wp2
 clear s0 s1 s1' s0'
 go_loopw [14,15] (fun iv jv wr=>∃ (i j:Nat) (wx:World),wx=wr/\iv=.int .i64 i/\jv=.int .i64 j/\a<=i/\i<=j/\j<=m/\Hid ((∀ h,a<=h->h<i->key (f h)<=key (f m))/\(∀ h,j<=h->h<m->key (f m)<key (f h))/\SrAt wr pb n lb N key f/\But pb w wr)) (fun iv jv _=>(intOf jv).toNat - (intOf iv).toNat)
 case atStart=>exact ⟨a,m,_,rfl,rfl,rfl,by omega,by omega,by omega,fun h h1 h2=>absurd h2 (by omega),fun h h1 h2=>absurd h2 (by omega),HS.out,But.of (Below.refl _ _) (Nat.le_of_lt HS.out.lt)⟩
 case round =>
  obtain ⟨i,j,wr,rfl,rfl,rfl,hai,hij,hjm,HI⟩:=hrel
  by_cases hlt:i<j
  ·have d1:decide (i<j)=true:=decide_eq_true hlt
   obtain ⟨h,hh⟩:∃ h,h=(i+j) / 2:=⟨_,rfl⟩
   have hh1:i<=h:=by omega
   have hh2:h<j:=by omega
   have HE:=Lib.hid (show ((i:Int)+(j:Int)) / 2=(h:Int) by omega)
   clear hh
   have hhn:h<n:=by omega
   have hmn:m<n:=by omega
   go_upto_region 17 with fail
   simp only [HE.out]
   by_cases hk:key (f m)<key (f h)
   ·have hc:=ziq hk
    have HHI:Hid (∀ x,h<=x->x<m->key (f m)<key (f x)):=fun x x1 x2=>by
     rcases Nat.lt_or_ge h x with x3|x3
     ·have:=HL.out h x (by omega) x3 x2;omega
     ·rw [show x=h by omega];exact hk
    clear hk
    have c1:=HI.out.2.2.1.row.cell (i:=m) (by omega)
    have c2:=HI.out.2.2.1.row.cell (i:=h) (by omega)
    refine wp_region_held_drew (S:=fun w'=>w'.cell? ⟨pb,m,none⟩=some (.int .i64 (f m:Nat))/\w'.cell? ⟨pb,h,none⟩=some (.int .i64 (f h:Nat))) (by kernel_rfl) ?_ (fun hHeld=>?_)
    ·exact ⟨c1,c2⟩
    obtain ⟨v0,hv0⟩:∃ w',w'=wr.drew:=⟨_,rfl⟩
    have hvb:Below wr.heap.size wr v0:=by rw [hv0];exact (Below.refl _ _).drew
    have HR0:=Lib.hid (HI.out.2.2.1.call hvb)
    have HCC:=Lib.hid (za6 HR0.out.mks (f m) (f h) (HR0.out.mem _ (by omega)) (HR0.out.mem _ (by omega)))
    rw [<- hv0] at hHeld |-;clear hv0 c1 c2;refine tk 0 ?_;refine tk 1 ?_;refine tk 2 ?_;refine tk 3 ?_;refine tk 4 ?_;refine tk 5 ?_;refine tk 6 ?_;refine tk 7 ?_;refine tk 8 ?_
    refine clR 9 rfl fun K hK=>?_
    go_simp
    refine Calls.mono HCC.out ?_
    rintro e w1 ⟨rfl,hb1⟩;have hb01:Below wr.heap.size wr w1:=hvb.trans (hb1.mono hvb.size);have HSR:=Lib.hid (HI.out.2.2.1.call hb01);have HBU:Hid (But pb w w1):=HI.out.2.2.2.trans (But.of hb01 (Nat.le_of_lt HI.out.2.2.1.lt))
    have c1:=HSR.out.row.cell (i:=m) (by omega)
    have c2:=HSR.out.row.cell (i:=h) (by omega)
    clear hb1 hb01
    refine hK.out _ _ ?_ (fun hHeld=>?_)
    ·(try dsimp only)
     exact ⟨c1,c2⟩
    clear hK K;refine tk 10 ?_;refine tk 11 ?_
    refine dnR ?_
    clear hHeld hvb c1 c2 HCC HR0;clear hc
    go_wp2
    go_roundw
    case rel=>exact ⟨i,h,_,rfl,rfl,rfl,by omega,by omega,by omega,Lib.hid ⟨HI.out.1,HHI.out,HSR.out,HBU.out⟩⟩
    case measure=>simp [intOf];omega
   ·have hc:=ziw hk
    have HLO:Hid (∀ x,a<=x->x<h+1->key (f x)<=key (f m)):=fun x x1 x2=>by
     rcases Nat.lt_or_ge x h with x3|x3
     ·have:=HL.out x h x1 x3 (by omega);omega
     ·rw [show x=h by omega];omega
    clear hk
    have c1:=HI.out.2.2.1.row.cell (i:=m) (by omega)
    have c2:=HI.out.2.2.1.row.cell (i:=h) (by omega)
    refine wp_region_held_drew (S:=fun w'=>w'.cell? ⟨pb,m,none⟩=some (.int .i64 (f m:Nat))/\w'.cell? ⟨pb,h,none⟩=some (.int .i64 (f h:Nat))) (by kernel_rfl) ?_ (fun hHeld=>?_)
    ·exact ⟨c1,c2⟩
    obtain ⟨v0,hv0⟩:∃ w',w'=wr.drew:=⟨_,rfl⟩
    have hvb:Below wr.heap.size wr v0:=by rw [hv0];exact (Below.refl _ _).drew
    have HR0:=Lib.hid (HI.out.2.2.1.call hvb)
    have HCC:=Lib.hid (za6 HR0.out.mks (f m) (f h) (HR0.out.mem _ (by omega)) (HR0.out.mem _ (by omega)))
    rw [<- hv0] at hHeld |-;clear hv0 c1 c2;refine tk 0 ?_;refine tk 1 ?_;refine tk 2 ?_;refine tk 3 ?_;refine tk 4 ?_;refine tk 5 ?_;refine tk 6 ?_;refine tk 7 ?_;refine tk 8 ?_
    refine clR 9 rfl fun K hK=>?_
    go_simp
    refine Calls.mono HCC.out ?_
    rintro e w1 ⟨rfl,hb1⟩;have hb01:Below wr.heap.size wr w1:=hvb.trans (hb1.mono hvb.size);have HSR:=Lib.hid (HI.out.2.2.1.call hb01);have HBU:Hid (But pb w w1):=HI.out.2.2.2.trans (But.of hb01 (Nat.le_of_lt HI.out.2.2.1.lt))
    have c1:=HSR.out.row.cell (i:=m) (by omega)
    have c2:=HSR.out.row.cell (i:=h) (by omega)
    clear hb1 hb01
    refine hK.out _ _ ?_ (fun hHeld=>?_)
    ·(try dsimp only)
     exact ⟨c1,c2⟩
    clear hK K;refine tk 10 ?_;refine tk 11 ?_
    refine dnR ?_
    clear hHeld hvb c1 c2 HCC HR0;clear hc
    go_wp2
    go_roundw
    case rel=>exact ⟨h+1,j,_,rfl,by go_num,rfl,by omega,by omega,by omega,Lib.hid ⟨HLO.out,HI.out.2.1,HSR.out,HBU.out⟩⟩
    case measure=>simp [intOf];omega
  ·have d1:decide (i<j)=false:=decide_eq_false hlt
   obtain rfl:i=j:=by omega
   have HMG:Hid (MgK key f (roK f i m b) a b):=zpj HM.out hai hjm HL.out HT.out HI.out.1 HI.out.2.1
   go_wp2
   go_loopw [17] (fun kv wr2=>∃ (k:Nat) (F:Nat->Nat) (wx:World),wx=wr2/\kv=.int .i64 k/\i<=k/\k<=m/\Hid (F=roK f k m (m+1)/\SrAt wr2 pb n lb N key F/\But pb w wr2)) (fun kv _=>(intOf kv).toNat)
   case atStart=>exact ⟨m,f,_,rfl,rfl,by omega,by omega,(zpr (.inl rfl) (Nat.le_refl _) (by omega)).symm,HI.out.2.2.1,HI.out.2.2.2⟩
   case round =>
    obtain ⟨k,F,wq,rfl,rfl,hik,hkm,HJ⟩:=hrel
    by_cases hlt2:i<k
    ·obtain ⟨y,hy⟩:∃ y,k=y+1:=⟨k - 1,by omega⟩
     have HY:Hid (k=y+1):=hy
     have d2:decide (i<k)=true:=decide_eq_true hlt2
     have s1:IntKind.i64.wrap ((k:Int) - 1)=(y:Int):=by rw [IntKind.wrap_i64];omega
     have hXn:k<n:=by omega
     have hYn:y<n:=by omega
     have hXYn:k≠y:=by omega
     have HROW:Hid (swK F k y=roK f y m (m+1)):=by
      have e:y=k - 1:=by omega
      rw [HJ.out.1,e]
      exact roK_down hkm (by omega)
     clear hy
     go_wp2_with fail
     have HI:Hid (True/\SrAt wq pb n lb N key F/\But pb w wq):=⟨trivial,HJ.out.2.1,HJ.out.2.2⟩
     refine wp_region_held_drew (S:=fun w'=>True) (by kernel_rfl) ?_ (fun hHeld=>?_)
     ·trivial
     obtain ⟨v0,hv0⟩:∃ w',w'=wq.drew:=⟨_,rfl⟩
     have hvb:Below wq.heap.size wq v0:=by rw [hv0];exact (Below.refl _ _).drew
     have HR0:=Lib.hid (HI.out.2.1.call hvb);have HB0:Hid (But pb w v0):=HI.out.2.2.trans (But.of hvb (Nat.le_of_lt HI.out.2.1.lt));have cX:=HR0.out.row.cell hXn;have cY:=HR0.out.row.cell hYn;have fX:=HR0.out.row.frozen k;rw [<- hv0];clear hHeld;have hHeld:True:=trivial;clear hv0 hvb;refine tk 0 ?_;refine tk 1 ?_;refine tk 2 ?_;refine tk 3 ?_;refine tk 4 ?_;refine tk 5 ?_;refine tk 6 ?_;refine tk 7 ?_;refine tk 8 ?_;refine tk 10 ?_;refine tk 11 ?_;refine tk 12 ?_
     refine wpAnyH_ready (rs:=[9,13]) (by kernel_rfl) (by simp) ?_
     refine (acR rfl (fun K hK=>?_) (acR rfl (fun K hK=>?_) AllReadyH.nil))
     ·go_simp
      refine hK.out _ _ ?_ (fun hHeld=>?_)
      ·(try dsimp only)
       (try trivial)
      clear hK K
      (try simp only [Act.put,sqA,sqB,sqC])
      refine wpAnyH_ready (rs:=[13]) (by kernel_rfl) (by simp) ?_
      refine ac1 rfl fun K hK=>?_
      go_simp
      refine hK.out _ _ ?_ (fun hHeld=>?_)
      ·(try dsimp only)
       (try trivial)
      clear hK K;refine tk 14 ?_
      refine wpAnyH_ready (rs:=[15]) (by kernel_rfl) (by simp) ?_
      refine ac1 rfl fun K hK=>?_
      go_simp
      refine hK.out _ _ ?_ (fun hHeld=>?_)
      ·(try dsimp only)
       (try trivial)
      clear hK K
      (try simp only [Act.put,sqA,sqB,sqC])
      obtain ⟨v1,hv1⟩:∃ x,x=v0.setCell ⟨pb,k,none⟩ (.int .i64 (F y:Nat)):=⟨_,rfl⟩
      have cY1:v1.cell? ⟨pb,y,none⟩=some (.int .i64 (F y:Nat)):=by rw [hv1];exact ((HR0.out.row.set k _).cell hYn).trans (by show some (if y=k then _ else _)=_;rw [if_neg (Ne.symm hXYn)])
      have fY1:v1.frozen? ⟨pb,y,none⟩=false:=by rw [hv1];exact (HR0.out.row.set k _).frozen _
      have HV1:=Lib.hid hv1;rw [<- hv1];clear hv1;refine tk 16 ?_
      refine wpAnyH_ready (rs:=[17]) (by kernel_rfl) (by simp) ?_
      refine ac1 rfl fun K hK=>?_
      go_simp
      refine hK.out _ _ ?_ (fun hHeld=>?_)
      ·(try dsimp only)
       (try trivial)
      clear hK K
      (try simp only [Act.put,sqA,sqB,sqC])
      obtain ⟨v2,hv2⟩:∃ x,x=v1.setCell ⟨pb,y,none⟩ (.int .i64 (F k:Nat)):=⟨_,rfl⟩
      have HS2:Hid (SrAt v2 pb n lb N key (swK F k y)/\But pb w v2):=by
       rw [hv2,HV1.out]
       exact ⟨HR0.out.swap hXn hYn hXYn,(HB0.out.trans (But.set _ _)).trans (But.set _ _)⟩
      rw [<- hv2];clear hv2
      refine dnR ?_
      go_wp2
      go_roundw
      case rel=>exact ⟨y,_,_,rfl,by first|rfl|(have:=HY.out;congr 1;omega),by have:=HY.out;omega,by have:=HY.out;omega,Lib.hid ⟨HROW.out,HS2.out.1,HS2.out.2⟩⟩
      case measure=>have:=HY.out;simp [intOf];omega
     ·go_simp
      refine hK.out _ _ ?_ (fun hHeld=>?_)
      ·(try dsimp only)
       (try trivial)
      clear hK K
      (try simp only [Act.put,sqA,sqB,sqC])
      refine wpAnyH_ready (rs:=[9]) (by kernel_rfl) (by simp) ?_
      refine ac1 rfl fun K hK=>?_
      go_simp
      refine hK.out _ _ ?_ (fun hHeld=>?_)
      ·(try dsimp only)
       (try trivial)
      clear hK K;refine tk 14 ?_
      refine wpAnyH_ready (rs:=[15]) (by kernel_rfl) (by simp) ?_
      refine ac1 rfl fun K hK=>?_
      go_simp
      refine hK.out _ _ ?_ (fun hHeld=>?_)
      ·(try dsimp only)
       (try trivial)
      clear hK K
      (try simp only [Act.put,sqA,sqB,sqC])
      obtain ⟨v1,hv1⟩:∃ x,x=v0.setCell ⟨pb,k,none⟩ (.int .i64 (F y:Nat)):=⟨_,rfl⟩
      have cY1:v1.cell? ⟨pb,y,none⟩=some (.int .i64 (F y:Nat)):=by rw [hv1];exact ((HR0.out.row.set k _).cell hYn).trans (by show some (if y=k then _ else _)=_;rw [if_neg (Ne.symm hXYn)])
      have fY1:v1.frozen? ⟨pb,y,none⟩=false:=by rw [hv1];exact (HR0.out.row.set k _).frozen _
      have HV1:=Lib.hid hv1;rw [<- hv1];clear hv1;refine tk 16 ?_
      refine wpAnyH_ready (rs:=[17]) (by kernel_rfl) (by simp) ?_
      refine ac1 rfl fun K hK=>?_
      go_simp
      refine hK.out _ _ ?_ (fun hHeld=>?_)
      ·(try dsimp only)
       (try trivial)
      clear hK K
      (try simp only [Act.put,sqA,sqB,sqC])
      obtain ⟨v2,hv2⟩:∃ x,x=v1.setCell ⟨pb,y,none⟩ (.int .i64 (F k:Nat)):=⟨_,rfl⟩
      have HS2:Hid (SrAt v2 pb n lb N key (swK F k y)/\But pb w v2):=by
       rw [hv2,HV1.out]
       exact ⟨HR0.out.swap hXn hYn hXYn,(HB0.out.trans (But.set _ _)).trans (But.set _ _)⟩
      rw [<- hv2];clear hv2
      refine dnR ?_
      go_wp2
      go_roundw
      case rel=>exact ⟨y,_,_,rfl,by first|rfl|(have:=HY.out;congr 1;omega),by have:=HY.out;omega,by have:=HY.out;omega,Lib.hid ⟨HROW.out,HS2.out.1,HS2.out.2⟩⟩
      case measure=>have:=HY.out;simp [intOf];omega
    ·have d2:decide (i<k)=false:=decide_eq_false hlt2
     have HF:Hid (MgAt w pb n lb N key f a b (.returned (.tuple #[])) wq):=⟨rfl,_,HMG.out,(by
      have e:=HJ.out.1
      rw [show k=i by omega,<- HM.out] at e
      rw [<- e]
      exact HJ.out.2.1),HJ.out.2.2⟩
     go_wp2
     first|go_end0|go_ret
     exact HF.out
end
end Go.Proofs.YtfekhdgjgjodlaaGreat
