/-
  Words and contracts that a statement's proof rests on (BkE, SlotB, KeyC, SlotC, BuN, BuO, BkF, BkG, BkH, BkJ, MoS). No statement is proved here.
-/
import Derived.Deep.RegionHeld3
import Derived.Test.YtfekhdgjgjodlaaGreatKeyA
import Derived.Test.YtfekhdgjgjodlaaGreatBuB
import Derived.Test.YtfekhdgjgjodlaaGreatBuC
import Derived.Test.YtfekhdgjgjodlaaGreatBkD
import Derived.Test.YtfekhdgjgjodlaaGreatPtB
import Derived.Test.YtfekhdgjgjodlaaGreatBkI
set_option linter.unusedVariables false
set_option linter.unusedSimpArgs false
namespace Go.Proofs.YtfekhdgjgjodlaaGreat
section
open Go.RowKit
theorem stRows:ST Tryz.prog 184 187 (.slice none 0 0) 1 24:=ST.mk Tryz.underlying184 (by kernel_rfl) rfl (by omega) (by omega)
theorem znj {w:World} {M:Nat} {e:TypeId}:(w.alloc (.cells (mkC (.slice none 0 0) 1 M) e)).rowIs w.heap.size e M (fun _=>.slice none 0 0):=by
 have h:=World.rowIs_made w (.slice none 0 0) M e;unfold mkC;rw [Nat.mul_one]
 exact h
theorem own_nils {w:World} {M:Nat} {T:TypeId} (hM:M<=maxLen):za3 (w.alloc (.cells (mkC (.agg #[.bool false,.int .i64 0,.int .u64 0,.int .i64 0,.bool false,.int .u32 0]) 6 M) T)) T w.heap.size (.slice (some ⟨w.heap.size,0,none⟩) M M) M (fun _=>pl0) :=
 ⟨_,M,rfl,Nat.le_refl _,hM,fun _=>⟨w.heap.size,_,rfl,Nat.le_refl _,zfy,fun _ _=>rfl⟩⟩
set_option maxRecDepth 20000 in
set_option maxHeartbeats 12800000 in
theorem book_New (S B n:Nat) (hS:1<=S/\S<=8) (hB:1<=B/\B<=16) (hn:1<=n/\n<=8) (w:World) :
  Calls Tryz.prog 79 #[.agg #[.int .i64 (S:Nat),.int .i64 (B:Nat),.int .i64 (n:Nat)]] w fun e w'=>∃ p q,e=.returned (.tuple #[.pointer (some ⟨p,0,none⟩),.int .i64 0]) /\
   BkAt w' (fun b=>b<=p) p q S B n (fun _ _=>pl0)/\w.heap.size<=p/\w.heap.size<=q/\q<p/\Below w.heap.size w w':=by
 obtain ⟨M,hM⟩:∃ M,M=S*B:=⟨_,rfl⟩
 have hMB:M<=128:=by rw [hM];exact Nat.mul_le_mul hS.2 hB.2
 have hM1:1<=M:=by rw [hM];exact Nat.mul_pos hS.1 hB.1
 have hmul:(S:Int)*(B:Int)=(M:Int):=by rw [hM];simp
 have hmw:wrap64 ((S:Int)*(B:Int))=(M:Int):=by rw [hmul];exact IntWalk.wrap64_in _ (by omega)
 have hmw3:IntKind.i64.wrap ((S:Int)*(B:Int))=(M:Int):=by rw [hmul];exact IntWalk.i64_in _ (by omega)
 have hr:=fun W=>zha (S:Int) (B:Int) (n:Int) W
 have hy:zct (S:Int) (B:Int) (n:Int)=true:=by unfold zct inB;simp;omega
 rw [hy] at hr;have HR:=Lib.hid hr;have HM:=Lib.hid hM
 have hk1:=fun W=>zby (P:=Tryz.prog) W stRows M (by omega)
 have hk2:=fun W=>zby (P:=Tryz.prog) W zl0 n (by omega)
 clear hr hy hM hmul
 go_enter Tryz.func79,Tryz.ntmps79
 go_wp2_with fail
 refine (HR.out _).mono ?_
 rintro e w1 ⟨rfl,hb⟩
 have HB1:Hid (Below w.heap.size w w1):=Below.trans ((Below.refl _ _).alloc (Nat.le_refl _) _) (hb.mono (by simp))
 have s0:w1.cell? ⟨w.heap.size,0,none⟩=some (.int .i64 (S:Nat)):=by rw [(zao hb).1 _ _ (by simp)];simp [go_sem]
 have s1:w1.cell? ⟨w.heap.size,1,none⟩=some (.int .i64 (B:Nat)):=by rw [(zao hb).1 _ _ (by simp)];simp [go_sem]
 have s2:w1.cell? ⟨w.heap.size,2,none⟩=some (.int .i64 (n:Nat)):=by rw [(zao hb).1 _ _ (by simp)];simp [go_sem]
 have hz1:w.heap.size+1<=w1.heap.size:=by have:=hb.size;simpa using this
 clear hb HR
 go_wp2_with fail
 refine wp_region_held_drew (S:=fun w'=>w'.cell? ⟨w.heap.size,0,none⟩=some (.int .i64 (S:Nat))/\w'.cell? ⟨w.heap.size,1,none⟩=some (.int .i64 (B:Nat))/\w'.cell? ⟨w.heap.size,2,none⟩=some (.int .i64 (n:Nat))) (by kernel_rfl) ?_ (fun hHeld=>?_)
 ·exact ⟨s0,s1,s2⟩
 refine tk 0 ?_;refine tk 1 ?_;refine tk 2 ?_;refine tk 3 ?_;refine tk 4 ?_;refine tk 5 ?_
 refine clR 6 rfl fun K hK=>?_
 go_simp
 refine hK.out _ _ ?_ (fun hHeld=>?_)
 ·(try dsimp only)
  obtain ⟨q0,q1,q2⟩:=hHeld
  exact ⟨(World.cell?_alloc_lt _ _ _ (by show w.heap.size<w1.heap.size;omega)).trans q0,(World.cell?_alloc_lt _ _ _ (by show w.heap.size<w1.heap.size;omega)).trans q1,(World.cell?_alloc_lt _ _ _ (by show w.heap.size<w1.heap.size;omega)).trans q2⟩
 clear hK K;refine tk 7 ?_
 refine clR 8 rfl fun K hK=>?_
 go_simp
 refine hK.out _ _ ?_ (fun hHeld=>?_)
 ·(try dsimp only)
  obtain ⟨q0,q1,q2⟩:=hHeld
  exact ⟨(World.cell?_alloc_lt _ _ _ (by show w.heap.size<_;simp;omega)).trans q0,(World.cell?_alloc_lt _ _ _ (by show w.heap.size<_;simp;omega)).trans q1,(World.cell?_alloc_lt _ _ _ (by show w.heap.size<_;simp;omega)).trans q2⟩
 clear hK K;refine tk 9 ?_
 refine dnR ?_
 obtain ⟨q,hq⟩:∃ q,q=w1.heap.size:=⟨_,rfl⟩;obtain ⟨p,hp⟩:∃ p,p=w1.heap.size+1:=⟨_,rfl⟩;obtain ⟨w2,hw2⟩:∃ w2,w2=((w1.alloc (.cells (mkC (.slice none 0 0) 1 M) 187)).alloc (.cells #[.int .i64 (S:Nat),.int .i64 (B:Nat),.int .i64 (n:Nat),.slice (some ⟨q,0,none⟩) M M] 186)).drew:=⟨_,rfl⟩
 have HQ0:Hid (w2.rowIs q 187 M (fun _=>.slice none 0 0)):=by rw [hw2,hq];exact (znj.alloc _).drew
 have HP0:Hid (w2.cell? ⟨p,0,none⟩=some (.int .i64 (S:Nat))/\w2.cell? ⟨p,1,none⟩=some (.int .i64 (B:Nat))/\w2.cell? ⟨p,2,none⟩=some (.int .i64 (n:Nat))/\w2.cell? ⟨p,3,none⟩=some (.slice (some ⟨q,0,none⟩) M M)/\w2.cell? ⟨w.heap.size,2,none⟩=some (.int .i64 (n:Nat))):=by
  rw [hw2,hp]
  refine ⟨by simp [go_sem],by simp [go_sem],by simp [go_sem],by simp [go_sem],?_⟩
  exact (World.cell?_alloc_lt _ _ _ (by show w.heap.size<_;simp;omega)).trans ((World.cell?_alloc_lt _ _ _ (by show w.heap.size<_;omega)).trans s2)
 have HB2:Hid (Below w.heap.size w w2):=by rw [hw2];exact ((HB1.out.alloc (by omega) _).alloc (by simp;omega) _).drew
 have hp2:p<w2.heap.size:=by rw [hw2,hp];simp
 have hpq:q+1=p:=by rw [hp,hq]
 have hqw:w.heap.size<q:=by rw [hq];omega
 rw [<- hp,<- hq,<- hw2];clear hw2 hq hp hHeld s0 s1 s2 hk1 hmw hmw3 HB1 hz1;obtain ⟨t0,t1,t2,t3,t4⟩:=HP0.out
 go_wp2
 clear t0 t1 t2 t3 t4
 go_loopw [23] (fun i wr=>∃ (k:Nat) (G:Nat->Value),k<=M/\i=.int .i64 k/\p<wr.heap.size/\Hid (wr.rowIs q 187 M G)/\Hid (∀ i,i<k->za9 wr (fun b=>b<=p) (G i) n (fun _=>pl0))/\Hid (wr.cell? ⟨p,0,none⟩=some (.int .i64 (S:Nat))/\wr.cell? ⟨p,1,none⟩=some (.int .i64 (B:Nat))/\wr.cell? ⟨p,2,none⟩=some (.int .i64 (n:Nat))/\wr.cell? ⟨p,3,none⟩=some (.slice (some ⟨q,0,none⟩) M M)/\wr.cell? ⟨w.heap.size,2,none⟩=some (.int .i64 (n:Nat)))/\Hid (Below w.heap.size w wr)) (fun i _=>M - (intOf i).toNat)
 case atStart=>exact ⟨0,_,by omega,rfl,hp2,HQ0,fun i hi=>absurd hi (by omega),HP0,HB2⟩
 case round =>
  obtain ⟨k,G,hk,rfl,hpz,HQ,HR,HP,HB⟩:=hrel;obtain ⟨t0,t1,t2,t3,t4⟩:=HP.out
  by_cases hlt:k<M
  ·have g0:(0:Int)<=(k:Int):=Int.natCast_nonneg _
   have g1:(k:Int)<(M:Int):=by omega
   go_wp2_with fail
   refine wp_region_held_drew (S:=fun w'=>w'.cell? ⟨p,3,none⟩=some (.slice (some ⟨q,0,none⟩) M M)/\w'.cell? ⟨w.heap.size,2,none⟩=some (.int .i64 (n:Nat))) (by kernel_rfl) ?_ (fun hHeld=>?_)
   ·exact ⟨t3,t4⟩
   obtain ⟨v0,hv0⟩:∃ w',w'=wr.drew:=⟨_,rfl⟩
   have hvz:v0.heap.size=wr.heap.size:=by rw [hv0];rfl
   have hvb:Below wr.heap.size wr v0:=by rw [hv0];exact (Below.refl _ _).drew
   rw [<- hv0] at hHeld |-;clear hv0;obtain ⟨gb,hgb⟩:∃ g',g'=wr.heap.size:=⟨_,rfl⟩;obtain ⟨v1,hv1⟩:∃ w',w'=v0.alloc (.cells (mkC (.agg #[.bool false,.int .i64 0,.int .u64 0,.int .i64 0,.bool false,.int .u32 0]) 6 n) 195):=⟨_,rfl⟩
   have HO:Hid (za3 v1 195 wr.heap.size (.slice (some ⟨gb,0,none⟩) n n) n (fun _=>pl0)):=by rw [hv1,hgb,<- hvz];exact own_nils (by unfold maxLen;omega)
   have hb1:Below wr.heap.size wr v1:=by rw [hv1];exact hvb.alloc (by omega) _
   have HQ1:Hid (v1.rowIs q 187 M G):=HQ.out.of_block (hb1.block q (by omega))
   have y1:(v0.alloc (.cells (mkC (.agg #[.bool false,.int .i64 0,.int .u64 0,.int .i64 0,.bool false,.int .u32 0]) 6 n) 195)).cell? ⟨q,k,none⟩=some (G k):=by rw [<- hv1];exact HQ1.out.cell hlt
   have y2:∀ i,(v0.alloc (.cells (mkC (.agg #[.bool false,.int .i64 0,.int .u64 0,.int .i64 0,.bool false,.int .u32 0]) 6 n) 195)).frozen? ⟨q,i,none⟩=false:=fun i=>by rw [<- hv1];exact HQ1.out.frozen i
   refine tk 0 ?_;refine tk 1 ?_;refine tk 2 ?_;refine tk 3 ?_;refine tk 4 ?_;refine tk 5 ?_;refine tk 6 ?_
   refine clR 7 rfl fun K hK=>?_
   go_simp
   refine hK.out _ _ ?_ (fun hHeld=>?_)
   ·(try dsimp only)
    obtain ⟨q0,q1⟩:=hHeld
    exact ⟨(World.cell?_alloc_lt _ _ _ (by show p<v0.heap.size;omega)).trans q0,(World.cell?_alloc_lt _ _ _ (by show w.heap.size<v0.heap.size;omega)).trans q1⟩
   clear hK K;refine tk 8 ?_
   refine clR 9 rfl fun K hK=>?_
   go_simp
   refine hK.out _ _ ?_ (fun hHeld=>?_)
   ·(try dsimp only)
    obtain ⟨q0,q1⟩:=hHeld;have hz1:=hb1.size
    exact ⟨((But.set k _).cell (show p<(v0.alloc _).heap.size by rw [World.size_alloc];omega) (show p≠q by omega)).trans q0,((But.set k _).cell (show w.heap.size<(v0.alloc _).heap.size by rw [World.size_alloc];omega) (show w.heap.size≠q by omega)).trans q1⟩
   clear hK K
   (try simp only [Act.put,sqA,sqB,sqC])
   refine dnR ?_
   obtain ⟨v2,hv2⟩:∃ w',w'=v1.setCell ⟨q,k,none⟩ (.slice (some ⟨gb,0,none⟩) n n):=⟨_,rfl⟩
   have hbut:But q wr v2:=by rw [hv2];exact (But.of hb1 (by omega)).trans (But.set k _)
   have HQ2:Hid (v2.rowIs q 187 M (fun j=>if j=k then .slice (some ⟨gb,0,none⟩) n n else G j)):=by rw [hv2];exact HQ1.out.set k _
   have HR2:Hid (∀ i,i<k+1->za9 v2 (fun b=>b<=p) ((fun j=>if j=k then .slice (some ⟨gb,0,none⟩) n n else G j) i) n (fun _=>pl0)):=fun i hi=>by
    by_cases hik:i=k
    ·show za9 v2 _ (if i=k then _ else _) n _
     rw [if_pos hik,hv2]
     exact (za9.of_own (D:=fun b=>b<=p) HO.out (fun b hb=>by show b<wr.heap.size;have:b<=p:=hb;omega)).but (But.set k _) (by show q<=p;omega)
    ·show za9 v2 _ (if i=k then _ else _) n _
     rw [if_neg hik]
     exact (HR.out i (by omega)).but hbut (by show q<=p;omega)
   have c2:=hbut.below.size
   have HP2:Hid (v2.cell? ⟨p,0,none⟩=some (.int .i64 (S:Nat))/\v2.cell? ⟨p,1,none⟩=some (.int .i64 (B:Nat))/\v2.cell? ⟨p,2,none⟩=some (.int .i64 (n:Nat))/\v2.cell? ⟨p,3,none⟩=some (.slice (some ⟨q,0,none⟩) M M)/\v2.cell? ⟨w.heap.size,2,none⟩=some (.int .i64 (n:Nat))) :=
    ⟨(hbut.cell (show p<_ by omega) (show p≠q by omega)).trans t0,(hbut.cell (show p<_ by omega) (show p≠q by omega)).trans t1,(hbut.cell (show p<_ by omega) (show p≠q by omega)).trans t2,(hbut.cell (show p<_ by omega) (show p≠q by omega)).trans t3,(hbut.cell (show w.heap.size<_ by omega) (show w.heap.size≠q by omega)).trans t4⟩
   have HB3:Hid (Below w.heap.size w v2):=HB.out.trans (hbut.below.mono (by omega))
   try rw [<- hgb]
   try rw [<- hv1]
   rw [<- hv2]
   have hpz2:p<v2.heap.size:=by omega
   clear hv1 hv2 hgb hHeld y1 y2 HO HQ1 HQ HR HP HB hbut hb1 hvb hvz t0 t1 t2 t3 t4
   go_wp2
   go_roundw
   case rel=>exact ⟨k+1,_,by omega,by go_num,hpz2,HQ2,HR2,HP2,HB3⟩
   case measure=>simp [intOf];omega
  ·have hkM:M=k:=by omega
   subst hkM
   go_wp2
   refine bodyPost_ret (v:=.tuple #[.pointer (some ⟨p,0,none⟩),.int .i64 0]) (by simp [results,Tryz.results79,go_sem]) rfl ⟨p,q,rfl,?_,by omega,by omega,by omega,HB.out⟩
   have hcap:M<=maxLen:=by unfold maxLen;omega
   refine ⟨hpz,by omega,by omega,t0,t1,t2,⟨M,by rw [<- HM.out];exact Nat.le_refl _,hcap,?_⟩,HQ.out.frozen,fun i hi=>?_⟩
   ·rw [<- HM.out];exact t3
   ·rw [<- HM.out] at hi
    exact ⟨_,HQ.out.cell hi,HR.out i hi⟩
end
section
open Go.RowKit
end
section
open Go.RowKit
set_option maxHeartbeats 400000 in
theorem law8_To (v m:Int) (w:World) :
  Calls Tryz.prog 49 #[.agg #[.int .i64 v,.int .u64 m]] w (Says (.agg #[.int .i64 v,.int .u64 m]) w):=by
 go_enter Tryz.func49,Tryz.ntmps49
 go_wp2
 exact bodyPost_ret (v:=.agg #[.int .i64 v,.int .u64 m]) (by simp [results,Tryz.results49,go_sem]) rfl ⟨rfl,(by (repeat' (first|(with_reducible exact Below.refl _ _)|(with_reducible assumption)|(with_reducible refine Below.setCell ?_ ?_ _)|(with_reducible refine Below.alloc ?_ ?_ _)|go_size)))⟩
set_option maxHeartbeats 400000 in
theorem zpg (v m:Int) (w:World) :
  Calls Tryz.prog 64 #[.agg #[.int .i64 v,.int .u64 m]] w (Says (.agg #[.int .i64 v,.int .u64 m]) w):=by
 go_enter Tryz.func64,Tryz.ntmps64
 go_wp2
 exact bodyPost_ret (v:=.agg #[.int .i64 v,.int .u64 m]) (by simp [results,Tryz.results64,go_sem]) rfl ⟨rfl,(by (repeat' (first|(with_reducible exact Below.refl _ _)|(with_reducible assumption)|(with_reducible refine Below.setCell ?_ ?_ _)|(with_reducible refine Below.alloc ?_ ?_ _)|go_size)))⟩
end
section
open Go.RowKit
end
section
open Go.RowKit
end
section
open Go.RowKit
end
section
open Go.RowKit
end
section
open Go.RowKit
def R1:Nat->Pl:=(putF (fun _=>ownP pl0) ⟨1,2,3,false,5⟩ 5 1).1
def R2:Nat->Pl:=(putF (fun i=>ownP (R1 i)) ⟨1,4,1,false,6⟩ 6 1).1
def g1:Nat->Nat->Pl:=updR (fun _ _=>pl0) 0 R1
def g2:Nat->Nat->Pl:=updR g1 0 R2
end
section
open Go.RowKit
set_option maxHeartbeats 800000 in
theorem law11_To (a b c:Int) (w:World) :
  Calls Tryz.prog 31 #[.agg #[.int .i64 a,.int .i64 b,.int .i64 c]] w (Says (.agg #[.int .i64 a,.int .i64 b,.int .i64 c]) w):=by
 go_enter Tryz.func31,Tryz.ntmps31
 go_wp2
 exact bodyPost_ret (v:=.agg #[.int .i64 a,.int .i64 b,.int .i64 c]) (by simp [results,Tryz.results31,go_sem]) rfl ⟨rfl,(by (repeat' (first|(with_reducible exact Below.refl _ _)|(with_reducible refine Below.setCell ?_ ?_ _)|(with_reducible refine Below.alloc ?_ ?_ _)|go_size)))⟩
set_option maxHeartbeats 6400000 in
theorem zkl (a b c:Int) (w:World) :
  Calls Tryz.prog 60 #[.agg #[.int .i64 a,.int .i64 b,.int .i64 c]] w (Says (.bool (zct a b c)) w):=by
 unfold zct inB
 by_cases h1:1<=a
 ·have d1:decide (1<=a)=true:=by simpa using h1
  by_cases h2:a<=8
  ·have d2:decide (a<=8)=true:=by simpa using h2
   by_cases h3:1<=b
   ·have d3:decide (1<=b)=true:=by simpa using h3
    by_cases h4:b<=16
    ·have d4:decide (b<=16)=true:=by simpa using h4
     by_cases h5:1<=c
     ·have d5:decide (1<=c)=true:=by simpa using h5
      by_cases h6:c<=8
      ·have d6:decide (c<=8)=true:=by simpa using h6
       rw [d1,d2,d3,d4,d5,d6];clear d1 d2 d3 d4 d5 d6
       go_enter Tryz.func60,Tryz.ntmps60
       go_wp2
       go_ret
       exact ⟨by simp,(Below.refl _ _).alloc (Nat.le_refl _) _⟩
      ·have d6:decide (c<=8)=false:=by simpa using h6
       rw [d1,d2,d3,d4,d5,d6];clear d1 d2 d3 d4 d5 d6
       go_enter Tryz.func60,Tryz.ntmps60
       go_wp2
       go_ret
       exact ⟨by simp,(Below.refl _ _).alloc (Nat.le_refl _) _⟩
     ·have d5:decide (1<=c)=false:=by simpa using h5
      rw [d1,d2,d3,d4,d5];clear d1 d2 d3 d4 d5
      go_enter Tryz.func60,Tryz.ntmps60
      go_wp2
      go_ret
      exact ⟨by simp,(Below.refl _ _).alloc (Nat.le_refl _) _⟩
    ·have d4:decide (b<=16)=false:=by simpa using h4
     rw [d1,d2,d3,d4];clear d1 d2 d3 d4
     go_enter Tryz.func60,Tryz.ntmps60
     go_wp2
     go_ret
     exact ⟨by simp,(Below.refl _ _).alloc (Nat.le_refl _) _⟩
   ·have d3:decide (1<=b)=false:=by simpa using h3
    rw [d1,d2,d3];clear d1 d2 d3
    go_enter Tryz.func60,Tryz.ntmps60
    go_wp2
    go_ret
    exact ⟨by simp,(Below.refl _ _).alloc (Nat.le_refl _) _⟩
  ·have d2:decide (a<=8)=false:=by simpa using h2
   rw [d1,d2];clear d1 d2
   go_enter Tryz.func60,Tryz.ntmps60
   go_wp2
   go_ret
   exact ⟨by simp,(Below.refl _ _).alloc (Nat.le_refl _) _⟩
 ·have d1:decide (1<=a)=false:=by simpa using h1
  rw [d1];clear d1
  go_enter Tryz.func60,Tryz.ntmps60
  go_wp2
  go_ret
  exact ⟨by simp,(Below.refl _ _).alloc (Nat.le_refl _) _⟩
end
section
open Go.RowKit
def flR (a b:Int) (f:Nat->Pl):Nat->Pl:=zci (fun i=>ownP (f i)) (hitE a b)
def flN (a b:Int) (f:Nat->Pl) (n:Nat):Nat:=zbq (fun i=>ownP (f i)) (hitE a b) n
def flC (a b:Int) (g:Nat->Nat->Pl) (n:Nat):Nat->Nat
 |0=>0
 |k+1=>flC a b g n k+flN a b (g k) n
def flG (a b:Int) (g:Nat->Nat->Pl) (k j:Nat):Nat->Pl:=if j<k then flR a b (g j) else g j
theorem zqq (a b:Int) (g:Nat->Nat->Pl) (n:Nat):∀ k,flC a b g n k<=k*n
 |0=>by simp [flC]
 |k+1=>by
  have h1:=zqq a b g n k
  have h2:flN a b (g k) n<=n:=zdr _ _ n
  rw [flC,Nat.add_mul]
  omega
theorem BkAt.congr {w:World} {D:Nat->Prop} {p q S B n:Nat} {g g':Nat->Nat->Pl} (h:BkAt w D p q S B n g) (hg:∀ i,i<S*B->g i=g' i):BkAt w D p q S B n g':=by
 obtain ⟨h0,h1,h2,h3,h4,h5,h6,h9,h10⟩:=h
 refine ⟨h0,h1,h2,h3,h4,h5,h6,h9,fun i hi=>?_⟩
 obtain ⟨v,hv,hr⟩:=h10 i hi
 exact ⟨v,hv,by rw [<- hg i hi];exact hr⟩
theorem add_in {c d:Nat} (h:c+d<=1024):wrap64 ((c:Int)+(d:Int))=((c+d:Nat):Int)/\IntKind.i64.wrap ((c:Int)+(d:Int))=((c+d:Nat):Int):=by
 have e:(c:Int)+(d:Int)=((c+d:Nat):Int):=by simp
 rw [e]
 exact ⟨IntWalk.wrap64_in _ (by omega),IntWalk.i64_in _ (by omega)⟩
set_option maxRecDepth 20000 in
set_option maxHeartbeats 6400000 in
theorem zmt {w:World} {D:Nat->Prop} {p q S B n:Nat} {g:Nat->Nat->Pl} (h:BkAt w D p q S B n g) (hD:∀ b,D b->b<w.heap.size) (hq:D q) (hS:1<=S/\S<=8) (hB:1<=B/\B<=16) (hn:n<=8) (a b:Int) :
  Calls Tryz.prog 89 #[.pointer (some ⟨p,0,none⟩),.agg #[.int .i64 a,.int .i64 b]] w fun e w' =>
   e=.returned (.int .i64 (flC a b g n (S*B):Nat))/\BkAt w' D p q S B n (flG a b g (S*B))/\But q w w':=by
 obtain ⟨M,hM⟩:∃ M,M=S*B:=⟨_,rfl⟩
 have hMB:M<=128:=by rw [hM];exact Nat.mul_le_mul hS.2 hB.2
 have HF:=Lib.hid fun f w u (hr:zar w w.heap.size u n f)=>zil (show n<=1000000 by omega) hr (Nat.le_refl _) a b
 change Hid (∀ f w u (hr:zar w w.heap.size u n f),Calls Tryz.prog 113 #[u,.agg #[.int .i64 a,.int .i64 b]] w (zdf 195 n (flR a b f) (fun u=>.tuple #[u,.int .i64 (flN a b f n:Nat)]) w)) at HF
 have HBK:=Lib.hid h;have HM:=Lib.hid hM;have HD:=Lib.hid hD
 have HLE:=Lib.hid fun k=>zqq a b g n k
 obtain ⟨hp,hq0,hpq,_,_,_,⟨cap,c1,c2,s2⟩,_,_⟩:=h;rw [<- hM] at c1 s2;unfold maxLen at c2
 have k3:∀ o,(w.alloc o).cell? ⟨p,3,none⟩=some (.slice (some ⟨q,0,none⟩) M cap):=fun o=>(World.cell?_alloc_lt _ _ _ (by show p<_;omega)).trans s2
 rw [<- hM];have HK3:=Lib.hid k3;clear hM hD s2
 go_enter Tryz.func89,Tryz.ntmps89
 go_wp2
 clear k3
 go_loopw [5,17] (fun gone i wr=>∃ k:Nat,k<=M/\i=.int .i64 k/\gone=.int .i64 (flC a b g n k:Nat)/\Hid (BkAt wr D p q S B n (flG a b g k))/\Hid (But q w wr)/\Hid (wr.cell? ⟨w.heap.size,0,none⟩=some (.int .i64 a)/\wr.cell? ⟨w.heap.size,1,none⟩=some (.int .i64 b)/\wr.cell? ⟨p,3,none⟩=some (.slice (some ⟨q,0,none⟩) M cap)/\w.heap.size<wr.heap.size)) (fun _ i _=>M - (intOf i).toNat)
 case atStart=>exact ⟨0,by omega,rfl,rfl,(HBK.out.call ((Below.refl _ _).alloc (Nat.le_refl _) _)).congr fun i _=>by unfold flG;rw [if_neg (by omega)],But.of ((Below.refl _ _).alloc (Nat.le_refl _) _) (by omega),by simp [go_sem],by simp [go_sem],HK3.out _,by simp⟩
 case round =>
  obtain ⟨k,hk,rfl,rfl,HBW,HBT,HX⟩:=hrel;obtain ⟨x0,x1,x3,xz⟩:=HX.out
  by_cases hlt:k<M
  ·have g0:(0:Int)<=(k:Int):=Int.natCast_nonneg _
   have g1:(k:Int)<(M:Int):=by omega
   obtain ⟨hp',hq',_,_,_,_,_,hfz,hrows⟩:=HBW.out
   obtain ⟨v0,s3,hrow⟩:=hrows k (by rw [<- HM.out];exact hlt)
   have hgk:flG a b g k k=g k:=by unfold flG;rw [if_neg (by omega)]
   rw [hgk] at hrow;have hle:=HLE.out k;have hle2:=HLE.out (k+1)
   have hkn:(k+1)*n<=1024:=by
    have:(k+1)*n<=128*8:=Nat.mul_le_mul (by omega) hn
    omega
   have hc1:flC a b g n (k+1)=flC a b g n k+flN a b (g k) n:=rfl
   have HROW:=Lib.hid hrow.row
   have HNXG:Hid (∀ i,updR (flG a b g k) k (flR a b (g k)) i=flG a b g (k+1) i):=fun i=>by
    unfold updR flG
    by_cases h1:i=k
    ·subst h1;rw [if_pos rfl,if_pos (by omega)]
    ·rw [if_neg h1]
     by_cases h2:i<k
     ·rw [if_pos h2,if_pos (by omega)]
     ·rw [if_neg h2,if_neg (by omega)]
   have HFK:=Lib.hid (HF.out (g k));obtain ⟨c,hc⟩:∃ c,c=flC a b g n k:=⟨_,rfl⟩;obtain ⟨c',hc'⟩:∃ c',c'=flN a b (g k) n:=⟨_,rfl⟩;rw [<- hc,<- hc'] at hc1;rw [<- hc'] at HFK;rw [<- hc];have HC1:=Lib.hid hc1
   have hsum:c+c'<=1024:=by omega
   obtain ⟨hadd,hadd3⟩:=add_in hsum;clear hrow hrows hgk hle hle2 hkn hc1 hc hc'
   go_wp2_with fail
   refine Calls.mono (HFK.out _ _ HROW.out) ?_
   intro e w4 hpost;obtain ⟨va,he,hra,hb⟩:=hpost;subst he;have HRA:=Lib.hid hra;obtain ⟨Av,cv,hva,_⟩:=hra;subst hva;have HBK4:=Lib.hid (HBW.out.call hb);have s4:=(hb.cell (p:=⟨q,k,none⟩) hq').trans s3
   have f4:∀ o,w4.frozen? ⟨q,o,none⟩=false:=HBK4.out.2.2.2.2.2.2.2.1
   have y0:=(hb.cell (p:=⟨w.heap.size,0,none⟩) xz).trans x0;have y1:=(hb.cell (p:=⟨w.heap.size,1,none⟩) xz).trans x1;have y3:=(hb.cell (p:=⟨p,3,none⟩) hp').trans x3;have hz4:=hb.size
   have HBT4:Hid (But q w w4):=HBT.out.trans (But.of hb (by omega))
   have hwr:=HBT.out.below.size
   have HST:Hid (∀ v,But q w4 (w4.setCell ⟨q,k,none⟩ v)):=fun v=>But.set k v
   have HPUT:Hid (BkAt (w4.setCell ⟨q,k,none⟩ (.slice Av n cv)) D p q S B n (flG a b g (k+1))) :=
    (HBK4.out.put (by rw [<- HM.out];exact hlt) (za9.of_own HRA.out fun b hb=>by have:=HD.out b hb;omega) hq).congr fun i _=>HNXG.out i
   clear hb HRA HROW HFK s3 x0 x1 x3 HNXG HBW HBT
   go_wp2
   go_roundw
   case rel =>
    refine ⟨k+1,by omega,by go_num,(by rw [HC1.out];first|rfl|(simp;done)),HPUT,HBT4.out.trans (HST.out _),?_⟩
    exact ⟨((HST.out _).cell (show w.heap.size<_ by omega) (show w.heap.size≠q by omega)).trans y0,((HST.out _).cell (show w.heap.size<_ by omega) (show w.heap.size≠q by omega)).trans y1,((HST.out _).cell (show p<_ by omega) hpq).trans y3,by rw [World.size_setCell];omega⟩
   case measure=>simp [intOf];omega
  ·have hkM:M=k:=by omega
   subst hkM
   go_wp2
   go_ret
   exact ⟨rfl,HBW.out,HBT.out⟩
end
section
open Go.RowKit
set_option maxHeartbeats 1600000 in
theorem zp4 (a b c:Int) (S B n:Nat) (h1:wrap64 (1+wrap64 ((IntKind.u64.wrap a).tmod ((8:Nat):Int)))=(S:Int)) (h2:wrap64 (1+wrap64 ((IntKind.u64.wrap b).tmod ((16:Nat):Int)))=(B:Int)) (h3:wrap64 (1+wrap64 ((IntKind.u64.wrap c).tmod ((8:Nat):Int)))=(n:Int)) (w:World) :
  Calls Tryz.prog 20 #[.agg #[.int .i64 a,.int .i64 b,.int .i64 c]] w (Says (.agg #[.int .i64 (S:Nat),.int .i64 (B:Nat),.int .i64 (n:Nat)]) w):=by
 rw [show ((8:Nat):Int)=8 from rfl] at h1 h3
 rw [show ((16:Nat):Int)=16 from rfl] at h2
 go_enter Tryz.func20,Tryz.ntmps20
 go_wp2
 exact bodyPost_ret (v:=.agg #[.int .i64 (S:Nat),.int .i64 (B:Nat),.int .i64 (n:Nat)]) (by simp [results,Tryz.results20,go_sem]) rfl ⟨rfl,(by (repeat' (first|(with_reducible exact Below.refl _ _)|(with_reducible refine Below.setCell ?_ ?_ _)|(with_reducible refine Below.alloc ?_ ?_ _)|go_size)))⟩
end
end Go.Proofs.YtfekhdgjgjodlaaGreat
