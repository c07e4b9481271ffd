/-
  Words and contracts that a statement's proof rests on (MoV, MoD, MoQ, SrC). No statement is proved here.
-/
import Derived.Deep.RegionHeld3
import Derived.Deep.RegionLaw
import Derived.Test.YtfekhdgjgjodlaaGreatVlanG
import Derived.Test.YtfekhdgjgjodlaaGreatKeyA
import Derived.Test.YtfekhdgjgjodlaaGreatBkC
import Derived.Test.YtfekhdgjgjodlaaGreatPtB
import Derived.Test.YtfekhdgjgjodlaaGreatSrB
set_option linter.unusedVariables false
set_option linter.unusedSimpArgs false
namespace Go.Proofs.YtfekhdgjgjodlaaGreat
section
open Go.RowKit
theorem Sl.litN (w:World) (cs:Array Value) (e:TypeId) (n size:Nat) (hs:cs.size=n*size) (hm:n<=maxLen):Sl (w.alloc (.cells cs e)) (w.heap.size+1) size (.slice (some ⟨w.heap.size,0,none⟩) n n) n cs.toList:=by
 refine ⟨by simpa using hs,_,n,rfl,Nat.le_refl _,hm,fun _=>⟨w.heap.size,0,rfl,by omega,fun j hj=>?_⟩⟩
 simp [go_sem]
theorem keep3 {w w':World} {b o1 o2 o3:Nat} {v1 v2 v3:Value} (h:w.cell? ⟨b,o1,none⟩=some v1/\w.cell? ⟨b,o2,none⟩=some v2/\w.cell? ⟨b,o3,none⟩=some v3) (hk:∀ p:Addr,p.block=b->w'.cell? p=w.cell? p) :
  w'.cell? ⟨b,o1,none⟩=some v1/\w'.cell? ⟨b,o2,none⟩=some v2/\w'.cell? ⟨b,o3,none⟩=some v3 :=
 ⟨(hk _ rfl).trans h.1,(hk _ rfl).trans h.2.1,(hk _ rfl).trans h.2.2⟩
theorem zoc:ST Tryz.prog 38 135 (.agg #[.int .i64 0,.int .u64 0,.int .u64 0]) 3 24:=ST.mk Tryz.underlying38 (by kernel_rfl) rfl (by omega) (by omega)
theorem stVls3:ST Tryz.prog 23 88 (.agg #[.int .i64 0,.int .u64 0,.int .u64 0]) 3 24:=ST.mk Tryz.underlying23 (by kernel_rfl) rfl (by omega) (by omega)
set_option maxHeartbeats 1600000 in
theorem law3_To {l:List Vl} {n:Nat} {v:Value} {w:World} {B:Nat} (hn:n<=20) (hv:Sl w B 3 v n (vlc l)) (hB:B<=w.heap.size) :
  Calls Tryz.prog 30 #[v] w fun e w'=>∃ u,e=.returned u/\w'.ownsRow w.heap.size 135 3 u n (vlc l)/\Below w.heap.size w w':=by
 by_cases hn0:0<n
 ·obtain ⟨b,off,cap,rfl,hcap,hmx,hb,hlen,hcell⟩:=hv.vlAt hn0
  unfold maxLen at hmx;have HC:=Lib.hid hcell;have HL:=Lib.hid hlen;clear hv hcell hlen
  go_enter Tryz.func30,Tryz.ntmps30
  go_wp2
  go_loopw [3,4] (fun o i wr=>∃ k:Nat,k<=n/\i=.int .i64 k/\Hid (wr.ownsRow w.heap.size 135 3 o k (vlc (l.take k)))/\Hid (Below w.heap.size w wr)) (fun _ i _=>n - (intOf i).toNat)
  case atStart=>exact ⟨0,by omega,rfl,⟨by simp [vlc],.inl ⟨rfl,rfl⟩⟩,Below.refl _ _⟩
  case round =>
   rename_i o _ _
   obtain ⟨k,hk,rfl,HO,HBW⟩:=hrel
   rename_i wr _
   by_cases hlt:k<n
   ·obtain ⟨c0,c1,c2⟩:=HC.out k hlt
    have hbw:=(zao HBW.out).1
    have e0:=(hbw b (off+k*3) (by omega)).trans c0
    have e1:=(hbw b (off+k*3+1) (by omega)).trans c1
    have e2:=(hbw b (off+k*3+2) (by omega)).trans c2
    obtain ⟨x,hx⟩:∃ x,x=l.getD k vl0:=⟨_,rfl⟩;rw [<- hx] at e0 e1 e2
    have HX:Hid (vlc (l.take k) ++ [.int .i64 x.vid,.int .u64 (x.mem:Nat),.int .u64 (x.unt:Nat)]=vlc (l.take (k+1))):=by
     have hkl:k<l.length:=by have:=HL.out;omega
     show _=_
     rw [List.take_succ_eq_append_getElem hkl,ze2,hx]
     simp [vlc,Vl.cells,List.getD_eq_getElem?_getD,List.getElem?_eq_getElem hkl]
    have g0:(0:Int)<=(k:Int):=Int.natCast_nonneg _
    have g1:(k:Int)<(n:Int):=by omega
    have hzw:=HBW.out.size;clear hbw c0 c1 c2 hx HC
    go_wp2
    have hbr:b<wr.heap.size:=by omega
    have hbw:b<w.heap.size:=by omega
    go_region_held3 (fun w'=>w'.cell? ⟨b,off+k*3,none⟩=some (.int .i64 x.vid)/\w'.cell? ⟨b,off+k*3+1,none⟩=some (.int .u64 (x.mem:Nat))/\w'.cell? ⟨b,off+k*3+2,none⟩=some (.int .u64 (x.unt:Nat)))
     (first|(with_reducible exact keep3 (by assumption) (fun p hp=>hbel2.cell (by rw [hp];exact hbw)))|(with_reducible exact keep3 (by assumption) (fun p hp=>World.cell?_alloc_lt _ _ _ (by rw [hp];exact hbr)))|go_keep)
     ((refine zam _ (by rfl) zoc _ _ (by rfl) w.heap.size u3 k _ (by rfl) ((HO.out.alloc _).drew) (wr.heap.size+1) _ 1 [.int .i64 x.vid,.int .u64 (x.mem:Nat),.int .u64 (x.unt:Nat)] (by rfl) ((Sl.litN wr #[.int .i64 x.vid,.int .u64 (x.mem:Nat),.int .u64 (x.unt:Nat)] _ 1 3 rfl (by decide)).drew) (by simp [Value.oneCell']) (by omega) (by simp;omega) ?_;intro v2 w2 hown2 hgr2 hat2 hbel2))
    all_goals
     rw [HX.out] at hown2;have HO2:=Lib.hid hown2;have HB2:=Lib.hid ((HBW.out.alloc hzw (.cells #[.int .i64 x.vid,.int .u64 (x.mem:Nat),.int .u64 (x.unt:Nat)] 135)).drew.trans hbel2);clear hown2 hgr2 hat2 hbel2
     go_wp2
     go_roundw
     case rel=>exact ⟨k+1,by omega,by go_num,HO2.out,HB2.out⟩
     case measure=>simp [intOf];omega
   ·have:k=n:=by omega
    subst this
    go_wp2
    go_ret
    refine ⟨_,rfl,?_,HBW.out⟩
    have:=HO.out
    rw [List.take_of_length_le (by have:=HL.out;omega)] at this
    exact this
 ·obtain rfl:n=0:=by omega
  have hl:l=[]:=List.eq_nil_of_length_eq_zero hv.vlLen
  subst hl;obtain ⟨A,cap,rfl,hcap,hmx⟩:=hv.form;clear hv hn0
  go_enter Tryz.func30,Tryz.ntmps30
  go_wp2
  go_loopw [3,4] (fun o i wr=>i=.int .i64 0/\o=.slice none 0 0/\wr=w) (fun _ _ _=>0)
  case atStart=>exact ⟨rfl,rfl,rfl⟩
  case round =>
   obtain ⟨rfl,rfl,rfl⟩:=hrel
   go_wp2
   go_ret
   exact ⟨_,rfl,World.ownsRow_nil _ _ _ _,Below.refl _ _⟩
end
section
open Go.RowKit
set_option maxRecDepth 20000 in
set_option maxHeartbeats 3200000 in
theorem zlb {w:World} {B n:Nat} {v:Value} {xs:List Value} (hn:n<=1000000) (hv:Sl w B 3 v n xs) (hone:∀ u∈xs,u.oneCell'=true) (hB:B<=w.heap.size) :
  Calls Tryz.prog 78 #[v] w fun e w'=>∃ u,e=.returned u/\w'.ownsRow w.heap.size 135 3 u n xs/\Below w.heap.size w w':=by
 have HS:=Lib.hid hv;obtain ⟨A,cap,rfl,h1,h2⟩:=hv.form;have HONE:=Lib.hid hone
 cases A with
 |none =>
  have hn0:n=0:=by
   rcases Nat.eq_zero_or_pos n with h|h
   ·exact h
   ·obtain ⟨b,off,c,e,_⟩:=hv.at_ h
    cases e
  subst hn0
  have hx:xs=[]:=by have:=hv.len;simpa using this
  subst hx;clear hv h1 h2 HS HONE hone
  have hnil:=fun (W:World)=>Lib.run_eql_slice_nil (P:=Tryz.prog) W 38 135 none 0 cap 0 0 Tryz.underlying38
  go_enter Tryz.func78,Tryz.ntmps78
  go_wp2_with fail
  go_ret
  exact ⟨_,rfl,⟨by simp,.inl (by simp)⟩,Below.refl _ _⟩
 |some a =>
  clear hv h2 hone
  have hnil:=fun (W:World)=>Lib.run_eql_slice_nil (P:=Tryz.prog) W 38 135 (some a) n cap 0 0 Tryz.underlying38
  go_enter Tryz.func78,Tryz.ntmps78
  go_wp2_with (first
   |(at_builtin;refine zcm _ rfl zoc _ _ rfl w.heap.size (.slice (some ⟨w.heap.size,0,none⟩) 0 0) 0 [] rfl ⟨by simp,.inr ⟨w.heap.size,0,#[],rfl,Nat.le_refl _,heap_alloc_new w _,Nat.le_refl _,by simp [maxLen],by simp,by simp⟩⟩ B _ n xs rfl (HS.out.below (by (repeat' (first|(with_reducible exact Below.refl _ _)|(with_reducible refine Below.alloc ?_ ?_ _)|go_size)))) HONE.out (by omega) (by go_size) ?_;intro A2 c2 w9 hown2 hgr2 hat2 hbel2;clear hgr2 hat2))
  have HO0:w9.ownsRow w.heap.size 135 3 (.slice A2 n c2) n xs:=by simpa using hown2
  have HO:=Lib.hid HO0;clear HO0;have HB9:Hid (Below w.heap.size w w9):=Below.trans ((Below.refl _ _).alloc (Nat.le_refl _) _) hbel2;clear hown2 hbel2
  go_wp2
  go_ret
  exact ⟨_,by first|rfl|(simp;done),HO.out,HB9.out⟩
end
section
open Go.RowKit
theorem infoInt:(Tryz.prog.info? 3).map (fun i=>(i.zero,i.size,i.bytes))=some (some (.int .i64 0),1,8):=by kernel_rfl
def zgt:List Value->Nat->List Value->List Value
 |xs,_,[]=>xs
 |xs,o,v :: vs=>zgt (xs.set o v) (o+1) vs
theorem zio:∀ (vs xs:List Value) (o j:Nat),j<o->(zgt xs o vs)[j]?=xs[j]?
 |[],xs,o,j,_=>rfl
 |v :: vs,xs,o,j,h=>by
  unfold zgt
  rw [zio vs _ _ _ (by omega),List.getElem?_set_ne (by omega)]
theorem zlx:∀ (vs xs:List Value) (o j:Nat),j<vs.length->o+j<xs.length->(zgt xs o vs)[o+j]?=vs[j]?
 |[],xs,o,j,h,_=>by simp at h
 |v :: vs,xs,o,0,h,h2=>by
  unfold zgt
  rw [zio vs _ _ _ (by omega)]
  simp only [Nat.add_zero] at h2 |-
  rw [List.getElem?_set_self h2]
  rfl
 |v :: vs,xs,o,j+1,h,h2=>by
  unfold zgt
  rw [show o+(j+1)=o+1+j by omega,zlx vs _ _ _ (by simpa using h) (by rw [List.length_set];omega)]
  rfl
theorem zlq {L n cap b:Nat} {e:TypeId}:∀ (vs:List Value) (o:Nat) (w:World) (xs:List Value),w.ownsRow L e 1 (.slice (some ⟨b,0,none⟩) n cap) n xs->(w.setCells b o vs).ownsRow L e 1 (.slice (some ⟨b,0,none⟩) n cap) n (zgt xs o vs)
 |[],_,_,_,h=>h
 |v :: vs,o,w,xs,h=>zlq vs (o+1) _ _ (h.stored o v).1
theorem own_cut {w:World} {L n cap b:Nat} {e:TypeId} {xs:List Value} (h:w.ownsRow L e 1 (.slice (some ⟨b,0,none⟩) (n+1) cap) (n+1) xs):w.ownsRow L e 1 (.slice (some ⟨b,0,none⟩) n cap) n (xs.take n):=by
 refine ⟨by have:=h.1;rw [List.length_take];omega,?_⟩
 rcases h.2 with hn|⟨g,cap',cur,hv,hb,hg,hnc,hcm,hcs,ht⟩
 ·cases hn.1
 ·simp only [Value.slice.injEq,Option.some.injEq,Addr.mk.injEq,and_true,true_and] at hv
  obtain ⟨rfl,rfl⟩:=hv
  refine .inr ⟨b,cap,cur,rfl,hb,hg,by omega,hcm,hcs,?_⟩
  rw [<- ht,List.take_take]
  congr 1
  omega
theorem But.setCells {q:Nat}:∀ (vs:List Value) (o:Nat) (w:World),But q w (w.setCells q o vs)
 |[],_,w=>⟨Below.refl _ _,fun _ _ _=>rfl⟩
 |v :: vs,o,w=>(But.set o v).trans (But.setCells vs (o+1) _)
set_option maxRecDepth 100000 in
set_option maxHeartbeats 1600000 in
theorem ziu {w:World} {L n cap b:Nat} {x:Int} {l:List Int} (hown:w.ownsRow L 3 1 (.slice (some ⟨b,0,none⟩) (n+1) cap) (n+1) (kv .i64 (x :: l))) :
  Calls Tryz.prog 115 #[.slice (some ⟨b,0,none⟩) (n+1) cap,.int .i64 0,.int .i64 1] w fun e w'=>e=.returned (.slice (some ⟨b,0,none⟩) n cap)/\w'.ownsRow L 3 1 (.slice (some ⟨b,0,none⟩) n cap) n (kv .i64 l)/\But b w w':=by
 obtain ⟨i0,hi0,hz0,hz1,hz2⟩:=info_parts infoInt
 obtain ⟨hnc,hcm⟩:n+1<=cap/\cap<=maxLen:=by
  rcases hown.2 with hn|⟨g,cap',cur,hv,hb,hg,hnc,hcm,hcs,ht⟩
  ·cases hn.1
  ·simp only [Value.slice.injEq,Option.some.injEq,Addr.mk.injEq,and_true,true_and] at hv
   obtain ⟨rfl,rfl⟩:=hv
   exact ⟨hnc,hcm⟩
 unfold maxLen at hcm
 have hlen:(kv .i64 (x :: l)).length=n+1:=by have:=hown.1;omega
 have hl:(kv .i64 l).length=n:=by simp [kv] at hlen |-;omega
 have hc:∀ j,j<n+1->w.cell? ⟨b,j,none⟩=(kv .i64 (x :: l))[j]?:=fun j hj=>hown.cellAt j (by omega)
 have hf:∀ j,w.frozen? ⟨b,j,none⟩=false:=fun j=>hown.frozenAt j
 obtain ⟨A,hA,hnews⟩:∃ A:Addr,(if cap=1 then some (⟨b,0,none⟩:Addr) else some ⟨b,1,none⟩)=some A/\Hid (∀ j u,(kv .i64 l)[j]?=some u->w.drew.cell? (A.add j)=some u):=by
  by_cases h:cap=1
  ·refine ⟨⟨b,0,none⟩,by simp [h],fun j u hu=>?_⟩
   have h0:(kv .i64 l).length=0:=by omega
   rw [List.length_eq_zero_iff.1 h0] at hu
   simp at hu
  ·refine ⟨⟨b,1,none⟩,by simp [h],fun j u hu=>?_⟩
   have hj:j<n:=by
    have:=(List.getElem?_eq_some_iff.1 hu).1
    omega
   rw [Addr.add_lit,show 1+j=j+1 by omega]
   exact (hc (j+1) (by omega)).trans (by rw [<- hu];rfl)
 have s1:Hid ((kv .i64 l).length=n*1):=by show _=_;omega
 have s2:Hid (∀ u∈kv .i64 l,u.oneCell'=true):=by
  intro u hu;obtain ⟨y,_,rfl⟩:=List.mem_map.1 hu
  rfl
 have s3:Hid (∀ j,j<(kv .i64 l).length->(w.drew.cell? ⟨b,0+0*1+j,none⟩).isSome=true/\w.drew.frozen? ⟨b,0+0*1+j,none⟩=false):=by
  intro j hj
  rw [show 0+0*1+j=j by omega]
  refine ⟨?_,hf j⟩
  show (w.cell? _).isSome=true
  rw [hc j (by omega),List.getElem?_eq_getElem (show j<(kv .i64 (x :: l)).length by omega)]
  rfl
 obtain ⟨X,hX⟩:∃ X,X=kv .i64 l:=⟨_,rfl⟩;have HOWN:=Lib.hid hown;rw [<- hX] at hnews s1 s2 s3;have HX:=Lib.hid hX;have HL:=Lib.hid hl
 have hp1:(1:Int)<=(n:Int)+1:=by omega
 have hp2:(n:Int)<=(n:Int)+1:=by omega
 have hp3:¬ cap=n:=by omega
 clear hc hf hown hl hlen hX
 go_enter Tryz.func115,Tryz.ntmps115
 go_wp2_with fail
 go_region_law (refine step_append_room rfl (.tmp 22) (.tmp 25) 47 rfl 3 i0 1 Tryz.underlying47 hi0 hz1 b 0 0 cap (by simp [Act.eval,Act.put]) A n (cap - 1) X (by simp [Act.eval,Act.put]) s1.out hnews.out s2.out (by omega) s3.out ?_)
 obtain ⟨w2,hw2⟩:∃ z,z=w.drew.setCells b 0 X:=⟨_,rfl⟩
 have HO2:Hid (w2.ownsRow L 3 1 (.slice (some ⟨b,0,none⟩) (n+1) cap) (n+1) (zgt (kv .i64 (x :: l)) 0 X)):=by
  rw [hw2]
  exact zlq X 0 _ _ (zac HOWN.out (Below.refl _ _).drew)
 have HB2:Hid (But b w w2):=by
  rw [hw2]
  exact (But.of (Below.refl _ _).drew (by have:=(HOWN.out.lt b rfl).2;omega)).trans (But.setCells X 0 _)
 obtain ⟨yl,y1⟩:∃ y,w2.cell? ⟨b,n,none⟩=some y:=by
  have h1:=HO2.out.cellAt n (by omega)
  rw [List.getElem?_eq_getElem (show n<(zgt (kv .i64 (x :: l)) 0 X).length by have:=HO2.out.1;omega)] at h1
  exact ⟨_,h1⟩
 have f1:w2.frozen? ⟨b,n,none⟩=false:=HO2.out.frozenAt n
 rw [<- hw2];clear hw2 hA hnews s1 s2 s3
 have hy1:∀ j,j<1->(w2.cell? ⟨b,n+j,none⟩).isSome=true:=fun j hj=>by
  obtain rfl:j=0:=by omega
  rw [Nat.add_zero,y1]
  rfl
 have hy2:∀ j,j<1->w2.frozen? ⟨b,n+j,none⟩=false:=fun j hj=>by
  obtain rfl:j=0:=by omega
  exact f1
 have hcl:(Builtin.clear_ #[47] 0 #[.slice (some ⟨b,n,none⟩) 1 (cap - n)]).run Tryz.prog w2=.ok (.tuple #[]) (w2.setCell ⟨b,n,none⟩ (.int .i64 0)) :=
  Lib.run_clear_slice w2 47 3 0 (.int .i64 0) Tryz.underlying47 (fun w=>by kernel_rfl) rfl rfl b n 1 (cap - n) (by omega) hy1 hy2
 clear hy1 hy2
 go_wp2
 go_ret
 have h3:=own_cut (HO2.out.stored n (.int .i64 0)).1
 have hx:((zgt (kv .i64 (x :: l)) 0 X).set n (.int .i64 0)).take n=kv .i64 l:=by
  have hX:=HX.out;have hl:=HL.out
  apply List.ext_getElem?
  intro j
  by_cases hj:j<n
  ·rw [List.getElem?_take,if_pos hj,List.getElem?_set_ne (by omega)]
   have:=zlx X (kv .i64 (x :: l)) 0 j (by rw [hX];omega) (by have:=HOWN.out.1;omega)
   rw [Nat.zero_add] at this;rw [this,hX]
  ·rw [List.getElem?_take,if_neg hj,List.getElem?_eq_none (by omega)]
 rw [hx] at h3
 exact ⟨by first|rfl|(simp;done),h3,HB2.out.trans (But.set n _)⟩
end
section
open Go.RowKit
section
variable {w w':World} {pb n cp lb N a b:Nat} {key:Nat->Int} {f:Nat->Nat}
theorem ziq {x y:Int} (h:x<y):decide (cmpN x y<0)=true:=decide_eq_true ((zlm x y).2 h)
theorem ziw {x y:Int} (h:¬ x<y):decide (cmpN x y<0)=false:=decide_eq_false (fun e=>h ((zlm x y).1 e))
set_option maxRecDepth 20000 in
set_option maxHeartbeats 6400000 in
theorem zl8 (h:SrAt w pb n lb N key f) (hn:n<=1000000) (hab:a<=b) (hb:b<=n) (hst:StK key f a b) :
  Calls Tryz.prog 96 #[.slice (some ⟨pb,0,none⟩) n cp,.int .i64 (a:Nat),.int .i64 (b:Nat),(.func (.func 35) #[] #[.pointer (some ⟨lb,0,none⟩)])] w fun e w'=>e=.returned (.tuple #[])/\∃ f',MgK key f f' a b/\SrAt w' pb n lb N key f'/\But pb w w':=by
 have HS:=Lib.hid h;have HST:=Lib.hid hst;clear h hst
 go_enter Tryz.func96,Tryz.ntmps96
 go_wp2
 go_loopw [8] (fun iv wr=>∃ (k:Nat) (f1:Nat->Nat) (wx:World),wx=wr/\iv=.int .i64 k/\a<k/\(k<=b\/k=a+1)/\Hid (SdK key f1 a k/\StK key f1 a b/\ImK f f1 a b/\SrAt wr pb n lb N key f1/\But pb w wr)) (fun iv _=>b+1 - (intOf iv).toNat)
 case atStart=>exact ⟨a+1,f,_,rfl,by go_num,by omega,by omega,fun p q p1 p2 p3=>absurd p3 (by omega),HST.out,ImK.refl _ _ _,HS.out,But.of (Below.refl _ _) (Nat.le_of_lt HS.out.lt)⟩
 case round =>
  obtain ⟨k,f1,wr,rfl,rfl,hak,hkb,HO⟩:=hrel
  by_cases hlt:k<b
  ·have d1:decide (k<b)=true:=decide_eq_true hlt
   go_wp2
   go_loopw [9] (fun jv wr2=>∃ (j:Nat) (F:Nat->Nat) (wx:World),wx=wr2/\jv=.int .i64 j/\a<=j/\j<=k/\Hid (InK key F a k j/\StK key F a b/\ImK f F a b/\SrAt wr2 pb n lb N key F/\But pb w wr2)) (fun jv _=>(intOf jv).toNat)
   case atStart=>exact ⟨k,f1,_,rfl,rfl,by omega,by omega,InK.start HO.out.1 (by omega),HO.out.2⟩
   case round =>
    obtain ⟨j,F,wq,rfl,rfl,hja,hjk,HI⟩:=hrel
    by_cases hgt:a<j
    ·obtain ⟨t,ht⟩:∃ t,j=t+1:=⟨j - 1,by omega⟩
     have HT:Hid (j=t+1):=ht
     have d2:decide (a<j)=true:=decide_eq_true hgt
     have s1:IntKind.i64.wrap ((j:Int) - 1)=(t:Int):=by rw [IntKind.wrap_i64];omega
     have hjn:j<n:=by omega
     have htn:t<n:=by omega
     have htj:j≠t:=by omega
     clear ht
     by_cases hk:key (F j)<key (F t)
     ·have hc:=ziq hk
      have HK:=Lib.hid hk;clear hk
      go_wp2_with fail
      have c1:=HI.out.2.2.2.1.row.cell (i:=j) (by omega)
      have c2:=HI.out.2.2.2.1.row.cell (i:=t) (by omega)
      refine wp_region_held_drew (S:=fun w'=>w'.cell? ⟨pb,j,none⟩=some (.int .i64 (F j:Nat))/\w'.cell? ⟨pb,t,none⟩=some (.int .i64 (F t:Nat))) (by kernel_rfl) ?_ (fun hHeld=>?_)
      ·exact ⟨c1,c2⟩
      obtain ⟨v0,hv0⟩:∃ w',w'=wq.drew:=⟨_,rfl⟩
      have hvb:Below wq.heap.size wq v0:=by rw [hv0];exact (Below.refl _ _).drew
      have HR0:=Lib.hid (HI.out.2.2.2.1.call hvb)
      have HCC:=Lib.hid (za6 HR0.out.mks (F j) (F t) (HR0.out.mem _ (by omega)) (HR0.out.mem _ (by omega)))
      rw [<- hv0] at hHeld |-;clear hv0 c1 c2;refine tk 0 ?_;refine tk 1 ?_;refine tk 2 ?_;refine tk 3 ?_;refine tk 4 ?_;refine tk 5 ?_;refine tk 6 ?_;refine tk 7 ?_;refine tk 8 ?_;refine tk 9 ?_;refine tk 10 ?_;refine tk 11 ?_;refine tk 12 ?_;refine tk 13 ?_
      refine clR 14 rfl fun K hK=>?_
      go_simp
      refine Calls.mono HCC.out ?_
      rintro e w1 ⟨rfl,hb1⟩;have hb01:Below wq.heap.size wq w1:=hvb.trans (hb1.mono hvb.size);have HSR:=Lib.hid (HI.out.2.2.2.1.call hb01);have HBU:Hid (But pb w w1):=HI.out.2.2.2.2.trans (But.of hb01 (Nat.le_of_lt HI.out.2.2.2.1.lt))
      have c1:=HSR.out.row.cell (i:=j) (by omega)
      have c2:=HSR.out.row.cell (i:=t) (by omega)
      clear hb1 hb01
      refine hK.out _ _ ?_ (fun hHeld=>?_)
      ·(try dsimp only)
       exact ⟨c1,c2⟩
      clear hK K;refine tk 15 ?_;refine tk 16 ?_
      refine dnR ?_
      clear hHeld hvb c1 c2 HCC HR0
      have HIN:Hid (InK key (swK F j t) a k t/\StK key (swK F j t) a b/\ImK f (swK F j t) a b):=by
       have e:t=j - 1:=by have:=HT.out;omega
       have hk:=HK.out;rw [e] at hk |-
       exact ⟨HI.out.1.swap hgt hjk hk,HI.out.2.1.swap hgt (by omega) hk,HI.out.2.2.1.trans (swK_im hja (by omega) (by omega) (by omega))⟩
      have HI:Hid (True/\SrAt w1 pb n lb N key F/\But pb w w1):=⟨trivial,HSR.out,HBU.out⟩;clear HSR HBU HK hc;have hXn:j<n:=hjn;have hYn:t<n:=htn;have hXYn:j≠t:=htj
      go_wp2_with fail
      refine wp_region_held_drew (S:=fun w'=>True) (by kernel_rfl) ?_ (fun hHeld=>?_)
      ·trivial
      obtain ⟨v0,hv0⟩:∃ w',w'=w1.drew:=⟨_,rfl⟩
      have hvb:Below w1.heap.size w1 v0:=by rw [hv0];exact (Below.refl _ _).drew
      have HR0:=Lib.hid (HI.out.2.1.call hvb);have HB0:Hid (But pb w v0):=HI.out.2.2.trans (But.of hvb (Nat.le_of_lt HI.out.2.1.lt));have cX:=HR0.out.row.cell hXn;have cY:=HR0.out.row.cell hYn;have fX:=HR0.out.row.frozen j;rw [<- hv0];clear hHeld;have hHeld:True:=trivial;clear hv0 hvb;refine tk 0 ?_;refine tk 1 ?_;refine tk 2 ?_;refine tk 3 ?_;refine tk 4 ?_;refine tk 5 ?_;refine tk 6 ?_;refine tk 7 ?_;refine tk 8 ?_;refine tk 10 ?_;refine tk 11 ?_;refine tk 12 ?_
      refine wpAnyH_ready (rs:=[9,13]) (by kernel_rfl) (by simp) ?_
      refine (acR rfl (fun K hK=>?_) (acR rfl (fun K hK=>?_) AllReadyH.nil))
      ·go_simp
       refine hK.out _ _ ?_ (fun hHeld=>?_)
       ·(try dsimp only)
        (try trivial)
       clear hK K
       (try simp only [Act.put,sqA,sqB,sqC])
       refine wpAnyH_ready (rs:=[13]) (by kernel_rfl) (by simp) ?_
       refine ac1 rfl fun K hK=>?_
       go_simp
       refine hK.out _ _ ?_ (fun hHeld=>?_)
       ·(try dsimp only)
        (try trivial)
       clear hK K;refine tk 14 ?_
       refine wpAnyH_ready (rs:=[15]) (by kernel_rfl) (by simp) ?_
       refine ac1 rfl fun K hK=>?_
       go_simp
       refine hK.out _ _ ?_ (fun hHeld=>?_)
       ·(try dsimp only)
        (try trivial)
       clear hK K
       (try simp only [Act.put,sqA,sqB,sqC])
       obtain ⟨v1,hv1⟩:∃ x,x=v0.setCell ⟨pb,j,none⟩ (.int .i64 (F t:Nat)):=⟨_,rfl⟩
       have cY1:v1.cell? ⟨pb,t,none⟩=some (.int .i64 (F t:Nat)):=by rw [hv1];exact ((HR0.out.row.set j _).cell hYn).trans (by show some (if t=j then _ else _)=_;rw [if_neg (Ne.symm hXYn)])
       have fY1:v1.frozen? ⟨pb,t,none⟩=false:=by rw [hv1];exact (HR0.out.row.set j _).frozen _
       have HV1:=Lib.hid hv1;rw [<- hv1];clear hv1;refine tk 16 ?_
       refine wpAnyH_ready (rs:=[17]) (by kernel_rfl) (by simp) ?_
       refine ac1 rfl fun K hK=>?_
       go_simp
       refine hK.out _ _ ?_ (fun hHeld=>?_)
       ·(try dsimp only)
        (try trivial)
       clear hK K
       (try simp only [Act.put,sqA,sqB,sqC])
       obtain ⟨v2,hv2⟩:∃ x,x=v1.setCell ⟨pb,t,none⟩ (.int .i64 (F j:Nat)):=⟨_,rfl⟩
       have HS2:Hid (SrAt v2 pb n lb N key (swK F j t)/\But pb w v2):=by
        rw [hv2,HV1.out]
        exact ⟨HR0.out.swap hXn hYn hXYn,(HB0.out.trans (But.set _ _)).trans (But.set _ _)⟩
       rw [<- hv2];clear hv2
       refine dnR ?_
       go_wp2
       go_roundw
       case rel=>exact ⟨t,_,_,rfl,by first|rfl|(have:=HT.out;congr 1;omega),by have:=HT.out;omega,by have:=HT.out;omega,Lib.hid ⟨HIN.out.1,HIN.out.2.1,HIN.out.2.2,HS2.out.1,HS2.out.2⟩⟩
       case measure=>have:=HT.out;simp [intOf];omega
      ·go_simp
       refine hK.out _ _ ?_ (fun hHeld=>?_)
       ·(try dsimp only)
        (try trivial)
       clear hK K
       (try simp only [Act.put,sqA,sqB,sqC])
       refine wpAnyH_ready (rs:=[9]) (by kernel_rfl) (by simp) ?_
       refine ac1 rfl fun K hK=>?_
       go_simp
       refine hK.out _ _ ?_ (fun hHeld=>?_)
       ·(try dsimp only)
        (try trivial)
       clear hK K;refine tk 14 ?_
       refine wpAnyH_ready (rs:=[15]) (by kernel_rfl) (by simp) ?_
       refine ac1 rfl fun K hK=>?_
       go_simp
       refine hK.out _ _ ?_ (fun hHeld=>?_)
       ·(try dsimp only)
        (try trivial)
       clear hK K
       (try simp only [Act.put,sqA,sqB,sqC])
       obtain ⟨v1,hv1⟩:∃ x,x=v0.setCell ⟨pb,j,none⟩ (.int .i64 (F t:Nat)):=⟨_,rfl⟩
       have cY1:v1.cell? ⟨pb,t,none⟩=some (.int .i64 (F t:Nat)):=by rw [hv1];exact ((HR0.out.row.set j _).cell hYn).trans (by show some (if t=j then _ else _)=_;rw [if_neg (Ne.symm hXYn)])
       have fY1:v1.frozen? ⟨pb,t,none⟩=false:=by rw [hv1];exact (HR0.out.row.set j _).frozen _
       have HV1:=Lib.hid hv1;rw [<- hv1];clear hv1;refine tk 16 ?_
       refine wpAnyH_ready (rs:=[17]) (by kernel_rfl) (by simp) ?_
       refine ac1 rfl fun K hK=>?_
       go_simp
       refine hK.out _ _ ?_ (fun hHeld=>?_)
       ·(try dsimp only)
        (try trivial)
       clear hK K
       (try simp only [Act.put,sqA,sqB,sqC])
       obtain ⟨v2,hv2⟩:∃ x,x=v1.setCell ⟨pb,t,none⟩ (.int .i64 (F j:Nat)):=⟨_,rfl⟩
       have HS2:Hid (SrAt v2 pb n lb N key (swK F j t)/\But pb w v2):=by
        rw [hv2,HV1.out]
        exact ⟨HR0.out.swap hXn hYn hXYn,(HB0.out.trans (But.set _ _)).trans (But.set _ _)⟩
       rw [<- hv2];clear hv2
       refine dnR ?_
       go_wp2
       go_roundw
       case rel=>exact ⟨t,_,_,rfl,by first|rfl|(have:=HT.out;congr 1;omega),by have:=HT.out;omega,by have:=HT.out;omega,Lib.hid ⟨HIN.out.1,HIN.out.2.1,HIN.out.2.2,HS2.out.1,HS2.out.2⟩⟩
       case measure=>have:=HT.out;simp [intOf];omega
     ·have hc:=ziw hk
      have HK:=Lib.hid hk;clear hk
      go_wp2_with fail
      have c1:=HI.out.2.2.2.1.row.cell (i:=j) (by omega)
      have c2:=HI.out.2.2.2.1.row.cell (i:=t) (by omega)
      refine wp_region_held_drew (S:=fun w'=>w'.cell? ⟨pb,j,none⟩=some (.int .i64 (F j:Nat))/\w'.cell? ⟨pb,t,none⟩=some (.int .i64 (F t:Nat))) (by kernel_rfl) ?_ (fun hHeld=>?_)
      ·exact ⟨c1,c2⟩
      obtain ⟨v0,hv0⟩:∃ w',w'=wq.drew:=⟨_,rfl⟩
      have hvb:Below wq.heap.size wq v0:=by rw [hv0];exact (Below.refl _ _).drew
      have HR0:=Lib.hid (HI.out.2.2.2.1.call hvb)
      have HCC:=Lib.hid (za6 HR0.out.mks (F j) (F t) (HR0.out.mem _ (by omega)) (HR0.out.mem _ (by omega)))
      rw [<- hv0] at hHeld |-;clear hv0 c1 c2;refine tk 0 ?_;refine tk 1 ?_;refine tk 2 ?_;refine tk 3 ?_;refine tk 4 ?_;refine tk 5 ?_;refine tk 6 ?_;refine tk 7 ?_;refine tk 8 ?_;refine tk 9 ?_;refine tk 10 ?_;refine tk 11 ?_;refine tk 12 ?_;refine tk 13 ?_
      refine clR 14 rfl fun K hK=>?_
      go_simp
      refine Calls.mono HCC.out ?_
      rintro e w1 ⟨rfl,hb1⟩;have hb01:Below wq.heap.size wq w1:=hvb.trans (hb1.mono hvb.size);have HSR:=Lib.hid (HI.out.2.2.2.1.call hb01);have HBU:Hid (But pb w w1):=HI.out.2.2.2.2.trans (But.of hb01 (Nat.le_of_lt HI.out.2.2.2.1.lt))
      have c1:=HSR.out.row.cell (i:=j) (by omega)
      have c2:=HSR.out.row.cell (i:=t) (by omega)
      clear hb1 hb01
      refine hK.out _ _ ?_ (fun hHeld=>?_)
      ·(try dsimp only)
       exact ⟨c1,c2⟩
      clear hK K;refine tk 15 ?_;refine tk 16 ?_
      refine dnR ?_
      clear hHeld hvb c1 c2 HCC HR0
      have HEN:Hid (SdK key F a (k+1)):=InK.end HI.out.1 hja hjk (.inr (by have e:j - 1=t:=(by have:=HT.out;omega);rw [e];have:=HK.out;omega))
      clear HK hc
      go_wp2
      go_roundw
      case rel=>exact ⟨k+1,F,_,rfl,by go_num,by omega,by omega,Lib.hid ⟨HEN.out,HI.out.2.1,HI.out.2.2.1,HSR.out,HBU.out⟩⟩
      case measure=>simp [intOf];omega
    ·have d2:decide (a<j)=false:=decide_eq_false hgt
     obtain rfl:j=a:=by omega
     have HEN:Hid (SdK key F j (k+1)):=InK.end HI.out.1 hja hjk (.inl rfl)
     go_wp2_with fail
     refine wp_region_held_drew (S:=fun w'=>True) (by kernel_rfl) ?_ (fun hHeld=>?_)
     ·trivial
     obtain ⟨v0,hv0⟩:∃ w',w'=wq.drew:=⟨_,rfl⟩
     have hvb:Below wq.heap.size wq v0:=by rw [hv0];exact (Below.refl _ _).drew
     rw [<- hv0];clear hv0;refine tk 0 ?_;refine tk 1 ?_;refine tk 2 ?_;refine tk 3 ?_;refine skR 4 rfl ?_;refine skR 5 rfl ?_;refine skR 6 rfl ?_;refine skR 7 rfl ?_;refine skR 8 rfl ?_;refine skR 9 rfl ?_;refine skR 10 rfl ?_;refine skR 11 rfl ?_;refine skR 12 rfl ?_;refine skR 13 rfl ?_;refine skR 14 rfl ?_;refine skR 15 rfl ?_;refine tk 16 ?_
     refine dnR ?_
     have HSR:=Lib.hid (HI.out.2.2.2.1.call hvb);have HBU:Hid (But pb w v0):=HI.out.2.2.2.2.trans (But.of hvb (Nat.le_of_lt HI.out.2.2.2.1.lt));clear hHeld hvb
     go_wp2
     go_roundw
     case rel=>exact ⟨k+1,F,_,rfl,by go_num,by omega,by omega,Lib.hid ⟨HEN.out,HI.out.2.1,HI.out.2.2.1,HSR.out,HBU.out⟩⟩
     case measure=>simp [intOf];omega
  ·have d1:decide (k<b)=false:=decide_eq_false hlt
   have HF:Hid (∃ f',MgK key f f' a b/\SrAt wr pb n lb N key f'/\But pb w wr):=⟨f1,⟨HO.out.2.2.1,HO.out.1.mono (Nat.le_refl _) (by omega),HO.out.2.1⟩,HO.out.2.2.2.1,HO.out.2.2.2.2⟩
   go_wp2
   go_end0
   exact ⟨rfl,HF.out⟩
end
end
end Go.Proofs.YtfekhdgjgjodlaaGreat
