/-
  Words and contracts that a statement's proof rests on (BkA, BkB, BkC). No statement is proved here.
-/
import Derived.Deep.RegionHeld3
import Derived.Test.YtfekhdgjgjodlaaGreatKeyA
import Derived.Test.YtfekhdgjgjodlaaGreatBuH
import Derived.Test.YtfekhdgjgjodlaaGreatBuI
import Derived.Test.YtfekhdgjgjodlaaGreatPtB
set_option linter.unusedVariables false
set_option linter.unusedSimpArgs false
namespace Go.Proofs.YtfekhdgjgjodlaaGreat
section
open Go.RowKit
def za9 (w:World) (D:Nat->Prop) (v:Value) (n:Nat) (f:Nat->Pl):Prop :=
 ∃ A cap,v=.slice A n cap/\n<=cap/\cap<=maxLen/\(0<n->∃ b off,A=some ⟨b,off,none⟩/\b<w.heap.size/\¬ D b/\∀ j,j<n->zcg w b (off+j*6) (f j))
theorem za9.row {w:World} {D:Nat->Prop} {v:Value} {n:Nat} {f:Nat->Pl} (h:za9 w D v n f):zar w w.heap.size v n f:=by
 obtain ⟨A,cap,hv,h1,h2,h3⟩:=h
 refine ⟨A,cap,hv,h1,h2,fun hn=>?_⟩
 obtain ⟨b,off,e,hb,_,hc⟩:=h3 hn
 exact ⟨b,off,e,hb,hc⟩
theorem za9.of_own {w:World} {D:Nat->Prop} {T:TypeId} {B n:Nat} {v:Value} {f:Nat->Pl} (h:za3 w T B v n f) (hD:∀ b,D b->b<B):za9 w D v n f:=by
 obtain ⟨A,cap,hv,h1,h2,h3⟩:=h
 refine ⟨A,cap,hv,h1,h2,fun hn=>?_⟩
 obtain ⟨g,F,e,hg,hr,hF⟩:=h3 hn
 exact ⟨g,0,e,hr.lt,fun hd=>by have:=hD g hd;omega,fun j hj=>by rw [Nat.zero_add];exact zdu hr (by omega) hF hj⟩
theorem za9.but {w w':World} {D:Nat->Prop} {v:Value} {n q:Nat} {f:Nat->Pl} (h:za9 w D v n f) (hb:But q w w') (hq:D q):za9 w' D v n f:=by
 obtain ⟨A,cap,hv,h1,h2,h3⟩:=h
 refine ⟨A,cap,hv,h1,h2,fun hn=>?_⟩
 obtain ⟨b,off,e,hbb,hd,hc⟩:=h3 hn
 exact ⟨b,off,e,Nat.lt_of_lt_of_le hbb hb.below.size,hd,fun j hj=>(hc j hj).keep fun p hp=>hb.cell (by rw [hp];exact hbb) (by rw [hp];intro e;exact hd (by rw [e];exact hq))⟩
theorem za9.congr {w:World} {D:Nat->Prop} {v:Value} {n:Nat} {f g:Nat->Pl} (h:za9 w D v n f) (hfg:∀ i,i<n->f i=g i):za9 w D v n g:=by
 obtain ⟨A,cap,hv,h1,h2,h3⟩:=h
 refine ⟨A,cap,hv,h1,h2,fun hn=>?_⟩
 obtain ⟨b,off,e,hb',hd,hc⟩:=h3 hn
 exact ⟨b,off,e,hb',hd,fun j hj=>by rw [<- hfg j hj];exact hc j hj⟩
def BkAt (w:World) (D:Nat->Prop) (p q S B n:Nat) (g:Nat->Nat->Pl):Prop :=
 p<w.heap.size/\q<w.heap.size/\p≠q/\w.cell? ⟨p,0,none⟩=some (.int .i64 (S:Nat))/\w.cell? ⟨p,1,none⟩=some (.int .i64 (B:Nat))/\w.cell? ⟨p,2,none⟩=some (.int .i64 (n:Nat)) /\
  (∃ cap,S*B<=cap/\cap<=maxLen/\w.cell? ⟨p,3,none⟩=some (.slice (some ⟨q,0,none⟩) (S*B) cap))/\(∀ o,w.frozen? ⟨q,o,none⟩=false) /\
  ∀ i,i<S*B->∃ v,w.cell? ⟨q,i,none⟩=some v/\za9 w D v n (g i)
theorem BkAt.keep {w w':World} {D:Nat->Prop} {p q S B n:Nat} {g:Nat->Nat->Pl} (h:BkAt w D p q S B n g) (hz:w.heap.size<=w'.heap.size) (hk:∀ b,b<w.heap.size->(b=p\/b=q\/¬ D b)->w'.heap[b]?=w.heap[b]?):BkAt w' D p q S B n g:=by
 obtain ⟨h0,h1,h2,h3,h4,h5,⟨cap,h6,h7,h8⟩,h9,h10⟩:=h
 have cp:∀ o,w'.cell? ⟨p,o,none⟩=w.cell? ⟨p,o,none⟩:=fun o=>World.cell?_of_block (w:=w) (hk p h0 (.inl rfl))
 have cq:∀ o,w'.cell? ⟨q,o,none⟩=w.cell? ⟨q,o,none⟩:=fun o=>World.cell?_of_block (w:=w) (hk q h1 (.inr (.inl rfl)))
 refine ⟨by omega,by omega,h2,(cp 0).trans h3,(cp 1).trans h4,(cp 2).trans h5,⟨cap,h6,h7,(cp 3).trans h8⟩,fun o=>(World.frozen?_of_block (w:=w) (hk q h1 (.inr (.inl rfl)))).trans (h9 o),fun i hi=>?_⟩
 obtain ⟨v,hv,A,cap',e1,e2,e3,e4⟩:=h10 i hi
 refine ⟨v,(cq i).trans hv,A,cap',e1,e2,e3,fun hn=>?_⟩
 obtain ⟨b,off,e5,e6,e7,e8⟩:=e4 hn
 exact ⟨b,off,e5,by omega,e7,fun j hj=>(e8 j hj).keep fun a ha=>World.cell?_of_block (w:=w) (by rw [ha];exact hk b e6 (.inr (.inr e7)))⟩
theorem BkAt.call {w w':World} {D:Nat->Prop} {p q S B n:Nat} {g:Nat->Nat->Pl} (h:BkAt w D p q S B n g) (hb:Below w.heap.size w w'):BkAt w' D p q S B n g :=
 h.keep hb.size fun b hlt _=>hb.block b hlt
theorem BkAt.but {w w':World} {D:Nat->Prop} {p q q' S B n:Nat} {g:Nat->Nat->Pl} (h:BkAt w D p q S B n g) (hb:But q' w w') (h1:p≠q') (h2:q≠q') (hD:D q'):BkAt w' D p q S B n g :=
 h.keep hb.below.size fun b hlt hc=>hb.rest b hlt (by
  rcases hc with rfl|rfl|hc
  ·exact h1
  ·exact h2
  ·exact fun e=>hc (by rw [e];exact hD))
def updR (g:Nat->Nat->Pl) (i:Nat) (f:Nat->Pl) (j:Nat):Nat->Pl:=if j=i then f else g j
theorem BkAt.put {w:World} {D:Nat->Prop} {p q S B n i:Nat} {g:Nat->Nat->Pl} {v:Value} {f:Nat->Pl} (h:BkAt w D p q S B n g) (hi:i<S*B) (hv:za9 w D v n f) (hD:D q):BkAt (w.setCell ⟨q,i,none⟩ v) D p q S B n (updR g i f):=by
 obtain ⟨h0,h1,h2,h3,h4,h5,⟨cap,h6,h7,h8⟩,h9,h10⟩:=h;have hb:But q w (w.setCell ⟨q,i,none⟩ v):=But.set i v
 have cp:∀ o,(w.setCell ⟨q,i,none⟩ v).cell? ⟨p,o,none⟩=w.cell? ⟨p,o,none⟩:=fun o=>hb.cell h0 h2
 obtain ⟨v0,hv0,_⟩:=h10 i hi
 refine ⟨by simpa using h0,by simpa using h1,h2,(cp 0).trans h3,(cp 1).trans h4,(cp 2).trans h5,⟨cap,h6,h7,(cp 3).trans h8⟩,fun o=>by simp [go_sem,h9],fun j hj=>?_⟩
 by_cases hji:j=i
 ·subst hji
  refine ⟨v,by simp [go_sem,hv0],?_⟩
  have e:updR g j f j=f:=by unfold updR;rw [if_pos rfl]
  rw [e]
  exact hv.but hb hD
 ·obtain ⟨u,hu,hr⟩:=h10 j hj
  refine ⟨u,?_,?_⟩
  ·rw [<- hu]
   simp [go_sem]
  ·have e:updR g i f j=g j:=by unfold updR;rw [if_neg hji]
   rw [e]
   exact hr.but hb hD
end
section
open Go.RowKit
set_option maxHeartbeats 800000 in
theorem zos {w:World} {D:Nat->Prop} {p q S B n:Nat} {g:Nat->Nat->Pl} (h:BkAt w D p q S B n g) :
  Calls Tryz.prog 125 #[.pointer (some ⟨p,0,none⟩)] w (Says (.agg #[.int .i64 (S:Nat),.int .i64 (B:Nat),.int .i64 (n:Nat)]) w):=by
 obtain ⟨h0,_,_,h3,h4,h5,_⟩:=h
 have k0:∀ o,(w.alloc o).cell? ⟨p,0,none⟩=some (.int .i64 (S:Nat)):=fun o=>by rw [World.cell?_alloc_lt _ _ _ (by show p<_;omega)];exact h3
 have k1:∀ o,(w.alloc o).cell? ⟨p,1,none⟩=some (.int .i64 (B:Nat)):=fun o=>by rw [World.cell?_alloc_lt _ _ _ (by show p<_;omega)];exact h4
 have k2:∀ o,(w.alloc o).cell? ⟨p,2,none⟩=some (.int .i64 (n:Nat)):=fun o=>by rw [World.cell?_alloc_lt _ _ _ (by show p<_;omega)];exact h5
 clear h3 h4 h5
 go_enter Tryz.func125,Tryz.ntmps125
 go_wp2
 exact bodyPost_ret (v:=.agg #[.int .i64 (S:Nat),.int .i64 (B:Nat),.int .i64 (n:Nat)]) (by simp [results,Tryz.results125,go_sem]) rfl ⟨rfl,(by (repeat' (first|(with_reducible exact Below.refl _ _)|(with_reducible assumption)|(with_reducible refine Below.setCell ?_ ?_ _)|(with_reducible refine Below.alloc ?_ ?_ _)|go_size)))⟩
def zc7 (ptr:Value) (S B n:Nat) (w:World):Prop:=∀ w',Below w.heap.size w w'->Calls Tryz.prog 125 #[ptr] w' (Says (.agg #[.int .i64 (S:Nat),.int .i64 (B:Nat),.int .i64 (n:Nat)]) w')
theorem zc7.of {w:World} {D:Nat->Prop} {p q S B n:Nat} {g:Nat->Nat->Pl} (h:BkAt w D p q S B n g):zc7 (.pointer (some ⟨p,0,none⟩)) S B n w:=fun w' hb=>zos (h.call hb)
theorem zc7.call {ptr:Value} {S B n:Nat} {w w':World} (h:zc7 ptr S B n w) (hb:Below w.heap.size w w'):zc7 ptr S B n w':=fun w'' hb'=>h w'' (hb.trans (hb'.mono hb.size))
def atI (S B:Nat) (s m:Int):Int:=if 0<=s/\s<S/\0<=m/\m<B then s*B+m else -1
theorem at_lt {a b S B:Nat} (ha:a<S) (hb:b<B):a*B+b<S*B:=by
 have h1:(a+1)*B<=S*B:=Nat.mul_le_mul_right B ha
 rw [Nat.add_mul] at h1
 omega
set_option maxHeartbeats 3200000 in
theorem zkj {ptr:Value} {S B n:Nat} {w:World} (h:zc7 ptr S B n w) (hSB:S*B<1000000) (hB:B<1000000) (hS:S<1000000) (s m:Int) :
  Calls Tryz.prog 111 #[ptr,.int .i64 s,.int .i64 m] w (Says (.int .i64 (atI S B s m)) w):=by
 have HS:=Lib.hid (h w (Below.refl _ _))
 by_cases hc:0<=s/\s<S/\0<=m/\m<B
 ·have hr:atI S B s m=s*B+m:=if_pos hc
  obtain ⟨c1,c2,c3,c4⟩:=hc;obtain ⟨a,rfl⟩:=Int.eq_ofNat_of_zero_le c1;obtain ⟨b,rfl⟩:=Int.eq_ofNat_of_zero_le c3
  have hlt:=at_lt (a:=a) (b:=b) (S:=S) (B:=B) (by omega) (by omega)
  have hab:((a*B+b:Nat):Int)=(a:Int)*(B:Int)+(b:Int):=by simp
  obtain ⟨x,hx⟩:∃ x,x=a*B:=⟨_,rfl⟩
  have hxi:(a:Int)*(B:Int)=(x:Int):=by rw [hx];simp
  rw [hr,hxi];rw [<- hx] at hlt hab
  have hw1:wrap64 (x:Int)=(x:Int):=IntWalk.wrap64_in _ (by omega)
  have hw2:wrap64 ((x:Int)+(b:Int))=(x:Int)+(b:Int):=IntWalk.wrap64_in _ (by omega)
  have d1:decide ((a:Int)<0)=false:=by simp
  have d2:decide ((a:Int)≥(S:Int))=false:=by simp;omega
  have d3:decide ((b:Int)<0)=false:=by simp
  have d4:decide ((b:Int)≥(B:Int))=false:=by simp;omega
  have f2:¬ (S:Int)<=(a:Int):=by omega
  have f4:¬ (B:Int)<=(b:Int):=by omega
  clear hr h hx hab c1 c3
  go_enter Tryz.func111,Tryz.ntmps111
  go_wp2_with fail
  refine (HS.out).mono ?_
  rintro e w1 ⟨rfl,hb⟩;have HB:=Lib.hid (hb.alloc hb.size (.cells #[.int .i64 (S:Nat),.int .i64 (B:Nat),.int .i64 (n:Nat)] 39));clear hb
  go_wp2
  go_ret
  exact ⟨by simp,HB.out⟩
 ·have hr:atI S B s m=-1:=if_neg hc
  rw [hr];clear h hr
  rcases (show s<0\/(0<=s/\(S:Int)<=s)\/(0<=s/\s<S/\m<0)\/(0<=s/\s<S/\0<=m/\(B:Int)<=m) by omega) with k|⟨k1,k⟩|⟨k1,k2,k⟩|⟨k1,k2,k3,k⟩
  all_goals
   clear hc
   go_enter Tryz.func111,Tryz.ntmps111
   go_wp2_with fail
   refine (HS.out).mono ?_
   rintro e w1 ⟨rfl,hb⟩;have HB:=Lib.hid (hb.alloc hb.size (.cells #[.int .i64 (S:Nat),.int .i64 (B:Nat),.int .i64 (n:Nat)] 39));clear hb
   go_wp2
   go_ret
   exact ⟨by simp,HB.out⟩
def homeI (v:Int) (m S B:Nat):Int:=atI S B (plS v m S B) (plB v m S B)
theorem pl_bd (v:Int) (m:Nat) (s b:Int):0<=plS v m s b/\(1<=s->plS v m s b<s)/\0<=plB v m s b/\(1<=b->plB v m s b<b):=by
 unfold plS plB
 by_cases h:zbn v m=true/\1<=s/\1<=b
 ·rw [if_pos h,if_pos h]
  have a1:=Int.emod_nonneg (mixI (zd3 v m:Nat)) (show s≠0 by omega)
  have a2:=Int.emod_lt_of_pos (mixI (zd3 v m:Nat)) (show 0<s by omega)
  have a3:=Int.emod_nonneg (mixI (zd3 v m:Nat) / 4294967296) (show b≠0 by omega)
  have a4:=Int.emod_lt_of_pos (mixI (zd3 v m:Nat) / 4294967296) (show 0<b by omega)
  exact ⟨a1,fun _=>a2,a3,fun _=>a4⟩
 ·rw [if_neg h,if_neg h]
  exact ⟨by omega,fun _=>by omega,by omega,fun _=>by omega⟩
def zaj (v:Int) (m S B:Nat):Nat:=(plS v m S B).toNat*B+(plB v m S B).toNat
theorem zdo {v:Int} {m S B:Nat} (hS:1<=S) (hB:1<=B):homeI v m S B=(zaj v m S B:Nat)/\zaj v m S B<S*B:=by
 have h:=pl_bd v m S B
 have hlt:=at_lt (a:=(plS v m S B).toNat) (b:=(plB v m S B).toNat) (S:=S) (B:=B) (by omega) (by omega)
 refine ⟨?_,hlt⟩
 unfold homeI zaj atI
 rw [if_pos (by omega)]
 have e1:((plS v m S B).toNat:Int)=plS v m S B:=Int.toNat_of_nonneg h.1
 have e2:((plB v m S B).toNat:Int)=plB v m S B:=Int.toNat_of_nonneg h.2.2.1
 rw [Int.natCast_add,Int.natCast_mul,e1,e2]
set_option maxHeartbeats 3200000 in
theorem zem {ptr:Value} {S B n:Nat} {w:World} (h:zc7 ptr S B n w) (hSB:S*B<1000000) (hB:B<1000000) (hS:S<1000000) (v:Int) (m:Nat) (hm:m<18446744073709551616) :
  Calls Tryz.prog 106 #[ptr,.agg #[.int .i64 v,.int .u64 (m:Int)]] w (Says (.int .i64 (homeI v m S B)) w):=by
 have HS:=Lib.hid h
 have HP:=Lib.hid fun w=>zpd v m hm S B (by omega) (by omega) w
 have HA:=Lib.hid fun w' (hb:Below w.heap.size w w')=>zkj (h.call hb) hSB hB hS (plS v m S B) (plB v m S B)
 unfold homeI
 generalize atI S B (plS v m S B) (plB v m S B)=r at *
 generalize plS v m S B=x at *
 generalize plB v m S B=y at *
 clear h hSB hB hS hm
 go_enter Tryz.func106,Tryz.ntmps106
 go_wp2_with fail
 refine (HS.out _ ((Below.refl _ _).alloc (Nat.le_refl _) _)).mono ?_
 rintro e w1 ⟨rfl,hb⟩
 have HB1:Hid (Below w.heap.size w w1):=Below.trans ((Below.refl _ _).alloc (Nat.le_refl _) _) (hb.mono (by simp))
 have k0:w1.cell? ⟨w.heap.size,0,none⟩=some (.int .i64 v):=by rw [(zao hb).1 _ _ (by simp)];simp [go_sem]
 have k1:w1.cell? ⟨w.heap.size,1,none⟩=some (.int .u64 (m:Int)):=by rw [(zao hb).1 _ _ (by simp)];simp [go_sem]
 have hz1:w.heap.size+1<=w1.heap.size:=by have:=hb.size;simpa using this
 have j0:∀ o,(w1.alloc o).cell? ⟨w.heap.size,0,none⟩=some (.int .i64 v):=fun o=>(World.cell?_alloc_lt _ _ _ (by show w.heap.size<_;omega)).trans k0
 have j1:∀ o,(w1.alloc o).cell? ⟨w.heap.size,1,none⟩=some (.int .u64 (m:Int)):=fun o=>(World.cell?_alloc_lt _ _ _ (by show w.heap.size<_;omega)).trans k1
 clear hb k0 k1
 go_wp2_with fail
 refine (HP.out _).mono ?_
 rintro e w2 ⟨rfl,hb⟩
 have HB2:Hid (Below w.heap.size w w2):=Below.trans (HB1.out.alloc (by omega) _) (hb.mono (by simp;omega))
 clear hb
 go_wp2_with fail
 refine (HA.out _ HB2.out).mono ?_
 rintro e w3 ⟨rfl,hb⟩;have HB3:Hid (Below w.heap.size w w3):=HB2.out.trans (hb.mono HB2.out.size);clear hb
 go_wp2
 go_ret
 exact ⟨rfl,HB3.out⟩
end
section
open Go.RowKit
set_option maxRecDepth 20000 in
set_option maxHeartbeats 6400000 in
theorem znr {w:World} {D:Nat->Prop} {p q S B n:Nat} {g:Nat->Nat->Pl} (h:BkAt w D p q S B n g) (hD:∀ b,D b->b<w.heap.size) (hq:D q) (hS:1<=S/\S<=8) (hB:1<=B/\B<=16) (hn:n<=1000000) (hst:∀ i,i<S*B->∀ j,j<n->(g i j).e.stamp<4294967296)
  (v:Int) (m:Nat) (hm:m<18446744073709551616) (port:Int) (now:Nat) (hnow:now<4294967296) :
  Calls Tryz.prog 83 #[.pointer (some ⟨p,0,none⟩),.agg #[.int .i64 v,.int .u64 (m:Int)],.int .i64 port,.int .u32 (now:Int)] w fun e w' =>
   e=.returned (.int .i64 ((putF (fun i=>ownP (g (zaj v m S B) i)) ⟨v,m,port,false,now⟩ now n).2:Nat))/\BkAt w' D p q S B n (updR g (zaj v m S B) (putF (fun i=>ownP (g (zaj v m S B) i)) ⟨v,m,port,false,now⟩ now n).1)/\But q w w':=by
 obtain ⟨M,hM⟩:∃ M,M=S*B:=⟨_,rfl⟩;obtain ⟨H,hH⟩:∃ H,H=zaj v m S B:=⟨_,rfl⟩;have hhome:=zdo (v:=v) (m:=m) hS.1 hB.1;rw [<- hH,<- hM] at hhome;obtain ⟨hh1,hh2⟩:=hhome
 have hMB:M<=128:=by rw [hM];exact Nat.mul_le_mul hS.2 hB.2
 have hhm:=fun w' (hb:Below w.heap.size w w')=>zem ((zc7.of h).call hb) (by omega) (by omega) (by omega) v m hm
 rw [hh1] at hhm;have HHM:=Lib.hid hhm;have HBK:=Lib.hid h;have HM:=Lib.hid hM;clear hhm hh1 hM
 have HL:=Lib.hid fun w u (hr:zar w w.heap.size u n (g H))=>zit hn hr (Nat.le_refl _) (hst H (by rw [<- HM.out];exact hh2)) v m hm port now hnow
 rw [<- hH]
 generalize putF (fun i=>ownP (g H i)) ⟨v,m,port,false,now⟩ now n=r at *
 obtain ⟨r1,r2⟩:=r
 simp only at HL |-
 have HD:=Lib.hid hD;clear hst hn hm hnow hH hD h
 go_enter Tryz.func83,Tryz.ntmps83
 go_wp2_with fail
 refine (HHM.out _ ((Below.refl _ _).alloc (Nat.le_refl _) _)).mono ?_
 rintro e w2 ⟨rfl,hb⟩
 have HB2:Hid (Below w.heap.size w w2):=Below.trans ((Below.refl _ _).alloc (Nat.le_refl _) _) (hb.mono (by simp))
 have s0:w2.cell? ⟨w.heap.size,0,none⟩=some (.int .i64 v):=by rw [(zao hb).1 _ _ (by simp)];simp [go_sem]
 have s1:w2.cell? ⟨w.heap.size,1,none⟩=some (.int .u64 (m:Int)):=by rw [(zao hb).1 _ _ (by simp)];simp [go_sem]
 have hz2:w.heap.size+1<=w2.heap.size:=by have:=hb.size;simpa using this
 have HBK2:=Lib.hid (HBK.out.call HB2.out);clear hb HHM;obtain ⟨hp,hq0,hpq,_,_,_,⟨cap,c1,c2,s2⟩,hfz,hrows⟩:=HBK2.out;have hpw:p<w.heap.size:=HBK.out.1;have hqw:q<w.heap.size:=HBK.out.2.1;rw [<- HM.out] at c1 s2 hrows;obtain ⟨v0,s3,hrow⟩:=hrows H hh2;unfold maxLen at c2
 have g0:(0:Int)<=(H:Int):=Int.natCast_nonneg _
 have g1:(H:Int)<(M:Int):=by omega
 have g2:(H:Int)≥0:=g0;have HROW:=Lib.hid hrow.row;clear hrow hrows
 go_wp2_with fail
 refine wp_region_held_drew (S:=fun w'=>w'.cell? ⟨p,3,none⟩=some (.slice (some ⟨q,0,none⟩) M cap)/\w'.cell? ⟨w.heap.size,0,none⟩=some (.int .i64 v)/\w'.cell? ⟨w.heap.size,1,none⟩=some (.int .u64 (m:Int))) (by kernel_rfl) ?_ (fun hHeld=>?_)
 ·exact ⟨s2,s0,s1⟩
 refine tk 0 ?_;refine tk 1 ?_;refine tk 2 ?_;refine tk 3 ?_;refine tk 4 ?_;refine tk 5 ?_;refine tk 6 ?_;refine tk 7 ?_;refine tk 8 ?_;refine tk 9 ?_;refine tk 10 ?_;refine tk 12 ?_;refine tk 13 ?_;refine tk 14 ?_
 refine clR 11 rfl fun K hK=>?_
 go_simp
 refine hK.out _ _ ?_ (fun hHeld=>?_)
 ·(try dsimp only)
  exact hHeld
 clear hK K
 (try simp only [Act.put,sqA,sqB,sqC])
 refine clR 15 rfl fun K hK=>?_
 go_simp
 refine Calls.mono (HL.out _ _ (HROW.out.below bq1)) ?_
 intro e w4 hpost;obtain ⟨va,he,hra,hb⟩:=hpost;subst he;have HRA:=Lib.hid hra;obtain ⟨Av,cv,hva,_⟩:=hra;subst hva;have hbd:Below w2.heap.size w2 w4:=((Below.refl w2.heap.size w2).drew).trans hb;have HBK4:=Lib.hid (HBK2.out.call hbd);have s4:=(hbd.cell (p:=⟨q,H,none⟩) hq0).trans s3
 have f4:∀ o,w4.frozen? ⟨q,o,none⟩=false:=HBK4.out.2.2.2.2.2.2.2.1
 have hz4:=hbd.size
 refine hK.out _ _ ?_ (fun hHeld=>?_)
 ·(try dsimp only)
  obtain ⟨q0,q1,q2⟩:=hHeld
  exact ⟨(hb.cell (p:=⟨p,_,none⟩) hp).trans q0,(hb.cell (p:=⟨w.heap.size,_,none⟩) (by show w.heap.size<w2.heap.size;omega)).trans q1,(hb.cell (p:=⟨w.heap.size,_,none⟩) (by show w.heap.size<w2.heap.size;omega)).trans q2⟩
 clear hK K;refine tk 16 ?_;refine tk 17 ?_;refine tk 18 ?_;refine tk 19 ?_
 refine clR 20 rfl fun K hK=>?_
 go_simp
 refine hK.out _ _ ?_ (fun hHeld=>?_)
 ·(try dsimp only)
  obtain ⟨q0,q1,q2⟩:=hHeld
  exact ⟨((But.set H _).cell (show p<w4.heap.size by omega) hpq).trans q0,((But.set H _).cell (show w.heap.size<w4.heap.size by omega) (show w.heap.size≠q by omega)).trans q1,((But.set H _).cell (show w.heap.size<w4.heap.size by omega) (show w.heap.size≠q by omega)).trans q2⟩
 clear hK K;refine tk 21 ?_
 refine dnR ?_
 go_wp2
 go_ret
 refine ⟨rfl,?_,?_⟩
 ·exact HBK4.out.put (by rw [<- HM.out];exact hh2) (za9.of_own HRA.out fun b hb=>by have:=HD.out b hb;show b<w2.heap.size;omega) hq
 ·exact ((But.of HB2.out (by omega)).trans (But.of hbd (by omega))).trans (But.set H _)
def zd2 (f:Nat->Pl) (v:Int) (m n:Nat):Int:=if zat f v m n<0 then -1 else (f (zat f v m n).toNat).e.port
set_option maxRecDepth 20000 in
set_option maxHeartbeats 6400000 in
theorem zj5 {w:World} {D:Nat->Prop} {p q S B n:Nat} {g:Nat->Nat->Pl} (h:BkAt w D p q S B n g) (hS:1<=S/\S<=8) (hB:1<=B/\B<=16) (hn:n<=1000000)
  (v:Int) (m:Nat) (hm:m<18446744073709551616) :
  Calls Tryz.prog 84 #[.pointer (some ⟨p,0,none⟩),.agg #[.int .i64 v,.int .u64 (m:Int)]] w (Says (.int .i64 (zd2 (g (zaj v m S B)) v m n)) w):=by
 obtain ⟨M,hM⟩:∃ M,M=S*B:=⟨_,rfl⟩;obtain ⟨H,hH⟩:∃ H,H=zaj v m S B:=⟨_,rfl⟩;have hhome:=zdo (v:=v) (m:=m) hS.1 hB.1;rw [<- hH,<- hM] at hhome;obtain ⟨hh1,hh2⟩:=hhome
 have hMB:M<=128:=by rw [hM];exact Nat.mul_le_mul hS.2 hB.2
 have hhm:=fun w' (hb:Below w.heap.size w w')=>zem ((zc7.of h).call hb) (by omega) (by omega) (by omega) v m hm
 rw [hh1] at hhm;have HHM:=Lib.hid hhm;have HBK:=Lib.hid h;have HM:=Lib.hid hM;clear hhm hh1 hM
 have HF:=Lib.hid fun w u (hr:zar w w.heap.size u n (g H))=>zea hr (Nat.le_refl _) v m
 have hbd:=zb0 (keyF (g H) v m) n
 change -1<=zat (g H) v m n/\zat (g H) v m n<n at hbd
 rw [<- hH]
 have HP1:Hid (zat (g H) v m n=-1->zd2 (g H) v m n=-1):=fun h=>by unfold zd2;rw [h];rfl
 have HP2:Hid (∀ j:Nat,zat (g H) v m n=(j:Int)->zd2 (g H) v m n=(g H j).e.port):=fun j h=>by unfold zd2;rw [h,if_neg (by omega),Int.toNat_natCast]
 generalize zd2 (g H) v m n=r at *
 generalize zat (g H) v m n=x at *
 clear hm hH h
 go_enter Tryz.func84,Tryz.ntmps84
 go_wp2_with fail
 refine (HHM.out _ ((Below.refl _ _).alloc (Nat.le_refl _) _)).mono ?_
 rintro e w2 ⟨rfl,hb⟩
 have HB2:Hid (Below w.heap.size w w2):=Below.trans ((Below.refl _ _).alloc (Nat.le_refl _) _) (hb.mono (by simp))
 have s0:w2.cell? ⟨w.heap.size,0,none⟩=some (.int .i64 v):=by rw [(zao hb).1 _ _ (by simp)];simp [go_sem]
 have s1:w2.cell? ⟨w.heap.size,1,none⟩=some (.int .u64 (m:Int)):=by rw [(zao hb).1 _ _ (by simp)];simp [go_sem]
 have hz2:w.heap.size+1<=w2.heap.size:=by have:=hb.size;simpa using this
 have HBK2:=Lib.hid (HBK.out.call HB2.out);clear hb HHM;obtain ⟨hp,hq0,hpq,_,_,_,⟨cap,c1,c2,s2⟩,hfz,hrows⟩:=HBK2.out;have hpw:p<w.heap.size:=HBK.out.1;have hqw:q<w.heap.size:=HBK.out.2.1;rw [<- HM.out] at c1 s2 hrows;obtain ⟨v0,s3,hrow⟩:=hrows H hh2;unfold maxLen at c2
 have g0:(0:Int)<=(H:Int):=Int.natCast_nonneg _
 have g1:(H:Int)<(M:Int):=by omega
 have g2:(H:Int)≥0:=g0;have HROW:=Lib.hid hrow.row;clear hrow hrows
 go_wp2_with fail
 refine wp_region_held_drew (S:=fun w'=>w'.cell? ⟨p,3,none⟩=some (.slice (some ⟨q,0,none⟩) M cap)/\w'.cell? ⟨w.heap.size,0,none⟩=some (.int .i64 v)/\w'.cell? ⟨w.heap.size,1,none⟩=some (.int .u64 (m:Int))/\w'.cell? ⟨q,H,none⟩=some v0) (by kernel_rfl) ?_ (fun hHeld=>?_)
 ·exact ⟨s2,s0,s1,s3⟩
 refine tk 0 ?_;refine tk 1 ?_;refine tk 2 ?_;refine tk 3 ?_;refine tk 4 ?_;refine tk 5 ?_;refine tk 6 ?_;refine tk 7 ?_
 refine clR 8 rfl fun K hK=>?_
 go_simp
 refine Calls.mono (HF.out _ _ (HROW.out.below bq1)) ?_
 intro e w4 hpost;obtain ⟨rfl,hb⟩:=hpost;have hbd4:Below w2.heap.size w2 w4:=((Below.refl w2.heap.size w2).drew).trans hb
 refine hK.out _ _ ?_ (fun hHeld=>?_)
 ·(try dsimp only)
  obtain ⟨q0,q1,q2,q3⟩:=hHeld
  exact ⟨(hb.cell (p:=⟨p,_,none⟩) hp).trans q0,(hb.cell (p:=⟨w.heap.size,_,none⟩) (by show w.heap.size<w2.heap.size;omega)).trans q1,(hb.cell (p:=⟨w.heap.size,_,none⟩) (by show w.heap.size<w2.heap.size;omega)).trans q2,(hb.cell (p:=⟨q,_,none⟩) hq0).trans q3⟩
 clear hK K;refine tk 9 ?_
 refine dnR ?_
 have HB4:Hid (Below w.heap.size w w4):=HB2.out.trans (hbd4.mono (by omega))
 have HROW4:=Lib.hid (HROW.out.below hbd4);have t2:=(hbd4.cell (p:=⟨p,3,none⟩) hp).trans s2;have t3:=(hbd4.cell (p:=⟨q,H,none⟩) hq0).trans s3;clear hHeld hb hbd4 HROW s0 s1 s2 s3 HBK2 HBK hfz
 rcases (show x=-1\/0<=x by omega) with hx|hx
 ·subst hx
  have hr:=HP1.out rfl;subst hr;clear HP1 HP2
  go_wp2
  go_ret
  exact ⟨by first|rfl|(simp;done),HB4.out⟩
 ·obtain ⟨j,rfl⟩:=Int.eq_ofNat_of_zero_le hx
  have hr:=HP2.out j rfl;clear HP1 HP2;subst hr
  have d1:(0:Int)<=(j:Int):=Int.natCast_nonneg _
  have d2:(j:Int)<(n:Int):=by omega
  have d3:¬ (j:Int)<0:=by omega
  obtain ⟨A,cap2,rfl,x1,x2,x3⟩:=HROW4.out
  obtain ⟨b,off,rfl,hbb,hc⟩:=x3 (by omega)
  unfold maxLen at x2
  have hcj:=(hc j (by omega)).2.2.2.1
  clear hc x3
  generalize (g H j).e.port=pt at *
  have hcj':w4.cell? ⟨b,off+j*6+3,none⟩=some (.int .i64 pt):=hcj
  clear hcj
  go_wp2
  go_ret
  exact ⟨by first|rfl|(simp;done),HB4.out⟩
end
end Go.Proofs.YtfekhdgjgjodlaaGreat
