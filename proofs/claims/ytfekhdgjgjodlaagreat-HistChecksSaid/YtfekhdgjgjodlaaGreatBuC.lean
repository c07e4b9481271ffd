/-
  Words and contracts that a statement's proof rests on (BuC, BuF, PlainSu, PlainSv). No statement is proved here.
-/
import Derived.Deep.RegionHeld3
import Derived.Test.YtfekhdgjgjodlaaGreatTicks
import Derived.Test.YtfekhdgjgjodlaaGreatBuB
set_option linter.unusedVariables false
set_option linter.unusedSimpArgs false
namespace Go.Proofs.YtfekhdgjgjodlaaGreat
section
open Go.RowKit
theorem zoq (o e:En):zbe o e=if o=e\/(o.st=true/\e.st=false) then 0 else if e.st=false/\o.port=e.port then 1 else 2:=rfl
set_option maxHeartbeats 3200000 in
theorem zi3 (a0:Int) (q0:Nat) (p0:Int) (t0:Bool) (s0:Nat) (a1:Int) (q1:Nat) (p1:Int) (t1:Bool) (s1:Nat) (hk:a0=a1/\q0=q1) (w:World) :
  Calls Tryz.prog 142 #[.agg #[.int .i64 a0,.int .u64 (q0:Int),.int .i64 p0,.bool t0,.int .u32 (s0:Int)],.agg #[.int .i64 a1,.int .u64 (q1:Int),.int .i64 p1,.bool t1,.int .u32 (s1:Int)]] w (Says (.int .i64 (zbe ⟨a0,q0,p0,t0,s0⟩ ⟨a1,q1,p1,t1,s1⟩:Nat)) w):=by
 have ha:=zoq ⟨a0,q0,p0,t0,s0⟩ ⟨a1,q1,p1,t1,s1⟩;obtain ⟨rfl,rfl⟩:=hk
 simp only [En.mk.injEq,true_and] at ha
 generalize zbe ⟨a0,q0,p0,t0,s0⟩ ⟨a0,q0,p1,t1,s1⟩=r at *
 have HA:=Lib.hid ha;clear ha
 by_cases hp:p0=p1
 ·subst hp
  by_cases hs:s0=s1
  ·subst hs
   cases t0 <;> cases t1
   all_goals
    go_enter Tryz.func142,Tryz.ntmps142
    go_wp2
    go_ret
    exact ⟨za4 (by rw [HA.out];simp),bq1⟩
  ·have hs1:¬ (s0:Int)=(s1:Int):=by omega
   have hs2:((s0:Int) == (s1:Int))=false:=by simp;omega
   cases t0 <;> cases t1
   all_goals
    go_enter Tryz.func142,Tryz.ntmps142
    go_wp2
    go_ret
    exact ⟨za4 (by rw [HA.out];simp [hs]),bq1⟩
 ·have hp1:(p0 == p1)=false:=by simpa using hp
  cases t0 <;> cases t1
  all_goals
   go_enter Tryz.func142,Tryz.ntmps142
   go_wp2
   go_ret
   exact ⟨za4 (by rw [HA.out];simp [hp]),bq1⟩
end
section
open Go.RowKit
theorem znm (f:Nat->Pl) (k:Nat):ze5 f (k+1)=ze5 f k ++ [f k]:=by simp [ze5,List.range_succ]
theorem plc_one1 (x:Pl):plc [x]=x.cells:=by simp [plc]
theorem za3.of_own {w:World} {B n:Nat} {v:Value} {f:Nat->Pl} {T:TypeId} (h:w.ownsRow B T 6 v n (plc (ze5 f n))):za3 w T B v n f:=by
 obtain ⟨_,h⟩:=h
 rcases h with ⟨rfl,rfl⟩|⟨g,cap,cur,rfl,hg,hh,hnc,hcm,hcs,htake⟩
 ·exact ⟨none,0,rfl,Nat.le_refl _,by simp [maxLen],fun hn=>by omega⟩
 ·refine ⟨_,cap,rfl,hnc,hcm,fun hn=>⟨g,fun j=>cur.getD j (.bool false),rfl,hg,⟨cur,hh,hcs,fun i hi=>by simp [Array.getD_eq_getD_getElem?,Array.getElem?_eq_getElem (show i<cur.size by omega)]⟩,fun j hj=>?_⟩⟩
  have h1:(plc (ze5 f n))[j]?=some (rowP f j):=by
   have e:j=j / 6*6+j % 6:=by omega
   have hq:j / 6<n:=by omega
   have hm:j % 6<6:=by omega
   have:=zor (ze5 f n) (j / 6) (j % 6) hm
   rw [<- e] at this;rw [this]
   simp only [ze5,List.getElem?_map,List.getElem?_range hq,Option.map_some,Option.bind_some]
   unfold rowP
   rw [List.getD_eq_getElem?_getD,List.getElem?_eq_getElem (show j % 6<(f (j / 6)).cells.length by simpa [Pl.cells] using hm)]
   rfl
  rw [<- htake,List.getElem?_take,if_pos hj,Array.getElem?_toList] at h1
  simp [Array.getD_eq_getD_getElem?,h1]
theorem litN6 (w:World) (cs:Array Value) (e:TypeId) (hs:cs.size=6):Sl (w.alloc (.cells cs e)) (w.heap.size+1) 6 (.slice (some ⟨w.heap.size,0,none⟩) 1 1) 1 cs.toList:=by
 refine ⟨by simpa using hs,_,1,rfl,Nat.le_refl _,by simp [maxLen],fun _=>⟨w.heap.size,0,rfl,by omega,fun j hj=>?_⟩⟩
 simp [go_sem]
set_option maxHeartbeats 3200000 in
theorem zc5 {f:Nat->Pl} {n:Nat} {y:Value} {w:World} {B:Nat} (hn:n<=1000000) (hv:zar w B y n f) (hB:B<=w.heap.size) :
  Calls Tryz.prog 99 #[y] w (zdf 150 n (fun i=>ownP (f i)) id w):=by
 obtain ⟨A,cap,rfl,h1,h2,h3⟩:=hv;have HC:=Lib.hid h3;have HCAP:=Lib.hid h1;unfold maxLen at h2;clear h3
 go_enter Tryz.func99,Tryz.ntmps99
 go_wp2
 go_loopw [3,4] (fun out i wr=>∃ k:Nat,k<=n/\i=.int .i64 k/\Hid (wr.ownsRow w.heap.size 150 6 out k (plc (ze5 (fun i=>ownP (f i)) k)))/\Hid (Below w.heap.size w wr)) (fun _ i _=>n - (intOf i).toNat)
 case atStart=>exact ⟨0,by omega,rfl,⟨by simp [plc,ze5],.inl ⟨rfl,rfl⟩⟩,Below.refl _ _⟩
 case round =>
  obtain ⟨k,hk,rfl,HO,HB⟩:=hrel;have hzw:=HB.out.size
  by_cases hlt:k<n
  ·obtain ⟨b,off,rfl,hb,hc⟩:=HC.out (by omega)
   have g0:(0:Int)<=(k:Int):=Int.natCast_nonneg _
   have g1:(k:Int)<(n:Int):=by omega
   have hcx:=(hc k hlt).keep (w':=wr) fun p hp=>HB.out.cell (by rw [hp];omega)
   have HX:Hid (∀ x,ownP (f k)=ownP x->plc (ze5 (fun i=>ownP (f i)) (k+1))=plc (ze5 (fun i=>ownP (f i)) k) ++ (ownP x).cells):=fun x hx=>by
    rw [znm,zg4,plc_one1,<- hx]
   obtain ⟨x,hx⟩:∃ x,x=f k:=⟨_,rfl⟩;rw [<- hx] at hcx HX;have HX:=Lib.hid (HX.out x rfl);clear hx;obtain ⟨u,⟨a,q,p,st,s⟩⟩:=x;obtain ⟨c0',c1',c2',c3',c4',c5'⟩:=hcx
   have c0:wr.cell? ⟨b,off+k*6,none⟩=some (.bool u):=c0'
   have c1:wr.cell? ⟨b,off+k*6+1,none⟩=some (.int .i64 a):=c1'
   have c2:wr.cell? ⟨b,off+k*6+2,none⟩=some (.int .u64 (q:Int)):=c2'
   have c3:wr.cell? ⟨b,off+k*6+3,none⟩=some (.int .i64 p):=c3'
   have c4:wr.cell? ⟨b,off+k*6+4,none⟩=some (.bool st):=c4'
   have c5:wr.cell? ⟨b,off+k*6+5,none⟩=some (.int .u32 (s:Int)):=c5'
   clear c0' c1' c2' c3' c4' c5'
   have hbr:b<wr.heap.size:=by omega
   clear hc HC
   cases u
   ·go_wp2_with (first
     |(at_builtin;refine zcm _ rfl zf7 _ _ rfl w.heap.size _ k _ rfl (zac HO.out ((Below.refl _ _).alloc (Nat.le_refl _) _)) (wr.heap.size+1) _ 1 [.bool false,.int .i64 0,.int .u64 0,.int .i64 0,.bool false,.int .u32 0] rfl (litN6 wr #[.bool false,.int .i64 0,.int .u64 0,.int .i64 0,.bool false,.int .u32 0] _ rfl) (by simp [Value.oneCell']) (by omega) (by simp;omega) ?_;intro A2 c2 w2 hown2 hgr2 hat2 hbel2;clear hgr2 hat2))
    have HO2:Hid (w2.ownsRow w.heap.size 150 6 (.slice A2 (k+1) c2) (k+1) (plc (ze5 (fun i=>ownP (f i)) (k+1)))):=by
     rw [HX.out];exact hown2
    have HB2:Hid (Below w.heap.size w w2):=(HB.out.alloc hzw _).trans hbel2;clear hown2 hbel2
    go_wp2
    go_roundw
    case rel=>exact ⟨k+1,by omega,by go_num,HO2.out,HB2.out⟩
    case measure=>simp [intOf];omega
   ·go_wp2_with (first
     |(at_builtin;refine zcm _ rfl zf7 _ _ rfl w.heap.size _ k _ rfl (zac HO.out ((Below.refl _ _).alloc (Nat.le_refl _) _)) (wr.heap.size+1) _ 1 [.bool true,.int .i64 a,.int .u64 (q:Int),.int .i64 p,.bool st,.int .u32 (s:Int)] rfl (litN6 wr #[.bool true,.int .i64 a,.int .u64 (q:Int),.int .i64 p,.bool st,.int .u32 (s:Int)] _ rfl) (by simp [Value.oneCell']) (by omega) (by simp;omega) ?_;intro A2 c2 w2 hown2 hgr2 hat2 hbel2;clear hgr2 hat2))
    have HO2:Hid (w2.ownsRow w.heap.size 150 6 (.slice A2 (k+1) c2) (k+1) (plc (ze5 (fun i=>ownP (f i)) (k+1)))):=by
     rw [HX.out];exact hown2
    have HB2:Hid (Below w.heap.size w w2):=(HB.out.alloc hzw _).trans hbel2;clear hown2 hbel2
    go_wp2
    go_roundw
    case rel=>exact ⟨k+1,by omega,by go_num,HO2.out,HB2.out⟩
    case measure=>simp [intOf];omega
  ·have:k=n:=by omega
   subst this
   go_wp2
   go_ret
   exact ⟨_,rfl,za3.of_own HO.out,HB.out⟩
end
section
structure MgK (key:Nat->Int) (f f':Nat->Nat) (a b:Nat):Prop where
 im:ImK f f' a b
 sd:SdK key f' a b
 st:StK key f' a b
section
variable {key:Nat->Int} {f f' f2:Nat->Nat} {a b a0 b0 i j m n s e c:Nat}
theorem zpr (h:a=m\/m=b) (h1:a<=m) (h2:m<=b):roK f a m b=f:=funext fun p=>by
 unfold roK
 rcases h with rfl|rfl
 ·split
  ·congr 1;omega
  ·split
   ·omega
   ·rfl
 ·split
  ·omega
  ·split
   ·congr 1;omega
   ·rfl
theorem MgK.whole (h:MgK key f f' a b) (ht:StK key f a0 b0) (h1:a0<=a) (h2:b<=b0):StK key f' a0 b0:=fun p q p1 p2 p3 x=>by
 by_cases cp:a<=p/\p<b
 ·by_cases cq:q<b
  ·exact h.st p q cp.1 p2 cq x
  ·obtain ⟨u,u1,u2,e1⟩:=h.im.2 p cp.1 cp.2
   rw [e1,h.im.1 q (by omega)] at x |-
   exact ht u q (by omega) (by omega) p3 x
 ·rw [h.im.1 p (by omega)] at x |-
  by_cases cq:a<=q/\q<b
  ·obtain ⟨v,v1,v2,e2⟩:=h.im.2 q cq.1 cq.2
   rw [e2] at x |-
   exact ht p v p1 (by omega) (by omega) x
  ·rw [h.im.1 q (by omega)] at x |-
   exact ht p q p1 p2 p3 x
theorem MgK.beside (h:MgK key f f' a b) (hs:SdK key f a0 b0) (h1:b0<=a\/b<=a0):SdK key f' a0 b0:=hs.congr fun p p1 p2=>h.im.1 p (by omega)
theorem MgK.trans (h:ImK f f' a b) (k:MgK key f' f2 a b):MgK key f f2 a b:=⟨h.trans k.im,k.sd,k.st⟩
theorem ins_left (hm:m=a+1) (h1:m<=i) (h2:i<=b) (hr:SdK key f m b) (ht:StK key f a b) (hlo:∀ h,m<=h->h<i->key (f h)<key (f a)) (hhi:∀ h,i<=h->h<b->key (f a)<=key (f h)):MgK key f (roK f a m i) a b:=by
 subst hm
 have o1:∀ p,a<=p->p<i - 1->roK f a (a+1) i p=f (p+1):=fun p p1 p2=>by
  unfold roK;rw [if_pos (by omega)];congr 1;omega
 have o2:roK f a (a+1) i (i - 1)=f a:=by
  unfold roK;rw [if_neg (by omega),if_pos (by omega)];congr 1;omega
 have o3:∀ p,i<=p->roK f a (a+1) i p=f p:=fun p hp=>by
  unfold roK;rw [if_neg (by omega),if_neg (by omega)]
 refine ⟨zpe (Nat.le_refl _) (by omega) (by omega) h2,fun p q p1 p2 p3=>?_,fun p q p1 p2 p3 x=>?_⟩
 ·rcases Nat.lt_trichotomy p (i - 1) with c1|c1|c1
  ·rw [o1 p p1 c1]
   rcases Nat.lt_trichotomy q (i - 1) with d|d|d
   ·rw [o1 q (by omega) d];exact hr _ _ (by omega) (by omega) (by omega)
   ·rw [d,o2];exact Int.le_of_lt (hlo _ (by omega) (by omega))
   ·rw [o3 q (by omega)];exact hr _ q (by omega) (by omega) p3
  ·rw [c1,o2,o3 q (by omega)];exact hhi q (by omega) p3
  ·rw [o3 p (by omega),o3 q (by omega)];exact hr p q (by omega) p2 p3
 ·rcases Nat.lt_trichotomy p (i - 1) with c1|c1|c1
  ·rw [o1 p p1 c1] at x |-
   rcases Nat.lt_trichotomy q (i - 1) with d|d|d
   ·rw [o1 q (by omega) d] at x |-;exact ht _ _ (by omega) (by omega) (by omega) x
   ·rw [d,o2] at x |-
    have:=hlo (p+1) (by omega) (by omega)
    omega
   ·rw [o3 q (by omega)] at x |-;exact ht _ q (by omega) (by omega) p3 x
  ·rw [c1,o2,o3 q (by omega)] at x |-;exact ht a q (by omega) (by omega) p3 x
  ·rw [o3 p (by omega),o3 q (by omega)] at x |-;exact ht p q p1 p2 p3 x
theorem zpj (hb:b=m+1) (h1:a<=i) (h2:i<=m) (hl:SdK key f a m) (ht:StK key f a b) (hlo:∀ h,a<=h->h<i->key (f h)<=key (f m)) (hhi:∀ h,i<=h->h<m->key (f m)<key (f h)):MgK key f (roK f i m b) a b:=by
 subst hb
 have o1:∀ p,p<i->roK f i m (m+1) p=f p:=fun p hp=>by
  unfold roK;rw [if_neg (by omega),if_neg (by omega)]
 have o2:roK f i m (m+1) i=f m:=by
  unfold roK;rw [if_pos (by omega)];congr 1;omega
 have o3:∀ p,i<p->p<=m->roK f i m (m+1) p=f (p - 1):=fun p p1 p2=>by
  unfold roK;rw [if_neg (by omega),if_pos (by omega)];congr 1;omega
 refine ⟨zpe h1 h2 (by omega) (Nat.le_refl _),fun p q p1 p2 p3=>?_,fun p q p1 p2 p3 x=>?_⟩
 ·rcases Nat.lt_trichotomy q i with c1|c1|c1
  ·rw [o1 p (by omega),o1 q c1];exact hl p q p1 p2 (by omega)
  ·rw [c1,o2,o1 p (by omega)];exact hlo p p1 (by omega)
  ·rw [o3 q c1 (by omega)]
   rcases Nat.lt_trichotomy p i with d|d|d
   ·rw [o1 p d];exact hl p _ p1 (by omega) (by omega)
   ·rw [d,o2];exact Int.le_of_lt (hhi _ (by omega) (by omega))
   ·rw [o3 p d (by omega)];exact hl _ _ (by omega) (by omega) (by omega)
 ·rcases Nat.lt_trichotomy q i with c1|c1|c1
  ·rw [o1 p (by omega),o1 q c1] at x |-;exact ht p q p1 p2 (by omega) x
  ·rw [c1,o2,o1 p (by omega)] at x |-;exact ht p m p1 (by omega) (by omega) x
  ·rw [o3 q c1 (by omega)] at x |-
   rcases Nat.lt_trichotomy p i with d|d|d
   ·rw [o1 p d] at x |-;exact ht p _ p1 (by omega) (by omega) x
   ·rw [d,o2] at x |-
    have:=hhi (q - 1) (by omega) (by omega)
    omega
   ·rw [o3 p d (by omega)] at x |-;exact ht _ _ (by omega) (by omega) (by omega) x
theorem roK_up (h:a<=c):swK (roK f a (a+1) (c+1)) c (c+1)=roK f a (a+1) (c+2):=funext fun p=>by
 have o1:∀ k p,a<=p->p<k->roK f a (a+1) (k+1) p=f (p+1):=fun k p p1 p2=>by
  unfold roK;rw [if_pos (by omega)];congr 1;omega
 have o2:∀ k,a<=k->roK f a (a+1) (k+1) k=f a:=fun k hk=>by
  unfold roK;rw [if_neg (by omega),if_pos (by omega)];congr 1;omega
 have o3:∀ k p,a<=k->(k<p\/p<a)->roK f a (a+1) (k+1) p=f p:=fun k p hk hp=>by
  unfold roK;rw [if_neg (by omega),if_neg (by omega)]
 by_cases e1:p=c
 ·subst e1;rw [zhx,o3 p (p+1) h (by omega),o1 (p+1) p h (by omega)]
 ·by_cases e2:p=c+1
  ·subst e2;rw [zi5,o2 c h,o2 (c+1) (by omega)]
  ·rw [zke e1 e2]
   by_cases c1:a<=p/\p<c
   ·rw [o1 c p c1.1 c1.2,o1 (c+1) p c1.1 (by omega)]
   ·rw [o3 c p h (by omega),o3 (c+1) p (by omega) (by omega)]
theorem roK_down (h:c<=m) (h0:0<c):swK (roK f c m (m+1)) c (c - 1)=roK f (c - 1) m (m+1):=funext fun p=>by
 have o1:∀ k p,k<p->p<=m->roK f k m (m+1) p=f (p - 1):=fun k p p1 p2=>by
  unfold roK;rw [if_neg (by omega),if_pos (by omega)];congr 1;omega
 have o2:∀ k,k<=m->roK f k m (m+1) k=f m:=fun k hk=>by
  unfold roK;rw [if_pos (by omega)];congr 1;omega
 have o3:∀ k p,k<=m->(m<p\/p<k)->roK f k m (m+1) p=f p:=fun k p hk hp=>by
  unfold roK;rw [if_neg (by omega),if_neg (by omega)]
 by_cases e1:p=c
 ·subst e1;rw [zhx,o3 p (p - 1) h (by omega),o1 (p - 1) p (by omega) h]
 ·by_cases e2:p=c - 1
  ·subst e2;rw [zi5,o2 c h,o2 (c - 1) (by omega)]
  ·rw [zke e1 e2]
   by_cases c1:c<p/\p<=m
   ·rw [o1 c p c1.1 c1.2,o1 (c - 1) p (by omega) c1.2]
   ·rw [o3 c p h (by omega),o3 (c - 1) p (by omega) (by omega)]
structure SeK (key:Nat->Int) (f:Nat->Nat) (s0 r0 q s r:Nat):Prop where
 s1:s0<=s
 sr:s<=r
 r1:r<=r0
 lo:s=s0\/key (f (s - 1))<=key (f (q - (s - 1)))
 hi:r=r0\/key (f (q - r))<key (f r)
theorem SeK.up {s0 r0 q r:Nat} (h:SeK key f s0 r0 q s r) (h1:s<=c) (h2:c<r) (hk:¬ key (f (q - c))<key (f c)):SeK key f s0 r0 q (c+1) r :=
 ⟨by have:=h.s1;omega,by omega,h.r1,.inr (by rw [show c+1 - 1=c by omega];omega),h.hi⟩
theorem SeK.down {s0 r0 q r:Nat} (h:SeK key f s0 r0 q s r) (h1:s<=c) (h2:c<r) (hk:key (f (q - c))<key (f c)):SeK key f s0 r0 q s c :=
 ⟨h.s1,h1,by have:=h.r1;omega,h.lo,.inr hk⟩
theorem SeK.cut {mid q s0 r0:Nat} (hab:a<m/\m<b) (hmid:mid=(a+b) / 2) (hq:q+1=mid+m) (h0:(mid<m/\s0=mid+m - b/\r0=mid)\/(m<=mid/\s0=a/\r0=m)) (h:SeK key f s0 r0 q s s) :
  CutK key f a m b s (mid+m - s)/\s<=mid/\s+(mid+m - s - m)=mid:=by
 obtain ⟨h1,_,h2,hlo,hhi⟩:=h
 have e1:q - (s - 1)=mid+m - s\/s=s0:=by
  by_cases c:s=s0
  ·exact .inr c
  ·exact .inl (by omega)
 refine ⟨⟨by omega,by omega,by omega,by omega,?_,?_⟩,by omega,by omega⟩
 ·rcases hlo with x|x
  ·rcases h0 with y|y
   ·exact .inr (.inl (by omega))
   ·exact .inl (by omega)
  ·by_cases c:s=s0
   ·rcases h0 with y|y
    ·exact .inr (.inl (by omega))
    ·exact .inl (by omega)
   ·rw [show q - (s - 1)=mid+m - s by omega] at x
    exact .inr (.inr ⟨by omega,by omega,x⟩)
 ·rcases hhi with x|x
  ·rcases h0 with y|y
   ·exact .inr (.inl (by omega))
   ·exact .inl (by omega)
  ·by_cases c:s=r0
   ·rcases h0 with y|y
    ·exact .inr (.inl (by omega))
    ·exact .inl (by omega)
   ·rw [show q - s=mid+m - s - 1 by omega] at x
    exact .inr (.inr ⟨by omega,by omega,x⟩)
def BlK (key:Nat->Int) (f:Nat->Nat) (n B k:Nat):Prop:=∀ x,x<k->SdK key f (x*B) (min (x*B+B) n)
theorem zqy {g g1 g2:Nat->Nat} {mid:Nat} (hc:CutK key f a m b s e) (hl:SdK key f a m) (hr:SdK key f m b) (ht:StK key f a b) (hg:g=roK f s m e) (hmid:s+(e - m)=mid) (h1:MgK key g g1 a mid) (h2:MgK key g1 g2 mid b):MgK key f g2 a b:=by
 have hrot:=hc.rot hl hr ht;rw [<- hg,hmid] at hrot;obtain ⟨_,_,_,_,r5,r6⟩:=hrot;have ha:=hc.s1;have hm:=hc.sm;have he:=hc.me;have hb:=hc.eb
 have hx:=merged (key:=key) (f:=g) (f2:=g2) (a:=a) (b:=b) (c:=mid) (by omega) (by omega) (h2.beside h1.sd (.inl (Nat.le_refl _))) h2.sd (h1.st.congr fun p p1 p2=>h2.im.1 p (.inl p2)) h2.st r5 r6 (fun p p1 p2=>by
  obtain ⟨q,q1,q2,e1⟩:=h1.im.2 p p1 p2
  exact ⟨q,q1,q2,(h2.im.1 p (.inl p2)).trans e1⟩) (fun p p1 p2=>by
  obtain ⟨q,q1,q2,e1⟩:=h2.im.2 p p1 p2
  exact ⟨q,q1,q2,e1.trans (h1.im.1 q (.inr q1))⟩)
 refine ⟨?_,hx.1,hx.2⟩
 have hi:ImK f g a b:=by rw [hg];exact zpe ha hm he hb
 exact hi.trans ((h1.im.mono (Nat.le_refl _) (by omega)).trans (h2.im.mono (by omega) (Nat.le_refl _)))
theorem sym_pre {g:Nat->Nat} {mid:Nat} (hc:CutK key f a m b s e) (hl:SdK key f a m) (hr:SdK key f m b) (ht:StK key f a b) (hg:g=roK f s m e) (hmid:s+(e - m)=mid):SdK key g a s/\SdK key g s mid/\SdK key g mid e/\SdK key g e b/\StK key g a b:=by
 have hrot:=hc.rot hl hr ht;rw [<- hg,hmid] at hrot
 exact ⟨hrot.1,hrot.2.1,hrot.2.2.1,hrot.2.2.2.1,hrot.2.2.2.2.1⟩
theorem MgK.same (h:SdK key f a b) (ht:StK key f a b):MgK key f f a b:=⟨ImK.refl _ _ _,h,ht⟩
theorem BlK.step {B k:Nat} (h:BlK key f n B k) (hm:MgK key f f' (k*B) (min (k*B+B) n)):BlK key f' n B (k+1):=fun x hx=>by
 rcases Nat.lt_or_ge x k with c|c
 ·have h1:x*B+B<=k*B:=by
   have h2:=Nat.mul_le_mul_right B (show x+1<=k by omega)
   rw [Nat.add_mul,Nat.one_mul] at h2
   exact h2
  exact hm.beside (h x c) (.inl (by omega))
 ·rw [show x=k by omega]
  exact hm.sd
theorem BlK.rest {B k:Nat} {kk:Nat} (h:BlK key f n B kk) (hm:MgK key f f' (k*(2*B)) b) {x:Nat} (hx:x<kk) (h2:2*k+2<=x) (hb:b<=k*(2*B)+2*B):SdK key f' (x*B) (min (x*B+B) n):=by
 refine hm.beside (h x hx) (.inr ?_)
 have h3:=Nat.mul_le_mul_right B h2;rw [Nat.add_mul,Nat.mul_comm 2 k,Nat.mul_assoc] at h3
 omega
end
end
section
section
variable {n:Nat} {key:Nat->Int}
theorem zis {f f1 f2:Nat->Nat} {a b k B:Nat} (ha:a=k*B) (hb:b=a+B) (hbn:b<=n) (hk:BlK key f1 n B k) (ht:StK key f1 0 n) (hi:ImK f f1 0 n) (h:MgK key f1 f2 a b) :
  b=(k+1)*B/\BlK key f2 n B (k+1)/\StK key f2 0 n/\ImK f f2 0 n:=by
 subst ha
 refine ⟨by rw [hb,Nat.add_mul,Nat.one_mul],hk.step ?_,h.whole ht (Nat.zero_le _) hbn,hi.trans (h.im.mono (Nat.zero_le _) hbn)⟩
 rw [show min (k*B+B) n=b by omega]
 exact h
theorem zln {f f1 f2:Nat->Nat} {a k B:Nat} (ha:a=k*B) (han:a<=n) (hb:n<a+B) (hk:BlK key f1 n B k) (ht:StK key f1 0 n) (hi:ImK f f1 0 n) (h:MgK key f1 f2 a n) :
  (∀ k,BlK key f2 n B k)/\StK key f2 0 n/\ImK f f2 0 n:=by
 subst ha
 refine ⟨fun k2 x hx=>?_,h.whole ht (Nat.zero_le _) (Nat.le_refl _),hi.trans (h.im.mono (Nat.zero_le _) (Nat.le_refl _))⟩
 have hs:BlK key f2 n B (k+1):=hk.step (by rw [show min (k*B+B) n=n by omega];exact h)
 rcases Nat.lt_or_ge x (k+1) with c|c
 ·exact hs x c
 ·have h3:=Nat.mul_le_mul_right B c
  rw [Nat.add_mul,Nat.one_mul] at h3;intro p q p1 p2 p3
  omega
theorem blk_all {f:Nat->Nat} {B:Nat} (h:∀ k,BlK key f n B k) (hB:n<=B):SdK key f 0 n:=by
 have h1:=h 1 0 (by omega)
 rw [Nat.zero_mul,show min (0+B) n=n by omega] at h1
 exact h1
theorem pr_pre {g:Nat->Nat} {a k B:Nat} (ha:a=k*(2*B)) (h:∀ x,2*k<=x->SdK key g (x*B) (min (x*B+B) n)):SdK key g a (min (a+B) n)/\SdK key g (a+B) (min (a+2*B) n):=by
 have e1:2*k*B=k*(2*B):=by rw [Nat.mul_comm 2 k,Nat.mul_assoc]
 have h1:=h (2*k) (Nat.le_refl _)
 have h2:=h (2*k+1) (by omega)
 rw [Nat.add_mul,Nat.one_mul] at h2;rw [e1,<- ha] at h1 h2
 refine ⟨h1,?_⟩
 rw [show a+2*B=a+B+B by omega]
 exact h2
theorem pr_rest {g g2:Nat->Nat} {a b k B:Nat} (ha:a=k*(2*B)) (hb:b<=a+2*B) (h:∀ x,2*k<=x->SdK key g (x*B) (min (x*B+B) n)) (hm:MgK key g g2 a b):∀ x,2*(k+1)<=x->SdK key g2 (x*B) (min (x*B+B) n):=fun x hx=>by
 refine hm.beside (h x (by omega)) (.inr ?_)
 have h3:=Nat.mul_le_mul_right B (show 2*k+2<=x by omega)
 rw [Nat.add_mul,Nat.mul_comm 2 k,Nat.mul_assoc,<- ha] at h3
 omega
end
end
end Go.Proofs.YtfekhdgjgjodlaaGreat
