/-
  Words and contracts that a statement's proof rests on (Ticks, PlainBu, PlainSt). No statement is proved here.
-/
import Derived.Deep.OwnRows
import Derived.Test.YtfekhdgjgjodlaaGreatKit
import Derived.Test.YtfekhdgjgjodlaaGreatPtB
set_option linter.unusedVariables false
set_option linter.unusedSimpArgs false
namespace Go.Proofs.YtfekhdgjgjodlaaGreat
section
open Go.RowKit
def zfe (now t:Nat):Nat:=(now+4294967296 - t) % 4294967296
def ageN (now t:Nat):Nat:=if zfe now t<2147483648 then zfe now t else 0
def oldB (now t lim:Nat):Bool:=decide (lim<ageN now t)
theorem zl7 (now t:Nat):zfe now t<4294967296:=Nat.mod_lt _ (by omega)
theorem zn5 {now t:Nat} (h:zfe now t<2147483648):ageN now t=zfe now t:=if_pos h
theorem zle {now t:Nat} (h:¬ zfe now t<2147483648):ageN now t=0:=if_neg h
theorem zn6 {now t:Nat} (h:now<4294967296) (ht:t<4294967296):IntKind.u32.wrap ((now:Int) - (t:Int))=((zfe now t:Nat):Int):=by
 rw [IntKind.wrap_u32];unfold zfe;omega
set_option maxHeartbeats 400000 in
theorem zgf (now t:Nat) (hn:now<4294967296) (ht:t<4294967296) (w:World) :
  Calls Tryz.prog 143 #[.int .u32 (now:Int),.int .u32 (t:Int)] w fun e w'=>e=.returned (.int .u32 (ageN now t:Nat))/\w=w':=by
 obtain ⟨x,hd⟩:∃ x,zfe now t=x:=⟨_,rfl⟩;have hw:=zn6 hn ht;have hx:=zl7 now t;have hi:=@zn5 now t;have ho:=@zle now t;rw [hd] at hw hx hi ho;clear hd
 by_cases h:¬ 2147483648<=(x:Int)
 ·rw [hi (by omega)]
  have hx':¬ 4294967296<=(x:Int):=by omega
  clear hi ho hx
  go_enter Tryz.func143,Tryz.ntmps143
  go_wp2
  go_ret
  exact ⟨rfl,rfl⟩
 ·rw [ho (by omega)]
  have hx':¬ 4294967296<=(x:Int):=by omega
  replace h:=Decidable.not_not.1 h
  clear hi ho hx
  go_enter Tryz.func143,Tryz.ntmps143
  go_wp2
  go_ret
  exact ⟨rfl,rfl⟩
set_option maxHeartbeats 400000 in
theorem zh7 (now t:Nat) (hn:now<4294967296) (ht:t<4294967296) (w:World) :
  Calls Tryz.prog 124 #[.int .u32 (now:Int),.int .u32 (t:Int)] w fun e w'=>e=.returned (.int .u32 (ageN now t:Nat))/\w=w':=by
 obtain ⟨x,hd⟩:∃ x,zfe now t=x:=⟨_,rfl⟩
 have hw:((now:Int)+4294967296 - (t:Int)) % 4294967296=(zfe now t:Int):=by unfold zfe;omega
 have hx:=zl7 now t;have hi:=@zn5 now t;have ho:=@zle now t;rw [hd] at hw hx hi ho;clear hd
 by_cases h:¬ 2147483648<=(x:Int)
 ·rw [hi (by omega)]
  have hx':¬ 4294967296<=(x:Int):=by omega
  clear hi ho hx
  have hv:IntKind.u32.wrap (x:Int)=(x:Int):=IntWalk.u32_in _ (by omega)
  go_enter Tryz.func124,Tryz.ntmps124
  go_wp2
  go_ret
  exact ⟨rfl,rfl⟩
 ·rw [ho (by omega)]
  have hx':¬ 4294967296<=(x:Int):=by omega
  replace h:=Decidable.not_not.1 h
  clear hi ho hx
  go_enter Tryz.func124,Tryz.ntmps124
  go_wp2
  go_ret
  exact ⟨rfl,rfl⟩
set_option maxHeartbeats 400000 in
theorem zqi (now t lim:Nat) (hn:now<4294967296) (ht:t<4294967296) (w:World) :
  Calls Tryz.prog 131 #[.int .u32 (now:Int),.int .u32 (t:Int),.int .u32 (lim:Int)] w fun e w'=>e=.returned (.bool (oldB now t lim))/\w=w':=by
 have hA:=Lib.hid fun W=>zgf now t hn ht W
 unfold oldB
 generalize ageN now t=x at *
 go_enter Tryz.func131,Tryz.ntmps131
 go_wp2_with fail
 refine (hA.out _).mono ?_
 rintro e w1 ⟨rfl,rfl⟩
 go_wp2
 go_ret
 exact ⟨zai (by simp),rfl⟩
set_option maxHeartbeats 400000 in
theorem ref4_Old (now t lim:Nat) (hn:now<4294967296) (ht:t<4294967296) (w:World) :
  Calls Tryz.prog 102 #[.int .u32 (now:Int),.int .u32 (t:Int),.int .u32 (lim:Int)] w fun e w'=>e=.returned (.bool (oldB now t lim))/\w=w':=by
 have hA:=Lib.hid fun W=>zh7 now t hn ht W
 unfold oldB
 generalize ageN now t=x at *
 go_enter Tryz.func102,Tryz.ntmps102
 go_wp2_with fail
 refine (hA.out _).mono ?_
 rintro e w1 ⟨rfl,rfl⟩
 go_wp2
 go_ret
 exact ⟨zai (by simp),rfl⟩
end
section
open Go.RowKit
structure Pl where
 used:Bool
 e:En
deriving DecidableEq
def pl0:Pl:=⟨false,en0⟩
def Pl.ok (x:Pl):Prop:=x.e.ok
def Pl.cells (x:Pl):List Value:=[.bool x.used,.int .i64 x.e.vid,.int .u64 (x.e.mac:Nat),.int .i64 x.e.port,.bool x.e.st,.int .u32 (x.e.stamp:Nat)]
def plc:List Pl->List Value
 |[]=>[]
 |x :: l=>x.cells ++ plc l
theorem zhq:∀ l:List Pl,(plc l).length=l.length*6
 |[]=>rfl
 |x :: l=>by
  have:=zhq l
  simp [plc,Pl.cells,this]
  omega
theorem zg4:∀ a b:List Pl,plc (a ++ b)=plc a ++ plc b
 |[],b=>rfl
 |x :: a,b=>by simp [plc,zg4 a b]
theorem zor:∀ (l:List Pl) (j f:Nat),f<6->(plc l)[j*6+f]?=(l[j]?).bind fun x=>x.cells[f]?
 |[],j,f,_=>by simp [plc]
 |x :: l,0,f,h=>by
  rw [plc,List.getElem?_append_left (by simp [Pl.cells];omega)]
  simp
 |x :: l,j+1,f,h=>by
  have:=zor l j f h
  rw [plc,List.getElem?_append_right (by simp [Pl.cells];omega)]
  have e:(j+1)*6+f - x.cells.length=j*6+f:=by simp [Pl.cells];omega
  rw [e,this]
  simp
def zcg (w:World) (b o:Nat) (x:Pl):Prop :=
 w.cell? ⟨b,o,none⟩=some (.bool x.used)/\w.cell? ⟨b,o+1,none⟩=some (.int .i64 x.e.vid)/\w.cell? ⟨b,o+2,none⟩=some (.int .u64 (x.e.mac:Nat))/\w.cell? ⟨b,o+3,none⟩=some (.int .i64 x.e.port)/\w.cell? ⟨b,o+4,none⟩=some (.bool x.e.st)/\w.cell? ⟨b,o+5,none⟩=some (.int .u32 (x.e.stamp:Nat))
theorem Sl.plAt {w:World} {B n:Nat} {v:Value} {l:List Pl} (h:Sl w B 6 v n (plc l)) (hn:0<n) :
  ∃ b off cap,v=.slice (some ⟨b,off,none⟩) n cap/\n<=cap/\cap<=maxLen/\b<B/\l.length=n/\∀ j,j<n->zcg w b (off+j*6) (l.getD j pl0):=by
 have hl:=h.len;rw [zhq] at hl;obtain ⟨b,off,cap,rfl,h1,h2,h3,h4⟩:=h.at_ hn
 refine ⟨b,off,cap,rfl,h1,h2,h3,by omega,fun j hj=>?_⟩
 have hjl:j<l.length:=by omega
 have a0:=h4 (j*6+0) (by omega)
 have a1:=h4 (j*6+1) (by omega)
 have a2:=h4 (j*6+2) (by omega)
 have a3:=h4 (j*6+3) (by omega)
 have a4:=h4 (j*6+4) (by omega)
 have a5:=h4 (j*6+5) (by omega)
 rw [zor l j _ (by omega),List.getElem?_eq_getElem hjl] at a0 a1 a2 a3 a4 a5
 simp only [List.getD_eq_getElem?_getD,List.getElem?_eq_getElem hjl,Option.getD_some]
 exact ⟨a0,a1,a2,a3,a4,a5⟩
def rowP (f:Nat->Pl) (j:Nat):Value:=(f (j / 6)).cells.getD (j % 6) (.bool false)
def updP (f:Nat->Pl) (k:Nat) (p:Pl) (i:Nat):Pl:=if i=k then p else f i
theorem zkf (f:Nat->Pl) (k c:Nat) (hc:c<6):rowP f (k*6+c)=(f k).cells.getD c (.bool false):=by
 unfold rowP
 rw [show (k*6+c) / 6=k by omega,show (k*6+c) % 6=c by omega]
theorem zmj {w:World} {g M:Nat} {t:TypeId} {f:Nat->Pl} (h:w.rowIs g t (M*6) (rowP f)) {k:Nat} (hk:k<M):zcg w g (k*6) (f k):=by
 have q:∀ c,c<6->w.cell? ⟨g,k*6+c,none⟩=some ((f k).cells.getD c (.bool false)):=fun c hc=>by
  rw [h.cell (show k*6+c<M*6 by omega),zkf f k c hc]
 exact ⟨q 0 (by omega),q 1 (by omega),q 2 (by omega),q 3 (by omega),q 4 (by omega),q 5 (by omega)⟩
theorem zhz (f:Nat->Pl) (G:Nat->Value) (k:Nat) (u:Bool) (v:Int) (m:Nat) (p:Int) (st:Bool) (s:Nat) (i:Nat) (hG:G i=rowP f i) :
  (if i=k*6+5 then Value.int .u32 (s:Nat) else if i=k*6+4 then .bool st else if i=k*6+3 then .int .i64 p else if i=k*6+2 then .int .u64 (m:Nat) else if i=k*6+1 then .int .i64 v else if i=k*6 then .bool u else G i)=rowP (updP f k ⟨u,⟨v,m,p,st,s⟩⟩) i:=by
 have e:i=i / 6*6+i % 6:=by omega
 have hm:i % 6<6:=by omega
 by_cases hik:i / 6=k
 ·have hr:rowP (updP f k ⟨u,⟨v,m,p,st,s⟩⟩) i=(Pl.cells ⟨u,⟨v,m,p,st,s⟩⟩).getD (i % 6) (.bool false):=by
   unfold rowP updP;rw [if_pos hik]
  rw [hr]
  rcases (show i % 6=0\/i % 6=1\/i % 6=2\/i % 6=3\/i % 6=4\/i % 6=5 by omega) with h|h|h|h|h|h <;> rw [h] <;> simp only [Pl.cells,List.getD_cons_zero,List.getD_cons_succ]
  ·rw [if_neg (by omega),if_neg (by omega),if_neg (by omega),if_neg (by omega),if_neg (by omega),if_pos (by omega)]
  ·rw [if_neg (by omega),if_neg (by omega),if_neg (by omega),if_neg (by omega),if_pos (by omega)]
  ·rw [if_neg (by omega),if_neg (by omega),if_neg (by omega),if_pos (by omega)]
  ·rw [if_neg (by omega),if_neg (by omega),if_pos (by omega)]
  ·rw [if_neg (by omega),if_pos (by omega)]
  ·rw [if_pos (by omega)]
 ·rw [if_neg (by omega),if_neg (by omega),if_neg (by omega),if_neg (by omega),if_neg (by omega),if_neg (by omega),hG]
  unfold rowP updP;rw [if_neg hik]
theorem zmi {w:World} {g M:Nat} {t:TypeId} {f:Nat->Pl} (h:w.rowIs g t (M*6) (rowP f)) (k:Nat) (u:Bool) (v:Int) (m:Nat) (p:Int) (st:Bool) (s:Nat) :
  ((((((w.setCell ⟨g,k*6,none⟩ (.bool u)).setCell ⟨g,k*6+1,none⟩ (.int .i64 v)).setCell ⟨g,k*6+2,none⟩ (.int .u64 (m:Nat))).setCell ⟨g,k*6+3,none⟩ (.int .i64 p)).setCell ⟨g,k*6+4,none⟩ (.bool st)).setCell ⟨g,k*6+5,none⟩ (.int .u32 (s:Nat))).rowIs g t (M*6) (rowP (updP f k ⟨u,⟨v,m,p,st,s⟩⟩)) :=
 ((((((h.set _ _).set _ _).set _ _).set _ _).set _ _).set _ _).congr fun i _=>zhz f (rowP f) k u v m p st s i rfl
def ze5 (f:Nat->Pl) (n:Nat):List Pl:=(List.range n).map f
def zaw (f:Nat->Bool):Nat->Int
 |0=>-1
 |k+1=>if 0<=zaw f k then zaw f k else if f k=true then (k:Int) else -1
theorem zbi (f:Nat->Bool):∀ k,(∀ i,i<k->f i=false)->zaw f k=-1
 |0,_=>rfl
 |k+1,h=>by
  rw [zaw,zbi f k fun i hi=>h i (by omega),if_neg (by omega),h k (by omega)]
  rfl
theorem za5 (f:Nat->Bool) (k:Nat) (h:∀ i,i<k->f i=false) (hk:f k=true):∀ n,k<n->zaw f n=(k:Int)
 |0,h0=>by omega
 |n+1,h0=>by
  rw [zaw]
  rcases Nat.lt_or_ge k n with h1|h1
  ·rw [za5 f k h hk n h1,if_pos (by omega)]
  ·obtain rfl:k=n:=by omega
   rw [zbi f k h,if_neg (by omega),if_pos hk]
theorem zb0 (f:Nat->Bool):∀ k,-1<=zaw f k/\zaw f k<k
 |0=>by simp [zaw]
 |k+1=>by
  have:=zb0 f k
  rw [zaw]
  split
  ·omega
  ·split <;> omega
theorem zdk (f:Nat->Bool):∀ k,0<=zaw f k->f (zaw f k).toNat=true
 |0=>by simp [zaw]
 |k+1=>by
  intro h;rw [zaw] at h |-
  split
  ·rename_i h1;exact zdk f k h1
  ·rename_i h1
   rw [if_neg h1] at h
   split
   ·rename_i h2;simpa using h2
   ·rename_i h2;rw [if_neg h2] at h;omega
def zeg (ok:Nat->Bool) (f:Nat->Nat):Nat->Int
 |0=>-1
 |k+1=>if ok k=true/\(zeg ok f k<0\/f (zeg ok f k).toNat<f k) then (k:Int) else zeg ok f k
theorem zhy (ok:Nat->Bool) (f:Nat->Nat):∀ k,-1<=zeg ok f k/\zeg ok f k<k
 |0=>by simp [zeg]
 |k+1=>by
  have:=zhy ok f k
  rw [zeg]
  split <;> omega
def atP (l:List Pl) (i:Nat):Pl:=l.getD i pl0
def ownP (p:Pl):Pl:=if p.used=true then p else pl0
def keyF (f:Nat->Pl) (v:Int) (m:Nat) (i:Nat):Bool:=(f i).used && ((f i).e.vid == v && (f i).e.mac == m)
def zat (f:Nat->Pl) (v:Int) (m n:Nat):Int:=zaw (keyF f v m) n
def zb2 (f:Nat->Pl) (now n:Nat):Int×Nat :=
 if 0<=zaw (fun i=>!(f i).used) n then (zaw (fun i=>!(f i).used) n,3)
 else if zeg (fun i=>!(f i).e.st) (fun i=>ageN now (f i).e.stamp) n<0 then (-1,5)
 else (zeg (fun i=>!(f i).e.st) (fun i=>ageN now (f i).e.stamp) n,4)
def zbe (o e:En):Nat:=if o=e\/(o.st=true/\e.st=false) then 0 else if e.st=false/\o.port=e.port then 1 else 2
def putF (f:Nat->Pl) (e:En) (now n:Nat):(Nat->Pl)×Nat :=
 if zc3 e=false then (f,5)
 else if zat f e.vid e.mac n<0 then
  (if (zb2 f now n).1<0 then (f,5) else (updP f (zb2 f now n).1.toNat ⟨true,e⟩,(zb2 f now n).2))
 else if zbe (f (zat f e.vid e.mac n).toNat).e e=0 then (f,0)
 else (updP f (zat f e.vid e.mac n).toNat ⟨true,e⟩,zbe (f (zat f e.vid e.mac n).toNat).e e)
def zbv (f:Nat->Pl) (v:Int) (m n:Nat):(Nat->Pl)×Bool :=
 if zat f v m n<0 then (f,false)
 else if (f (zat f v m n).toNat).e.st=true then (updP f (zat f v m n).toNat pl0,true) else (f,false)
def zdj (f:Nat->Pl) (g:En->Bool) (i:Nat):Bool:=(f i).used && !(f i).e.st && g (f i).e
def zci (f:Nat->Pl) (g:En->Bool) (i:Nat):Pl:=if zdj f g i=true then pl0 else f i
def zbq (f:Nat->Pl) (g:En->Bool):Nat->Nat
 |0=>0
 |k+1=>zbq f g k+(if zdj f g k=true then 1 else 0)
theorem zdr (f:Nat->Pl) (g:En->Bool):∀ k,zbq f g k<=k
 |0=>Nat.le_refl _
 |k+1=>by
  have:=zdr f g k
  rw [zbq]
  split <;> omega
end
section
def SdK (key:Nat->Int) (f:Nat->Nat) (a b:Nat):Prop:=∀ p q,a<=p->p<q->q<b->key (f p)<=key (f q)
def StK (key:Nat->Int) (f:Nat->Nat) (a b:Nat):Prop:=∀ p q,a<=p->p<q->q<b->key (f p)=key (f q)->f p<f q
def ImK (f f':Nat->Nat) (a b:Nat):Prop:=(∀ p,p<a\/b<=p->f' p=f p)/\∀ p,a<=p->p<b->∃ q,a<=q/\q<b/\f' p=f q
def swK (f:Nat->Nat) (i j p:Nat):Nat:=if p=i then f j else if p=j then f i else f p
section
variable {key:Nat->Int} {f f' f2:Nat->Nat} {a b a0 b0 i j m:Nat}
theorem ImK.refl (f:Nat->Nat) (a b:Nat):ImK f f a b:=⟨fun _ _=>rfl,fun p h1 h2=>⟨p,h1,h2,rfl⟩⟩
theorem ImK.trans (h:ImK f f' a b) (k:ImK f' f2 a b):ImK f f2 a b :=
 ⟨fun p hp=>(k.1 p hp).trans (h.1 p hp),fun p h1 h2=>by
  obtain ⟨q,q1,q2,e⟩:=k.2 p h1 h2;obtain ⟨r,r1,r2,e2⟩:=h.2 q q1 q2
  exact ⟨r,r1,r2,e.trans e2⟩⟩
theorem ImK.mono (h:ImK f f' a b) (h1:a0<=a) (h2:b<=b0):ImK f f' a0 b0 :=
 ⟨fun p hp=>h.1 p (by omega),fun p p1 p2=>by
  by_cases hp:a<=p/\p<b
  ·obtain ⟨q,q1,q2,e⟩:=h.2 p hp.1 hp.2
   exact ⟨q,by omega,by omega,e⟩
  ·exact ⟨p,p1,p2,h.1 p (by omega)⟩⟩
theorem zhx (f:Nat->Nat) (i j:Nat):swK f i j i=f j:=if_pos rfl
theorem zi5 (f:Nat->Nat) (i j:Nat):swK f i j j=f i:=by
 unfold swK
 split
 ·rename_i h;rw [h]
 ·exact if_pos rfl
theorem zke {p:Nat} (h1:p≠i) (h2:p≠j):swK f i j p=f p:=by
 unfold swK;rw [if_neg h1,if_neg h2]
theorem swK_im (h1:a<=i) (h2:i<b) (h3:a<=j) (h4:j<b):ImK f (swK f i j) a b :=
 ⟨fun p hp=>zke (by omega) (by omega),fun p p1 p2=>by
  by_cases e:p=i
  ·subst e;exact ⟨j,h3,h4,zhx _ _ _⟩
  ·by_cases e2:p=j
   ·subst e2;exact ⟨i,h1,h2,zi5 _ _ _⟩
   ·exact ⟨p,p1,p2,zke e e2⟩⟩
theorem StK.mono (h:StK key f a b) (h1:a<=a0) (h2:b0<=b):StK key f a0 b0:=fun p q p1 p2 p3 e=>h p q (by omega) p2 (by omega) e
theorem SdK.mono (h:SdK key f a b) (h1:a<=a0) (h2:b0<=b):SdK key f a0 b0:=fun p q p1 p2 p3=>h p q (by omega) p2 (by omega)
theorem StK.congr (h:StK key f a b) (e:∀ p,a<=p->p<b->f' p=f p):StK key f' a b:=fun p q p1 p2 p3 h0=>by
 rw [e p p1 (by omega),e q (by omega) p3] at h0 |-
 exact h p q p1 p2 p3 h0
theorem SdK.congr (h:SdK key f a b) (e:∀ p,a<=p->p<b->f' p=f p):SdK key f' a b:=fun p q p1 p2 p3=>by
 rw [e p p1 (by omega),e q (by omega) p3]
 exact h p q p1 p2 p3
theorem StK.swap (h:StK key f a b) (h1:a<j) (h2:j<b) (hlt:key (f j)<key (f (j - 1))):StK key (swK f j (j - 1)) a b:=fun p q p1 p2 p3 e=>by
 have hp:∀ x,x≠j->x≠j - 1->swK f j (j - 1) x=f x:=fun x=>zke
 by_cases ep:p=j - 1
 ·subst ep
  rw [zi5] at e |-
  by_cases eq:q=j
  ·subst eq
   rw [zhx] at e
   omega
  ·rw [hp q eq (by omega)] at e |-
   exact h j q (by omega) (by omega) p3 e
 ·by_cases ep2:p=j
  ·subst ep2
   rw [zhx] at e |-
   rw [hp q (by omega) (by omega)] at e |-
   exact h (p - 1) q (by omega) (by omega) p3 e
  ·rw [hp p ep2 ep] at e |-
   by_cases eq:q=j
   ·subst eq
    rw [zhx] at e |-
    exact h p (q - 1) p1 (by omega) (by omega) e
   ·by_cases eq2:q=j - 1
    ·subst eq2
     rw [zi5] at e |-
     exact h p j p1 (by omega) h2 e
    ·rw [hp q eq eq2] at e |-
     exact h p q p1 p2 p3 e
def InK (key:Nat->Int) (f:Nat->Nat) (a i j:Nat):Prop:=∀ p q,a<=p->p<q->q<=i->q≠j->key (f p)<=key (f q)
theorem InK.start (h:SdK key f a i) (hi:a<=i):InK key f a i i:=fun p q p1 p2 p3 p4=>h p q p1 p2 (by omega)
theorem InK.swap (h:InK key f a i j) (h1:a<j) (h2:j<=i) (hlt:key (f j)<key (f (j - 1))):InK key (swK f j (j - 1)) a i (j - 1):=fun p q p1 p2 p3 p4=>by
 have hp:∀ x,x≠j->x≠j - 1->swK f j (j - 1) x=f x:=fun x=>zke
 by_cases eq:q=j
 ·subst eq
  rw [zhx]
  by_cases ep:p=q - 1
  ·subst ep
   rw [zi5]
   omega
  ·rw [hp p (by omega) ep]
   exact h p (q - 1) p1 (by omega) (by omega) (by omega)
 ·rw [hp q eq p4]
  by_cases ep:p=j
  ·subst ep
   rw [zhx]
   exact h (p - 1) q (by omega) (by omega) p3 (by omega)
  ·by_cases ep2:p=j - 1
   ·subst ep2
    rw [zi5]
    exact h j q (by omega) (by omega) p3 (by omega)
   ·rw [hp p ep ep2]
    exact h p q p1 p2 p3 eq
theorem InK.end (h:InK key f a i j) (h1:a<=j) (h2:j<=i) (hge:j=a\/key (f (j - 1))<=key (f j)):SdK key f a (i+1):=fun p q p1 p2 p3=>by
 by_cases eq:q=j
 ·subst eq
  rcases hge with e|e
  ·omega
  ·by_cases ep:p=q - 1
   ·rw [ep];exact e
   ·exact Int.le_trans (h p (q - 1) p1 (by omega) (by omega) (by omega)) e
 ·exact h p q p1 p2 (by omega) eq
def srK (f:Nat->Nat) (a b n p:Nat):Nat:=if a<=p/\p<a+n then f (p - a+b) else if b<=p/\p<b+n then f (p - b+a) else f p
theorem srK_0 (f:Nat->Nat) (a b:Nat):srK f a b 0=f:=funext fun p=>by
 unfold srK
 rw [if_neg (by omega),if_neg (by omega)]
theorem zlg {n:Nat} (h:a+n<b):swK (srK f a b n) (a+n) (b+n)=srK f a b (n+1):=funext fun p=>by
 unfold swK
 by_cases e1:p=a+n
 ·subst e1
  rw [if_pos rfl];unfold srK
  rw [if_neg (by omega),if_neg (by omega),if_pos (by omega)]
  congr 1;omega
 ·rw [if_neg e1]
  by_cases e2:p=b+n
  ·subst e2
   rw [if_pos rfl];unfold srK
   rw [if_neg (by omega),if_neg (by omega),if_neg (by omega),if_pos (by omega)]
   congr 1;omega
  ·rw [if_neg e2]
   unfold srK
   by_cases c1:a<=p/\p<a+n
   ·rw [if_pos c1,if_pos (by omega)]
   ·by_cases c2:b<=p/\p<b+n
    ·rw [if_neg c1,if_pos c2,if_neg (by omega),if_pos (by omega)]
    ·rw [if_neg c1,if_neg c2,if_neg (by omega),if_neg (by omega)]
def roK (f:Nat->Nat) (a m b p:Nat):Nat:=if a<=p/\p<a+(b - m) then f (p+(m - a)) else if a+(b - m)<=p/\p<b then f (p - (b - m)) else f p
structure RoI (f g:Nat->Nat) (m i j:Nat):Prop where
 im:i<=m
 out:∀ p,p<m - i\/m+j<=p->f p=g p
 fst:∀ p,m - i<=p->p<m - i+j->f (p+i)=g p
 snd:∀ p,m - i+j<=p->p<m+j->f (p - j)=g p
theorem RoI.start (h1:a<=m) (h2:m<=b):RoI f (roK f a m b) m (m - a) (b - m):=by
 refine ⟨by omega,fun p hp=>?_,fun p p1 p2=>?_,fun p p1 p2=>?_⟩
 ·unfold roK
  rw [if_neg (by omega),if_neg (by omega)]
 ·unfold roK
  rw [if_pos (by omega)]
 ·unfold roK
  rw [if_neg (by omega),if_pos (by omega)]
theorem RoI.more {g:Nat->Nat} (h:RoI f g m i j) (hij:j<i):RoI (srK f (m - i) m j) g m (i - j) j:=by
 have hi:=h.im
 have q1:∀ p,m - i<=p->p<m - i+j->srK f (m - i) m j p=f (p+i):=fun p p1 p2=>by
  unfold srK
  rw [if_pos (by omega)];congr 1;omega
 have q2:∀ p,m<=p->p<m+j->srK f (m - i) m j p=f (p - i):=fun p p1 p2=>by
  unfold srK
  rw [if_neg (by omega),if_pos (by omega)];congr 1;omega
 have q3:∀ p,p<m - i\/(m - i+j<=p/\p<m)\/m+j<=p->srK f (m - i) m j p=f p:=fun p p1=>by
  unfold srK
  rw [if_neg (by omega),if_neg (by omega)]
 refine ⟨by omega,fun p hp=>?_,fun p p1 p2=>?_,fun p p1 p2=>?_⟩
 ·by_cases c:p<m - i
  ·rw [q3 p (by omega)];exact h.out p (by omega)
  ·by_cases c2:m+j<=p
   ·rw [q3 p (by omega)];exact h.out p (by omega)
   ·rw [q1 p (by omega) (by omega)];exact h.fst p (by omega) (by omega)
 ·rw [q2 (p+(i - j)) (by omega) (by omega),show p+(i - j) - i=p - j by omega]
  exact h.snd p (by omega) (by omega)
 ·rw [q3 (p - j) (by omega)]
  exact h.snd p (by omega) (by omega)
theorem RoI.less {g:Nat->Nat} (h:RoI f g m i j) (hij:i<j):RoI (srK f (m - i) (m+j - i) i) g m i (j - i):=by
 have hi:=h.im
 have q1:∀ p,m - i<=p->p<m->srK f (m - i) (m+j - i) i p=f (p+j):=fun p p1 p2=>by
  unfold srK
  rw [if_pos (by omega)];congr 1;omega
 have q2:∀ p,m+j - i<=p->p<m+j->srK f (m - i) (m+j - i) i p=f (p - j):=fun p p1 p2=>by
  unfold srK
  rw [if_neg (by omega),if_pos (by omega)];congr 1;omega
 have q3:∀ p,p<m - i\/(m<=p/\p<m+j - i)\/m+j<=p->srK f (m - i) (m+j - i) i p=f p:=fun p p1=>by
  unfold srK
  rw [if_neg (by omega),if_neg (by omega)]
 refine ⟨by omega,fun p hp=>?_,fun p p1 p2=>?_,fun p p1 p2=>?_⟩
 ·by_cases c:p<m - i
  ·rw [q3 p (by omega)];exact h.out p (by omega)
  ·by_cases c2:m+j<=p
   ·rw [q3 p (by omega)];exact h.out p (by omega)
   ·rw [q2 p (by omega) (by omega)];exact h.snd p (by omega) (by omega)
 ·rw [q3 (p+i) (by omega)]
  exact h.fst p (by omega) (by omega)
 ·rw [q1 (p - (j - i)) (by omega) (by omega),show p - (j - i)+j=p+i by omega]
  exact h.fst p (by omega) (by omega)
theorem RoI.end {g:Nat->Nat} (h:RoI f g m i i):srK f (m - i) m i=g:=funext fun p=>by
 have hi:=h.im;unfold srK
 by_cases c1:m - i<=p/\p<m - i+i
 ·rw [if_pos c1,<- h.fst p (by omega) (by omega)];congr 1;omega
 ·by_cases c2:m<=p/\p<m+i
  ·rw [if_neg c1,if_pos c2,<- h.snd p (by omega) (by omega)];congr 1;omega
  ·rw [if_neg c1,if_neg c2];exact h.out p (by omega)
theorem zpe (h1:a0<=a) (h2:a<=m) (h3:m<=b) (h4:b<=b0):ImK f (roK f a m b) a0 b0 :=
 ⟨fun p hp=>by unfold roK;rw [if_neg (by omega),if_neg (by omega)],fun p p1 p2=>by
  unfold roK
  split
  ·exact ⟨p+(m - a),by omega,by omega,rfl⟩
  ·split
   ·exact ⟨p - (b - m),by omega,by omega,rfl⟩
   ·exact ⟨p,p1,p2,rfl⟩⟩
structure CutK (key:Nat->Int) (f:Nat->Nat) (a m b s e:Nat):Prop where
 s1:a<=s
 sm:s<=m
 me:m<=e
 eb:e<=b
 lo:s=a\/e=b\/a<s/\e<b/\key (f (s - 1))<=key (f e)
 hi:s=m\/e=m\/s<m/\m<e/\key (f (e - 1))<key (f s)
theorem CutK.rot {s e:Nat} (h:CutK key f a m b s e) (hl:SdK key f a m) (hr:SdK key f m b) (ht:StK key f a b) :
  SdK key (roK f s m e) a s/\SdK key (roK f s m e) s (s+(e - m))/\SdK key (roK f s m e) (s+(e - m)) e/\SdK key (roK f s m e) e b/\StK key (roK f s m e) a b/\∀ p q,a<=p->p<s+(e - m)->s+(e - m)<=q->q<b->key (roK f s m e p)<=key (roK f s m e q):=by
 obtain ⟨h1,h2,h3,h4,hlo,hhi⟩:=h
 have o1:∀ p,p<s->roK f s m e p=f p:=fun p hp=>by unfold roK;rw [if_neg (by omega),if_neg (by omega)]
 have o2:∀ p,e<=p->roK f s m e p=f p:=fun p hp=>by unfold roK;rw [if_neg (by omega),if_neg (by omega)]
 have o3:∀ p,s<=p->p<s+(e - m)->roK f s m e p=f (p+(m - s)):=fun p p1 p2=>by unfold roK;rw [if_pos ⟨p1,p2⟩]
 have o4:∀ p,s+(e - m)<=p->p<e->roK f s m e p=f (p - (e - m)):=fun p p1 p2=>by unfold roK;rw [if_neg (by omega),if_pos ⟨p1,p2⟩]
 -- of the blocks' keys
 have gt:∀ p q,s<=p->p<m->m<=q->q<e->key (f q)<key (f p):=fun p q p1 p2 q1 q2=>by
  rcases hhi with x|x|⟨_,_,x⟩
  ·omega
  ·omega
  ·have y1:key (f s)<=key (f p):=by
    rcases Nat.lt_or_ge s p with c|c
    ·exact hl s p h1 c p2
    ·rw [show p=s by omega];exact Int.le_refl _
   have y2:key (f q)<=key (f (e - 1)):=by
    rcases Nat.lt_or_ge q (e - 1) with c|c
    ·exact hr q (e - 1) q1 c (by omega)
    ·rw [show q=e - 1 by omega];exact Int.le_refl _
   omega
 have le1:∀ p q,a<=p->p<s->e<=q->q<b->key (f p)<=key (f q):=fun p q p1 p2 q1 q2=>by
  rcases hlo with x|x|⟨_,_,x⟩
  ·omega
  ·omega
  ·have y1:key (f p)<=key (f (s - 1)):=by
    rcases Nat.lt_or_ge p (s - 1) with c|c
    ·exact hl p (s - 1) p1 c (by omega)
    ·rw [show p=s - 1 by omega];exact Int.le_refl _
   have y2:key (f e)<=key (f q):=by
    rcases Nat.lt_or_ge e q with c|c
    ·exact hr e q h3 c q2
    ·rw [show q=e by omega];exact Int.le_refl _
   omega
 refine ⟨fun p q p1 p2 p3=>?_,fun p q p1 p2 p3=>?_,fun p q p1 p2 p3=>?_,fun p q p1 p2 p3=>?_,fun p q p1 p2 p3 x=>?_,fun p q p1 p2 q1 q2=>?_⟩
 ·rw [o1 p (by omega),o1 q (by omega)];exact hl p q p1 p2 (by omega)
 ·rw [o3 p p1 (by omega),o3 q (by omega) p3];exact hr _ _ (by omega) (by omega) (by omega)
 ·rw [o4 p p1 (by omega),o4 q (by omega) p3];exact hl _ _ (by omega) (by omega) (by omega)
 ·rw [o2 p (by omega),o2 q (by omega)];exact hr p q (by omega) p2 p3
 ·rcases Nat.lt_or_ge p s with c1|c1
  ·rw [o1 p c1] at x |-
   rcases Nat.lt_or_ge q s with d1|d1
   ·rw [o1 q d1] at x |-;exact ht p q p1 p2 p3 x
   ·rcases Nat.lt_or_ge q (s+(e - m)) with d2|d2
    ·rw [o3 q d1 d2] at x |-;exact ht p _ p1 (by omega) (by omega) x
    ·rcases Nat.lt_or_ge q e with d3|d3
     ·rw [o4 q d2 d3] at x |-;exact ht p _ p1 (by omega) (by omega) x
     ·rw [o2 q d3] at x |-;exact ht p q p1 p2 p3 x
  ·rcases Nat.lt_or_ge p (s+(e - m)) with c2|c2
   ·rw [o3 p c1 c2] at x |-
    rcases Nat.lt_or_ge q (s+(e - m)) with d2|d2
    ·rw [o3 q (by omega) d2] at x |-;exact ht _ _ (by omega) (by omega) (by omega) x
    ·rcases Nat.lt_or_ge q e with d3|d3
     ·rw [o4 q d2 d3] at x |-
      have:=gt (q - (e - m)) (p+(m - s)) (by omega) (by omega) (by omega) (by omega)
      omega
     ·rw [o2 q d3] at x |-;exact ht _ q (by omega) (by omega) p3 x
   ·rcases Nat.lt_or_ge p e with c3|c3
    ·rw [o4 p c2 c3] at x |-
     rcases Nat.lt_or_ge q e with d3|d3
     ·rw [o4 q (by omega) d3] at x |-;exact ht _ _ (by omega) (by omega) (by omega) x
     ·rw [o2 q d3] at x |-;exact ht _ q (by omega) (by omega) p3 x
    ·rw [o2 p c3,o2 q (by omega)] at x |-;exact ht p q p1 p2 p3 x
 ·rcases Nat.lt_or_ge p s with c1|c1
  ·rw [o1 p c1]
   rcases Nat.lt_or_ge q e with d3|d3
   ·rw [o4 q q1 d3];exact hl p _ p1 (by omega) (by omega)
   ·rw [o2 q d3];exact le1 p q p1 c1 d3 q2
  ·rw [o3 p c1 p2]
   rcases Nat.lt_or_ge q e with d3|d3
   ·rw [o4 q q1 d3]
    exact Int.le_of_lt (gt (q - (e - m)) (p+(m - s)) (by omega) (by omega) (by omega) (by omega))
   ·rw [o2 q d3];exact hr _ q (by omega) (by omega) q2
theorem merged {c:Nat} (hc1:a<=c) (hc2:c<=b) (hL:SdK key f2 a c) (hR:SdK key f2 c b) (hTL:StK key f2 a c) (hTR:StK key f2 c b) (ht:StK key f a b) (hx:∀ p q,a<=p->p<c->c<=q->q<b->key (f p)<=key (f q)) (h1:∀ p,a<=p->p<c->∃ q,a<=q/\q<c/\f2 p=f q) (h2:∀ p,c<=p->p<b->∃ q,c<=q/\q<b/\f2 p=f q):SdK key f2 a b/\StK key f2 a b:=by
 refine ⟨fun p q p1 p2 p3=>?_,fun p q p1 p2 p3 x=>?_⟩
 ·rcases Nat.lt_or_ge q c with d|d
  ·exact hL p q p1 p2 d
  ·rcases Nat.lt_or_ge p c with d2|d2
   ·obtain ⟨u,u1,u2,e1⟩:=h1 p p1 d2
    obtain ⟨v,v1,v2,e2⟩:=h2 q d p3;rw [e1,e2]
    exact hx u v u1 u2 v1 v2
   ·exact hR p q d2 p2 p3
 ·rcases Nat.lt_or_ge q c with d|d
  ·exact hTL p q p1 p2 d x
  ·rcases Nat.lt_or_ge p c with d2|d2
   ·obtain ⟨u,u1,u2,e1⟩:=h1 p p1 d2
    obtain ⟨v,v1,v2,e2⟩:=h2 q d p3;rw [e1,e2] at x |-
    exact ht u v u1 (by omega) v2 x
   ·exact hTR p q d2 p2 p3 x
end
end
end Go.Proofs.YtfekhdgjgjodlaaGreat
