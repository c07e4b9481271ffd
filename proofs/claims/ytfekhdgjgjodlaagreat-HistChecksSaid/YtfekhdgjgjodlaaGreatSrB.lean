/-
  Words and contracts that a statement's proof rests on (Words, Row, RowH, TicksB, BuQ, BkK, SrA, SrB, HiI). No statement is proved here.
-/
import Derived.Deep.OwnRows
import Derived.IntWalk
import Derived.Test.YtfekhdgjgjodlaaGreatKit
import Derived.Test.YtfekhdgjgjodlaaGreatTicks
import Derived.Test.YtfekhdgjgjodlaaGreatBuC
import Derived.Test.YtfekhdgjgjodlaaGreatBuH
import Derived.Test.YtfekhdgjgjodlaaGreatBuI
import Derived.Test.YtfekhdgjgjodlaaGreatBkE
import Derived.Test.YtfekhdgjgjodlaaGreatPtB
set_option linter.unusedVariables false
set_option linter.unusedSimpArgs false
namespace Go.Proofs.YtfekhdgjgjodlaaGreat
section
open Go.RowKit Go.WideShapes Go.ChangeShapes
def kv (k:IntKind) (l:List Int):List Value:=l.map fun n=>.int k n
def uv (l:List Nat):List Value:=l.map fun (n:Nat)=>.int .u32 (n:Int)
section
variable {H:Type} {enc:TypeId×Value->H} {P:Program} {w:World} {held:Bool}
end
end
section
open Go.RowKit
theorem zcw {w:World} {g M:Nat} {z:Value} {e:TypeId} (hz:z.cells=#[z]) (hg:w.heap.size=g):(w.alloc (.cells (mkC z 1 M) e)).rowIs g e M (fun _=>z):=by
 subst hg;unfold mkC;rw [hz,Nat.mul_one]
 exact World.rowIs_made w z M e
theorem zqh {w:World} {B g M:Nat} {e:TypeId} {f:Nat->Value} (h:w.rowIs g e M f) (hB:B<=g) (hM:M<=maxLen):w.ownsRow B e 1 (.slice (some ⟨g,0,none⟩) M M) M ((List.range M).map f):=by
 obtain ⟨cs,h1,h2,h3⟩:=h
 refine zl6 h1 hB h2 hM ?_
 apply List.ext_getElem
 ·simp [h2]
 ·intro i hi1 hi2
  simp at hi1 hi2
  have:=h3 i (by omega)
  rw [Array.getElem?_eq_getElem hi1] at this
  simp at this
  simp [this]
def Ints (l:List Int) (w:World) (e:Ending) (w':World):Prop :=
 ∃ A cap,e=.returned (.slice A l.length cap)/\Sl w' w'.heap.size 1 (.slice A l.length cap) l.length (kv .i64 l)/\Below w.heap.size w w'
theorem Ints.nil (w w':World) (h:Below w.heap.size w w'):Ints [] w (.returned (.slice none 0 0)) w':=⟨none,0,rfl,by simpa [kv] using Sl.nil _ _ _,h⟩
theorem Ints.row {w w':World} {g M:Nat} {e:TypeId} {f:Nat->Int} {l:List Int} (h:w'.rowIs g e M (fun j=>.int .i64 (f j))) (hl:l=(List.range M).map f) (hM:M<=maxLen) (hb:Below w.heap.size w w') :
  Ints l w (.returned (.slice (some ⟨g,0,none⟩) M M)) w':=by
 have hlen:l.length=M:=by rw [hl];simp
 refine ⟨some ⟨g,0,none⟩,M,by rw [hlen],?_,hb⟩
 rw [hlen]
 have:=Sl.of_own (zqh h (Nat.zero_le _) hM)
 rw [hl];unfold kv;rw [List.map_map]
 exact this
end
section
open Go.RowKit
def rowH (w:World) (b:Nat) (T:TypeId) (n:Nat) (f:Nat->Value):Prop:=∃ m F,w.rowIs b T m F/\n<=m/\∀ i,i<n->F i=f i
section
variable {w w':World} {b n:Nat} {T:TypeId} {f g:Nat->Value}
theorem rowH.of (h:w.rowIs b T n f):rowH w b T n f:=⟨n,f,h,Nat.le_refl _,fun _ _=>rfl⟩
theorem rowH.cell (h:rowH w b T n f) {i:Nat} (hi:i<n):w.cell? ⟨b,i,none⟩=some (f i):=by
 obtain ⟨m,F,h1,h2,h3⟩:=h;rw [h1.cell (Nat.lt_of_lt_of_le hi h2),h3 i hi]
theorem rowH.frozen (h:rowH w b T n f) (i:Nat):w.frozen? ⟨b,i,none⟩=false:=by
 obtain ⟨m,F,h1,_⟩:=h
 exact h1.frozen i
theorem rowH.lt (h:rowH w b T n f):b<w.heap.size:=by
 obtain ⟨m,F,h1,_⟩:=h
 exact h1.lt
theorem rowH.of_block (h:rowH w b T n f) (e:w'.heap[b]?=w.heap[b]?):rowH w' b T n f:=by
 obtain ⟨m,F,h1,h2⟩:=h
 exact ⟨m,F,h1.of_block e,h2⟩
theorem rowH.congr (h:rowH w b T n f) (e:∀ i,i<n->f i=g i):rowH w b T n g:=by
 obtain ⟨m,F,h1,h2,h3⟩:=h
 exact ⟨m,F,h1,h2,fun i hi=>(h3 i hi).trans (e i hi)⟩
theorem rowH.set (h:rowH w b T n f) (i:Nat) (v:Value):rowH (w.setCell ⟨b,i,none⟩ v) b T n (fun j=>if j=i then v else f j):=by
 obtain ⟨m,F,h1,h2,h3⟩:=h
 refine ⟨m,_,h1.set i v,h2,fun j hj=>?_⟩
 show (if j=i then v else F j)=if j=i then v else f j
 split
 ·rfl
 ·exact h3 j hj
end
end
section
open Go.RowKit
end
section

end
section
open Go.RowKit
def doG (K:Nat) (v:Int) (m:Nat) (port vid:Int) (now old:Nat) (S B n:Nat) (g:Nat->Nat->Pl):(Nat->Nat->Pl)×Int :=
 if K=0 then (g,zd2 (g (zaj v m S B)) v m n)
 else if K=3 then (updR g (zaj v m S B) (putF (fun i=>ownP (g (zaj v m S B) i)) ⟨v,m,port,true,0⟩ now n).1,((putF (fun i=>ownP (g (zaj v m S B) i)) ⟨v,m,port,true,0⟩ now n).2:Nat))
 else if K=4 then (updR g (zaj v m S B) (zbv (fun i=>ownP (g (zaj v m S B) i)) v m n).1,if (zbv (fun i=>ownP (g (zaj v m S B) i)) v m n).2=true then 1 else 0)
 else if K=5 then (if atI S B port vid<0 then (g,0) else (updR g (atI S B port vid).toNat (ageR g (atI S B port vid).toNat now old),(ageC g (atI S B port vid).toNat now old n:Nat)))
 else if K=6 then (flG port vid g (S*B),(flC port vid g n (S*B):Nat))
 else (updR g (zaj v m S B) (putF (fun i=>ownP (g (zaj v m S B) i)) ⟨v,m,port,false,now⟩ now n).1,((putF (fun i=>ownP (g (zaj v m S B) i)) ⟨v,m,port,false,now⟩ now n).2:Nat))
def stG (g:Nat->Nat->Pl):Prop:=∀ i j,(g i j).e.stamp<4294967296
theorem zcz {f:Nat->Pl} (h:∀ j,(f j).e.stamp<4294967296) (j:Nat):(ownP (f j)).e.stamp<4294967296:=by
 unfold ownP
 split
 ·exact h j
 ·show (0:Nat)<_;omega
theorem zko {f:Nat->Pl} {x:Pl} (h:∀ j,(f j).e.stamp<4294967296) (hx:x.e.stamp<4294967296) (k j:Nat):(updP f k x j).e.stamp<4294967296:=by
 unfold updP
 split
 ·exact hx
 ·exact h j
theorem zhb {f:Nat->Pl} {e:En} {now n:Nat} (h:∀ j,(f j).e.stamp<4294967296) (he:e.stamp<4294967296) (j:Nat):((putF f e now n).1 j).e.stamp<4294967296:=by
 unfold putF
 split
 ·exact h j
 ·split
  ·split
   ·exact h j
   ·exact zko h he _ j
  ·split
   ·exact h j
   ·exact zko h he _ j
theorem zhv {f:Nat->Pl} {v:Int} {m n:Nat} (h:∀ j,(f j).e.stamp<4294967296) (j:Nat):((zbv f v m n).1 j).e.stamp<4294967296:=by
 unfold zbv
 split
 ·exact h j
 ·split
  ·exact zko h (by show (0:Nat)<_;omega) _ j
  ·exact h j
theorem zfk {f:Nat->Pl} {c:En->Bool} (h:∀ j,(f j).e.stamp<4294967296) (j:Nat):(zci f c j).e.stamp<4294967296:=by
 unfold zci
 split
 ·show (0:Nat)<_;omega
 ·exact h j
theorem zcc {g:Nat->Nat->Pl} {f:Nat->Pl} (h:stG g) (hf:∀ j,(f j).e.stamp<4294967296) (k:Nat):stG (updR g k f):=by
 intro i j;unfold updR
 split
 ·exact hf j
 ·exact h i j
theorem doG_st (K:Nat) (v:Int) (m:Nat) (port vid:Int) (now old:Nat) (S B n:Nat) (g:Nat->Nat->Pl) (h:stG g) (hnow:now<4294967296):stG (doG K v m port vid now old S B n g).1:=by
 unfold doG
 split
 ·exact h
 ·split
  ·exact zcc h (zhb (zcz (h _)) (by show (0:Nat)<_;omega)) _
  ·split
   ·exact zcc h (zhv (zcz (h _))) _
   ·split
    ·split
     ·exact h
     ·exact zcc h (zfk (zcz (h _))) _
    ·split
     ·intro i j
      show (flG port vid g (S*B) i j).e.stamp<4294967296
      unfold flG
      split
      ·exact zfk (zcz (h _)) j
      ·exact h i j
     ·exact zcc h (zhb (zcz (h _)) hnow) _
end
section
open Go.RowKit
theorem zp5 (x:Int) (w:World):Calls Tryz.prog 63 #[.int .i64 x] w (Says (.bool false) w):=by
 go_enter Tryz.func63,Tryz.ntmps63
 go_wp2
 go_ret
 exact ⟨by simp,Below.refl _ _⟩
def cmpN (x y:Int):Int:=if x<y then -1 else if y<x then 1 else 0
theorem zlm (x y:Int):cmpN x y<0↔x<y:=by
 unfold cmpN
 split
 ·simp;assumption
 ·split <;> simp <;> omega
theorem zkc (x y:Int) (w:World):Calls Tryz.prog 36 #[.int .i64 x,.int .i64 y] w (Says (.int .i64 (cmpN x y)) w):=by
 have HN:=Lib.hid fun x w=>zp5 x w
 have HB:Hid (Below w.heap.size w w):=Below.refl _ _;obtain ⟨c,hc⟩:∃ c,c=cmpN x y:=⟨_,rfl⟩;rw [<- hc];unfold cmpN at hc
 have d:(decide (x<y)=true/\c=-1)\/(decide (x<y)=false/\decide (x > y)=true/\c=1)\/(decide (x<y)=false/\decide (x > y)=false/\c=0):=by
  rcases Int.lt_trichotomy x y with h|h|h
  ·exact .inl ⟨decide_eq_true h,by rw [hc,if_pos h]⟩
  ·exact .inr (.inr ⟨decide_eq_false (by omega),decide_eq_false (by omega),by rw [hc,if_neg (by omega),if_neg (by omega)]⟩)
  ·exact .inr (.inl ⟨decide_eq_false (by omega),decide_eq_true (by omega),by rw [hc,if_neg (by omega),if_pos h]⟩)
 clear hc
 rcases d with ⟨d1,rfl⟩|⟨d1,d2,rfl⟩|⟨d1,d2,rfl⟩
 all_goals
  go_enter Tryz.func36,Tryz.ntmps36
  go_wp2_with (first
   |(go_at_call 63;(with_reducible refine Calls.mono (HN.out _ _) ?_);rintro e w1 ⟨rfl,hb1⟩;(have HB:=Lib.hid (HB.out.trans (hb1.mono HB.out.size)));clear hb1)
   |fail)
  go_ret
  exact ⟨by first|rfl|(simp;done),HB.out⟩
structure MkAt (w:World) (pb lb N:Nat) (key:Nat->Int):Prop where
 lt:lb<w.heap.size
 ne:lb≠pb
 row:∃ A c,w.cell? ⟨lb,0,none⟩=some (.slice A N c)/\(0<N->∃ b off,A=some ⟨b,off,none⟩/\b<w.heap.size/\b≠pb/\∀ i,i<N->w.cell? ⟨b,off+i*19+2,none⟩=some (.int .i64 (key i)))
theorem MkAt.but {w w':World} {pb lb N:Nat} {key:Nat->Int} (h:MkAt w pb lb N key) (hb:But pb w w'):MkAt w' pb lb N key:=by
 obtain ⟨h1,h6,A,c,h2,h3⟩:=h
 refine ⟨Nat.lt_of_lt_of_le h1 hb.below.size,h6,A,c,(hb.cell h1 h6).trans h2,fun hn=>?_⟩
 obtain ⟨b,off,e,h4,h7,h5⟩:=h3 hn
 exact ⟨b,off,e,Nat.lt_of_lt_of_le h4 hb.below.size,h7,fun i hi=>(hb.cell (p:=⟨b,off+i*19+2,none⟩) h4 h7).trans (h5 i hi)⟩
set_option maxRecDepth 20000 in
set_option maxHeartbeats 1600000 in
theorem za6 {w:World} {pb lb N:Nat} {key:Nat->Int} (h:MkAt w pb lb N key) (x y:Nat) (hx:x<N) (hy:y<N):Calls Tryz.prog 35 #[.int .i64 (x:Nat),.int .i64 (y:Nat),.pointer (some ⟨lb,0,none⟩)] w (Says (.int .i64 (cmpN (key x) (key y))) w):=by
 have HC:=Lib.hid fun w'=>zkc (key x) (key y) w'
 obtain ⟨h1,_,A,c,h2,h3⟩:=h
 obtain ⟨b,off,rfl,h4,_,h5⟩:=h3 (by omega)
 have k1:=h5 x hx;have k2:=h5 y hy
 have g1:(0:Int)<=(x:Int):=Int.natCast_nonneg _
 have g2:(x:Int)<(N:Int):=by omega
 have g3:(0:Int)<=(y:Int):=Int.natCast_nonneg _
 have g4:(y:Int)<(N:Int):=by omega
 have HLT:=Lib.hid (And.intro h1 h4);clear h3 h5
 go_enter Tryz.func35,Tryz.ntmps35
 go_wp2_with fail
 refine wp_region_held_drew (S:=fun w'=>w'.cell? ⟨lb,0,none⟩=some (.slice (some ⟨b,off,none⟩) N c)/\w'.cell? ⟨b,off+x*19+2,none⟩=some (.int .i64 (key x))/\w'.cell? ⟨b,off+y*19+2,none⟩=some (.int .i64 (key y))) (by kernel_rfl) ?_ (fun hHeld=>?_)
 ·exact ⟨h2,k1,k2⟩
 obtain ⟨v0,hv0⟩:∃ w',w'=w.drew:=⟨_,rfl⟩
 have hvb:Below w.heap.size w v0:=by rw [hv0];exact (Below.refl _ _).drew
 rw [<- hv0] at hHeld |-;clear hv0;refine tk 0 ?_;refine tk 1 ?_;refine tk 2 ?_;refine tk 3 ?_;refine tk 4 ?_;refine tk 5 ?_;refine tk 6 ?_;refine tk 7 ?_;refine tk 8 ?_;refine tk 9 ?_
 refine clR 10 rfl fun K hK=>?_
 go_simp
 refine Calls.mono (HC.out _) ?_
 rintro e w1 ⟨rfl,hb1⟩;have HB:=Lib.hid (hvb.trans (hb1.mono hvb.size));clear hb1
 refine hK.out _ _ ?_ (fun hHeld=>?_)
 ·(try dsimp only)
  exact ⟨(HB.out.cell (p:=⟨lb,0,none⟩) HLT.out.1).trans h2,(HB.out.cell (p:=⟨b,off+x*19+2,none⟩) HLT.out.2).trans k1,(HB.out.cell (p:=⟨b,off+y*19+2,none⟩) HLT.out.2).trans k2⟩
 clear hK K;refine tk 11 ?_
 refine dnR ?_
 go_wp2
 go_ret
 exact ⟨by first|rfl|(simp;done),HB.out⟩
end
section
open Go.RowKit
structure SrAt (w:World) (pb n lb N:Nat) (key:Nat->Int) (f:Nat->Nat):Prop where
 row:rowH w pb 3 n (fun i=>.int .i64 (f i:Nat))
 mks:MkAt w pb lb N key
 mem:∀ i,i<n->f i<N
section
variable {w w':World} {pb n cp lb N a b X Y:Nat} {key:Nat->Int} {f f':Nat->Nat}
theorem SrAt.call (h:SrAt w pb n lb N key f) (hb:Below w.heap.size w w'):SrAt w' pb n lb N key f :=
 ⟨h.row.of_block (hb.block _ h.row.lt),h.mks.but (But.of hb (Nat.le_of_lt h.row.lt)),h.mem⟩
theorem SrAt.lt (h:SrAt w pb n lb N key f):pb<w.heap.size:=h.row.lt
theorem swK_lt (h:∀ i,i<n->f i<N) (hX:X<n) (hY:Y<n):∀ i,i<n->swK f X Y i<N:=fun i hi=>by
 unfold swK
 split
 ·exact h _ hY
 ·split
  ·exact h _ hX
  ·exact h i hi
theorem SrAt.swap (h:SrAt w pb n lb N key f) (hX:X<n) (hY:Y<n) (hXY:X≠Y):SrAt ((w.setCell ⟨pb,X,none⟩ (.int .i64 (f Y:Nat))).setCell ⟨pb,Y,none⟩ (.int .i64 (f X:Nat))) pb n lb N key (swK f X Y) :=
 ⟨((h.row.set X _).set Y _).congr fun i hi=>(by
  show (if i=Y then Value.int .i64 (f X:Nat) else if i=X then Value.int .i64 (f Y:Nat) else Value.int .i64 (f i:Nat))=_
  unfold swK
  by_cases e:i=X
  ·subst e;rw [if_neg hXY,if_pos rfl,if_pos rfl]
  ·by_cases e2:i=Y
   ·subst e2;rw [if_pos rfl,if_neg e,if_pos rfl]
   ·rw [if_neg e2,if_neg e,if_neg e,if_neg e2]),(h.mks.but (But.set _ _)).but (But.set _ _),swK_lt h.mem hX hY⟩
set_option maxRecDepth 20000 in
set_option maxHeartbeats 3200000 in
theorem zns (h:SrAt w pb n lb N key f) (hn:n<=1000000) (m:Nat) (hab:a+m<=b) (hb:b+m<=n) :
  Calls Tryz.prog 135 #[.slice (some ⟨pb,0,none⟩) n cp,.int .i64 (a:Nat),.int .i64 (b:Nat),.int .i64 (m:Nat),(.func (.func 35) #[] #[.pointer (some ⟨lb,0,none⟩)])] w fun e w'=>e=.returned (.tuple #[])/\SrAt w' pb n lb N key (srK f a b m)/\But pb w w':=by
 have HS:=Lib.hid h;clear h
 go_enter Tryz.func135,Tryz.ntmps135
 go_wp2
 go_loopw [10] (fun iv wr=>∃ (k:Nat) (F:Nat->Nat),k<=m/\iv=.int .i64 k/\Hid (F=srK f a b k/\SrAt wr pb n lb N key F/\But pb w wr)) (fun iv _=>m - (intOf iv).toNat)
 case atStart=>exact ⟨0,f,by omega,rfl,(srK_0 f a b).symm,HS.out,But.of (Below.refl _ _) (Nat.le_of_lt HS.out.lt)⟩
 case round =>
  obtain ⟨k,F,hk,rfl,HI⟩:=hrel
  by_cases hlt:k<m
  ·have d1:decide (k<m)=true:=decide_eq_true hlt
   obtain ⟨X,hX⟩:∃ X,X=a+k:=⟨_,rfl⟩;obtain ⟨Y,hY⟩:∃ Y,Y=b+k:=⟨_,rfl⟩
   have HXY:Hid (X=a+k/\Y=b+k):=⟨hX,hY⟩
   have s1:IntKind.i64.wrap ((a:Int)+(k:Int))=(X:Int):=by rw [IntKind.wrap_i64];omega
   have s2:IntKind.i64.wrap ((b:Int)+(k:Int))=(Y:Int):=by rw [IntKind.wrap_i64];omega
   have hXn:X<n:=by omega
   have hYn:Y<n:=by omega
   have hXYn:X≠Y:=by omega
   clear hX hY
   go_wp2_with fail
   refine wp_region_held_drew (S:=fun w'=>True) (by kernel_rfl) ?_ (fun hHeld=>?_)
   ·trivial
   obtain ⟨v0,hv0⟩:∃ w',w'=wr.drew:=⟨_,rfl⟩
   have hvb:Below wr.heap.size wr v0:=by rw [hv0];exact (Below.refl _ _).drew
   have HR0:=Lib.hid (HI.out.2.1.call hvb);have HB0:Hid (But pb w v0):=HI.out.2.2.trans (But.of hvb (Nat.le_of_lt HI.out.2.1.lt));have cX:=HR0.out.row.cell hXn;have cY:=HR0.out.row.cell hYn;have fX:=HR0.out.row.frozen X;rw [<- hv0];clear hHeld;have hHeld:True:=trivial;clear hv0 hvb;refine tk 0 ?_;refine tk 1 ?_;refine tk 2 ?_;refine tk 3 ?_;refine tk 4 ?_;refine tk 5 ?_;refine tk 6 ?_;refine tk 7 ?_;refine tk 8 ?_;refine tk 9 ?_;refine tk 10 ?_;refine tk 11 ?_;refine tk 12 ?_;refine tk 14 ?_;refine tk 15 ?_;refine tk 16 ?_;refine tk 17 ?_;refine tk 18 ?_
   refine wpAnyH_ready (rs:=[13,19]) (by kernel_rfl) (by simp) ?_
   refine (acR rfl (fun K hK=>?_) (acR rfl (fun K hK=>?_) AllReadyH.nil))
   ·go_simp
    refine hK.out _ _ ?_ (fun hHeld=>?_)
    ·(try dsimp only)
     (try trivial)
    clear hK K
    (try simp only [Act.put,sqA,sqB,sqC])
    refine wpAnyH_ready (rs:=[19]) (by kernel_rfl) (by simp) ?_
    refine ac1 rfl fun K hK=>?_
    go_simp
    refine hK.out _ _ ?_ (fun hHeld=>?_)
    ·(try dsimp only)
     (try trivial)
    clear hK K;refine tk 20 ?_
    refine wpAnyH_ready (rs:=[21]) (by kernel_rfl) (by simp) ?_
    refine ac1 rfl fun K hK=>?_
    go_simp
    refine hK.out _ _ ?_ (fun hHeld=>?_)
    ·(try dsimp only)
     (try trivial)
    clear hK K
    (try simp only [Act.put,sqA,sqB,sqC])
    obtain ⟨v1,hv1⟩:∃ x,x=v0.setCell ⟨pb,X,none⟩ (.int .i64 (F Y:Nat)):=⟨_,rfl⟩
    have cY1:v1.cell? ⟨pb,Y,none⟩=some (.int .i64 (F Y:Nat)):=by rw [hv1];exact ((HR0.out.row.set X _).cell hYn).trans (by show some (if Y=X then _ else _)=_;rw [if_neg (Ne.symm hXYn)])
    have fY1:v1.frozen? ⟨pb,Y,none⟩=false:=by rw [hv1];exact (HR0.out.row.set X _).frozen _
    have HV1:=Lib.hid hv1;rw [<- hv1];clear hv1;refine tk 22 ?_
    refine wpAnyH_ready (rs:=[23]) (by kernel_rfl) (by simp) ?_
    refine ac1 rfl fun K hK=>?_
    go_simp
    refine hK.out _ _ ?_ (fun hHeld=>?_)
    ·(try dsimp only)
     (try trivial)
    clear hK K
    (try simp only [Act.put,sqA,sqB,sqC])
    obtain ⟨v2,hv2⟩:∃ x,x=v1.setCell ⟨pb,Y,none⟩ (.int .i64 (F X:Nat)):=⟨_,rfl⟩
    have HS2:Hid (SrAt v2 pb n lb N key (swK F X Y)/\But pb w v2):=by
     rw [hv2,HV1.out]
     exact ⟨HR0.out.swap hXn hYn hXYn,(HB0.out.trans (But.set _ _)).trans (But.set _ _)⟩
    rw [<- hv2];clear hv2
    refine dnR ?_
    go_wp2
    go_roundw
    case rel=>exact ⟨k+1,_,by omega,by go_num,Lib.hid ⟨(by rw [HI.out.1,HXY.out.1,HXY.out.2];exact zlg (by omega)),HS2.out.1,HS2.out.2⟩⟩
    case measure=>simp [intOf];omega
   ·go_simp
    refine hK.out _ _ ?_ (fun hHeld=>?_)
    ·(try dsimp only)
     (try trivial)
    clear hK K
    (try simp only [Act.put,sqA,sqB,sqC])
    refine wpAnyH_ready (rs:=[13]) (by kernel_rfl) (by simp) ?_
    refine ac1 rfl fun K hK=>?_
    go_simp
    refine hK.out _ _ ?_ (fun hHeld=>?_)
    ·(try dsimp only)
     (try trivial)
    clear hK K;refine tk 20 ?_
    refine wpAnyH_ready (rs:=[21]) (by kernel_rfl) (by simp) ?_
    refine ac1 rfl fun K hK=>?_
    go_simp
    refine hK.out _ _ ?_ (fun hHeld=>?_)
    ·(try dsimp only)
     (try trivial)
    clear hK K
    (try simp only [Act.put,sqA,sqB,sqC])
    obtain ⟨v1,hv1⟩:∃ x,x=v0.setCell ⟨pb,X,none⟩ (.int .i64 (F Y:Nat)):=⟨_,rfl⟩
    have cY1:v1.cell? ⟨pb,Y,none⟩=some (.int .i64 (F Y:Nat)):=by rw [hv1];exact ((HR0.out.row.set X _).cell hYn).trans (by show some (if Y=X then _ else _)=_;rw [if_neg (Ne.symm hXYn)])
    have fY1:v1.frozen? ⟨pb,Y,none⟩=false:=by rw [hv1];exact (HR0.out.row.set X _).frozen _
    have HV1:=Lib.hid hv1;rw [<- hv1];clear hv1;refine tk 22 ?_
    refine wpAnyH_ready (rs:=[23]) (by kernel_rfl) (by simp) ?_
    refine ac1 rfl fun K hK=>?_
    go_simp
    refine hK.out _ _ ?_ (fun hHeld=>?_)
    ·(try dsimp only)
     (try trivial)
    clear hK K
    (try simp only [Act.put,sqA,sqB,sqC])
    obtain ⟨v2,hv2⟩:∃ x,x=v1.setCell ⟨pb,Y,none⟩ (.int .i64 (F X:Nat)):=⟨_,rfl⟩
    have HS2:Hid (SrAt v2 pb n lb N key (swK F X Y)/\But pb w v2):=by
     rw [hv2,HV1.out]
     exact ⟨HR0.out.swap hXn hYn hXYn,(HB0.out.trans (But.set _ _)).trans (But.set _ _)⟩
    rw [<- hv2];clear hv2
    refine dnR ?_
    go_wp2
    go_roundw
    case rel=>exact ⟨k+1,_,by omega,by go_num,Lib.hid ⟨(by rw [HI.out.1,HXY.out.1,HXY.out.2];exact zlg (by omega)),HS2.out.1,HS2.out.2⟩⟩
    case measure=>simp [intOf];omega
  ·have d1:decide (k<m)=false:=decide_eq_false hlt
   obtain rfl:k=m:=by omega
   have HF:=Lib.hid HI.out.2;have hF:=HI.out.1;rw [hF] at HF;clear hF
   go_wp2
   go_end0
   exact ⟨rfl,HF.out.1,HF.out.2⟩
set_option maxRecDepth 20000 in
set_option maxHeartbeats 3200000 in
theorem zmz (h:SrAt w pb n lb N key f) (hn:n<=1000000) (m:Nat) (ham:a<m) (hmb:m<b) (hb:b<=n) :
  Calls Tryz.prog 118 #[.slice (some ⟨pb,0,none⟩) n cp,.int .i64 (a:Nat),.int .i64 (m:Nat),.int .i64 (b:Nat),(.func (.func 35) #[] #[.pointer (some ⟨lb,0,none⟩)])] w fun e w'=>e=.returned (.tuple #[])/\SrAt w' pb n lb N key (roK f a m b)/\But pb w w':=by
 obtain ⟨g,hg⟩:∃ g,g=roK f a m b:=⟨_,rfl⟩;have HG:=Lib.hid hg;have HS:=Lib.hid h
 have HRO:Hid (RoI f g m (m - a) (b - m)):=by rw [hg];exact RoI.start (by omega) (by omega)
 rw [<- hg];clear h hg
 have HSW:=Lib.hid fun (w1:World) (F:Nat->Nat) (h:SrAt w1 pb n lb N key F) (x y k:Nat) (h1:x+k<=y) (h2:y+k<=n)=>zns (cp:=cp) (a:=x) (b:=y) h hn k h1 h2
 obtain ⟨i0,hi0⟩:∃ i,i=m - a:=⟨_,rfl⟩;obtain ⟨j0,hj0⟩:∃ j,j=b - m:=⟨_,rfl⟩
 have HIJ:Hid (i0=m - a/\j0=b - m/\0<i0/\0<j0/\i0<=m/\m+j0<=n):=⟨hi0,hj0,by omega,by omega,by omega,by omega⟩
 rw [<- hi0,<- hj0] at HRO;clear hi0 hj0
 go_enter Tryz.func118,Tryz.ntmps118
 go_wp2
 go_loopw [10,11] (fun iv jv wr=>∃ (i j:Nat) (F:Nat->Nat) (wx:World),wx=wr/\iv=.int .i64 i/\jv=.int .i64 j/\0<i/\0<j/\i<=m/\m+j<=n/\Hid (RoI F g m i j/\SrAt wr pb n lb N key F/\But pb w wr)) (fun iv jv _=>(intOf iv).toNat+(intOf jv).toNat)
 case atStart=>exact ⟨i0,j0,f,_,rfl,by have:=HIJ.out;congr 1;omega,by have:=HIJ.out;congr 1;omega,HIJ.out.2.2.1,HIJ.out.2.2.2.1,HIJ.out.2.2.2.2.1,HIJ.out.2.2.2.2.2,HRO.out,HS.out,But.of (Below.refl _ _) (Nat.le_of_lt HS.out.lt)⟩
 case round =>
  obtain ⟨i,j,F,wr,rfl,rfl,rfl,hi0,hj0,him,hjn,HI⟩:=hrel
  rcases Nat.lt_trichotomy i j with hlt|rfl|hlt
  ·have d1:((i:Int) != (j:Int))=true:=by simp;omega
   have d2:decide (j<i)=false:=decide_eq_false (by omega)
   have d3:¬ i=j:=by omega
   obtain ⟨x,hx⟩:∃ x,x=m - i:=⟨_,rfl⟩;obtain ⟨y,hy⟩:∃ y,y=m+j - i:=⟨_,rfl⟩;obtain ⟨z,hz⟩:∃ z,z=j - i:=⟨_,rfl⟩
   have E1:=Lib.hid (show ((m:Int) - (i:Int))=(x:Int) by omega)
   have E2:=Lib.hid (show ((m:Int)+(j:Int) - (i:Int))=(y:Int) by omega)
   have hsw:=HSW.out wr F HI.out.2.1 x y i (by omega) (by omega)
   have HRL:=HI.out.1.less hlt;rw [<- hx,<- hy,<- hz] at HRL;have HRL:=Lib.hid HRL;have HSW1:=Lib.hid hsw
   have HZ:Hid (0<z/\m+z<=n/\z<j/\(j:Int) - (i:Int)=(z:Int)):=⟨by omega,by omega,by omega,by omega⟩
   clear hsw hx hy hz hlt
   go_wp2_with (first
    |(go_at_call 135;(try simp only [E1.out,E2.out]);(with_reducible refine Calls.mono HSW1.out ?_);rintro e w1 ⟨rfl,h1,h2⟩;(have H1:=Lib.hid (And.intro h1 (HI.out.2.2.trans h2)));clear h1 h2)
    |fail)
   go_roundw
   case rel=>exact ⟨i,z,_,_,rfl,rfl,by first|(rw [HZ.out.2.2.2])|(congr 1;exact HZ.out.2.2.2)|go_num,hi0,HZ.out.1,him,HZ.out.2.1,Lib.hid ⟨HRL.out,H1.out.1,H1.out.2⟩⟩
   case measure=>have:=HZ.out.2.2.1;have:=HZ.out.2.2.2;simp [intOf];omega
  ·have d1:((i:Int) != (i:Int))=false:=by simp
   obtain ⟨x,hx⟩:∃ x,x=m - i:=⟨_,rfl⟩
   have E1:=Lib.hid (show ((m:Int) - (i:Int))=(x:Int) by omega)
   have hsw:=HSW.out wr F HI.out.2.1 x m i (by omega) (by omega)
   have HRE:=HI.out.1.end;rw [<- hx] at HRE;rw [HRE] at hsw;have HSW1:=Lib.hid hsw;clear hsw hx HRE
   go_wp2_with (first
    |(go_at_call 135;(try simp only [E1.out]);(with_reducible refine Calls.mono HSW1.out ?_);rintro e w1 ⟨rfl,h1,h2⟩;(have H1:=Lib.hid (And.intro h1 (HI.out.2.2.trans h2)));clear h1 h2)
    |fail)
   go_end0
   exact ⟨rfl,H1.out.1,H1.out.2⟩
  ·have d1:((i:Int) != (j:Int))=true:=by simp;omega
   have d2:decide (j<i)=true:=decide_eq_true (by omega)
   have d3:¬ i=j:=by omega
   obtain ⟨x,hx⟩:∃ x,x=m - i:=⟨_,rfl⟩;obtain ⟨z,hz⟩:∃ z,z=i - j:=⟨_,rfl⟩
   have E1:=Lib.hid (show ((m:Int) - (i:Int))=(x:Int) by omega)
   have hsw:=HSW.out wr F HI.out.2.1 x m j (by omega) (by omega)
   have HRL:=HI.out.1.more hlt;rw [<- hx,<- hz] at HRL;have HRL:=Lib.hid HRL;have HSW1:=Lib.hid hsw
   have HZ:Hid (0<z/\z<=m/\z<i/\(i:Int) - (j:Int)=(z:Int)):=⟨by omega,by omega,by omega,by omega⟩
   clear hsw hx hz hlt
   go_wp2_with (first
    |(go_at_call 135;(try simp only [E1.out]);(with_reducible refine Calls.mono HSW1.out ?_);rintro e w1 ⟨rfl,h1,h2⟩;(have H1:=Lib.hid (And.intro h1 (HI.out.2.2.trans h2)));clear h1 h2)
    |fail)
   go_roundw
   case rel=>exact ⟨z,j,_,_,rfl,by first|(rw [HZ.out.2.2.2])|(congr 1;exact HZ.out.2.2.2)|go_num,rfl,HZ.out.1,hj0,HZ.out.2.1,hjn,Lib.hid ⟨HRL.out,H1.out.1,H1.out.2⟩⟩
   case measure=>have:=HZ.out.2.2.1;have:=HZ.out.2.2.2;simp [intOf];omega
end
end
section
open Go.RowKit
theorem znh (κ:IntKind) (l:List Int):(kv κ l).length=l.length:=by simp [kv]
theorem zk3 (κ:IntKind) (l:List Int) (k:Nat) (h:k<l.length):(kv κ l)[k]?=some (.int κ (l.getD k 0)):=by
 simp [kv,List.getD_eq_getElem?_getD,List.getElem?_eq_getElem h]
set_option maxHeartbeats 800000 in
theorem zfa {l:List Int} {n:Nat} {u v:Value} {w:World} {B B':Nat} (hu:Sl w B 1 u n (kv .i64 l)) (hv:Sl w B' 1 v n (kv .i64 l)) :
  Calls Tryz.prog 13 #[u,v] w (fun e w'=>e=.returned (.bool true)/\∃ n,w'=w.drewN n):=by
 have hlen:l.length=n:=by have:=hu.len;rw [znh] at this;omega
 obtain ⟨_,A,cap,rfl,hA1,hA2,hA⟩:=hu;obtain ⟨_,A',cap',rfl,hA1',hA2',hA'⟩:=hv;unfold maxLen at hA2 hA2'
 have hne:((n:Int) != (n:Int))=false:=by simp
 have HL:=Lib.hid hlen;have HA:=Lib.hid hA;have HA':=Lib.hid hA';clear hlen hA hA'
 go_enter Tryz.func13,Tryz.ntmps13
 go_wp2
 go_loopw [5] (fun i wr=>∃ k:Nat,k<=n/\i=.int .i64 k/\∃ m,wr=w.drewN m) (fun i _=>n - (intOf i).toNat)
 case atStart=>exact ⟨0,by omega,rfl,0,rfl⟩
 case round =>
  obtain ⟨k,hk,rfl,m,rfl⟩:=hrel
  by_cases hlt:k<n
  ·obtain ⟨b,off,rfl,_,hc⟩:=HA.out (by omega)
   obtain ⟨b',off',rfl,_,hc'⟩:=HA'.out (by omega)
   have hx:=zk3 .i64 l k (by have:=HL.out;omega)
   have hcell:=(hc k (by omega)).trans hx
   have hcell':=(hc' k (by omega)).trans hx
   clear hc hc' HA HA' hx
   have g0:(0:Int)<=(k:Int):=Int.natCast_nonneg _
   have g1:(k:Int)<(n:Int):=by omega
   generalize l.getD k 0=x at *
   go_wp2_with fail
   go_quiet (fail)
   go_wp2
   go_roundw
   case rel=>exact ⟨k+1,by omega,by go_num,_,(by first|rfl|exact World.drewN_drewN _ _ _)⟩
   case measure=>simp [intOf];omega
  ·have:k=n:=by omega
   subst this
   go_wp2
   go_ret
   exact ⟨rfl,_,rfl⟩
theorem zf6 {B:Nat} {a w:World} (h:Below B a w) (n:Nat):Below B a (w.drewN n):=⟨h.os,h.tape,h.output,h.size,h.block⟩
theorem zp8 (w:World) (T:TypeId):Sl (w.alloc (.cells #[.int .i64 0] T)) (w.heap.size+1) 1 (.slice (some ⟨w.heap.size,0,none⟩) 1 1) 1 (kv .i64 [0]):=Sl.lit w #[.int .i64 0] _ 1 rfl (by decide)
end
end Go.Proofs.YtfekhdgjgjodlaaGreat
