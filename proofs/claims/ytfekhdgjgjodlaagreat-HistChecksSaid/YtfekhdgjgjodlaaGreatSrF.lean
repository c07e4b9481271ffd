/-
  Words and contracts that a statement's proof rests on (PlainHi, SrF, SrH, MrN, PlainHk). No statement is proved here.
-/
import Derived.Deep.DeepCutAuto
import Derived.Test.YtfekhdgjgjodlaaGreatBuC
import Derived.Test.YtfekhdgjgjodlaaGreatMoM
import Derived.Test.YtfekhdgjgjodlaaGreatSrG
import Derived.Test.YtfekhdgjgjodlaaGreatMrU
import Derived.Test.YtfekhdgjgjodlaaGreatBkT
set_option linter.unusedVariables false
set_option linter.unusedSimpArgs false
namespace Go.Proofs.YtfekhdgjgjodlaaGreat
section
structure Ent where
 who:Int
 beg:Int
 mar:Int
 fin:Int
 op:Od
 ans:Int
def OrdL (N:Nat) (key:Nat->Int) (o:List Nat):Prop:=o.Pairwise (fun a b=>key a<key b\/(key a=key b/\a<b))/\∀ i,i∈o↔i<N/\0<key i
theorem zo7 {R:Nat->Nat->Prop} (hi:∀ a,¬ R a a) (ha:∀ a b,R a b->¬ R b a):∀ (o o':List Nat),o.Pairwise R->o'.Pairwise R->(∀ i,i∈o↔i∈o')->o=o'
 |[],[],_,_,_=>rfl
 |[],b :: o',_,_,h=>absurd ((h b).2 (List.mem_cons_self ..)) (by simp)
 |a :: o,[],_,_,h=>absurd ((h a).1 (List.mem_cons_self ..)) (by simp)
 |a :: o,b :: o',p,p',h=>by
  rw [List.pairwise_cons] at p p'
  have e:a=b:=Decidable.byContradiction fun hne=>by
   have h1:a∈o':=by
    have:=(h a).1 (List.mem_cons_self ..)
    rcases List.mem_cons.1 this with e|e
    ·exact absurd e hne
    ·exact e
   have h2:b∈o:=by
    have:=(h b).2 (List.mem_cons_self ..)
    rcases List.mem_cons.1 this with e|e
    ·exact absurd e.symm hne
    ·exact e
   exact ha _ _ (p.1 b h2) (p'.1 a h1)
  subst e
  congr 1
  refine zo7 hi ha o o' p.2 p'.2 fun i=>⟨fun hm=>?_,fun hm=>?_⟩
  ·rcases List.mem_cons.1 ((h i).1 (List.mem_cons_of_mem _ hm)) with e|e
   ·subst e;exact absurd (p.1 i hm) (hi i)
   ·exact e
  ·rcases List.mem_cons.1 ((h i).2 (List.mem_cons_of_mem _ hm)) with e|e
   ·subst e;exact absurd (p'.1 i hm) (hi i)
   ·exact e
theorem OrdL.uniq {N:Nat} {key:Nat->Int} {o o':List Nat} (h:OrdL N key o) (h':OrdL N key o'):o=o' :=
 zo7 (fun a h=>by omega) (fun a b h k=>by omega) o o' h.1 h'.1 fun i=>(h.2 i).trans (h'.2 i).symm
theorem zl2:∀ (a b:List Nat),a.Nodup->(∀ x∈a,x∈b)->b.length<=a.length->∀ x∈b,x∈a
 |[],b,_,_,hl,x,hx=>by
  have:b=[]:=List.eq_nil_of_length_eq_zero (by simpa using hl)
  rw [this] at hx
  exact hx
 |y :: a,b,hn,hs,hl,x,hx=>by
  rw [List.nodup_cons] at hn;have hy:y∈b:=hs y (List.mem_cons_self ..)
  by_cases e:x=y
  ·subst e;exact List.mem_cons_self ..
  ·refine List.mem_cons_of_mem _ (zl2 a (b.erase y) hn.2 (fun z hz=>?_) ?_ x ((List.mem_erase_of_ne e).2 hx))
   ·have hzy:z≠y:=fun h=>hn.1 (h ▸ hz)
    exact (List.mem_erase_of_ne hzy).2 (hs z (List.mem_cons_of_mem _ hz))
   ·rw [List.length_erase_of_mem hy]
    simp at hl
    omega
def pls (key:Nat->Int) (N:Nat):List Nat:=(List.range N).filter fun i=>decide (0<key i)
theorem zfr (key:Nat->Int) (N:Nat):pls key (N+1)=pls key N ++ (if 0<key N then [N] else []):=by
 unfold pls;rw [List.range_succ,List.filter_append]
 congr 1
 by_cases h:0<key N
 ·simp [h]
 ·simp [h]
theorem znz (key:Nat->Int) (N:Nat):(pls key N).length<=N:=by
 have:=List.length_filter_le (fun i=>decide (0<key i)) (List.range N)
 unfold pls
 simpa using this
theorem zdb {key:Nat->Int} {N i:Nat}:i∈pls key N↔i<N/\0<key i:=by
 unfold pls
 simp
theorem pls_pw (key:Nat->Int) (N:Nat):(pls key N).Pairwise (· < ·):=List.Pairwise.filter _ List.pairwise_lt_range
def getN (l:List Nat) (i:Nat):Nat:=l.getD i 0
theorem zft {l:List Nat} {i:Nat} (h:i<l.length):l[i]?=some (getN l i):=by
 unfold getN;rw [List.getD_eq_getElem?_getD,List.getElem?_eq_getElem h]
 rfl
theorem zcv {l:List Nat} {i:Nat} (h:i<l.length):getN l i∈l:=List.mem_of_getElem? (zft h)
theorem getN_map {n:Nat} (f:Nat->Nat) {i:Nat} (h:i<n):getN ((List.range n).map f) i=f i:=by
 unfold getN;rw [List.getD_eq_getElem?_getD,List.getElem?_map,List.getElem?_range h]
 rfl
theorem zqm (key:Nat->Int) (N:Nat):StK key (getN (pls key N)) 0 (pls key N).length:=fun p q _ h2 h3 _=>by
 have hp:=pls_pw key N
 have e1:=zft (l:=pls key N) (i:=p) (by omega)
 have e2:=zft (l:=pls key N) (i:=q) h3
 rw [List.getElem?_eq_getElem (by omega)] at e1 e2
 injection e1 with e1
 injection e2 with e2
 rw [<- e1,<- e2]
 exact List.pairwise_iff_getElem.1 hp p q (by omega) h3 h2
theorem OrdL.of_sorted {key:Nat->Int} {N:Nat} {f:Nat->Nat} (h:MgK key (getN (pls key N)) f 0 (pls key N).length):OrdL N key ((List.range (pls key N).length).map f):=by
 have hst:=h.whole (zqm key N) (Nat.le_refl _) (Nat.le_refl _)
 have hpw:((List.range (pls key N).length).map f).Pairwise (fun a b=>key a<key b\/(key a=key b/\a<b)):=by
  rw [List.pairwise_iff_getElem];intro i j hi hj hij
  simp only [List.length_map,List.length_range] at hi hj
  simp only [List.getElem_map,List.getElem_range]
  have h1:=h.sd i j (Nat.zero_le _) hij hj
  by_cases e:key (f i)=key (f j)
  ·exact .inr ⟨e,hst i j (Nat.zero_le _) hij hj e⟩
  ·exact .inl (by omega)
 have hsub:∀ x∈(List.range (pls key N).length).map f,x∈pls key N:=fun x hx=>by
  rw [List.mem_map] at hx;obtain ⟨p,hp,rfl⟩:=hx;rw [List.mem_range] at hp;obtain ⟨q,_,q2,e⟩:=h.im.2 p (Nat.zero_le _) hp;rw [e]
  exact zcv q2
 refine ⟨hpw,fun i=>⟨fun hm=>zdb.1 (hsub i hm),fun hm=>?_⟩⟩
 exact zl2 _ _ (hpw.imp fun {a b} h e=>by subst e;omega) hsub (by simp) i (zdb.2 hm)
theorem OrdL.len {key:Nat->Int} {N:Nat} {o:List Nat} (h:OrdL N key o):o.length<=N:=by
 have hn:o.Nodup:=h.1.imp fun {a b} h e=>by subst e;omega
 refine Nat.le_trans ?_ (znz key N)
 have:∀ (a b:List Nat),a.Nodup->(∀ x∈a,x∈b)->a.length<=b.length:=by
  intro a
  induction a with
  |nil=>simp
  |cons y a ih =>
   intro b hn hs;rw [List.nodup_cons] at hn;have hy:y∈b:=hs y (List.mem_cons_self ..)
   have:=ih (b.erase y) hn.2 fun z hz=>(List.mem_erase_of_ne (fun h:z=y=>hn.1 (by rw [<- h];exact hz))).2 (hs z (List.mem_cons_of_mem _ hz))
   rw [List.length_erase_of_mem hy] at this
   have:0<b.length:=List.length_pos_of_mem hy
   simp
   omega
 exact this _ _ hn fun x hx=>zdb.2 ((h.2 x).1 hx)
def rpl (P r S B n nv:Nat) (L:Nat->Ent):List Nat->Ms->Int->Ms×Int
 |[],s,b=>(s,b)
 |i :: o,s,b=>rpl P r S B n nv L o (doS P r S B n nv s (L i).op) (if b=-1/\(L i).fin≠0/\(L i).ans≠doA P r S B n nv s (L i).op then (i:Int) else b)
def misT (x:Ent):Bool:=(decide (x.beg<0) || decide (x.mar<0) || decide (x.fin<0)) || ((decide (0<x.mar) && decide (x.mar<=x.beg)) || (decide (x.fin≠0) && (decide (x.mar=0) || decide (x.fin<x.mar))))
def busP (L:Nat->Ent) (i k:Nat):Prop:=(0<(L i).mar/\(L i).mar=(L k).mar)\/((L i).who=(L k).who/\((L k).fin=0\/(L i).beg<(L k).fin))
instance (L:Nat->Ent) (i k:Nat):Decidable (busP L i k):=by unfold busP;infer_instance
def busB (L:Nat->Ent) (i:Nat):Bool:=(List.range i).any fun k=>decide (busP L i k)
theorem zc6 {L:Nat->Ent} {i:Nat}:busB L i=true↔∃ k,k<i/\busP L i k:=by
 unfold busB
 simp
theorem zhe {L:Nat->Ent} {i:Nat}:busB L i=false↔∀ k,k<i->¬ busP L i k:=by
 unfold busB
 simp
def chkH (P r S B n nv:Nat) (L:Nat->Ent) (N:Nat) (o:List Nat) (s:Ms):Int×Int :=
 if zaw (fun i=>misT (L i)) N≠-1 then (zaw (fun i=>misT (L i)) N,4)
 else if zaw (busB L) N≠-1 then (zaw (busB L) N,10)
 else if (rpl P r S B n nv L o s (-1)).2≠-1 then ((rpl P r S B n nv L o s (-1)).2,7)
 else (-1,0)
end
section
open Go.RowKit
section
variable {pb n cp lb N:Nat} {key:Nat->Int}
set_option maxRecDepth 20000 in
set_option maxHeartbeats 25600000 in
theorem sym_hi (hn:n<=1000000) {d:Nat} {w:World} {f:Nat->Nat} {a m b:Nat} (IH:(∀ (w:World) (f:Nat->Nat) (a m b:Nat),SrAt w pb n lb N key f->b - a<=d->a<m->m<b->b<=n->SdK key f a m->SdK key f m b->StK key f a b ->
   Calls Tryz.prog 97 #[.slice (some ⟨pb,0,none⟩) n cp,.int .i64 (a:Nat),.int .i64 (m:Nat),.int .i64 (b:Nat),(.func (.func 35) #[] #[.pointer (some ⟨lb,0,none⟩)])] w (MgAt w pb n lb N key f a b)))
  (h:SrAt w pb n lb N key f) (hd:b - a<=d+1) (ham:a<m) (hmb:m<b) (hb:b<=n) (hl:SdK key f a m) (hr:SdK key f m b) (ht:StK key f a b) (hm1:¬ m=a+1) (hb1:¬ b=m+1) (hc:(a+b) / 2<m) :
  Calls Tryz.prog 97 #[.slice (some ⟨pb,0,none⟩) n cp,.int .i64 (a:Nat),.int .i64 (m:Nat),.int .i64 (b:Nat),(.func (.func 35) #[] #[.pointer (some ⟨lb,0,none⟩)])] w (MgAt w pb n lb N key f a b):=by
 have HIH:=Lib.hid IH;have HS:=Lib.hid h;have HLR:=Lib.hid (And.intro hl (And.intro hr ht))
 have s0':¬ (m:Int) - (a:Int)=1:=by omega
 have s1':¬ (b:Int) - (m:Int)=1:=by omega
 have s0:(((m:Int) - (a:Int)) == 1)=false:=by simp;omega
 have s1:(((b:Int) - (m:Int)) == 1)=false:=by simp;omega
 obtain ⟨mid,hmid⟩:∃ x,x=(a+b) / 2:=⟨_,rfl⟩;obtain ⟨nn,hnn⟩:∃ x,x=mid+m:=⟨_,rfl⟩
 obtain ⟨q,hq⟩:∃ x,nn=x+1:=⟨nn - 1,by omega⟩
 have HE0:=Lib.hid (show ((a:Int)+(b:Int)) / 2=(mid:Int) by omega)
 have HEN:=Lib.hid (show ((mid:Int)+(m:Int))=(nn:Int) by omega)
 have HEQ:=Lib.hid (show ((nn:Int) - 1)=(q:Int) by omega)
 have HMID:=Lib.hid (And.intro hmid (And.intro hnn hq))
 have hmb1:mid<b:=by omega
 have hma1:a<=mid:=by omega
 rw [<- hmid] at hc;clear h hl hr ht hmid hnn hq hm1 hb1 IH
 go_enter Tryz.func97,Tryz.ntmps97
 go_upto_region 25 with fail
 simp only [HE0.out]
 go_upto_region 26 with fail
 simp only [HEN.out]
 clear s0 s1 s0' s1'
 have hn2:nn<2000000:=by have:=HMID.out;omega
 have hn3:1<=nn:=by have:=HMID.out;omega
 obtain ⟨s0,hs0⟩:∃ x,x=mid+m - b:=⟨_,rfl⟩
 have H0:Hid (mid<m/\s0=mid+m - b):=⟨hc,hs0⟩
 have HES:=Lib.hid (show ((nn:Int) - (b:Int))=(s0:Int) by have:=HMID.out;omega)
 have h00:s0<=mid/\mid<=m:=by have:=HMID.out;omega
 have hn4:b<=nn:=by have:=HMID.out;omega
 have d1:decide (mid<m)=true:=decide_eq_true hc
 clear hs0 hc
 go_upto_region 32 with fail
 simp only [HES.out]
 have hq2:q<2000000:=by have:=HMID.out;omega
 go_wp2
 simp only [HEQ.out]
 go_loopw [20,21] (fun sv rv wr=>∃ (s r:Nat) (wx:World),wx=wr/\sv=.int .i64 s/\rv=.int .i64 r/\s0<=s/\s<=r/\r<=mid/\Hid (SeK key f s0 mid q s r/\SrAt wr pb n lb N key f/\But pb w wr)) (fun sv rv _=>(intOf rv).toNat - (intOf sv).toNat)
 case atStart=>exact ⟨s0,mid,_,rfl,rfl,rfl,by omega,by omega,by omega,⟨Nat.le_refl _,h00.1,Nat.le_refl _,.inl rfl,.inl rfl⟩,HS.out,But.of (Below.refl _ _) (Nat.le_of_lt HS.out.lt)⟩
 case round =>
  obtain ⟨s,r,wr,rfl,rfl,rfl,hss,hsr,hrr,HI⟩:=hrel
  by_cases hlt:s<r
  ·have d1:decide (s<r)=true:=decide_eq_true hlt
   obtain ⟨c,hc0⟩:∃ c,c=(s+r) / 2:=⟨_,rfl⟩
   have hc1:s<=c:=by omega
   have hc2:c<r:=by omega
   have HEC:=Lib.hid (show ((s:Int)+(r:Int)) / 2=(c:Int) by omega)
   obtain ⟨x,hx⟩:∃ x,x=q - c:=⟨_,rfl⟩
   have hxx:c<=q/\x<n/\c<n:=by have:=H0.out;have:=HMID.out;omega
   have s2:IntKind.i64.wrap (x:Int)=(x:Int):=by rw [IntKind.wrap_i64];omega
   have s3:(q:Int) - (c:Int)=(x:Int):=by omega
   have hxn:x<n:=hxx.2.1;have hcn:c<n:=hxx.2.2;have HX:=Lib.hid hx;clear hc0 hx hxx
   go_upto_region 35 with fail
   simp only [HEC.out]
   by_cases hk:key (f x)<key (f c)
   ·have hc:=ziq hk
    have HSE:Hid (SeK key f s0 mid q s c):=HI.out.1.down hc1 hc2 (by rw [<- HX.out];exact hk)
    clear hk
    have c1:=HI.out.2.1.row.cell (i:=x) (by omega)
    have c2:=HI.out.2.1.row.cell (i:=c) (by omega)
    refine wp_region_held_drew (S:=fun w'=>w'.cell? ⟨pb,x,none⟩=some (.int .i64 (f x:Nat))/\w'.cell? ⟨pb,c,none⟩=some (.int .i64 (f c:Nat))) (by kernel_rfl) ?_ (fun hHeld=>?_)
    ·exact ⟨c1,c2⟩
    obtain ⟨v0,hv0⟩:∃ w',w'=wr.drew:=⟨_,rfl⟩
    have hvb:Below wr.heap.size wr v0:=by rw [hv0];exact (Below.refl _ _).drew
    have HR0:=Lib.hid (HI.out.2.1.call hvb)
    have HCC:=Lib.hid (za6 HR0.out.mks (f x) (f c) (HR0.out.mem _ (by omega)) (HR0.out.mem _ (by omega)))
    rw [<- hv0] at hHeld |-;clear hv0 c1 c2;refine tk 0 ?_;refine tk 1 ?_;refine tk 2 ?_;refine tk 3 ?_;refine tk 4 ?_;refine tk 5 ?_;refine tk 6 ?_;refine tk 7 ?_;refine tk 8 ?_;refine tk 9 ?_;refine tk 10 ?_
    refine clR 11 rfl fun K hK=>?_
    go_simp
    refine Calls.mono HCC.out ?_
    rintro e w1 ⟨rfl,hb1⟩;have hb01:Below wr.heap.size wr w1:=hvb.trans (hb1.mono hvb.size);have HSR:=Lib.hid (HI.out.2.1.call hb01);have HBU:Hid (But pb w w1):=HI.out.2.2.trans (But.of hb01 (Nat.le_of_lt HI.out.2.1.lt))
    have c1:=HSR.out.row.cell (i:=x) (by omega)
    have c2:=HSR.out.row.cell (i:=c) (by omega)
    clear hb1 hb01
    refine hK.out _ _ ?_ (fun hHeld=>?_)
    ·(try dsimp only)
     exact ⟨c1,c2⟩
    clear hK K;refine tk 12 ?_;refine tk 13 ?_
    refine dnR ?_
    clear hHeld hvb c1 c2 HCC HR0;clear hc
    go_wp2
    go_roundw
    case rel=>exact ⟨s,c,_,rfl,rfl,rfl,by omega,by omega,by omega,Lib.hid ⟨HSE.out,HSR.out,HBU.out⟩⟩
    case measure=>simp [intOf];omega
   ·have hc:=ziw hk
    have HSE:Hid (SeK key f s0 mid q (c+1) r):=HI.out.1.up hc1 hc2 (by rw [<- HX.out];exact hk)
    clear hk
    have c1:=HI.out.2.1.row.cell (i:=x) (by omega)
    have c2:=HI.out.2.1.row.cell (i:=c) (by omega)
    refine wp_region_held_drew (S:=fun w'=>w'.cell? ⟨pb,x,none⟩=some (.int .i64 (f x:Nat))/\w'.cell? ⟨pb,c,none⟩=some (.int .i64 (f c:Nat))) (by kernel_rfl) ?_ (fun hHeld=>?_)
    ·exact ⟨c1,c2⟩
    obtain ⟨v0,hv0⟩:∃ w',w'=wr.drew:=⟨_,rfl⟩
    have hvb:Below wr.heap.size wr v0:=by rw [hv0];exact (Below.refl _ _).drew
    have HR0:=Lib.hid (HI.out.2.1.call hvb)
    have HCC:=Lib.hid (za6 HR0.out.mks (f x) (f c) (HR0.out.mem _ (by omega)) (HR0.out.mem _ (by omega)))
    rw [<- hv0] at hHeld |-;clear hv0 c1 c2;refine tk 0 ?_;refine tk 1 ?_;refine tk 2 ?_;refine tk 3 ?_;refine tk 4 ?_;refine tk 5 ?_;refine tk 6 ?_;refine tk 7 ?_;refine tk 8 ?_;refine tk 9 ?_;refine tk 10 ?_
    refine clR 11 rfl fun K hK=>?_
    go_simp
    refine Calls.mono HCC.out ?_
    rintro e w1 ⟨rfl,hb1⟩;have hb01:Below wr.heap.size wr w1:=hvb.trans (hb1.mono hvb.size);have HSR:=Lib.hid (HI.out.2.1.call hb01);have HBU:Hid (But pb w w1):=HI.out.2.2.trans (But.of hb01 (Nat.le_of_lt HI.out.2.1.lt))
    have c1:=HSR.out.row.cell (i:=x) (by omega)
    have c2:=HSR.out.row.cell (i:=c) (by omega)
    clear hb1 hb01
    refine hK.out _ _ ?_ (fun hHeld=>?_)
    ·(try dsimp only)
     exact ⟨c1,c2⟩
    clear hK K;refine tk 12 ?_;refine tk 13 ?_
    refine dnR ?_
    clear hHeld hvb c1 c2 HCC HR0;clear hc
    go_wp2
    go_roundw
    case rel=>exact ⟨c+1,r,_,rfl,by go_num,rfl,by omega,by omega,by omega,Lib.hid ⟨HSE.out,HSR.out,HBU.out⟩⟩
    case measure=>simp [intOf];omega
  ·have d1:decide (s<r)=false:=decide_eq_false hlt
   obtain rfl:s=r:=by omega
   obtain ⟨e,he⟩:∃ e,e=nn - s:=⟨_,rfl⟩
   have HCUT:Hid (CutK key f a m b s e/\s<=mid/\s+(e - m)=mid):=by
    have hx:=HI.out.1.cut ⟨ham,hmb⟩ HMID.out.1 (by have:=HMID.out;omega) (.inl ⟨H0.out.1,H0.out.2,rfl⟩)
    rw [show mid+m - s=e by have:=HMID.out;omega] at hx
    exact hx
   have HEE:=Lib.hid (show (nn:Int) - (s:Int)=(e:Int) by have:=HMID.out;have:=HCUT.out.2.1;omega)
   obtain ⟨P1,P2,P3,q1,q2,q3,q4,q5,q6,q7⟩:=zli hn (d:=d) HIH.out hd ham hmb hb HI.out.2.1 HI.out.2.2 HLR.out.1 HLR.out.2.1 HLR.out.2.2 HCUT.out.1 (by have:=HMID.out;omega) HCUT.out.2.2
   have Q1:=Lib.hid q1;have Q2:=Lib.hid q2;have Q3:=Lib.hid q3;have Q4:=Lib.hid q4;have Q5:=Lib.hid q5;have Q6:=Lib.hid q6;have Q7:=Lib.hid q7
   have zE:s<mid↔m<e:=by have:=HCUT.out;have:=HCUT.out.1.me;constructor <;> intro <;> omega
   have zF:mid<e↔s<m:=by have:=HCUT.out;have:=HCUT.out.1.me;constructor <;> intro <;> omega
   have he2:e<2000000:=by omega
   have hse:s<=nn:=by have:=HMID.out;have:=HCUT.out.2.1;omega
   clear q1 q2 q3 q4 q5 q6 q7 HIH HI HLR H0 he
   go_upto_region 39 with fail
   simp only [HEE.out]
   clear d1
   by_cases zA:s<m <;> by_cases zB:m<e <;> by_cases zC:a<s <;> by_cases zD:e<b
   all_goals (
    first|have dA:=decide_eq_false zA|have dA:=decide_eq_true zA
    first|have dB:=decide_eq_false zB|have dB:=decide_eq_true zB
    first|have dC:=decide_eq_false zC|have dC:=decide_eq_true zC
    first|have dD:=decide_eq_false zD|have dD:=decide_eq_true zD
    first|have dE:=decide_eq_false (mt zE.1 zB)|have dE:=decide_eq_true (zE.2 zB)
    first|have dF:=decide_eq_false (mt zF.1 zA)|have dF:=decide_eq_true (zF.2 zA)
    try (have hp1:=Lib.hid (Q2.out (by omega)))
    try (have hp2:=Lib.hid (Q4.out _ hp1.out (by omega)))
    go_wp2_with first
     |(with_reducible refine Calls.mono (Q1.out zA zB) ?_;rintro _ w1 ⟨rfl,h1⟩;have hp1:=Lib.hid h1;clear h1;try (have hp2:=Lib.hid (Q4.out _ hp1.out (by omega))))
     |(with_reducible refine Calls.mono (Q3.out _ hp1.out zC (zE.2 zB)) ?_;rintro _ w2 ⟨rfl,h1⟩;have hp2:=Lib.hid h1;clear h1)
     |(with_reducible refine Calls.mono (Q5.out _ hp2.out (zF.2 zA) zD) ?_;rintro _ w3 ⟨rfl,h1⟩;have hp3:=Lib.hid h1;clear h1)
     |fail
    first|go_end0|go_ret
    first|exact Q7.out _ hp3.out|exact Q7.out _ (Q6.out _ hp2.out (by omega)))
end
end
section
open Go.RowKit
section
variable {pb n cp lb N:Nat} {key:Nat->Int}
set_option maxRecDepth 20000 in
set_option maxHeartbeats 25600000 in
theorem zek (hn:n<=1000000):∀ (d:Nat) (w:World) (f:Nat->Nat) (a m b:Nat),SrAt w pb n lb N key f->b - a<=d->a<m->m<b->b<=n->SdK key f a m->SdK key f m b->StK key f a b ->
  Calls Tryz.prog 97 #[.slice (some ⟨pb,0,none⟩) n cp,.int .i64 (a:Nat),.int .i64 (m:Nat),.int .i64 (b:Nat),(.func (.func 35) #[] #[.pointer (some ⟨lb,0,none⟩)])] w (MgAt w pb n lb N key f a b)
 |0,w,f,a,m,b,_,hd,ham,hmb,_,_,_,_=>absurd hd (by omega)
 |d+1,w,f,a,m,b,h,hd,ham,hmb,hb,hl,hr,ht=>by
  by_cases hm1:m=a+1
  ·subst hm1
   exact sym_left h hn (by omega) hb hr ht
  by_cases hb1:b=m+1
  ·subst hb1
   exact zpf h hn (by omega) hb hl ht
  by_cases hc:(a+b) / 2<m
  ·exact sym_hi hn (zek hn d) h hd ham hmb hb hl hr ht hm1 hb1 hc
  ·exact sym_lo hn (zek hn d) h hd ham hmb hb hl hr ht hm1 hb1 hc
end
end
section
open Go.RowKit
theorem zeq {w:World} {base n:Nat} {T:TypeId} {v:Value} {xs:List Value} (h:w.ownsRow base T 1 v n xs) (hn:0<n) :
  ∃ (b cap:Nat) (F:Nat->Value),v=.slice (some ⟨b,0,none⟩) n cap/\n<=cap/\base<=b/\w.rowIs b T cap F/\∀ i,i<n->xs[i]?=some (F i):=by
 rcases h.2 with hn'|⟨b,cap,cur,hv,hb,hh,hnc,hcm,hcs,ht⟩
 ·obtain ⟨hv,hx⟩:=hn'
  have h1:=h.1;rw [hx] at h1
  simp at h1
  omega
 ·subst hv
  have hr:w.rowIs b T cap (fun i=>(cur[i]?).getD (.bool false)):=⟨cur,hh,by simpa using hcs,fun i hi=>by
   have hlt:i<cur.size:=by rw [hcs];omega
   show cur[i]?=some ((cur[i]?).getD (.bool false))
   rw [Array.getElem?_eq_getElem hlt]
   rfl⟩
  refine ⟨b,cap,_,rfl,hnc,hb,hr,fun i hi=>?_⟩
  have h1:=h.cellAt i (by omega)
  rw [<- h1]
  exact hr.cell (by omega)
theorem BkAt.grow {w w':World} {D:Nat->Prop} {p q S B n:Nat} {g:Nat->Nat->Pl} (h:BkAt w D p q S B n g) (hb:Below w.heap.size w w'):BkAt w' (fun b=>D b\/(w.heap.size<=b/\b<w'.heap.size)) p q S B n g:=by
 have hbq:=h.2.1;obtain ⟨k0,k1,k2,k3,k4,k5,k6,k9,k10⟩:=h.call hb;obtain ⟨_,_,_,_,_,_,_,_,m10⟩:=h
 refine ⟨k0,k1,k2,k3,k4,k5,k6,k9,fun a ha=>?_⟩
 obtain ⟨v0,hv0,hrow0⟩:=m10 a ha;obtain ⟨v,hv,Ax,cap,e1,e2,e3,e4⟩:=k10 a ha
 refine ⟨v,hv,Ax,cap,e1,e2,e3,fun hn=>?_⟩
 obtain ⟨b,off,f1,f2,f3,f4⟩:=e4 hn
 refine ⟨b,off,f1,f2,fun hd=>?_,f4⟩
 rcases hd with hd|hd
 ·exact f3 hd
 ·obtain ⟨Ay,cay,y1,y2,y3,y4⟩:=hrow0
  obtain ⟨b',off',z1,z2,z3,z4⟩:=y4 hn
  have hq0:w'.cell? ⟨q,a,none⟩=w.cell? ⟨q,a,none⟩:=hb.cell hbq
  rw [hq0,hv0] at hv
  injection hv with hv
  rw [y1,e1] at hv
  injection hv with hv
  rw [z1,f1] at hv
  injection hv with hv
  injection hv with hv
  omega
section
variable {w w1 w':World} {L A S1 Q cQ:Nat} {X:Nat->Value} {bp bq P r S B n nv H0:Nat} {uv:Value} {lv:List Vl} {st:Nat->Int×Nat} {G:Nat->Value} {R:Nat->Nat}
theorem RfAll.of_parts (hm:RfAt w' L A S1 Q cQ X uv (.pointer (some ⟨bp,0,none⟩)) P r nv lv st G) (hq:zjd w' w1.heap.size P P R G) (hk:BkAt w1 (fun b=>b<H0\/b=bp\/b=bq) bp bq S B n (fun _ _=>pl0)) (hb:Below w1.heap.size w1 w')
  (hL:L<=H0) (h0:H0<=w1.heap.size) (hp:H0<=bp) (hqq:H0<=bq) (hA:A<H0\/w1.heap.size<=A) (hS:S1<H0\/w1.heap.size<=S1) (hQ:Q<H0\/w1.heap.size<=Q) (hu:∀ b,uv.ownBlock=some b->b<H0\/w1.heap.size<=b) :
  RfAll (fun b=>b<L) w' L A S1 Q cQ X bp bq P r S B n nv uv lv st (fun _ _=>pl0) G R (fun _ _=>.slice none 0 0) (fun _ _=>[]):=by
 have hbp:=hk.1;have hbq:=hk.2.1;have hz:=hb.size
 have hblk:∀ b,zc9 A S1 Q P uv R (fun _ _=>.slice none 0 0) b->(b<H0\/w1.heap.size<=b)/\b<w'.heap.size:=by
  rintro b ((rfl|rfl|rfl|hc)|⟨i,hi,hc⟩)
  ·exact ⟨hA,hm.cells.lt⟩
  ·exact ⟨hS,hm.stands.lt⟩
  ·exact ⟨hQ,hm.queues.lt⟩
  ·exact ⟨hu b hc,(hm.vlans.lt b hc).2⟩
  ·rcases hc with rfl|⟨j,hj,hc⟩
   ·exact ⟨.inr (hq i hi).1,(hq i hi).2.2.1.lt⟩
   ·cases hc
 refine ⟨hm,QuAt.of_new hq (by omega),by omega,_,hk.grow hb,fun b hd=>?_,.inl (.inr (.inr rfl)),fun b hc=>?_,fun b he=>?_⟩
 ·rcases hd with (hd|hd|hd)|hd
  ·omega
  ·omega
  ·omega
  ·exact hd.2
 ·obtain ⟨h1,h2⟩:=hblk b hc
  refine ⟨?_,by omega,by omega⟩
  rcases h1 with h1|h1
  ·exact .inl (.inl h1)
  ·exact .inr ⟨h1,h2⟩
 ·refine ⟨.inl (.inl (by omega)),by omega,by omega,?_⟩
  have h1:=hm.la;have h2:=hm.ls;have h3:=hm.lq
  rintro ((rfl|rfl|rfl|hc)|⟨i,hi,hc⟩)
  ·omega
  ·omega
  ·omega
  ·have:=(hm.vlans.lt b hc).1
   omega
  ·rcases hc with rfl|⟨j,hj,hc⟩
   ·have:=(hq i hi).1
    omega
   ·cases hc
end
end
section
theorem OrdL.at_ {key:Nat->Int} {N:Nat} {o:List Nat} (h:OrdL N key o) {j:Nat} (hj:j<o.length):getN o j<N/\0<key (getN o j):=(h.2 _).1 (zcv hj)
theorem zjh {key:Nat->Int} {k:Nat} (h:0<key k):(pls key (k+1)).length=(pls key k).length+1:=by
 rw [zfr,if_pos h]
 simp
theorem OrdL.ex (N:Nat) (key:Nat->Int):∃ o,OrdL N key o:=by
 have hp:=List.pairwise_mergeSort (le:=fun a b:Nat => decide (key a<key b\/(key a=key b/\a<=b))) (fun a b c h1 h2=>by simp only [decide_eq_true_eq] at h1 h2 |-;omega) (fun a b=>by simp only [Bool.or_eq_true,decide_eq_true_eq];omega) (pls key N)
 have hperm:=List.mergeSort_perm (pls key N) (fun a b:Nat => decide (key a<key b\/(key a=key b/\a<=b)))
 have hnd:((pls key N).mergeSort (fun a b:Nat => decide (key a<key b\/(key a=key b/\a<=b)))).Nodup:=hperm.nodup_iff.2 ((pls_pw key N).imp fun {a b} h e=>by subst e;omega)
 refine ⟨_,(hp.and hnd).imp fun {a b} h=>?_,fun i=>hperm.mem_iff.trans zdb⟩
 have h1:=h.1
 simp only [decide_eq_true_eq] at h1
 have h2:a≠b:=h.2
 omega
end
end Go.Proofs.YtfekhdgjgjodlaaGreat
