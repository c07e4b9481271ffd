/-
  Words and contracts that a statement's proof rests on (Open, OpenFl, OpenVl, PlainHj, HiM, OpenEn, SrJ, MoY, MoP). No statement is proved here.
-/
import Derived.Deep.Slices
import Derived.Deep.Fields
import Derived.ChangeSame
import Derived.Maps.OwnSet
import Derived.Maps.OwnOps
import Derived.WalkArith
import Derived.Test.YtfekhdgjgjodlaaGreatKit
import Derived.Test.YtfekhdgjgjodlaaGreatMoX
import Derived.Test.YtfekhdgjgjodlaaGreatMoR
import Derived.Test.YtfekhdgjgjodlaaGreatHiA
import Derived.Test.YtfekhdgjgjodlaaGreatSrC
import Derived.Test.YtfekhdgjgjodlaaGreatSrF
import Derived.Test.YtfekhdgjgjodlaaGreatSrI
import Derived.Test.YtfekhdgjgjodlaaGreatPlainFx
import Derived.Test.YtfekhdgjgjodlaaGreatMoF
set_option linter.unusedVariables false
set_option linter.unusedSimpArgs false
namespace Go.Proofs.YtfekhdgjgjodlaaGreat
section
open Go.ChangeShapes Go.WideShapes Go.RowKit Go.Deep
section
variable {H:Type} {enc:TypeId×Value->H} {P:Program} {w:World} {base:Nat} {spare:Nat->Bool} {held:Bool}
def za0 (enc:TypeId×Value->H) (P:Program) (w:World) (base:Nat) (spare:Nat->Bool) (held:Bool) (t:TypeId) (u:Value):Prop :=
 ∃ (n:Nat) (y:DataW H×List MemPlace),DataW.trod enc P w base spare held n t [u]=some y
theorem za0.int {k:IntKind} {t:TypeId} {u:Value} (h:za0 enc P w base spare held t u) (ht:P.underlying t=some (.int k)):∃ n,u=.int k n/\(Lit.int k n).wf=true:=by
 obtain ⟨m,y,hy⟩:=h;obtain ⟨n,h1,_,h3⟩:=DataW.trod_int ht hy
 exact ⟨n,by simpa using h1,h3⟩
theorem za0.bool {t:TypeId} {u:Value} (h:za0 enc P w base spare held t u) (ht:P.underlying t=some .bool):∃ b,u=.bool b:=by
 obtain ⟨m,y,hy⟩:=h;obtain ⟨n,h1,_⟩:=DataW.trod_bool ht hy
 exact ⟨n,by simpa using h1⟩
theorem za0.i64 {t:TypeId} {u:Value} (h:za0 enc P w base spare held t u) (ht:P.underlying t=some (.int .i64)):∃ n:Int,u=.int .i64 n/\-9223372036854775808<=n/\n<=9223372036854775807:=by
 obtain ⟨n,rfl,hw⟩:=h.int ht
 exact ⟨n,rfl,Go.bounds_i64 hw⟩
theorem za0.u64 {t:TypeId} {u:Value} (h:za0 enc P w base spare held t u) (ht:P.underlying t=some (.int .u64)):∃ n:Nat,u=.int .u64 (n:Int)/\n<18446744073709551616:=by
 obtain ⟨n,rfl,hw⟩:=h.int ht
 have:=Go.bounds_u64 hw
 exact ⟨n.toNat,by congr 1;omega,by omega⟩
theorem za0.u32 {t:TypeId} {u:Value} (h:za0 enc P w base spare held t u) (ht:P.underlying t=some (.int .u32)):∃ n:Nat,u=.int .u32 (n:Int)/\n<4294967296:=by
 obtain ⟨n,rfl,hw⟩:=h.int ht
 have:=Go.bounds_u32 hw
 exact ⟨n.toNat,by congr 1;omega,by omega⟩
theorem za0.u16 {t:TypeId} {u:Value} (h:za0 enc P w base spare held t u) (ht:P.underlying t=some (.int .u16)):∃ n:Nat,u=.int .u16 (n:Int)/\n<65536:=by
 obtain ⟨n,rfl,hw⟩:=h.int ht
 have:=Go.bounds_u16 hw
 exact ⟨n.toNat,by congr 1;omega,by omega⟩
theorem za0.bytes {t e:TypeId} {u:Value} (h:za0 enc P w 0 (fun _=>true) held t u) (ht:P.underlying t=some (.slice e)) (he:P.underlying e=some (.int .u8)) (hc:P.cellsOf e=1) :
  ∃ l:List Nat,Sl w w.heap.size 1 u l.length (bv l)/\∀ x∈l,x<256:=by
 obtain ⟨fuel,y,hf⟩:=h
 rcases open_ints ht he hc hf with ⟨hcs,_⟩|⟨x,l,c,zs,hcs,_,hl,hm,hz,_,hcell,hwz⟩
 ·obtain rfl:u=.slice none 0 0:=by simpa using hcs
  exact ⟨[],Sl.nil _ _ _,by simp⟩
 ·obtain rfl:u=.slice (some x) l c:=by simpa using hcs
  simp only [if_true] at hz
  obtain ⟨ns,rfl,hns⟩:=zg8 zs hwz
  simp only [List.length_map] at hz hcell
  have hlen:(ns.take l).length=l:=by rw [List.length_take];omega
  refine ⟨ns.take l,?_,fun x hx=>hns x (List.mem_of_mem_take hx)⟩
  refine ⟨by simp [zpq],some x,c,by rw [hlen],by omega,hm,fun hn=>?_⟩
  obtain ⟨b,off,spot⟩:=x
  have h0:=hcell 0 (by omega)
  have hspot:spot=none:=by simpa [Addr.add] using World.cell?_spot h0
  subst hspot
  refine ⟨b,off,rfl,World.block_lt_of_cell? w _ (by simpa [Addr.add] using h0),fun j hj=>?_⟩
  rw [hlen,Nat.mul_one] at hj
  have hj2:j<ns.length:=by omega
  have h1:=hcell j hj2
  have hadd:(⟨b,off,none⟩:Addr).add j=⟨b,off+j,none⟩:=by unfold Addr.add;split <;> simp_all
  rw [hadd] at h1
  rw [h1,bv_at _ _ (by rw [hlen];exact hj)]
  simp [List.getD_eq_getElem?_getD,List.getElem?_map,List.getElem?_eq_getElem hj2]
end
end
section
open Go.ChangeShapes Go.WideShapes Go.RowKit Go.Deep
section
variable {H:Type} {enc:TypeId×Value->H} {P:Program} {w:World} {base:Nat} {spare:Nat->Bool} {held:Bool}
def zgk (P:Program) (rec:TypeId->Option (List TypeId)):List Field->Nat->Option (List TypeId)
 |[],_=>some []
 |f :: fs,off=>if f.offset=off then
   match rec f.type with
   |some a=>if P.cellsOf f.type=a.length then
     match zgk P rec fs (off+a.length) with
     |some b=>some (a ++ b)
     |none=>none
    else none
   |none=>none
  else none
def zcx (P:Program):Nat->TypeId->Option (List TypeId)
 |0,_=>none
 |n+1,t=>match P.underlying t with
  |some (.struct fs)=>match zgk P (zcx P n) fs.toList 0 with
   |some l=>if P.cellsOf t=l.length then some l else none
   |none=>none
  |_=>if P.cellsOf t=1 then some [t] else none
theorem zfc (rec:TypeId->Option (List TypeId))
  (hrec:∀ t cs x fuel ts,rec t=some ts->cs.length=P.cellsOf t->DataW.trod enc P w base spare held fuel t cs=some x->∀ (j:Nat) tj,ts[j]?=some tj->∃ u,cs[j]?=some u/\za0 enc P w base spare held tj u) :
  ∀ (fs:List Field) (off:Nat) (ts:List TypeId) (cs:List Value),zgk P rec fs off=some ts->off+ts.length<=cs.length ->
   (∀ f∈fs,∃ fuel x,DataW.trod enc P w base spare held fuel f.type ((cs.drop f.offset).take (P.cellsOf f.type))=some x) ->
   ∀ (j:Nat) tj,ts[j]?=some tj->∃ u,cs[off+j]?=some u/\za0 enc P w base spare held tj u
 |[],off,ts,cs,h,_,_=>by
  intro j tj hj
  simp [zgk] at h
  subst h
  simp at hj
 |f :: fs,off,ts,cs,h,hlen,hf=>by
  intro j tj hj;unfold zgk at h
  split at h
  ·rename_i ho
   split at h
   ·rename_i a ha
    split at h
    ·rename_i hc
     split at h
     ·rename_i b hb
      injection h with h
      subst h;rw [List.length_append] at hlen
      obtain ⟨fuel,x,hx⟩:=hf f (by simp)
      rw [ho] at hx
      have hcl:((cs.drop off).take (P.cellsOf f.type)).length=P.cellsOf f.type:=by
       rw [List.length_take,List.length_drop];omega
      rcases Nat.lt_or_ge j a.length with h1|h1
      ·rw [List.getElem?_append_left h1] at hj
       obtain ⟨u,hu,hh⟩:=hrec f.type _ _ _ _ ha hcl hx j tj hj
       refine ⟨u,?_,hh⟩
       rw [List.getElem?_take,if_pos (by omega),List.getElem?_drop] at hu
       exact hu
      ·rw [List.getElem?_append_right h1] at hj
       obtain ⟨u,hu,hh⟩:=zfc rec hrec fs (off+a.length) b cs hb (by omega) (fun g hg=>hf g (by simp [hg])) (j - a.length) tj hj
       refine ⟨u,?_,hh⟩
       rw [<- hu]
       congr 1
       omega
     ·cases h
    ·cases h
   ·cases h
  ·cases h
theorem zde:∀ (n:Nat) (t:TypeId) (cs:List Value) (x:DataW H×List MemPlace) (fuel:Nat) (ts:List TypeId),zcx P n t=some ts->cs.length=P.cellsOf t->DataW.trod enc P w base spare held fuel t cs=some x ->
  ∀ (j:Nat) tj,ts[j]?=some tj->∃ u,cs[j]?=some u/\za0 enc P w base spare held tj u
 |0,t,cs,x,fuel,ts,h,_,_=>by simp [zcx] at h
 |n+1,t,cs,x,fuel,ts,h,hcs,hx=>by
  intro j tj hj;unfold zcx at h
  split at h
  ·rename_i fs hs
   split at h
   ·rename_i l hl
    split at h
    ·rename_i hc
     injection h with h
     subst h;obtain ⟨xs,m,_,_,hlen,hxl,hg⟩:=DataW.trod_struct hs hx
     have hf:∀ f∈fs.toList,∃ fuel x,DataW.trod enc P w base spare held fuel f.type ((cs.drop f.offset).take (P.cellsOf f.type))=some x:=by
      intro f hf;obtain ⟨i,hi,rfl⟩:=List.getElem_of_mem hf
      have hi':i<fs.size:=by simpa using hi
      have:=hg i fs[i] (Array.getElem?_eq_getElem hi')
      rw [List.getElem?_eq_getElem (show i<xs.length by omega)] at this
      exact ⟨m,_,by simpa using this⟩
     have:=zfc (zcx P n) (fun t cs x fuel ts a b c=>zde n t cs x fuel ts a b c) fs.toList 0 l cs hl (by omega) hf j tj hj
     simpa using this
    ·cases h
   ·cases h
  ·split at h
   ·rename_i hc
    injection h with h
    subst h;rw [hc] at hcs
    match cs,hcs with
    |[u],_ =>
     match j,hj with
     |0,hj =>
      simp at hj
      subst hj
      exact ⟨u,rfl,fuel,x,hx⟩
   ·cases h
theorem zql {r:Reach} {b0:Nat} {t:TypeId} {fs:Array Field} {ts:List TypeId} {v:Value} {d:DataW H} {p:List MemPlace} (hs:P.underlying t=some (.struct fs)) (hl:zcx P 8 t=some ts) (hn:P.cellsOf t=ts.length)
  (hv:Value.okWide P w r b0 t v) (h:DataW.Trod enc P w base spare held t v d p) :
  ∃ l:List Value,v=.agg l.toArray/\l.length=ts.length/\∀ (j:Nat) tj,ts[j]?=some tj->∃ u,l[j]?=some u/\za0 enc P w base spare held tj u:=by
 obtain ⟨cs,rfl,hsz⟩:=okWide_struct hs hv;obtain ⟨fuel,hf⟩:=h;obtain ⟨_,_,_,_,hlen,_⟩:=DataW.trod_struct hs hf;obtain ⟨l⟩:=cs
 have hll:l.length=P.cellsOf t:=by simpa [Value.cells] using hlen
 have:=zde 8 t _ _ _ _ hl hlen hf
 exact ⟨l,rfl,by omega,by simpa [Value.cells] using this⟩
theorem znb {r:Reach} {b0:Nat} {t e:TypeId} {ts:List TypeId} {v:Value} {d:DataW H} {p:List MemPlace} (ht:P.underlying t=some (.slice e)) (hl:zcx P 8 e=some ts) (hC:P.cellsOf e=ts.length) (h0:0<ts.length)
  (hv:Value.okWide P w r b0 t v) (h:DataW.Trod enc P w 0 (fun _=>true) held t v d p) :
  ∃ (A:Option Addr) (n cap:Nat),v=.slice A n cap/\n<=cap/\cap<=maxLen/\(0<n->∃ b off,A=some ⟨b,off,none⟩/\b<w.heap.size /\
   ∀ i,i<n->∀ (j:Nat) tj,ts[j]?=some tj->∃ u,w.cell? ⟨b,off+i*ts.length+j,none⟩=some u/\za0 enc P w 0 (fun _=>true) held tj u):=by
 obtain ⟨A,n,cap,rfl⟩:=okWide_slice ht hv;obtain ⟨fuel,hf⟩:=h
 rcases open_slice ht hf with ⟨hcs,_⟩|⟨a,len,c,m,k,D,Pl,hcs,_,hl1,hm,hmm,_,hi⟩
 ·simp [Value.cells] at hcs
  obtain ⟨rfl,rfl,rfl⟩:=hcs
  exact ⟨none,0,0,rfl,Nat.le_refl _,by simp [maxLen],fun h=>absurd h (by omega)⟩
 ·simp [Value.cells] at hcs
  obtain ⟨rfl,rfl,rfl⟩:=hcs
  simp only [if_true] at hmm
  subst hmm
  refine ⟨some a,n,m,rfl,hl1,hm,fun hn=>?_⟩
  have hat:∀ i,i<m->∀ (j:Nat) tj,ts[j]?=some tj->∃ u,w.cell? (a.add (i*ts.length+j))=some u/\za0 enc P w 0 (fun _=>true) held tj u:=by
   intro i him j tj hj;obtain ⟨cs',hc,ht'⟩:=hi i him;rw [hC] at hc;obtain ⟨_,hcl,hcat⟩:=World.cells?_some hc
   obtain ⟨u,hu,hh⟩:=zde 8 e _ _ _ _ hl (by omega) ht' j tj hj
   have hjl:j<ts.length:=(List.getElem?_eq_some_iff.1 hj).1
   refine ⟨u,?_,hh⟩
   rw [<- Go.Deep.add_add,hcat j hjl,hu]
  obtain ⟨u0,hu0,_⟩:=hat 0 (by omega) 0 _ (List.getElem?_eq_getElem h0)
  obtain ⟨b,off,spot⟩:=a
  have hspot:spot=none:=by simpa [Addr.add] using World.cell?_spot hu0
  subst hspot
  refine ⟨b,off,rfl,World.block_lt_of_cell? w _ (by simpa [Addr.add] using hu0),fun i hi2 j tj hj=>?_⟩
  obtain ⟨u,hu,hh⟩:=hat i (by omega) j tj hj
  have hadd:(⟨b,off,none⟩:Addr).add (i*ts.length+j)=⟨b,off+i*ts.length+j,none⟩:=by
   unfold Addr.add;split <;> simp_all [Nat.add_assoc]
  rw [hadd] at hu
  exact ⟨u,hu,hh⟩
end
end
section
open Go.ChangeShapes Go.WideShapes Go.RowKit Go.Deep
theorem zj2 {α:Type} (d:α) {Q:Nat->α->Prop}:∀ n,(∀ i,i<n->∃ x,Q i x)->∃ l:List α,l.length=n/\∀ i,i<n->Q i (l.getD i d)
 |0,_=>⟨[],rfl,fun i hi=>by omega⟩
 |n+1,h=>by
  obtain ⟨l,hl,hq⟩:=zj2 d n fun i hi=>h i (by omega)
  obtain ⟨x,hx⟩:=h n (by omega)
  refine ⟨l ++ [x],by simp [hl],fun i hi=>?_⟩
  rcases Nat.lt_or_ge i n with h1|h1
  ·have:=hq i h1
   rw [List.getD_eq_getElem?_getD,List.getElem?_append_left (by omega),<- List.getD_eq_getElem?_getD]
   exact this
  ·obtain rfl:i=n:=by omega
   rw [List.getD_eq_getElem?_getD,List.getElem?_append_right (by omega),hl]
   simpa using hx
theorem Sl.of_vls {w:World} {B n b off cap:Nat} {l:List Vl} (hl:l.length=n) (h1:n<=cap) (h2:cap<=maxLen) (hb:b<B)
  (h:∀ j,j<n->w.cell? ⟨b,off+j*3,none⟩=some (.int .i64 (l.getD j vl0).vid)/\w.cell? ⟨b,off+j*3+1,none⟩=some (.int .u64 ((l.getD j vl0).mem:Nat))/\w.cell? ⟨b,off+j*3+2,none⟩=some (.int .u64 ((l.getD j vl0).unt:Nat))) :
  Sl w B 3 (.slice (some ⟨b,off,none⟩) n cap) n (vlc l):=by
 refine ⟨by rw [zdw,hl],_,cap,rfl,h1,h2,fun _=>⟨b,off,rfl,hb,fun j hj=>?_⟩⟩
 have e:j=j / 3*3+j % 3:=by omega
 have hm:j % 3<3:=by omega
 have hq:j / 3<n:=by omega
 obtain ⟨c0,c1,c2⟩:=h (j / 3) hq
 have hql:j / 3<l.length:=by omega
 have hv:(vlc l)[j]?=(l[j / 3]?).bind fun x=>x.cells[j % 3]?:=by
  have:=zqr l (j / 3) (j % 3) hm
  rw [<- e] at this
  exact this
 rw [hv,List.getElem?_eq_getElem hql]
 simp only [List.getD_eq_getElem?_getD,List.getElem?_eq_getElem hql,Option.getD_some] at c0 c1 c2
 have ea:off+j=off+j / 3*3+j % 3:=by omega
 rw [ea]
 rcases (show j % 3=0\/j % 3=1\/j % 3=2 by omega) with h|h|h
 ·rw [h];exact c0
 ·rw [h];exact c1
 ·rw [h];exact c2
section
variable {H:Type} {enc:TypeId×Value->H} {P:Program} {w:World} {held:Bool}
end
end
section
def mkT (L:Nat->Ent):Nat->Int->Bool
 |0,_=>false
 |k+1,x=>if 0<(L k).mar/\(L k).mar=x then true else mkT L k x
def laT (L:Nat->Ent):Nat->Int->Option Nat
 |0,_=>none
 |k+1,x=>if (L k).who=x then some k else laT L k x
theorem zqg (L:Nat->Ent) (x:Int):∀ k,mkT L k x=true↔∃ j,j<k/\0<(L j).mar/\(L j).mar=x
 |0=>by simp [mkT]
 |k+1=>by
  unfold mkT
  by_cases h:0<(L k).mar/\(L k).mar=x
  ·rw [if_pos h]
   exact ⟨fun _=>⟨k,by omega,h⟩,fun _=>rfl⟩
  ·rw [if_neg h,zqg L x k]
   exact ⟨fun ⟨j,hj,hh⟩=>⟨j,by omega,hh⟩,fun ⟨j,hj,hh⟩=>⟨j,by
    rcases Nat.lt_or_ge j k with c|c
    ·exact c
    ·have:j=k:=by omega
     subst this
     exact absurd hh h,hh⟩⟩
theorem zfq (L:Nat->Ent) (x:Int):∀ k j,laT L k x=some j->j<k/\(L j).who=x/\∀ i,j<i->i<k->(L i).who≠x
 |0,j,h=>by simp [laT] at h
 |k+1,j,h=>by
  unfold laT at h
  by_cases e:(L k).who=x
  ·rw [if_pos e] at h
   injection h with h
   subst h
   exact ⟨by omega,e,fun i h1 h2=>by omega⟩
  ·rw [if_neg e] at h
   obtain ⟨h1,h2,h3⟩:=zfq L x k j h
   exact ⟨by omega,h2,fun i i1 i2=>by
    rcases Nat.lt_or_ge i k with c|c
    ·exact h3 i i1 c
    ·have:i=k:=by omega
     subst this
     exact e⟩
theorem zlz (L:Nat->Ent) (x:Int):∀ k,laT L k x=none->∀ i,i<k->(L i).who≠x
 |0,_,i,hi=>by omega
 |k+1,h,i,hi=>by
  unfold laT at h
  by_cases e:(L k).who=x
  ·rw [if_pos e] at h
   cases h
  ·rw [if_neg e] at h
   rcases Nat.lt_or_ge i k with c|c
   ·exact zlz L x k h i c
   ·have:i=k:=by omega
    subst this
    exact e
def atB (x:Ent) (t:Int):Bool:=!(x.fin != 0) || decide (t<x.fin)
theorem zlw {x:Ent} {t:Int}:atB x t=true↔x.fin=0\/t<x.fin:=by
 unfold atB
 simp
theorem zg6 {x:Ent} (h:misT x=false):0<=x.beg/\0<=x.mar/\0<=x.fin/\(0<x.mar->x.beg<x.mar)/\(x.fin≠0->x.mar≠0/\x.mar<=x.fin):=by
 unfold misT at h
 simp only [Bool.or_eq_false_iff,Bool.and_eq_false_iff,decide_eq_false_iff_not] at h
 obtain ⟨⟨⟨h1,h2⟩,h3⟩,h4,h5⟩:=h
 refine ⟨by omega,by omega,by omega,fun hm=>by omega,fun hf=>?_⟩
 rcases h5 with h5|h5
 ·exact absurd hf h5
 ·omega
def busQ (L:Nat->Ent) (i:Nat):Bool:=mkT L i (L i).mar || (match laT L i (L i).who with
 |none=>false
 |some j=>atB (L j) (L i).beg)
theorem busQ_eq {L:Nat->Ent} {N i:Nat} (hm:∀ j,j<N->misT (L j)=false) (hi:i<N) (hb:∀ j,j<i->busB L j=false):busQ L i=busB L i:=by
 have key:busQ L i=true↔busB L i=true:=by
  rw [zc6];unfold busQ;rw [Bool.or_eq_true,zqg]
  constructor
  ·rintro (⟨j,hj,h1,h2⟩|h)
   ·exact ⟨j,hj,.inl ⟨by omega,h2.symm⟩⟩
   ·cases e:laT L i (L i).who with
    |none=>rw [e] at h;cases h
    |some j =>
     rw [e] at h;obtain ⟨h1,h2,_⟩:=zfq L _ i j e
     exact ⟨j,h1,.inr ⟨h2.symm,zlw.1 h⟩⟩
  ·rintro ⟨k,hk,h|⟨h1,h2⟩⟩
   ·exact .inl ⟨k,hk,by omega,h.2.symm⟩
   ·right
    cases e:laT L i (L i).who with
    |none=>exact absurd h1.symm (zlz L _ i e k hk)
    |some j =>
     obtain ⟨j1,j2,j3⟩:=zfq L _ i j e
     show atB (L j) (L i).beg=true
     rw [zlw]
     rcases Nat.lt_trichotomy k j with c|c|c
     ·have hbj:=zhe.1 (hb j j1) k c
      have hmj:=zg6 (hm j (by omega))
      have hne:¬ ((L k).fin=0\/(L j).beg<(L k).fin):=fun hh=>hbj (.inr ⟨by rw [j2,h1],hh⟩)
      by_cases hf:(L j).fin=0
      ·exact .inl hf
      ·right
       have:=hmj.2.2.2.2 hf
       have:=hmj.2.2.2.1 (by omega)
       omega
     ·subst c;exact h2
     ·exact absurd h1.symm (j3 k c hk)
 cases h1:busQ L i <;> cases h2:busB L i <;> simp_all
theorem zcq {f:Nat->Bool} {k:Nat} (h:∀ i,i<k->f i=false) (hk:f k=false):∀ i,i<k+1->f i=false:=fun i hi=>by
 rcases Nat.lt_or_ge i k with c|c
 ·exact h i c
 ·have:i=k:=by omega
  subst this
  exact hk
end
section
open Go.RowKit Go.Maps Go.ChangeMaps
theorem iKey:Keyed Tryz.prog 3:=int_keyed Tryz.underlying3
def rngI (x:Int):Prop:=-9223372036854775808<=x/\x<=9223372036854775807
theorem zca {x:Int} (h:rngI x):keyOf Tryz.prog 3 (.int .i64 x)=some (.int .i64 x):=keyOf_int_mk Tryz.underlying3 (Go.WalkArith.wf_i64 h)
theorem zlp {x:Int} (h:rngI x):WideAt.IsKeyLit (Lit.int .i64 x):=Keyed.key iKey (zca h)
theorem zkz {x y:Int} (h:y≠x):(Lit.int .i64 y)≠Lit.int .i64 x:=fun e=>h (by injection e)
theorem zji (w:World):(zeroValue 3).run Tryz.prog w=.ok (.int .i64 0) w:=by kernel_rfl
theorem zeroB9 (w:World):(zeroValue 4).run Tryz.prog w=.ok (.bool false) w:=by kernel_rfl
theorem zc2 {q:Bool}:plainElem (H:=Unit) Tryz.prog 4 (.bool q)=some (.lit (.bool q),[]):=by
 have h:=Tryz.underlying4
 simp [plainElem,h]
theorem zes {v:Value} {q:Bool} {ps:List MemPlace} (h:plainElem (H:=Unit) Tryz.prog 4 v=some (.lit (.bool q),ps)):v=.bool q:=by
 have hu:=Tryz.underlying4
 cases v <;> simp [plainElem,hu] at h
 rw [h.1]
structure MapIn (D:DataW Unit) (K:Int->Option Nat):Prop where
 has:∀ x,rngI x->Maps.has D (.int .i64 x)=(K x).isSome
 at_:∀ x p,rngI x->K x=some p->D.atKey (.int .i64 x) (.lit (.int .i64 0))=.lit (.int .i64 (p:Nat))
def zmr (D:DataW Unit) (K:Int->Bool):Prop:=∀ x,rngI x->D.atKey (.int .i64 x) (.lit (.bool false))=.lit (.bool (K x))
theorem zpk:MapIn (.map []) (fun _=>none):=⟨fun x _=>(by rw [Maps.has_eq];rfl),fun _ _ _ h=>(by cases h)⟩
theorem zqs:zmr (.map []) (fun _=>false):=fun x _=>rfl
set_option maxRecDepth 100000 in
theorem MapIn.put {D:DataW Unit} {K:Int->Option Nat} (h:MapIn D K) (hD:Tidy D) {x:Int} (hr:rngI x) (p:Nat):MapIn (D.put (.int .i64 x) (.lit (.int .i64 (p:Nat)))) (fun y=>if x=y then some p else K y):=by
 have hk:=zlp hr
 refine ⟨fun y h'=>?_,fun y p' h' e=>?_⟩
 ·by_cases a:x=y
  ·subst a
   rw [if_pos rfl,has_put_same hD.isMap hk];rfl
  ·rw [if_neg a,has_put_other (zkz (Ne.symm a))];exact h.has _ h'
 ·by_cases a:x=y
  ·subst a
   rw [if_pos rfl] at e
   injection e with e
   rw [atKey_put_same hD.isMap hk,e]
  ·rw [if_neg a] at e
   rw [atKey_put_other (zkz (Ne.symm a))];exact h.at_ _ _ h' e
set_option maxRecDepth 100000 in
theorem zmr.put {D:DataW Unit} {K:Int->Bool} (h:zmr D K) (hD:Tidy D) {x:Int} (hr:rngI x):zmr (D.put (.int .i64 x) (.lit (.bool true))) (fun y=>if x=y then true else K y):=by
 have hk:=zlp hr;intro y h'
 show _=DataW.lit (.bool (if x=y then true else K y))
 by_cases a:x=y
 ·subst a
  rw [if_pos rfl,atKey_put_same hD.isMap hk]
 ·rw [if_neg a,atKey_put_other (zkz (Ne.symm a))];exact h _ h'
theorem zqw {w:World} {b n:Nat} {D:DataW Unit} {K:Int->Bool} (h:w.ownsMap Tryz.prog 3 (plainElem (H:=Unit) Tryz.prog 4) b n D) (hm:zmr D K) {x:Int} (hr:rngI x) :
  (Instr.lookup 127 (.map (some b)) (.int .i64 x) false).run Tryz.prog w=.ok (.bool (K x)) w:=by
 obtain ⟨v,ps,hrun,hv⟩:=h.lookup iKey Tryz.underlying127 (zeroB9 w) (zc2 (q:=false)) (zca hr);rw [hm x hr] at hv;rw [hrun,zes hv]
end
section
open Go.ChangeShapes Go.WideShapes Go.RowKit Go.Deep
def Ents18 (w:World) (v:Value):Prop :=
 ∃ (n:Nat) (L:Nat->Ent),zbj w w.heap.size n v L/\∀ i,i<n->(L i).op.ok/\rngI (L i).who/\rngI (L i).mar/\rngI (L i).beg/\rngI (L i).fin/\rngI (L i).ans
theorem zn1 (w:World) (b off:Nat):∀ n,(∀ i,i<n->∃ x:Ent,zaf w b (off+i*19) x/\(x.op.ok/\rngI x.who/\rngI x.mar/\rngI x.beg/\rngI x.fin/\rngI x.ans)) ->
  ∃ L:Nat->Ent,∀ i,i<n->zaf w b (off+i*19) (L i)/\((L i).op.ok/\rngI (L i).who/\rngI (L i).mar/\rngI (L i).beg/\rngI (L i).fin/\rngI (L i).ans)
 |0,_=>⟨fun _=>⟨0,0,0,0,⟨0,0,0,0,0,0,0,0,0,0,0,0,0,0⟩,0⟩,fun i hi=>absurd hi (by omega)⟩
 |n+1,h=>by
  obtain ⟨L,hL⟩:=zn1 w b off n fun i hi=>h i (by omega)
  obtain ⟨x,hx⟩:=h n (by omega)
  refine ⟨fun i=>if i=n then x else L i,fun i hi=>?_⟩
  by_cases e:i=n
  ·subst e
   simp only [if_true]
   exact hx
  ·simp only [if_neg e]
   exact hL i (by omega)
section
variable {H:Type} {enc:TypeId×Value->H} {P:Program} {w:World} {held:Bool}
theorem zk0 {r:Reach} {b0:Nat} {t e i q u:TypeId} {v:Value} {d:DataW H} {p:List MemPlace} (ht:P.underlying t=some (.slice e)) (hl:zcx P 8 e=some [i,i,i,i,i,i,i,i,i,i,q,q,q,u,u,i,i,i,i]) (hC:P.cellsOf e=19)
  (hi:P.underlying i=some (.int .i64)) (hq:P.underlying q=some (.int .u64)) (hu:P.underlying u=some (.int .u32))
  (hv:Value.okWide P w r b0 t v) (h:DataW.Trod enc P w 0 (fun _=>true) held t v d p):Ents18 w v:=by
 obtain ⟨A,n,cap,rfl,hn,hm,hc⟩:=znb ht hl hC (by simp) hv h
 rcases Nat.eq_zero_or_pos n with h0|h0
 ·subst h0
  exact ⟨0,fun _=>⟨0,0,0,0,⟨0,0,0,0,0,0,0,0,0,0,0,0,0,0⟩,0⟩,⟨A,cap,rfl,hn,hm,fun h=>absurd h (by omega)⟩,fun i hi=>absurd hi (by omega)⟩
 obtain ⟨b,off,rfl,hb,hcell⟩:=hc h0
 obtain ⟨L,hL⟩:=zn1 w b off n fun j hj=>by
  obtain ⟨u0,e0,g0⟩:=hcell j hj 0 i rfl;obtain ⟨u1,e1,g1⟩:=hcell j hj 1 i rfl;obtain ⟨u2,e2,g2⟩:=hcell j hj 2 i rfl;obtain ⟨u3,e3,g3⟩:=hcell j hj 3 i rfl;obtain ⟨u4,e4,g4⟩:=hcell j hj 4 i rfl;obtain ⟨u5,e5,g5⟩:=hcell j hj 5 i rfl;obtain ⟨u6,e6,g6⟩:=hcell j hj 6 i rfl;obtain ⟨u7,e7,g7⟩:=hcell j hj 7 i rfl;obtain ⟨u8,e8,g8⟩:=hcell j hj 8 i rfl;obtain ⟨u9,e9,g9⟩:=hcell j hj 9 i rfl;obtain ⟨u10,e10,g10⟩:=hcell j hj 10 q rfl;obtain ⟨u11,e11,g11⟩:=hcell j hj 11 q rfl;obtain ⟨u12,e12,g12⟩:=hcell j hj 12 q rfl;obtain ⟨u13,e13,g13⟩:=hcell j hj 13 u rfl;obtain ⟨u14,e14,g14⟩:=hcell j hj 14 u rfl;obtain ⟨u15,e15,g15⟩:=hcell j hj 15 i rfl;obtain ⟨u16,e16,g16⟩:=hcell j hj 16 i rfl;obtain ⟨u17,e17,g17⟩:=hcell j hj 17 i rfl;obtain ⟨u18,e18,g18⟩:=hcell j hj 18 i rfl;obtain ⟨x0,rfl,b0⟩:=g0.i64 hi;obtain ⟨x1,rfl,b1⟩:=g1.i64 hi;obtain ⟨x2,rfl,b2⟩:=g2.i64 hi;obtain ⟨x3,rfl,b3⟩:=g3.i64 hi;obtain ⟨x4,rfl,b4⟩:=g4.i64 hi;obtain ⟨x5,rfl,b5⟩:=g5.i64 hi;obtain ⟨x6,rfl,b6⟩:=g6.i64 hi;obtain ⟨x7,rfl,b7⟩:=g7.i64 hi;obtain ⟨x8,rfl,b8⟩:=g8.i64 hi;obtain ⟨x9,rfl,b9⟩:=g9.i64 hi;obtain ⟨x10,rfl,b10⟩:=g10.u64 hq;obtain ⟨x11,rfl,b11⟩:=g11.u64 hq;obtain ⟨x12,rfl,b12⟩:=g12.u64 hq;obtain ⟨x13,rfl,b13⟩:=g13.u32 hu;obtain ⟨x14,rfl,b14⟩:=g14.u32 hu;obtain ⟨x15,rfl,b15⟩:=g15.i64 hi;obtain ⟨x16,rfl,b16⟩:=g16.i64 hi;obtain ⟨x17,rfl,b17⟩:=g17.i64 hi;obtain ⟨x18,rfl,b18⟩:=g18.i64 hi
  exact ⟨⟨x0,x1,x2,x3,⟨x4,x5,x6,x7,x8,x9,x10,x11,x12,x13,x14,x15,x16,x17⟩,x18⟩,⟨e0,e1,e2,e3,e4,e5,e6,e7,e8,e9,e10,e11,e12,e13,e14,e15,e16,e17,e18⟩,⟨b7,b10,b11,b12,b13⟩,b0,b2,b1,b3,b18⟩
 exact ⟨n,L,⟨_,cap,rfl,hn,hm,fun _=>⟨b,off,rfl,hb,fun i hi=>(hL i hi).1⟩⟩,fun i hi=>(hL i hi).2⟩
end
end
section
open Go.RowKit
section
variable {pb n cp lb N:Nat} {key:Nat->Int}
set_option maxRecDepth 20000 in
set_option maxHeartbeats 12800000 in
theorem sort_row (hn:n<=1000000) {w:World} {f:Nat->Nat} (h:SrAt w pb n lb N key f) (ht:StK key f 0 n) :
  Calls Tryz.prog 34 #[.slice (some ⟨pb,0,none⟩) n cp,(.func (.func 35) #[] #[.pointer (some ⟨lb,0,none⟩)])] w (MgAt w pb n lb N key f 0 n):=by
 have HC:=Lib.hid (zna (cp:=cp) hn h ht);clear h ht
 go_enter Tryz.func34,Tryz.ntmps34
 go_wp2_with first
  |((with_reducible refine Calls.mono HC.out ?_);rintro _ w1 ⟨rfl,g3,m1,m2,m3⟩;have HM:Hid (MgAt w pb n lb N key f 0 n (.returned (.tuple #[])) w1):=⟨rfl,g3,m1,m2,m3⟩;clear m1 m2 m3)
  |fail
 first|go_end0|go_ret
 exact HM.out
end
end
section
open Go.RowKit
theorem zja {k:Nat} (hk:0<k) (hk2:k<=5000) (x:Int):zaq ((1+fx k x:Nat):Int) (k:Int)=true:=by
 have:=zdd hk x
 unfold zaq
 simp only [Bool.and_eq_true,decide_eq_true_eq]
 omega
theorem zl5 (lr:List Rl) (lv:List Vl) (P0 a b c t r:Int) (P S B n T G nv:Nat) (hP:P=2+fx 7 P0) (hT:T=1+fx 8 t) (hG:G=1+fx 64 r) (hS:S=1+fx 8 a) (hB:B=1+fx 16 b) (hn:n=1+fx 8 c) :
  zgd (zb4 (zcj (allN P) lv (min nv 8)) P (min nv 8)) (decide ((P:Int)=P)) (!decide (P<P)) (zct S B n && (zaq T 8 && zaq G 64))=0:=by
 have h0:=zdd (k:=7) (by omega) P0
 have h1:=zdd (k:=8) (by omega) a
 have h2:=zdd (k:=16) (by omega) b
 have h3:=zdd (k:=8) (by omega) c
 rw [zk6 lv (P:=P) (by omega) (by omega) (by omega)]
 have e1:zct (S:Nat) (B:Nat) (n:Nat)=true:=by
  unfold zct inB
  simp
  omega
 have e2:zaq (T:Nat) 8=true:=by rw [hT];exact zja (k:=8) (by omega) (by omega) t
 have e3:zaq (G:Nat) 64=true:=by rw [hG];exact zja (k:=64) (by omega) (by omega) r
 rw [e1,e2,e3]
 simp [zgd]
theorem told_nil (w:World) (B:Nat):Sl w B 2 (.slice none 0 0) 0 (rlc []):=⟨rfl,none,0,rfl,Nat.le_refl _,Nat.zero_le _,fun h=>absurd h (by omega)⟩
end
section
open Go.RowKit
theorem zcl (L:List Int):∀ u∈kv .i64 L,u.oneCell'=true:=by
 intro u hu
 simp only [kv,List.mem_map] at hu
 obtain ⟨x,_,rfl⟩:=hu
 rfl
end
end Go.Proofs.YtfekhdgjgjodlaaGreat
