/-
  Words and contracts that a statement's proof rests on (MrU). No statement is proved here.
-/
import Derived.Test.YtfekhdgjgjodlaaGreatMoG
set_option linter.unusedVariables false
set_option linter.unusedSimpArgs false
namespace Go.Proofs.YtfekhdgjgjodlaaGreat
open Go.RowKit
def rfF (X:Nat->Value) (sv uv bv vq:Value):Nat->Value
 |10=>sv|11=>uv|12=>bv|13=>vq|i=>X i
structure RfAt (w:World) (L A S1 Q cQ:Nat) (X:Nat->Value) (uv bv:Value) (P r nv:Nat) (lv:List Vl) (st:Nat->Int×Nat) (G:Nat->Value):Prop where
 la:L<=A
 ls:L<=S1
 lq:L<=Q
 pq:P<=cQ
 x0:X 0=.int .i64 (P:Nat)
 x7:X 7=.int .i64 (r:Nat)
 cells:w.rowIs A 81 14 (rfF X (.slice (some ⟨S1,0,none⟩) P (capV (X 10))) uv bv (.slice (some ⟨Q,0,none⟩) P cQ))
 stands:rowH w S1 76 (P*2) (rowS st)
 vlans:w.ownsRow L 88 3 uv nv (vlc lv)
 queues:w.rowIs Q 109 cQ G
 cs:P<=capV (X 10)/\capV (X 10)<=maxLen
 xf:∃ (a1:Option Addr) (n1 c1:Nat) (a2:Option Addr) (n2 c2:Nat) (i3 i4 i5 i6 i8 i9:Int),X 1=.slice a1 n1 c1/\X 2=.slice a2 n2 c2/\X 3=.int .i64 i3/\X 4=.int .i64 i4/\X 5=.int .i64 i5/\X 6=.int .i64 i6/\X 8=.int .u32 i8/\X 9=.int .u32 i9
theorem RfAt.keep {w w':World} {L A S1 Q cQ:Nat} {X:Nat->Value} {uv bv:Value} {P r nv:Nat} {lv:List Vl} {st:Nat->Int×Nat} {G:Nat->Value} (h:RfAt w L A S1 Q cQ X uv bv P r nv lv st G) (hk:∀ b,b=A\/b=S1\/b=Q\/uv.ownBlock=some b->w'.heap[b]?=w.heap[b]?):RfAt w' L A S1 Q cQ X uv bv P r nv lv st G :=
 ⟨h.la,h.ls,h.lq,h.pq,h.x0,h.x7,h.cells.of_block (hk A (.inl rfl)),h.stands.of_block (hk S1 (.inr (.inl rfl))),zbm h.vlans (fun g e=>hk g (.inr (.inr (.inr e)))),h.queues.of_block (hk Q (.inr (.inr (.inl rfl)))),h.cs,h.xf⟩
theorem RfAt.lt {w:World} {L A S1 Q cQ:Nat} {X:Nat->Value} {uv bv:Value} {P r nv:Nat} {lv:List Vl} {st:Nat->Int×Nat} {G:Nat->Value} (h:RfAt w L A S1 Q cQ X uv bv P r nv lv st G) (b:Nat) (hb:b=A\/b=S1\/b=Q\/uv.ownBlock=some b):b<w.heap.size:=by
 rcases hb with rfl|rfl|rfl|hb
 ·exact h.cells.lt
 ·exact h.stands.lt
 ·exact h.queues.lt
 ·exact (h.vlans.lt b hb).2
theorem RfAt.call {w w':World} {L A S1 Q cQ:Nat} {X:Nat->Value} {uv bv:Value} {P r nv:Nat} {lv:List Vl} {st:Nat->Int×Nat} {G:Nat->Value} (h:RfAt w L A S1 Q cQ X uv bv P r nv lv st G) (hb:Below w.heap.size w w'):RfAt w' L A S1 Q cQ X uv bv P r nv lv st G :=
 h.keep fun b hc=>hb.block b (h.lt b hc)
theorem RfAt.setS {w:World} {L A S1 Q cQ:Nat} {X:Nat->Value} {uv bv:Value} {P r nv:Nat} {lv:List Vl} {st:Nat->Int×Nat} {G:Nat->Value} (h:RfAt w L A S1 Q cQ X uv bv P r nv lv st G) (p:Nat) (x:Int) (e:Nat):RfAt ((w.setCell ⟨S1,p*2,none⟩ (.int .i64 x)).setCell ⟨S1,p*2+1,none⟩ (.int .u32 (e:Nat))) L A S1 Q cQ X uv bv P r nv lv (updS st p x e) G:=by
 have hb:∀ b,b≠S1->((w.setCell ⟨S1,p*2,none⟩ (.int .i64 x)).setCell ⟨S1,p*2+1,none⟩ (.int .u32 (e:Nat))).heap[b]?=w.heap[b]?:=fun b hb=>(zab _ _ _ (by exact hb)).trans (zab _ _ _ (by exact hb))
 refine ⟨h.la,h.ls,h.lq,h.pq,h.x0,h.x7,h.cells.of_block (hb _ (zcs h.cells h.stands (by decide))),?_,zbm h.vlans (fun g e2=>hb _ (fun e3=>zbr h.stands h.vlans (by decide) (by rw [e2,e3]))),h.queues.of_block (hb _ (zcs h.queues h.stands (by decide))),h.cs,h.xf⟩
 refine ((h.stands.set (p*2) _).set (p*2+1) _).congr fun i hi=>?_
 unfold rowS updS
 by_cases e1:i=p*2+1
 ·subst e1
  rw [if_pos rfl,if_neg (by omega),show (p*2+1) / 2=p by omega,if_pos rfl]
 ·rw [if_neg e1]
  by_cases e2:i=p*2
  ·subst e2
   rw [if_pos rfl,if_pos (by omega),show p*2 / 2=p by omega,if_pos rfl]
  ·rw [if_neg e2]
   have hne:i / 2≠p:=by omega
   rw [if_neg hne]
theorem zki:∀ (l:List Vl) (j:Nat),j<l.length->(vlc l)[j*3]?=some (.int .i64 (l.getD j vl0).vid)
 |[],j,h=>by simp at h
 |y :: l,0,_=>rfl
 |y :: l,j+1,h=>by
  rw [show (j+1)*3=j*3+1+1+1 by omega]
  show (vlc l)[j*3]?=_
  rw [zki l j (by simpa using h)]
  rfl
theorem vlc_set2 (l:List Vl) (j:Nat) (m u:Nat) (h:j<l.length):((vlc l).set (j*3+1) (.int .u64 (m:Nat))).set (j*3+2) (.int .u64 (u:Nat))=vlc (l.set j ⟨(l.getD j vl0).vid,m,u⟩):=by
 rw [<- zjo l j ⟨(l.getD j vl0).vid,m,u⟩ h]
 congr 2
 refine (List.ext_getElem? fun i=>?_).symm
 rw [List.getElem?_set]
 split
 ·rename_i e
  rw [<- e,zki l j h,if_pos]
  have:=zki l j h
  exact (List.getElem?_eq_some_iff.1 this).1
 ·rfl
theorem RfAt.setV {w:World} {L A S1 Q b cap cQ:Nat} {X:Nat->Value} {bv:Value} {P r nv:Nat} {lv:List Vl} {st:Nat->Int×Nat} {G:Nat->Value} (h:RfAt w L A S1 Q cQ X (.slice (some ⟨b,0,none⟩) nv cap) bv P r nv lv st G) (j:Nat) (hj:j<lv.length) (m u:Nat):RfAt ((w.setCell ⟨b,j*3+1,none⟩ (.int .u64 (m:Nat))).setCell ⟨b,j*3+2,none⟩ (.int .u64 (u:Nat))) L A S1 Q cQ X (.slice (some ⟨b,0,none⟩) nv cap) bv P r nv (lv.set j ⟨(lv.getD j vl0).vid,m,u⟩) st G:=by
 have hb:∀ k,k≠b->((w.setCell ⟨b,j*3+1,none⟩ (.int .u64 (m:Nat))).setCell ⟨b,j*3+2,none⟩ (.int .u64 (u:Nat))).heap[k]?=w.heap[k]?:=fun k hk=>(zab _ _ _ (by exact hk)).trans (zab _ _ _ (by exact hk))
 have hne:∀ {a M N:Nat} {T:TypeId} {f:Nat->Value},w.rowIs a T M f->T≠88->a≠b:=fun hr hT e=>zad hr h.vlans hT (by rw [e];rfl)
 refine ⟨h.la,h.ls,h.lq,h.pq,h.x0,h.x7,h.cells.of_block (hb _ (hne (N:=0) h.cells (by decide))),h.stands.of_block (hb _ (fun e=>zbr h.stands h.vlans (by decide) (by rw [e];rfl))),?_,h.queues.of_block (hb _ (hne (N:=0) h.queues (by decide))),h.cs,h.xf⟩
 have h2:=(h.vlans.stored (j*3+1) (.int .u64 (m:Nat))).1;have h3:=(h2.stored (j*3+2) (.int .u64 (u:Nat))).1;rw [vlc_set2 lv j m u hj] at h3
 exact h3
theorem RfAt.quiet {w w':World} {L A S1 Q cQ:Nat} {X:Nat->Value} {uv bv:Value} {P r nv:Nat} {lv:List Vl} {st:Nat->Int×Nat} {G:Nat->Value} {R:Nat->Nat} {qv:Nat->Nat->Value} {qs:Nat->Nat->List Int} (h:RfAt w L A S1 Q cQ X uv bv P r nv lv st G) (hQ:QuAt w L P R G qv qs) {i j:Nat} (hi:i<P) (hj:j<P) (hoth:∀ b,b<w.heap.size->b≠R i->(qv i j).ownBlock≠some b->w'.heap[b]?=w.heap[b]?):RfAt w' L A S1 Q cQ X uv bv P r nv lv st G:=by
 refine h.keep fun b hb=>?_
 rcases hb with rfl|rfl|rfl|hb
 ·exact hoth _ h.cells.lt (zav h.cells (hQ.row i hi) (by decide)) (zad h.cells (hQ.own i j hi hj) (by decide))
 ·exact hoth _ h.stands.lt (ze7 h.stands (hQ.row i hi) (by decide)) (zbr h.stands (hQ.own i j hi hj) (by decide))
 ·exact hoth _ h.queues.lt (zav h.queues (hQ.row i hi) (by decide)) (zad h.queues (hQ.own i j hi hj) (by decide))
 ·refine hoth b (h.vlans.lt b hb).2 (fun e=>zad (hQ.row i hi) h.vlans (by decide) (by rw [hb,e])) (fun e=>?_)
  rcases h.vlans.2 with hn|⟨g,cap,cur,hv,hg,hh,_⟩
  ·rw [hn.1] at hb;cases hb
  ·rcases (hQ.own i j hi hj).2 with hn|⟨g',cap',cur',hv',hg',hh',_⟩
   ·rw [hn.1] at e;cases e
   ·rw [hv] at hb
    rw [hv'] at e
    injection hb with hb
    injection e with e
    subst hb;subst e;rw [hh] at hh'
    injection hh' with h1
    injection h1 with h2 h3
    exact absurd h3 (by decide)
structure RfAll (E:Nat->Prop) (w:World) (L A S1 Q cQ:Nat) (X:Nat->Value) (bp bq P r S B n nv:Nat) (uv:Value) (lv:List Vl) (st:Nat->Int×Nat) (g:Nat->Nat->Pl) (G:Nat->Value) (R:Nat->Nat) (qv:Nat->Nat->Value) (qs:Nat->Nat->List Int):Prop where
 md:RfAt w L A S1 Q cQ X uv (.pointer (some ⟨bp,0,none⟩)) P r nv lv st G
 qu:QuAt w L P R G qv qs
 lbk:L<=bq
 bk:∃ D:Nat->Prop,BkAt w D bp bq S B n g/\(∀ b,D b->b<w.heap.size)/\D bq/\(∀ b,zc9 A S1 Q P uv R qv b->D b/\b≠bp/\b≠bq)/\∀ b,E b->D b/\b≠bp/\b≠bq/\¬ zc9 A S1 Q P uv R qv b
section
variable {E:Nat->Prop} {w w':World} {L A S1 Q bp bq P r S B n nv cQ:Nat} {X:Nat->Value} {uv:Value} {lv lv':List Vl} {st st':Nat->Int×Nat} {g g':Nat->Nat->Pl} {G:Nat->Value} {R:Nat->Nat} {qv:Nat->Nat->Value} {qs:Nat->Nat->List Int}
theorem RfAll.call (h:RfAll E w L A S1 Q cQ X bp bq P r S B n nv uv lv st g G R qv qs) (hb:Below w.heap.size w w'):RfAll E w' L A S1 Q cQ X bp bq P r S B n nv uv lv st g G R qv qs:=by
 obtain ⟨D,h1,h2,h3,h4,h5⟩:=h.bk
 exact ⟨h.md.call hb,h.qu.call hb,h.lbk,D,h1.call hb,fun b hd=>Nat.lt_of_lt_of_le (h2 b hd) hb.size,h3,h4,h5⟩
theorem RfAll.book (h:RfAll E w L A S1 Q cQ X bp bq P r S B n nv uv lv st g G R qv qs) (hk:∀ D:Nat->Prop,BkAt w D bp bq S B n g->(∀ b,D b->b<w.heap.size)->D bq->BkAt w' D bp bq S B n g') (hb:But bq w w'):RfAll E w' L A S1 Q cQ X bp bq P r S B n nv uv lv st g' G R qv qs:=by
 obtain ⟨D,h1,h2,h3,h4,h5⟩:=h.bk
 refine ⟨h.md.keep fun b hc=>hb.rest b (h.md.lt b hc) (h4 b (.inl hc)).2.2,h.qu.keep fun b hlt hc=>hb.rest b hlt (h4 b (.inr hc)).2.2,h.lbk,D,hk D h1 h2 h3,fun b hd=>Nat.lt_of_lt_of_le (h2 b hd) hb.below.size,h3,h4,h5⟩
theorem RfAll.but {x:Nat} (h:RfAll E w L A S1 Q cQ X bp bq P r S B n nv uv lv st g G R qv qs) (hm:RfAt w' L A S1 Q cQ X uv (.pointer (some ⟨bp,0,none⟩)) P r nv lv' st' G) (hb:But x w w') (hx:x=S1\/uv.ownBlock=some x):RfAll E w' L A S1 Q cQ X bp bq P r S B n nv uv lv' st' g G R qv qs:=by
 obtain ⟨D,h1,h2,h3,h4,h5⟩:=h.bk
 have hxx:=h4 x (.inl (by rcases hx with h|h;exact .inr (.inl h);exact .inr (.inr (.inr h))))
 refine ⟨hm,h.qu.keep fun b hlt hc=>hb.rest b hlt (fun e=>?_),h.lbk,D,h1.but hb (Ne.symm hxx.2.1) (Ne.symm hxx.2.2) hxx.1,fun b hd=>Nat.lt_of_lt_of_le (h2 b hd) hb.below.size,h3,h4,h5⟩
 obtain ⟨i,hi,hc⟩:=hc
 rcases hx with rfl|hx
 ·rcases hc with hc|⟨j,hj,hc⟩
  ·exact ze7 h.md.stands (h.qu.row i hi) (by decide) (e.symm.trans hc)
  ·exact zbr h.md.stands (h.qu.own i j hi hj) (by decide) (by rw [hc,e])
 ·rcases hc with hc|⟨j,hj,hc⟩
  ·exact zad (h.qu.row i hi) h.md.vlans (by decide) (by rw [hx,<- e,hc])
  ·rcases h.md.vlans.2 with hn|⟨a,cap,cur,hv,hg,hh,_⟩
   ·rw [hn.1] at hx;cases hx
   ·rcases (h.qu.own i j hi hj).2 with hn|⟨a',cap',cur',hv',hg',hh',_⟩
    ·rw [hn.1] at hc;cases hc
    ·rw [hv] at hx
     rw [hv'] at hc
     injection hx with hx
     injection hc with hc
     subst hx;subst hc
     rw [show a'=a from e,hh] at hh'
     injection hh' with k1
     injection k1 with k2 k3
     exact absurd k3 (by decide)
theorem RfAll.queue {i j:Nat} {v':Value} {l':List Int} (h:RfAll E w L A S1 Q cQ X bp bq P r S B n nv uv lv st g G R qv qs) (hi:i<P) (hj:j<P) (hm:RfAt w' L A S1 Q cQ X uv (.pointer (some ⟨bp,0,none⟩)) P r nv lv st G) (hq:QuAt w' L P R G (upd2 qv i j v') (upd2 qs i j l'))
  (hat:v'.ownBlock=(qv i j).ownBlock\/∃ b,v'.ownBlock=some b/\w.heap.size<=b) (hoth:∀ b,b<w.heap.size->b≠R i->(qv i j).ownBlock≠some b->w'.heap[b]?=w.heap[b]?) (hL:Below L w w'):RfAll E w' L A S1 Q cQ X bp bq P r S B n nv uv lv st g G R (upd2 qv i j v') (upd2 qs i j l'):=by
 obtain ⟨D,h1,h2,h3,h4,h5⟩:=h.bk;have hRi:=h4 (R i) (.inr ⟨i,hi,.inl rfl⟩)
 have hkeep:BkAt w' D bp bq S B n g:=h1.keep hL.size fun b hlt hc=>hoth b hlt
  (by
   rcases hc with rfl|rfl|hc
   ·exact Ne.symm hRi.2.1
   ·exact Ne.symm hRi.2.2
   ·exact fun e=>hc (by rw [e];exact hRi.1))
  (fun e=>by
   have hbl:=h4 b (.inr ⟨i,hi,.inr ⟨j,hj,e⟩⟩)
   rcases hc with rfl|rfl|hc
   ·exact hbl.2.1 rfl
   ·exact hbl.2.2 rfl
   ·exact hc hbl.1)
 have hrows:∀ b,b<w'.heap.size->(D b\/(w.heap.size<=b/\b<w'.heap.size))->D b\/w.heap.size<=b:=fun b _ hd=>hd.imp id And.left
 have hbk:BkAt w' (fun b=>D b\/(w.heap.size<=b/\b<w'.heap.size)) bp bq S B n g:=by
  obtain ⟨k0,k1,k2,k3,k4,k5,k6,k9,k10⟩:=hkeep
  refine ⟨k0,k1,k2,k3,k4,k5,k6,k9,fun a ha=>?_⟩
  obtain ⟨_,_,_,_,_,_,_,_,m10⟩:=h1;obtain ⟨v0,hv0,hrow0⟩:=m10 a ha;obtain ⟨v,hv,Ax,cap,e1,e2,e3,e4⟩:=k10 a ha
  refine ⟨v,hv,Ax,cap,e1,e2,e3,fun hn=>?_⟩
  obtain ⟨b,off,f1,f2,f3,f4⟩:=e4 hn
  refine ⟨b,off,f1,f2,fun hd=>?_,f4⟩
  rcases hd with hd|hd
  ·exact f3 hd
  ·obtain ⟨Ay,cay,y1,y2,y3,y4⟩:=hrow0
   obtain ⟨b',off',z1,z2,z3,z4⟩:=y4 hn
   have hq0:w'.cell? ⟨bq,a,none⟩=w.cell? ⟨bq,a,none⟩:=World.cell?_of_block (hoth bq (h2 bq h3) (Ne.symm hRi.2.2) (fun e=>(h4 bq (.inr ⟨i,hi,.inr ⟨j,hj,e⟩⟩)).2.2 rfl))
   rw [hq0,hv0] at hv
   injection hv with hv
   rw [y1,e1] at hv
   injection hv with hv
   rw [z1,f1] at hv
   injection hv with hv
   injection hv with hv
   omega
 refine ⟨hm,hq,h.lbk,_,hbk,fun b hd=>?_,.inl h3,fun b hc=>?_,fun b he=>⟨.inl (h5 b he).1,(h5 b he).2.1,(h5 b he).2.2.1,fun hc=>?_⟩⟩
 ·rcases hd with hd|hd
  ·exact Nat.lt_of_lt_of_le (h2 b hd) hL.size
  ·exact hd.2
 ·have hold:zc9 A S1 Q P uv R qv b->(D b\/(w.heap.size<=b/\b<w'.heap.size))/\b≠bp/\b≠bq:=fun hc=>⟨.inl (h4 b hc).1,(h4 b hc).2⟩
  rcases hc with hc|⟨a,ha,hc⟩
  ·exact hold (.inl hc)
  ·rcases hc with hc|⟨c,hc1,hc⟩
   ·exact hold (.inr ⟨a,ha,.inl hc⟩)
   ·by_cases e:a=i/\c=j
    ·obtain ⟨rfl,rfl⟩:=e
     rw [zbs] at hc
     rcases hat with hat|⟨b',hb',hz⟩
     ·rw [hat] at hc
      exact hold (.inr ⟨a,ha,.inr ⟨c,hc1,hc⟩⟩)
     ·rw [hc] at hb'
      injection hb' with hb'
      have h5:=(hq.own a c ha hc1).lt b (by rw [zbs];exact hc)
      have h6:=h2 bq h3;have h7:=h1.1
      exact ⟨.inr ⟨by omega,h5.2⟩,by omega,by omega⟩
    ·rw [zcu _ _ e] at hc
     exact hold (.inr ⟨a,ha,.inr ⟨c,hc1,hc⟩⟩)
 ·rcases zc9.queue hi hj hat hc with hc|hc
  ·exact (h5 b he).2.2.2 hc
  ·have:=h2 b (h5 b he).1
   omega
end
section
variable {E E':Nat->Prop} {w w1 w':World} {L A S1 Q bp bq P r S B n nv cQ:Nat} {X:Nat->Value} {uv:Value} {lv:List Vl} {st:Nat->Int×Nat} {g:Nat->Nat->Pl} {G:Nat->Value} {R:Nat->Nat} {qv:Nat->Nat->Value} {qs:Nat->Nat->List Int}
theorem RfAll.base (h:RfAll E w L A S1 Q cQ X bp bq P r S B n nv uv lv st g G R qv qs):L<=w.heap.size:=by
 have:=h.md.la
 have:=h.md.cells.lt
 omega
theorem RfAll.lt (h:RfAll E w L A S1 Q cQ X bp bq P r S B n nv uv lv st g G R qv qs) (b:Nat) (hb:E b):b<w.heap.size:=by
 obtain ⟨D,h1,h2,h3,h4,h5⟩:=h.bk
 exact h2 b (h5 b hb).1
theorem RfFr.quiet (h:RfAll E w L A S1 Q cQ X bp bq P r S B n nv uv lv st g G R qv qs) (hb:Below w.heap.size w w'):MdFr E w w' L :=
 ⟨h.base,hb.mono h.base,fun b he=>hb.block b (h.lt b he)⟩
theorem RfFr.call (h0:RfAll E w L A S1 Q cQ X bp bq P r S B n nv uv lv st g G R qv qs) (h:MdFr E w w1 L) (hb:Below w1.heap.size w1 w'):MdFr E w w' L :=
 ⟨h.base,h.low.trans (hb.mono (Nat.le_trans h.base h.low.size)),fun b he=>(hb.block b (Nat.lt_of_lt_of_le (h0.lt b he) h.low.size)).trans (h.kp b he)⟩
theorem RfFr.of_but {x:Nat} (h:RfAll E w L A S1 Q cQ X bp bq P r S B n nv uv lv st g G R qv qs) (h1:Below w.heap.size w w1) (h2:But x w1 w') (hx:zc9 A S1 Q P uv R qv x\/x=bq) (hLx:L<=x):MdFr E w w' L:=by
 refine ⟨h.base,(h1.mono h.base).trans (h2.below.mono hLx),fun b he=>(h2.rest b (Nat.lt_of_lt_of_le (h.lt b he) h1.size) (fun e=>?_)).trans (h1.block b (h.lt b he))⟩
 obtain ⟨D,_,_,_,_,h5⟩:=h.bk;obtain ⟨_,_,k2,k3⟩:=h5 b he;subst e
 exact hx.elim k3 k2
theorem RfFr.of_queue {i j:Nat} (h:RfAll E w L A S1 Q cQ X bp bq P r S B n nv uv lv st g G R qv qs) (h1:Below w.heap.size w w1) (hi:i<P) (hj:j<P) (h2:∀ b,b<w1.heap.size->b≠R i->(qv i j).ownBlock≠some b->w'.heap[b]?=w1.heap[b]?) (hl:Below L w1 w'):MdFr E w w' L:=by
 obtain ⟨D,_,_,_,_,h5⟩:=h.bk
 exact ⟨h.base,(h1.mono h.base).trans hl,fun b he=>(h2 b (Nat.lt_of_lt_of_le (h.lt b he) h1.size) (fun e=>(h5 b he).2.2.2 (.inr ⟨i,hi,.inl e⟩)) (fun e=>(h5 b he).2.2.2 (.inr ⟨i,hi,.inr ⟨j,hj,e⟩⟩))).trans (h1.block b (h.lt b he))⟩
theorem RfAll.less (h:RfAll E w L A S1 Q cQ X bp bq P r S B n nv uv lv st g G R qv qs) (he:∀ b,E' b->E b):RfAll E' w L A S1 Q cQ X bp bq P r S B n nv uv lv st g G R qv qs:=by
 obtain ⟨D,h1,h2,h3,h4,h5⟩:=h.bk
 exact ⟨h.md,h.qu,h.lbk,D,h1,h2,h3,h4,fun b hb=>h5 b (he b hb)⟩
theorem RfAll.more (h:RfAll E w L A S1 Q cQ X bp bq P r S B n nv uv lv st g G R qv qs) (hb:Below w.heap.size w w'):RfAll (fun b=>E b\/(w.heap.size<=b/\b<w'.heap.size)) w' L A S1 Q cQ X bp bq P r S B n nv uv lv st g G R qv qs:=by
 obtain ⟨D,h1,h2,h3,h4,h5⟩:=h.bk;have hz:=hb.size
 refine ⟨h.md.call hb,h.qu.call hb,h.lbk,fun b=>D b\/(w.heap.size<=b/\b<w'.heap.size),?_,fun b hd=>?_,.inl h3,fun b hc=>⟨.inl (h4 b hc).1,(h4 b hc).2⟩,fun b he=>?_⟩
 ·obtain ⟨k0,k1,k2,k3,k4,k5,k6,k9,k10⟩:=h1.call hb
  obtain ⟨_,_,_,_,_,_,_,_,m10⟩:=h1
  refine ⟨k0,k1,k2,k3,k4,k5,k6,k9,fun a ha=>?_⟩
  obtain ⟨v0,hv0,hrow0⟩:=m10 a ha;obtain ⟨v,hv,Ax,cap,e1,e2,e3,e4⟩:=k10 a ha
  refine ⟨v,hv,Ax,cap,e1,e2,e3,fun hn=>?_⟩
  obtain ⟨b,off,f1,f2,f3,f4⟩:=e4 hn
  refine ⟨b,off,f1,f2,fun hd=>?_,f4⟩
  rcases hd with hd|hd
  ·exact f3 hd
  ·obtain ⟨Ay,cay,y1,y2,y3,y4⟩:=hrow0
   obtain ⟨b',off',z1,z2,z3,z4⟩:=y4 hn
   have hq0:w'.cell? ⟨bq,a,none⟩=w.cell? ⟨bq,a,none⟩:=hb.cell (h2 bq h3)
   rw [hq0,hv0] at hv
   injection hv with hv
   rw [y1,e1] at hv
   injection hv with hv
   rw [z1,f1] at hv
   injection hv with hv
   injection hv with hv
   omega
 ·rcases hd with hd|hd
  ·exact Nat.lt_of_lt_of_le (h2 b hd) hz
  ·exact hd.2
 ·rcases he with he|he
  ·exact ⟨.inl (h5 b he).1,(h5 b he).2⟩
  ·refine ⟨.inr he,?_,?_,fun hc=>?_⟩
   ·have:=h1.1;omega
   ·have:=h1.2.1;omega
   ·have:=h2 b (h4 b hc).1;omega
theorem RfAll.keepE (h:RfAll E w L A S1 Q cQ X bp bq P r S B n nv uv lv st g G R qv qs) (hz:w.heap.size<=w'.heap.size) (hk:∀ b,b<w.heap.size->¬ E b->w'.heap[b]?=w.heap[b]?):RfAll E w' L A S1 Q cQ X bp bq P r S B n nv uv lv st g G R qv qs:=by
 obtain ⟨D,h1,h2,h3,h4,h5⟩:=h.bk
 have hM:∀ b,zc9 A S1 Q P uv R qv b->w'.heap[b]?=w.heap[b]?:=fun b hb=>hk b (h2 b (h4 b hb).1) (fun he=>(h5 b he).2.2.2 hb)
 refine ⟨h.md.keep fun b hc=>hM b (.inl hc),h.qu.keep fun b _ hc=>hM b (.inr hc),h.lbk,D,h1.keep hz fun b hlt hc=>hk b hlt (fun he=>?_),fun b hd=>Nat.lt_of_lt_of_le (h2 b hd) hz,h3,h4,h5⟩
 rcases hc with rfl|rfl|hc
 ·exact (h5 _ he).2.1 rfl
 ·exact (h5 _ he).2.2.1 rfl
 ·exact hc (h5 b he).1
end
end Go.Proofs.YtfekhdgjgjodlaaGreat
