/-
  Words and contracts that a statement's proof rests on (MoU). No statement is proved here.
-/
import Derived.Test.YtfekhdgjgjodlaaMoG
import Derived.Test.YtfekhdgjgjodlaaMoR
set_option linter.unusedVariables false
set_option linter.unusedSimpArgs false
namespace Go.Proofs.Ytfekhdgjgjodlaa
open Go.RowKit
def MdBlk (A S1 Q P:Nat) (uv:Value) (R:Nat→Nat) (qv:Nat→Nat→Value) (b:Nat):Prop :=
 (b=A ∨ b=S1 ∨ b=Q ∨ uv.ownBlock=some b) ∨ ∃ i,i < P∧(b=R i ∨ ∃ j,j < P∧(qv i j).ownBlock=some b)
structure MdAll (E:Nat→Prop) (w:World) (L A S1 Q bp bq P r S B n nv:Nat) (uv:Value) (lv:List Vl) (st:Nat→Int × Nat) (g:Nat→Nat→Pl) (G:Nat→Value) (R:Nat→Nat) (qv:Nat→Nat→Value) (qs:Nat→Nat→List Int):Prop where
 md:MdAt w L A S1 Q uv (.pointer (some ⟨bp,0,none⟩)) P r nv lv st G
 qu:QuAt w L P R G qv qs
 lbk:L≤bq
 bk:∃ D:Nat→Prop,BkAt w D bp bq S B n g∧(∀ b,D b→b < w.heap.size)∧D bq∧(∀ b,MdBlk A S1 Q P uv R qv b→D b∧b ≠ bp∧b ≠ bq)∧∀ b,E b→D b∧b ≠ bp∧b ≠ bq∧¬ MdBlk A S1 Q P uv R qv b
theorem MdBlk.queue {A S1 Q P i j H b:Nat} {uv v':Value} {R:Nat→Nat} {qv:Nat→Nat→Value} (hi:i < P) (hj:j < P) (hat:v'.ownBlock=(qv i j).ownBlock ∨ ∃ b,v'.ownBlock=some b∧H≤b) (h:MdBlk A S1 Q P uv R (upd2 qv i j v') b):MdBlk A S1 Q P uv R qv b ∨ H≤b:=by
 rcases h with h | ⟨a,ha,h⟩
 ·exact .inl (.inl h)
 ·rcases h with h | ⟨c,hc,h⟩
  ·exact .inl (.inr ⟨a,ha,.inl h⟩)
  ·by_cases e:a=i∧c=j
   ·obtain ⟨rfl,rfl⟩:=e
    rw [upd2_same] at h
    rcases hat with hat | ⟨b',hb',hz⟩
    ·rw [hat] at h
     exact .inl (.inr ⟨a,ha,.inr ⟨c,hc,h⟩⟩)
    ·rw [h] at hb'
     injection hb' with hb'
     exact .inr (by omega)
   ·rw [upd2_ne _ _ e] at h
    exact .inl (.inr ⟨a,ha,.inr ⟨c,hc,h⟩⟩)
section
variable {E:Nat→Prop} {w w':World} {L A S1 Q bp bq P r S B n nv:Nat} {uv:Value} {lv lv':List Vl} {st st':Nat→Int × Nat} {g g':Nat→Nat→Pl} {G:Nat→Value} {R:Nat→Nat} {qv:Nat→Nat→Value} {qs:Nat→Nat→List Int}
theorem MdAll.call (h:MdAll E w L A S1 Q bp bq P r S B n nv uv lv st g G R qv qs) (hb:Below w.heap.size w w'):MdAll E w' L A S1 Q bp bq P r S B n nv uv lv st g G R qv qs:=by
 obtain ⟨D,h1,h2,h3,h4,h5⟩:=h.bk
 exact ⟨h.md.call hb,h.qu.call hb,h.lbk,D,h1.call hb,fun b hd => Nat.lt_of_lt_of_le (h2 b hd) hb.size,h3,h4,h5⟩
theorem MdAll.book (h:MdAll E w L A S1 Q bp bq P r S B n nv uv lv st g G R qv qs) (hk:∀ D:Nat→Prop,BkAt w D bp bq S B n g→(∀ b,D b→b < w.heap.size)→D bq→BkAt w' D bp bq S B n g') (hb:But bq w w'):MdAll E w' L A S1 Q bp bq P r S B n nv uv lv st g' G R qv qs:=by
 obtain ⟨D,h1,h2,h3,h4,h5⟩:=h.bk
 refine ⟨h.md.keep fun b hc => hb.rest b (h.md.lt b hc) (h4 b (.inl hc)).2.2,h.qu.keep fun b hlt hc => hb.rest b hlt (h4 b (.inr hc)).2.2,h.lbk,D,hk D h1 h2 h3,fun b hd => Nat.lt_of_lt_of_le (h2 b hd) hb.below.size,h3,h4,h5⟩
theorem MdAll.but {x:Nat} (h:MdAll E w L A S1 Q bp bq P r S B n nv uv lv st g G R qv qs) (hm:MdAt w' L A S1 Q uv (.pointer (some ⟨bp,0,none⟩)) P r nv lv' st' G) (hb:But x w w') (hx:x=S1 ∨ uv.ownBlock=some x):MdAll E w' L A S1 Q bp bq P r S B n nv uv lv' st' g G R qv qs:=by
 obtain ⟨D,h1,h2,h3,h4,h5⟩:=h.bk
 have hxx:=h4 x (.inl (by rcases hx with h | h; exact .inr (.inl h); exact .inr (.inr (.inr h))))
 refine ⟨hm,h.qu.keep fun b hlt hc => hb.rest b hlt (fun e => ?_),h.lbk,D,h1.but hb (Ne.symm hxx.2.1) (Ne.symm hxx.2.2) hxx.1,fun b hd => Nat.lt_of_lt_of_le (h2 b hd) hb.below.size,h3,h4,h5⟩
 obtain ⟨i,hi,hc⟩:=hc
 rcases hx with rfl | hx
 ·rcases hc with hc | ⟨j,hj,hc⟩
  ·exact rowH_ne h.md.stands (h.qu.row i hi) (by decide) (e.symm.trans hc)
  ·exact rowH_own_ne h.md.stands (h.qu.own i j hi hj) (by decide) (by rw [hc,e])
 ·rcases hc with hc | ⟨j,hj,hc⟩
  ·exact rowIs_own_ne (h.qu.row i hi) h.md.vlans (by decide) (by rw [hx,← e,hc])
  ·rcases h.md.vlans.2 with hn | ⟨a,cap,cur,hv,hg,hh,_⟩
   ·rw [hn.1] at hx; cases hx
   ·rcases (h.qu.own i j hi hj).2 with hn | ⟨a',cap',cur',hv',hg',hh',_⟩
    ·rw [hn.1] at hc; cases hc
    ·rw [hv] at hx
     rw [hv'] at hc
     injection hx with hx
     injection hc with hc
     subst hx
     subst hc
     rw [show a'=a from e,hh] at hh'
     injection hh' with k1
     injection k1 with k2 k3
     exact absurd k3 (by decide)
theorem MdAll.queue {i j:Nat} {v':Value} {l':List Int} (h:MdAll E w L A S1 Q bp bq P r S B n nv uv lv st g G R qv qs) (hi:i < P) (hj:j < P) (hm:MdAt w' L A S1 Q uv (.pointer (some ⟨bp,0,none⟩)) P r nv lv st G) (hq:QuAt w' L P R G (upd2 qv i j v') (upd2 qs i j l'))
  (hat:v'.ownBlock=(qv i j).ownBlock ∨ ∃ b,v'.ownBlock=some b∧w.heap.size≤b) (hoth:∀ b,b < w.heap.size→b ≠ R i→(qv i j).ownBlock ≠ some b→w'.heap[b]?=w.heap[b]?) (hL:Below L w w'):MdAll E w' L A S1 Q bp bq P r S B n nv uv lv st g G R (upd2 qv i j v') (upd2 qs i j l'):=by
 obtain ⟨D,h1,h2,h3,h4,h5⟩:=h.bk
 have hRi:=h4 (R i) (.inr ⟨i,hi,.inl rfl⟩)
 have hkeep:BkAt w' D bp bq S B n g:=h1.keep hL.size fun b hlt hc => hoth b hlt
  (by
   rcases hc with rfl | rfl | hc
   ·exact Ne.symm hRi.2.1
   ·exact Ne.symm hRi.2.2
   ·exact fun e => hc (by rw [e]; exact hRi.1))
  (fun e => by
   have hbl:=h4 b (.inr ⟨i,hi,.inr ⟨j,hj,e⟩⟩)
   rcases hc with rfl | rfl | hc
   ·exact hbl.2.1 rfl
   ·exact hbl.2.2 rfl
   ·exact hc hbl.1)
 have hrows:∀ b,b < w'.heap.size→(D b ∨ (w.heap.size≤b∧b < w'.heap.size))→D b ∨ w.heap.size≤b:=fun b _ hd => hd.imp id And.left
 have hbk:BkAt w' (fun b => D b ∨ (w.heap.size≤b∧b < w'.heap.size)) bp bq S B n g:=by
  obtain ⟨k0,k1,k2,k3,k4,k5,k6,k9,k10⟩:=hkeep
  refine ⟨k0,k1,k2,k3,k4,k5,k6,k9,fun a ha => ?_⟩
  obtain ⟨_,_,_,_,_,_,_,_,m10⟩:=h1
  obtain ⟨v0,hv0,hrow0⟩:=m10 a ha
  obtain ⟨v,hv,Ax,cap,e1,e2,e3,e4⟩:=k10 a ha
  refine ⟨v,hv,Ax,cap,e1,e2,e3,fun hn => ?_⟩
  obtain ⟨b,off,f1,f2,f3,f4⟩:=e4 hn
  refine ⟨b,off,f1,f2,fun hd => ?_,f4⟩
  rcases hd with hd | hd
  ·exact f3 hd
  ·obtain ⟨Ay,cay,y1,y2,y3,y4⟩:=hrow0
   obtain ⟨b',off',z1,z2,z3,z4⟩:=y4 hn
   have hq0:w'.cell? ⟨bq,a,none⟩=w.cell? ⟨bq,a,none⟩:=World.cell?_of_block (hoth bq (h2 bq h3) (Ne.symm hRi.2.2) (fun e => (h4 bq (.inr ⟨i,hi,.inr ⟨j,hj,e⟩⟩)).2.2 rfl))
   rw [hq0,hv0] at hv
   injection hv with hv
   rw [y1,e1] at hv
   injection hv with hv
   rw [z1,f1] at hv
   injection hv with hv
   injection hv with hv
   omega
 refine ⟨hm,hq,h.lbk,_,hbk,fun b hd => ?_,.inl h3,fun b hc => ?_,fun b he => ⟨.inl (h5 b he).1,(h5 b he).2.1,(h5 b he).2.2.1,fun hc => ?_⟩⟩
 ·rcases hd with hd | hd
  ·exact Nat.lt_of_lt_of_le (h2 b hd) hL.size
  ·exact hd.2
 ·have hold:MdBlk A S1 Q P uv R qv b→(D b ∨ (w.heap.size≤b∧b < w'.heap.size))∧b ≠ bp∧b ≠ bq:=fun hc => ⟨.inl (h4 b hc).1,(h4 b hc).2⟩
  rcases hc with hc | ⟨a,ha,hc⟩
  ·exact hold (.inl hc)
  ·rcases hc with hc | ⟨c,hc1,hc⟩
   ·exact hold (.inr ⟨a,ha,.inl hc⟩)
   ·by_cases e:a=i∧c=j
    ·obtain ⟨rfl,rfl⟩:=e
     rw [upd2_same] at hc
     rcases hat with hat | ⟨b',hb',hz⟩
     ·rw [hat] at hc
      exact hold (.inr ⟨a,ha,.inr ⟨c,hc1,hc⟩⟩)
     ·rw [hc] at hb'
      injection hb' with hb'
      have h5:=(hq.own a c ha hc1).lt b (by rw [upd2_same]; exact hc)
      have h6:=h2 bq h3
      have h7:=h1.1
      exact ⟨.inr ⟨by omega,h5.2⟩,by omega,by omega⟩
    ·rw [upd2_ne _ _ e] at hc
     exact hold (.inr ⟨a,ha,.inr ⟨c,hc1,hc⟩⟩)
 ·rcases MdBlk.queue hi hj hat hc with hc | hc
  ·exact (h5 b he).2.2.2 hc
  ·have:=h2 b (h5 b he).1
   omega
end
theorem MdAll.of_new {E:Nat→Prop} {w:World} {L A S1 Q bp bq hN P r S B n nv:Nat} {uv:Value} {lv:List Vl} {st:Nat→Int × Nat} {g:Nat→Nat→Pl} {G:Nat→Value} {R:Nat→Nat} (hm:MdAt w L A S1 Q uv (.pointer (some ⟨bp,0,none⟩)) P r nv lv st G) (hk:BkAt w (fun b => b≤bp ∨ hN≤b) bp bq S B n g) (h1:A < bq) (h2:S1 < bq) (h3:Q < bq) (h4:bq < bp) (h5:bp < hN) (hu:∀ b,uv.ownBlock=some b→b < bq) (hq:QuNew w hN P P R G) (hE:∀ b,E b→b < L):MdAll E w L A S1 Q bp bq P r S B n nv uv lv st g G R (fun _ _ => .slice none 0 0) (fun _ _ => []):=by
 have hla:=hm.la
 refine ⟨hm,QuAt.of_new hq (by omega),by omega,fun b => b < w.heap.size∧(b≤bp ∨ hN≤b),hk.domM fun b _ hd => hd.2,fun b hd => hd.1,⟨hk.2.1,.inl (by omega)⟩,fun b hc => ?_,fun b he => ?_⟩
 have hbp:=hk.1
 rcases hc with (rfl | rfl | rfl | hc) | ⟨i,hi,hc⟩
 ·exact ⟨⟨by omega,.inl (by omega)⟩,by omega,by omega⟩
 ·exact ⟨⟨by omega,.inl (by omega)⟩,by omega,by omega⟩
 ·exact ⟨⟨by omega,.inl (by omega)⟩,by omega,by omega⟩
 ·have:=hu b hc
  exact ⟨⟨by omega,.inl (by omega)⟩,by omega,by omega⟩
 ·rcases hc with rfl | ⟨j,hj,hc⟩
  ·have h6:=hq i hi
   exact ⟨⟨h6.2.2.1.lt,.inr h6.1⟩,by omega,by omega⟩
  ·cases hc
 ·have hbp:=hk.1
  have h9:=hE b he
  have hls:=hm.ls
  have hlq:=hm.lq
  refine ⟨⟨by omega,.inl (by omega)⟩,by omega,by omega,?_⟩
  rintro ((rfl | rfl | rfl | hc) | ⟨i,hi,hc⟩)
  ·omega
  ·omega
  ·omega
  ·have:=(hm.vlans.lt b hc).1
   omega
  ·rcases hc with rfl | ⟨j,hj,hc⟩
   ·have h6:=hq i hi
    omega
   ·cases hc
structure MdFr (E:Nat→Prop) (w w':World) (L:Nat):Prop where
 base:L≤w.heap.size
 low:Below L w w'
 kp:∀ b,E b→w'.heap[b]?=w.heap[b]?
section
variable {E E':Nat→Prop} {w w1 w':World} {L A S1 Q bp bq P r S B n nv:Nat} {uv:Value} {lv:List Vl} {st:Nat→Int × Nat} {g:Nat→Nat→Pl} {G:Nat→Value} {R:Nat→Nat} {qv:Nat→Nat→Value} {qs:Nat→Nat→List Int}
theorem MdAll.base (h:MdAll E w L A S1 Q bp bq P r S B n nv uv lv st g G R qv qs):L≤w.heap.size:=by
 have:=h.md.la
 have:=h.md.cells.lt
 omega
theorem MdAll.lt (h:MdAll E w L A S1 Q bp bq P r S B n nv uv lv st g G R qv qs) (b:Nat) (hb:E b):b < w.heap.size:=by
 obtain ⟨D,h1,h2,h3,h4,h5⟩:=h.bk
 exact h2 b (h5 b hb).1
theorem MdFr.quiet (h:MdAll E w L A S1 Q bp bq P r S B n nv uv lv st g G R qv qs) (hb:Below w.heap.size w w'):MdFr E w w' L :=
 ⟨h.base,hb.mono h.base,fun b he => hb.block b (h.lt b he)⟩
theorem MdFr.call (h0:MdAll E w L A S1 Q bp bq P r S B n nv uv lv st g G R qv qs) (h:MdFr E w w1 L) (hb:Below w1.heap.size w1 w'):MdFr E w w' L :=
 ⟨h.base,h.low.trans (hb.mono (Nat.le_trans h.base h.low.size)),fun b he => (hb.block b (Nat.lt_of_lt_of_le (h0.lt b he) h.low.size)).trans (h.kp b he)⟩
theorem MdFr.of_but {x:Nat} (h:MdAll E w L A S1 Q bp bq P r S B n nv uv lv st g G R qv qs) (h1:Below w.heap.size w w1) (h2:But x w1 w') (hx:MdBlk A S1 Q P uv R qv x ∨ x=bq) (hLx:L≤x):MdFr E w w' L:=by
 refine ⟨h.base,(h1.mono h.base).trans (h2.below.mono hLx),fun b he => (h2.rest b (Nat.lt_of_lt_of_le (h.lt b he) h1.size) (fun e => ?_)).trans (h1.block b (h.lt b he))⟩
 obtain ⟨D,_,_,_,_,h5⟩:=h.bk
 obtain ⟨_,_,k2,k3⟩:=h5 b he
 subst e
 exact hx.elim k3 k2
theorem MdFr.of_queue {i j:Nat} (h:MdAll E w L A S1 Q bp bq P r S B n nv uv lv st g G R qv qs) (h1:Below w.heap.size w w1) (hi:i < P) (hj:j < P) (h2:∀ b,b < w1.heap.size→b ≠ R i→(qv i j).ownBlock ≠ some b→w'.heap[b]?=w1.heap[b]?) (hl:Below L w1 w'):MdFr E w w' L:=by
 obtain ⟨D,_,_,_,_,h5⟩:=h.bk
 exact ⟨h.base,(h1.mono h.base).trans hl,fun b he => (h2 b (Nat.lt_of_lt_of_le (h.lt b he) h1.size) (fun e => (h5 b he).2.2.2 (.inr ⟨i,hi,.inl e⟩)) (fun e => (h5 b he).2.2.2 (.inr ⟨i,hi,.inr ⟨j,hj,e⟩⟩))).trans (h1.block b (h.lt b he))⟩
theorem MdAll.less (h:MdAll E w L A S1 Q bp bq P r S B n nv uv lv st g G R qv qs) (he:∀ b,E' b→E b):MdAll E' w L A S1 Q bp bq P r S B n nv uv lv st g G R qv qs:=by
 obtain ⟨D,h1,h2,h3,h4,h5⟩:=h.bk
 exact ⟨h.md,h.qu,h.lbk,D,h1,h2,h3,h4,fun b hb => h5 b (he b hb)⟩
theorem MdAll.more (h:MdAll E w L A S1 Q bp bq P r S B n nv uv lv st g G R qv qs) (hb:Below w.heap.size w w'):MdAll (fun b => E b ∨ (w.heap.size≤b∧b < w'.heap.size)) w' L A S1 Q bp bq P r S B n nv uv lv st g G R qv qs:=by
 obtain ⟨D,h1,h2,h3,h4,h5⟩:=h.bk
 have hz:=hb.size
 refine ⟨h.md.call hb,h.qu.call hb,h.lbk,fun b => D b ∨ (w.heap.size≤b∧b < w'.heap.size),?_,fun b hd => ?_,.inl h3,fun b hc => ⟨.inl (h4 b hc).1,(h4 b hc).2⟩,fun b he => ?_⟩
 ·obtain ⟨k0,k1,k2,k3,k4,k5,k6,k9,k10⟩:=h1.call hb
  obtain ⟨_,_,_,_,_,_,_,_,m10⟩:=h1
  refine ⟨k0,k1,k2,k3,k4,k5,k6,k9,fun a ha => ?_⟩
  obtain ⟨v0,hv0,hrow0⟩:=m10 a ha
  obtain ⟨v,hv,Ax,cap,e1,e2,e3,e4⟩:=k10 a ha
  refine ⟨v,hv,Ax,cap,e1,e2,e3,fun hn => ?_⟩
  obtain ⟨b,off,f1,f2,f3,f4⟩:=e4 hn
  refine ⟨b,off,f1,f2,fun hd => ?_,f4⟩
  rcases hd with hd | hd
  ·exact f3 hd
  ·obtain ⟨Ay,cay,y1,y2,y3,y4⟩:=hrow0
   obtain ⟨b',off',z1,z2,z3,z4⟩:=y4 hn
   have hq0:w'.cell? ⟨bq,a,none⟩=w.cell? ⟨bq,a,none⟩:=hb.cell (h2 bq h3)
   rw [hq0,hv0] at hv
   injection hv with hv
   rw [y1,e1] at hv
   injection hv with hv
   rw [z1,f1] at hv
   injection hv with hv
   injection hv with hv
   omega
 ·rcases hd with hd | hd
  ·exact Nat.lt_of_lt_of_le (h2 b hd) hz
  ·exact hd.2
 ·rcases he with he | he
  ·exact ⟨.inl (h5 b he).1,(h5 b he).2⟩
  ·refine ⟨.inr he,?_,?_,fun hc => ?_⟩
   ·have:=h1.1; omega
   ·have:=h1.2.1; omega
   ·have:=h2 b (h4 b hc).1; omega
theorem MdAll.keepE (h:MdAll E w L A S1 Q bp bq P r S B n nv uv lv st g G R qv qs) (hz:w.heap.size≤w'.heap.size) (hk:∀ b,b < w.heap.size→¬ E b→w'.heap[b]?=w.heap[b]?):MdAll E w' L A S1 Q bp bq P r S B n nv uv lv st g G R qv qs:=by
 obtain ⟨D,h1,h2,h3,h4,h5⟩:=h.bk
 have hM:∀ b,MdBlk A S1 Q P uv R qv b→w'.heap[b]?=w.heap[b]?:=fun b hb => hk b (h2 b (h4 b hb).1) (fun he => (h5 b he).2.2.2 hb)
 refine ⟨h.md.keep fun b hc => hM b (.inl hc),h.qu.keep fun b _ hc => hM b (.inr hc),h.lbk,D,h1.keep hz fun b hlt hc => hk b hlt (fun he => ?_),fun b hd => Nat.lt_of_lt_of_le (h2 b hd) hz,h3,h4,h5⟩
 rcases hc with rfl | rfl | hc
 ·exact (h5 _ he).2.1 rfl
 ·exact (h5 _ he).2.2.1 rfl
 ·exact hc (h5 b he).1
end
end Go.Proofs.Ytfekhdgjgjodlaa
