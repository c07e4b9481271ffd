/-
  Words and contracts that a statement's proof rests on (MoG, MoU). No statement is proved here.
-/
import Derived.Test.YtfekhdgjgjodlaaGreatVlanG
import Derived.Test.YtfekhdgjgjodlaaGreatMoX
import Derived.Test.YtfekhdgjgjodlaaGreatMoR
set_option linter.unusedVariables false
set_option linter.unusedSimpArgs false
namespace Go.Proofs.YtfekhdgjgjodlaaGreat
section
open Go.RowKit
theorem zcf (b:Bool) (w:World):Calls Tryz.prog 86 #[.bool b] w (Says (.int .i64 (if b=true then 1 else 0)) w):=by
 cases b
 ·go_enter Tryz.func86,Tryz.ntmps86
  go_wp2
  go_ret
  exact ⟨by simp,Below.refl _ _⟩
 ·go_enter Tryz.func86,Tryz.ntmps86
  go_wp2
  go_ret
  exact ⟨by simp,Below.refl _ _⟩
def zer (lv:List Vl) (nv:Nat) (vid:Int):Int:=if zax lv vid nv<0 then 0 else wrap64 ((lv.getD (zax lv vid nv).toNat vl0).mem:Int)
def setV (lv:List Vl) (j:Nat) (x:Vl):List Vl:=lv.set j x
theorem zjo:∀ (l:List Vl) (j:Nat) (x:Vl),j<l.length->(((vlc l).set (j*3) (.int .i64 x.vid)).set (j*3+1) (.int .u64 (x.mem:Nat))).set (j*3+2) (.int .u64 (x.unt:Nat))=vlc (l.set j x)
 |[],j,x,h=>by simp at h
 |y :: l,0,x,_=>rfl
 |y :: l,j+1,x,h=>by
  have ih:=zjo l j x (by simpa using h)
  have e:(j+1)*3=j*3+1+1+1:=by omega
  show ((((Value.int .i64 y.vid :: .int .u64 (y.mem:Nat) :: .int .u64 (y.unt:Nat) :: vlc l).set ((j+1)*3) _).set ((j+1)*3+1) _).set ((j+1)*3+2) _)=_
  rw [e]
  simp only [List.set_cons_succ,List.set_cons_succ]
  rw [ih]
  rfl
theorem MdAt.setV {w:World} {L A S1 Q b cap:Nat} {bv:Value} {P r nv:Nat} {lv:List Vl} {st:Nat->Int×Nat} {G:Nat->Value} (h:MdAt w L A S1 Q (.slice (some ⟨b,0,none⟩) nv cap) bv P r nv lv st G) (j:Nat) (hj:j<lv.length) (x:Vl):MdAt (((w.setCell ⟨b,j*3,none⟩ (.int .i64 x.vid)).setCell ⟨b,j*3+1,none⟩ (.int .u64 (x.mem:Nat))).setCell ⟨b,j*3+2,none⟩ (.int .u64 (x.unt:Nat))) L A S1 Q (.slice (some ⟨b,0,none⟩) nv cap) bv P r nv (lv.set j x) st G:=by
 have hb:∀ k,k≠b->(((w.setCell ⟨b,j*3,none⟩ (.int .i64 x.vid)).setCell ⟨b,j*3+1,none⟩ (.int .u64 (x.mem:Nat))).setCell ⟨b,j*3+2,none⟩ (.int .u64 (x.unt:Nat))).heap[k]?=w.heap[k]?:=fun k hk=>(zab _ _ _ (by exact hk)).trans ((zab _ _ _ (by exact hk)).trans (zab _ _ _ (by exact hk)))
 have hne:∀ {a M N:Nat} {T:TypeId} {f:Nat->Value},w.rowIs a T M f->T≠135->a≠b:=fun hr hT e=>zad hr h.vlans hT (by rw [e];rfl)
 refine ⟨h.la,h.ls,h.lq,h.cells.of_block (hb _ (hne (N:=0) h.cells (by decide))),h.stands.of_block (hb _ (fun e=>zbr h.stands h.vlans (by decide) (by rw [e];rfl))),?_,h.queues.of_block (hb _ (hne (N:=0) h.queues (by decide))),h.cs⟩
 have h1:=(h.vlans.stored (j*3) (.int .i64 x.vid)).1;have h2:=(h1.stored (j*3+1) (.int .u64 (x.mem:Nat))).1;have h3:=(h2.stored (j*3+2) (.int .u64 (x.unt:Nat))).1;rw [zjo lv j x hj] at h3
 exact h3
set_option maxRecDepth 20000 in
set_option maxHeartbeats 1600000 in
theorem zh4 {w:World} {L A S1 Q bp:Nat} {uv:Value} {P r nv:Nat} {lv:List Vl} {st:Nat->Int×Nat} {G:Nat->Value} (h:MdAt w L A S1 Q uv (.pointer (some ⟨bp,0,none⟩)) P r nv lv st G) (vid:Int):Calls Tryz.prog 82 #[.pointer (some ⟨A,0,none⟩),.int .i64 vid] w (Says (.int .i64 (zer lv nv vid)) w):=by
 have hV:=fun w' (hb:Below w.heap.size w w')=>zev (Sl.of_own (h.call hb).vlans) (Nat.le_refl _) vid
 have hbd:=zba (zb7 lv vid) nv;obtain ⟨X,hX⟩:∃ X,X=zer lv nv vid:=⟨_,rfl⟩;rw [<- hX];unfold zer zax at hX;unfold zax at hV;obtain ⟨Au,cu,huv,_,_⟩:=(Sl.of_own h.vlans).form;have hsl:=Sl.of_own h.vlans
 by_cases hneg:zbl (zb7 lv vid) nv<0
 ·rw [if_pos hneg] at hX
  have hm:zbl (zb7 lv vid) nv=-1:=by omega
  rw [hm] at hV;have HV:=Lib.hid hV;have HX:=Lib.hid hX;subst huv
  have c2:w.cell? ⟨A,2,none⟩=some (.slice Au nv cu):=h.cells.cell (by omega)
  clear hV hX h hsl hneg hm hbd
  go_enter Tryz.func82,Tryz.ntmps82
  go_wp2_with (first
   |(go_at_call 105;(with_reducible refine Calls.mono (HV.out _ (Below.refl _ _)) ?_);rintro e w1 ⟨rfl,hb⟩;(have HB:=Lib.hid hb);clear hb))
  go_ret
  exact ⟨by rw [HX.out] <;> first|rfl|(simp;done),HB.out⟩
 ·rw [if_neg hneg] at hX
  obtain ⟨j,hj⟩:∃ j:Nat,zbl (zb7 lv vid) nv=j:=⟨(zbl (zb7 lv vid) nv).toNat,by omega⟩
  rw [hj,Int.toNat_natCast] at hX
  have hjn:j<nv:=by omega
  rw [hj] at hV;have HV:=Lib.hid hV
  obtain ⟨b0,off,cap,e,hc1,hc2,hb0,hlen,hcell⟩:=hsl.vlAt (by omega)
  obtain ⟨k0,k1,k2⟩:=hcell j hjn
  generalize lv.getD j vl0=xv at *
  subst e
  have c2:w.cell? ⟨A,2,none⟩=some (.slice (some ⟨b0,off,none⟩) nv cap):=h.cells.cell (by omega)
  have hAz:A<w.heap.size:=h.cells.lt
  have HK:=Lib.hid fun w' (hb:Below w.heap.size w w')=>And.intro ((hb.cell (p:=⟨A,2,none⟩) hAz).trans c2) ((hb.cell (p:=⟨b0,off+j*3+1,none⟩) hb0).trans k1)
  have d2:decide (j<nv)=true:=by simp;omega
  have g0:(0:Int)<=(j:Int):=Int.natCast_nonneg _
  have d3:decide ((j:Int)<0)=false:=by simp
  have HX:=Lib.hid hX;clear hX hcell k0 k1 k2 hV hbd hneg hj hlen h hsl huv
  go_enter Tryz.func82,Tryz.ntmps82
  go_wp2_with (first
   |(go_at_call 105;(with_reducible refine Calls.mono (HV.out _ (Below.refl _ _)) ?_);rintro e w1 ⟨rfl,hb⟩;(have HB:=Lib.hid hb);(obtain ⟨r2,r3⟩:=HK.out _ hb);clear hb))
  go_ret
  exact ⟨by rw [HX.out] <;> first|rfl|(simp;done),HB.out⟩
theorem zlo {w:World} {L n size b off cap:Nat} {e:TypeId} {xs:List Value} (h:w.ownsRow L e size (.slice (some ⟨b,off,none⟩) n cap) n xs):off=0:=by
 rcases h.2 with hn|⟨g,cap',cur,hv,_⟩
 ·cases hn.1
 ·injection hv with h1
  injection h1 with h1
  injection h1
theorem zf5 {w:World} {L A S1 Q bp:Nat} {uv:Value} {P r nv:Nat} {lv:List Vl} {st:Nat->Int×Nat} {G:Nat->Value} (h:MdAt w L A S1 Q uv (.pointer (some ⟨bp,0,none⟩)) P r nv lv st G) (vid:Int) (me un:Nat) (hneg:zax lv vid nv<0):Calls Tryz.prog 91 #[.pointer (some ⟨A,0,none⟩),.int .i64 vid,.int .u64 (me:Nat),.int .u64 (un:Nat)] w (Says (.bool false) w):=by
 have hV:=fun w' (hb:Below w.heap.size w w')=>zev (Sl.of_own (h.call hb).vlans) (Nat.le_refl _) vid
 have hbd:=zba (zb7 lv vid) nv;obtain ⟨Au,cu,huv,_,_⟩:=(Sl.of_own h.vlans).form
 have hm:zax lv vid nv=-1:=by have h1:=hbd.1;unfold zax at *;omega
 rw [hm] at hV;have HV:=Lib.hid hV;subst huv
 have c2:w.cell? ⟨A,2,none⟩=some (.slice Au nv cu):=h.cells.cell (by omega)
 clear hV h hneg hm hbd
 go_enter Tryz.func91,Tryz.ntmps91
 go_wp2_with (first
  |(go_at_call 105;(with_reducible refine Calls.mono (HV.out _ (Below.refl _ _)) ?_);rintro e w1 ⟨rfl,hb⟩;(have HB:=Lib.hid hb);clear hb))
 go_ret
 exact ⟨by first|rfl|(simp;done),HB.out⟩
set_option maxRecDepth 20000 in
set_option maxHeartbeats 1600000 in
theorem zib {w:World} {L A S1 Q bp:Nat} {uv:Value} {P r nv:Nat} {lv:List Vl} {st:Nat->Int×Nat} {G:Nat->Value} (h:MdAt w L A S1 Q uv (.pointer (some ⟨bp,0,none⟩)) P r nv lv st G) (vid:Int) (me un:Nat) (hme:me<18446744073709551616) (hun:un<18446744073709551616) (j:Nat) (hj:zax lv vid nv=(j:Int)):Calls Tryz.prog 91 #[.pointer (some ⟨A,0,none⟩),.int .i64 vid,.int .u64 (me:Nat),.int .u64 (un:Nat)] w fun e w'=>e=.returned (.bool true) /\
   MdAt w' L A S1 Q uv (.pointer (some ⟨bp,0,none⟩)) P r nv (lv.set j ⟨vid,me &&& allN P,un &&& (me &&& allN P)⟩) st G/\∃ b,uv.ownBlock=some b/\But b w w':=by
 have hV:=fun w' (hb:Below w.heap.size w w')=>zev (Sl.of_own (h.call hb).vlans) (Nat.le_refl _) vid
 have hbd:=zba (zb7 lv vid) nv;have hsl:=Sl.of_own h.vlans
 have hjn:j<nv:=by have h1:=hbd.2;unfold zax at hj;omega
 rw [hj] at hV;have HV:=Lib.hid hV
 have HA:=Lib.hid fun W=>zlk (P:Int) W
 have hall:=zd8 (P:Int)
 generalize allN (P:Int)=al at *
 have hq1:=u64_and_nat me al hme hall;have hy1:me &&& al<18446744073709551616:=Nat.lt_of_le_of_lt Nat.and_le_left hme;obtain ⟨y1,hy⟩:∃ y,y=me &&& al:=⟨_,rfl⟩;rw [<- hy] at hq1 hy1;have hq2:=u64_and_nat un y1 hun hy1;obtain ⟨y2,hy'⟩:∃ y,y=un &&& y1:=⟨_,rfl⟩;rw [<- hy'] at hq2;rw [<- hy,<- hy']
 obtain ⟨b0,off,cap,e,hc1,hc2,hb0,hlen,hcell⟩:=hsl.vlAt (by omega)
 obtain ⟨k0,k1,k2⟩:=hcell j hjn
 generalize lv.getD j vl0=xv at *
 subst e
 have hoff:off=0:=zlo h.vlans
 subst hoff;rw [Nat.zero_add] at k0 k1 k2
 have c2:w.cell? ⟨A,2,none⟩=some (.slice (some ⟨b0,0,none⟩) nv cap):=h.cells.cell (by omega)
 have c1:w.cell? ⟨A,1,none⟩=some (.slice (some ⟨S1,0,none⟩) P (capV (G 100))):=h.cells.cell (by omega)
 have hAz:A<w.heap.size:=h.cells.lt
 have HK:=Lib.hid fun w' (hb:Below w.heap.size w w')=>And.intro (And.intro ((hb.cell (p:=⟨A,1,none⟩) hAz).trans c1) ((hb.cell (p:=⟨A,2,none⟩) hAz).trans c2)) (And.intro ((hb.cell (p:=⟨b0,j*3,none⟩) hb0).trans k0) (And.intro ((hb.cell (p:=⟨b0,j*3+1,none⟩) hb0).trans k1) ((hb.cell (p:=⟨b0,j*3+2,none⟩) hb0).trans k2)))
 have HF:=Lib.hid fun w' (hb:Below w.heap.size w w') o=>(hb.frozen (p:=⟨b0,o,none⟩) hb0).trans (h.vlans.frozenAt o)
 have hAb:A≠b0:=fun e=>zad h.cells h.vlans (by decide) (by rw [e];rfl)
 have hAb':¬ b0=A:=fun e=>hAb e.symm
 have d2:decide (j<nv)=true:=by simp;omega
 have g0:(0:Int)<=(j:Int):=Int.natCast_nonneg _
 have d3:decide ((j:Int)<0)=false:=by simp
 have HH:=Lib.hid h
 have hjl:j<lv.length:=by rw [hlen];exact hjn
 have HJ:=Lib.hid (And.intro hb0 hjl);clear hcell k0 k1 k2 hV hbd hj hlen h hsl hy hy' hall hy1 hme hun hb0 hjl
 go_enter Tryz.func91,Tryz.ntmps91
 go_wp2_with (first
  |(go_at_call 105;(with_reducible refine Calls.mono (HV.out _ (Below.refl _ _)) ?_);rintro e w1 ⟨rfl,hb⟩;(have HB:=Lib.hid hb);(obtain ⟨⟨r1,r2⟩,r3,r4,r5⟩:=HK.out _ hb);(have f3:=HF.out _ hb (j*3));(have f4:=HF.out _ hb (j*3+1));(have f5:=HF.out _ hb (j*3+2));clear hb)
  |(go_at_call 74;(with_reducible refine Calls.mono (HA.out _) ?_);rintro e w2 ⟨rfl,rfl⟩))
 go_ret
 refine ⟨by first|rfl|(simp;done),(HH.out.call HB.out).setV j HJ.out.2 ⟨vid,y1,y2⟩,b0,rfl,?_⟩
 exact (((But.of HB.out (by have:=HJ.out.1;omega)).trans (But.set _ _)).trans (But.set _ _)).trans (But.set _ _)
end
section
open Go.RowKit
def zc9 (A S1 Q P:Nat) (uv:Value) (R:Nat->Nat) (qv:Nat->Nat->Value) (b:Nat):Prop :=
 (b=A\/b=S1\/b=Q\/uv.ownBlock=some b)\/∃ i,i<P/\(b=R i\/∃ j,j<P/\(qv i j).ownBlock=some b)
structure MdAll (E:Nat->Prop) (w:World) (L A S1 Q bp bq P r S B n nv:Nat) (uv:Value) (lv:List Vl) (st:Nat->Int×Nat) (g:Nat->Nat->Pl) (G:Nat->Value) (R:Nat->Nat) (qv:Nat->Nat->Value) (qs:Nat->Nat->List Int):Prop where
 md:MdAt w L A S1 Q uv (.pointer (some ⟨bp,0,none⟩)) P r nv lv st G
 qu:QuAt w L P R G qv qs
 lbk:L<=bq
 bk:∃ D:Nat->Prop,BkAt w D bp bq S B n g/\(∀ b,D b->b<w.heap.size)/\D bq/\(∀ b,zc9 A S1 Q P uv R qv b->D b/\b≠bp/\b≠bq)/\∀ b,E b->D b/\b≠bp/\b≠bq/\¬ zc9 A S1 Q P uv R qv b
theorem zc9.queue {A S1 Q P i j H b:Nat} {uv v':Value} {R:Nat->Nat} {qv:Nat->Nat->Value} (hi:i<P) (hj:j<P) (hat:v'.ownBlock=(qv i j).ownBlock\/∃ b,v'.ownBlock=some b/\H<=b) (h:zc9 A S1 Q P uv R (upd2 qv i j v') b):zc9 A S1 Q P uv R qv b\/H<=b:=by
 rcases h with h|⟨a,ha,h⟩
 ·exact .inl (.inl h)
 ·rcases h with h|⟨c,hc,h⟩
  ·exact .inl (.inr ⟨a,ha,.inl h⟩)
  ·by_cases e:a=i/\c=j
   ·obtain ⟨rfl,rfl⟩:=e
    rw [zbs] at h
    rcases hat with hat|⟨b',hb',hz⟩
    ·rw [hat] at h
     exact .inl (.inr ⟨a,ha,.inr ⟨c,hc,h⟩⟩)
    ·rw [h] at hb'
     injection hb' with hb'
     exact .inr (by omega)
   ·rw [zcu _ _ e] at h
    exact .inl (.inr ⟨a,ha,.inr ⟨c,hc,h⟩⟩)
section
variable {E:Nat->Prop} {w w':World} {L A S1 Q bp bq P r S B n nv:Nat} {uv:Value} {lv lv':List Vl} {st st':Nat->Int×Nat} {g g':Nat->Nat->Pl} {G:Nat->Value} {R:Nat->Nat} {qv:Nat->Nat->Value} {qs:Nat->Nat->List Int}
theorem MdAll.call (h:MdAll E w L A S1 Q bp bq P r S B n nv uv lv st g G R qv qs) (hb:Below w.heap.size w w'):MdAll E w' L A S1 Q bp bq P r S B n nv uv lv st g G R qv qs:=by
 obtain ⟨D,h1,h2,h3,h4,h5⟩:=h.bk
 exact ⟨h.md.call hb,h.qu.call hb,h.lbk,D,h1.call hb,fun b hd=>Nat.lt_of_lt_of_le (h2 b hd) hb.size,h3,h4,h5⟩
theorem MdAll.book (h:MdAll E w L A S1 Q bp bq P r S B n nv uv lv st g G R qv qs) (hk:∀ D:Nat->Prop,BkAt w D bp bq S B n g->(∀ b,D b->b<w.heap.size)->D bq->BkAt w' D bp bq S B n g') (hb:But bq w w'):MdAll E w' L A S1 Q bp bq P r S B n nv uv lv st g' G R qv qs:=by
 obtain ⟨D,h1,h2,h3,h4,h5⟩:=h.bk
 refine ⟨h.md.keep fun b hc=>hb.rest b (h.md.lt b hc) (h4 b (.inl hc)).2.2,h.qu.keep fun b hlt hc=>hb.rest b hlt (h4 b (.inr hc)).2.2,h.lbk,D,hk D h1 h2 h3,fun b hd=>Nat.lt_of_lt_of_le (h2 b hd) hb.below.size,h3,h4,h5⟩
theorem MdAll.but {x:Nat} (h:MdAll E w L A S1 Q bp bq P r S B n nv uv lv st g G R qv qs) (hm:MdAt w' L A S1 Q uv (.pointer (some ⟨bp,0,none⟩)) P r nv lv' st' G) (hb:But x w w') (hx:x=S1\/uv.ownBlock=some x):MdAll E w' L A S1 Q bp bq P r S B n nv uv lv' st' g G R qv qs:=by
 obtain ⟨D,h1,h2,h3,h4,h5⟩:=h.bk
 have hxx:=h4 x (.inl (by rcases hx with h|h;exact .inr (.inl h);exact .inr (.inr (.inr h))))
 refine ⟨hm,h.qu.keep fun b hlt hc=>hb.rest b hlt (fun e=>?_),h.lbk,D,h1.but hb (Ne.symm hxx.2.1) (Ne.symm hxx.2.2) hxx.1,fun b hd=>Nat.lt_of_lt_of_le (h2 b hd) hb.below.size,h3,h4,h5⟩
 obtain ⟨i,hi,hc⟩:=hc
 rcases hx with rfl|hx
 ·rcases hc with hc|⟨j,hj,hc⟩
  ·exact ze7 h.md.stands (h.qu.row i hi) (by decide) (e.symm.trans hc)
  ·exact zbr h.md.stands (h.qu.own i j hi hj) (by decide) (by rw [hc,e])
 ·rcases hc with hc|⟨j,hj,hc⟩
  ·exact zad (h.qu.row i hi) h.md.vlans (by decide) (by rw [hx,<- e,hc])
  ·rcases h.md.vlans.2 with hn|⟨a,cap,cur,hv,hg,hh,_⟩
   ·rw [hn.1] at hx;cases hx
   ·rcases (h.qu.own i j hi hj).2 with hn|⟨a',cap',cur',hv',hg',hh',_⟩
    ·rw [hn.1] at hc;cases hc
    ·rw [hv] at hx
     rw [hv'] at hc
     injection hx with hx
     injection hc with hc
     subst hx;subst hc
     rw [show a'=a from e,hh] at hh'
     injection hh' with k1
     injection k1 with k2 k3
     exact absurd k3 (by decide)
theorem MdAll.queue {i j:Nat} {v':Value} {l':List Int} (h:MdAll E w L A S1 Q bp bq P r S B n nv uv lv st g G R qv qs) (hi:i<P) (hj:j<P) (hm:MdAt w' L A S1 Q uv (.pointer (some ⟨bp,0,none⟩)) P r nv lv st G) (hq:QuAt w' L P R G (upd2 qv i j v') (upd2 qs i j l'))
  (hat:v'.ownBlock=(qv i j).ownBlock\/∃ b,v'.ownBlock=some b/\w.heap.size<=b) (hoth:∀ b,b<w.heap.size->b≠R i->(qv i j).ownBlock≠some b->w'.heap[b]?=w.heap[b]?) (hL:Below L w w'):MdAll E w' L A S1 Q bp bq P r S B n nv uv lv st g G R (upd2 qv i j v') (upd2 qs i j l'):=by
 obtain ⟨D,h1,h2,h3,h4,h5⟩:=h.bk;have hRi:=h4 (R i) (.inr ⟨i,hi,.inl rfl⟩)
 have hkeep:BkAt w' D bp bq S B n g:=h1.keep hL.size fun b hlt hc=>hoth b hlt
  (by
   rcases hc with rfl|rfl|hc
   ·exact Ne.symm hRi.2.1
   ·exact Ne.symm hRi.2.2
   ·exact fun e=>hc (by rw [e];exact hRi.1))
  (fun e=>by
   have hbl:=h4 b (.inr ⟨i,hi,.inr ⟨j,hj,e⟩⟩)
   rcases hc with rfl|rfl|hc
   ·exact hbl.2.1 rfl
   ·exact hbl.2.2 rfl
   ·exact hc hbl.1)
 have hrows:∀ b,b<w'.heap.size->(D b\/(w.heap.size<=b/\b<w'.heap.size))->D b\/w.heap.size<=b:=fun b _ hd=>hd.imp id And.left
 have hbk:BkAt w' (fun b=>D b\/(w.heap.size<=b/\b<w'.heap.size)) bp bq S B n g:=by
  obtain ⟨k0,k1,k2,k3,k4,k5,k6,k9,k10⟩:=hkeep
  refine ⟨k0,k1,k2,k3,k4,k5,k6,k9,fun a ha=>?_⟩
  obtain ⟨_,_,_,_,_,_,_,_,m10⟩:=h1;obtain ⟨v0,hv0,hrow0⟩:=m10 a ha;obtain ⟨v,hv,Ax,cap,e1,e2,e3,e4⟩:=k10 a ha
  refine ⟨v,hv,Ax,cap,e1,e2,e3,fun hn=>?_⟩
  obtain ⟨b,off,f1,f2,f3,f4⟩:=e4 hn
  refine ⟨b,off,f1,f2,fun hd=>?_,f4⟩
  rcases hd with hd|hd
  ·exact f3 hd
  ·obtain ⟨Ay,cay,y1,y2,y3,y4⟩:=hrow0
   obtain ⟨b',off',z1,z2,z3,z4⟩:=y4 hn
   have hq0:w'.cell? ⟨bq,a,none⟩=w.cell? ⟨bq,a,none⟩:=World.cell?_of_block (hoth bq (h2 bq h3) (Ne.symm hRi.2.2) (fun e=>(h4 bq (.inr ⟨i,hi,.inr ⟨j,hj,e⟩⟩)).2.2 rfl))
   rw [hq0,hv0] at hv
   injection hv with hv
   rw [y1,e1] at hv
   injection hv with hv
   rw [z1,f1] at hv
   injection hv with hv
   injection hv with hv
   omega
 refine ⟨hm,hq,h.lbk,_,hbk,fun b hd=>?_,.inl h3,fun b hc=>?_,fun b he=>⟨.inl (h5 b he).1,(h5 b he).2.1,(h5 b he).2.2.1,fun hc=>?_⟩⟩
 ·rcases hd with hd|hd
  ·exact Nat.lt_of_lt_of_le (h2 b hd) hL.size
  ·exact hd.2
 ·have hold:zc9 A S1 Q P uv R qv b->(D b\/(w.heap.size<=b/\b<w'.heap.size))/\b≠bp/\b≠bq:=fun hc=>⟨.inl (h4 b hc).1,(h4 b hc).2⟩
  rcases hc with hc|⟨a,ha,hc⟩
  ·exact hold (.inl hc)
  ·rcases hc with hc|⟨c,hc1,hc⟩
   ·exact hold (.inr ⟨a,ha,.inl hc⟩)
   ·by_cases e:a=i/\c=j
    ·obtain ⟨rfl,rfl⟩:=e
     rw [zbs] at hc
     rcases hat with hat|⟨b',hb',hz⟩
     ·rw [hat] at hc
      exact hold (.inr ⟨a,ha,.inr ⟨c,hc1,hc⟩⟩)
     ·rw [hc] at hb'
      injection hb' with hb'
      have h5:=(hq.own a c ha hc1).lt b (by rw [zbs];exact hc)
      have h6:=h2 bq h3;have h7:=h1.1
      exact ⟨.inr ⟨by omega,h5.2⟩,by omega,by omega⟩
    ·rw [zcu _ _ e] at hc
     exact hold (.inr ⟨a,ha,.inr ⟨c,hc1,hc⟩⟩)
 ·rcases zc9.queue hi hj hat hc with hc|hc
  ·exact (h5 b he).2.2.2 hc
  ·have:=h2 b (h5 b he).1
   omega
end
theorem MdAll.of_new {E:Nat->Prop} {w:World} {L A S1 Q bp bq hN P r S B n nv:Nat} {uv:Value} {lv:List Vl} {st:Nat->Int×Nat} {g:Nat->Nat->Pl} {G:Nat->Value} {R:Nat->Nat} (hm:MdAt w L A S1 Q uv (.pointer (some ⟨bp,0,none⟩)) P r nv lv st G) (hk:BkAt w (fun b=>b<=bp\/hN<=b) bp bq S B n g) (h1:A<bq) (h2:S1<bq) (h3:Q<bq) (h4:bq<bp) (h5:bp<hN) (hu:∀ b,uv.ownBlock=some b->b<bq) (hq:zjd w hN P P R G) (hE:∀ b,E b->b<L):MdAll E w L A S1 Q bp bq P r S B n nv uv lv st g G R (fun _ _=>.slice none 0 0) (fun _ _=>[]):=by
 have hla:=hm.la
 refine ⟨hm,QuAt.of_new hq (by omega),by omega,fun b=>b<w.heap.size/\(b<=bp\/hN<=b),hk.domM fun b _ hd=>hd.2,fun b hd=>hd.1,⟨hk.2.1,.inl (by omega)⟩,fun b hc=>?_,fun b he=>?_⟩
 have hbp:=hk.1
 rcases hc with (rfl|rfl|rfl|hc)|⟨i,hi,hc⟩
 ·exact ⟨⟨by omega,.inl (by omega)⟩,by omega,by omega⟩
 ·exact ⟨⟨by omega,.inl (by omega)⟩,by omega,by omega⟩
 ·exact ⟨⟨by omega,.inl (by omega)⟩,by omega,by omega⟩
 ·have:=hu b hc
  exact ⟨⟨by omega,.inl (by omega)⟩,by omega,by omega⟩
 ·rcases hc with rfl|⟨j,hj,hc⟩
  ·have h6:=hq i hi
   exact ⟨⟨h6.2.2.1.lt,.inr h6.1⟩,by omega,by omega⟩
  ·cases hc
 ·have hbp:=hk.1
  have h9:=hE b he;have hls:=hm.ls;have hlq:=hm.lq
  refine ⟨⟨by omega,.inl (by omega)⟩,by omega,by omega,?_⟩
  rintro ((rfl|rfl|rfl|hc)|⟨i,hi,hc⟩)
  ·omega
  ·omega
  ·omega
  ·have:=(hm.vlans.lt b hc).1
   omega
  ·rcases hc with rfl|⟨j,hj,hc⟩
   ·have h6:=hq i hi
    omega
   ·cases hc
structure MdFr (E:Nat->Prop) (w w':World) (L:Nat):Prop where
 base:L<=w.heap.size
 low:Below L w w'
 kp:∀ b,E b->w'.heap[b]?=w.heap[b]?
section
variable {E E':Nat->Prop} {w w1 w':World} {L A S1 Q bp bq P r S B n nv:Nat} {uv:Value} {lv:List Vl} {st:Nat->Int×Nat} {g:Nat->Nat->Pl} {G:Nat->Value} {R:Nat->Nat} {qv:Nat->Nat->Value} {qs:Nat->Nat->List Int}
theorem MdAll.base (h:MdAll E w L A S1 Q bp bq P r S B n nv uv lv st g G R qv qs):L<=w.heap.size:=by
 have:=h.md.la
 have:=h.md.cells.lt
 omega
theorem MdAll.lt (h:MdAll E w L A S1 Q bp bq P r S B n nv uv lv st g G R qv qs) (b:Nat) (hb:E b):b<w.heap.size:=by
 obtain ⟨D,h1,h2,h3,h4,h5⟩:=h.bk
 exact h2 b (h5 b hb).1
theorem MdFr.quiet (h:MdAll E w L A S1 Q bp bq P r S B n nv uv lv st g G R qv qs) (hb:Below w.heap.size w w'):MdFr E w w' L :=
 ⟨h.base,hb.mono h.base,fun b he=>hb.block b (h.lt b he)⟩
theorem MdFr.call (h0:MdAll E w L A S1 Q bp bq P r S B n nv uv lv st g G R qv qs) (h:MdFr E w w1 L) (hb:Below w1.heap.size w1 w'):MdFr E w w' L :=
 ⟨h.base,h.low.trans (hb.mono (Nat.le_trans h.base h.low.size)),fun b he=>(hb.block b (Nat.lt_of_lt_of_le (h0.lt b he) h.low.size)).trans (h.kp b he)⟩
theorem MdFr.of_but {x:Nat} (h:MdAll E w L A S1 Q bp bq P r S B n nv uv lv st g G R qv qs) (h1:Below w.heap.size w w1) (h2:But x w1 w') (hx:zc9 A S1 Q P uv R qv x\/x=bq) (hLx:L<=x):MdFr E w w' L:=by
 refine ⟨h.base,(h1.mono h.base).trans (h2.below.mono hLx),fun b he=>(h2.rest b (Nat.lt_of_lt_of_le (h.lt b he) h1.size) (fun e=>?_)).trans (h1.block b (h.lt b he))⟩
 obtain ⟨D,_,_,_,_,h5⟩:=h.bk;obtain ⟨_,_,k2,k3⟩:=h5 b he;subst e
 exact hx.elim k3 k2
theorem MdFr.of_queue {i j:Nat} (h:MdAll E w L A S1 Q bp bq P r S B n nv uv lv st g G R qv qs) (h1:Below w.heap.size w w1) (hi:i<P) (hj:j<P) (h2:∀ b,b<w1.heap.size->b≠R i->(qv i j).ownBlock≠some b->w'.heap[b]?=w1.heap[b]?) (hl:Below L w1 w'):MdFr E w w' L:=by
 obtain ⟨D,_,_,_,_,h5⟩:=h.bk
 exact ⟨h.base,(h1.mono h.base).trans hl,fun b he=>(h2 b (Nat.lt_of_lt_of_le (h.lt b he) h1.size) (fun e=>(h5 b he).2.2.2 (.inr ⟨i,hi,.inl e⟩)) (fun e=>(h5 b he).2.2.2 (.inr ⟨i,hi,.inr ⟨j,hj,e⟩⟩))).trans (h1.block b (h.lt b he))⟩
theorem MdAll.less (h:MdAll E w L A S1 Q bp bq P r S B n nv uv lv st g G R qv qs) (he:∀ b,E' b->E b):MdAll E' w L A S1 Q bp bq P r S B n nv uv lv st g G R qv qs:=by
 obtain ⟨D,h1,h2,h3,h4,h5⟩:=h.bk
 exact ⟨h.md,h.qu,h.lbk,D,h1,h2,h3,h4,fun b hb=>h5 b (he b hb)⟩
theorem MdAll.more (h:MdAll E w L A S1 Q bp bq P r S B n nv uv lv st g G R qv qs) (hb:Below w.heap.size w w'):MdAll (fun b=>E b\/(w.heap.size<=b/\b<w'.heap.size)) w' L A S1 Q bp bq P r S B n nv uv lv st g G R qv qs:=by
 obtain ⟨D,h1,h2,h3,h4,h5⟩:=h.bk;have hz:=hb.size
 refine ⟨h.md.call hb,h.qu.call hb,h.lbk,fun b=>D b\/(w.heap.size<=b/\b<w'.heap.size),?_,fun b hd=>?_,.inl h3,fun b hc=>⟨.inl (h4 b hc).1,(h4 b hc).2⟩,fun b he=>?_⟩
 ·obtain ⟨k0,k1,k2,k3,k4,k5,k6,k9,k10⟩:=h1.call hb
  obtain ⟨_,_,_,_,_,_,_,_,m10⟩:=h1
  refine ⟨k0,k1,k2,k3,k4,k5,k6,k9,fun a ha=>?_⟩
  obtain ⟨v0,hv0,hrow0⟩:=m10 a ha;obtain ⟨v,hv,Ax,cap,e1,e2,e3,e4⟩:=k10 a ha
  refine ⟨v,hv,Ax,cap,e1,e2,e3,fun hn=>?_⟩
  obtain ⟨b,off,f1,f2,f3,f4⟩:=e4 hn
  refine ⟨b,off,f1,f2,fun hd=>?_,f4⟩
  rcases hd with hd|hd
  ·exact f3 hd
  ·obtain ⟨Ay,cay,y1,y2,y3,y4⟩:=hrow0
   obtain ⟨b',off',z1,z2,z3,z4⟩:=y4 hn
   have hq0:w'.cell? ⟨bq,a,none⟩=w.cell? ⟨bq,a,none⟩:=hb.cell (h2 bq h3)
   rw [hq0,hv0] at hv
   injection hv with hv
   rw [y1,e1] at hv
   injection hv with hv
   rw [z1,f1] at hv
   injection hv with hv
   injection hv with hv
   omega
 ·rcases hd with hd|hd
  ·exact Nat.lt_of_lt_of_le (h2 b hd) hz
  ·exact hd.2
 ·rcases he with he|he
  ·exact ⟨.inl (h5 b he).1,(h5 b he).2⟩
  ·refine ⟨.inr he,?_,?_,fun hc=>?_⟩
   ·have:=h1.1;omega
   ·have:=h1.2.1;omega
   ·have:=h2 b (h4 b hc).1;omega
theorem MdAll.keepE (h:MdAll E w L A S1 Q bp bq P r S B n nv uv lv st g G R qv qs) (hz:w.heap.size<=w'.heap.size) (hk:∀ b,b<w.heap.size->¬ E b->w'.heap[b]?=w.heap[b]?):MdAll E w' L A S1 Q bp bq P r S B n nv uv lv st g G R qv qs:=by
 obtain ⟨D,h1,h2,h3,h4,h5⟩:=h.bk
 have hM:∀ b,zc9 A S1 Q P uv R qv b->w'.heap[b]?=w.heap[b]?:=fun b hb=>hk b (h2 b (h4 b hb).1) (fun he=>(h5 b he).2.2.2 hb)
 refine ⟨h.md.keep fun b hc=>hM b (.inl hc),h.qu.keep fun b _ hc=>hM b (.inr hc),h.lbk,D,h1.keep hz fun b hlt hc=>hk b hlt (fun he=>?_),fun b hd=>Nat.lt_of_lt_of_le (h2 b hd) hz,h3,h4,h5⟩
 rcases hc with rfl|rfl|hc
 ·exact (h5 _ he).2.1 rfl
 ·exact (h5 _ he).2.2.1 rfl
 ·exact hc (h5 b he).1
end
end
end Go.Proofs.YtfekhdgjgjodlaaGreat
