/-
  Words and contracts that a statement's proof rests on (MoX). No statement is proved here.
-/
import Derived.Test.YtfekhdgjgjodlaaGreatVlanG
import Derived.Test.YtfekhdgjgjodlaaGreatMoW
import Derived.Test.YtfekhdgjgjodlaaGreatPtB
set_option linter.unusedVariables false
set_option linter.unusedSimpArgs false
namespace Go.Proofs.YtfekhdgjgjodlaaGreat
open Go.RowKit
theorem zog {W:World} {g:Nat} {cs:Array Value} {t:TypeId} (h:W.heap[g]?=some (.cells cs t)) (i:Nat) (v:Value) (hv:cs[i]?=some v):W.cell? ⟨g,i,none⟩=some v:=by
 simp [World.cell?,h,hv]
def updS (st:Nat->Int×Nat) (p:Nat) (x:Int) (e:Nat) (i:Nat):Int×Nat:=if i=p then (x,e) else st i
theorem MdAt.setS {w:World} {L A S1 Q:Nat} {uv bv:Value} {P r nv:Nat} {lv:List Vl} {st:Nat->Int×Nat} {G:Nat->Value} (h:MdAt w L A S1 Q uv bv P r nv lv st G) (p:Nat) (x:Int) (e:Nat):MdAt ((w.setCell ⟨S1,p*2,none⟩ (.int .i64 x)).setCell ⟨S1,p*2+1,none⟩ (.int .u32 (e:Nat))) L A S1 Q uv bv P r nv lv (updS st p x e) G:=by
 have hb:∀ b,b≠S1->((w.setCell ⟨S1,p*2,none⟩ (.int .i64 x)).setCell ⟨S1,p*2+1,none⟩ (.int .u32 (e:Nat))).heap[b]?=w.heap[b]?:=fun b hb=>(zab _ _ _ (by exact hb)).trans (zab _ _ _ (by exact hb))
 refine ⟨h.la,h.ls,h.lq,h.cells.of_block (hb _ (zcs h.cells h.stands (by decide))),?_,zbm h.vlans (fun g e2=>hb _ (fun e3=>zbr h.stands h.vlans (by decide) (by rw [e2,e3]))),h.queues.of_block (hb _ (zcs h.queues h.stands (by decide))),h.cs⟩
 refine ((h.stands.set (p*2) _).set (p*2+1) _).congr fun i hi=>?_
 unfold rowS updS
 by_cases e1:i=p*2+1
 ·subst e1
  rw [if_pos rfl,if_neg (by omega),show (p*2+1) / 2=p by omega,if_pos rfl]
 ·rw [if_neg e1]
  by_cases e2:i=p*2
  ·subst e2
   rw [if_pos rfl,if_pos (by omega),show p*2 / 2=p by omega,if_pos rfl]
  ·rw [if_neg e2]
   have hne:i / 2≠p:=by omega
   rw [if_neg hne]
def zah (P:Nat) (p:Int):Bool:=decide (0<=p) && decide (p<(P:Int))
set_option maxHeartbeats 800000 in
theorem zae {w:World} {L A S1 Q bp:Nat} {uv:Value} {P r nv:Nat} {lv:List Vl} {st:Nat->Int×Nat} {G:Nat->Value} (h:MdAt w L A S1 Q uv (.pointer (some ⟨bp,0,none⟩)) P r nv lv st G):Calls Tryz.prog 80 #[.pointer (some ⟨A,0,none⟩)] w (Says (.bool false) w):=by
 have c3:w.cell? ⟨A,3,none⟩=some (.pointer (some ⟨bp,0,none⟩)):=h.cells.cell (by omega)
 go_enter Tryz.func80,Tryz.ntmps80
 go_wp2
 go_ret
 exact ⟨rfl,Below.refl _ _⟩
set_option maxHeartbeats 800000 in
theorem zap {w:World} {L A S1 Q bp:Nat} {uv:Value} {P r nv:Nat} {lv:List Vl} {st:Nat->Int×Nat} {G:Nat->Value} (h:MdAt w L A S1 Q uv (.pointer (some ⟨bp,0,none⟩)) P r nv lv st G) (p:Int):Calls Tryz.prog 104 #[.pointer (some ⟨A,0,none⟩),.int .i64 p] w (Says (.bool (zah P p)) w):=by
 have HN:=Lib.hid (zae h);have HH:=Lib.hid h;obtain ⟨X,hX⟩:∃ X,X=zah P p:=⟨_,rfl⟩;rw [<- hX]
 have hY:zah P p=(decide (0<=p) && decide (p<(P:Int))):=rfl
 rw [<- hX] at hY;clear hX h
 by_cases h0:0<=p
 ·rw [decide_eq_true h0,Bool.true_and] at hY
  by_cases h1:p<(P:Int)
  ·rw [decide_eq_true h1] at hY
   have HX:=Lib.hid hY;clear hY
   go_enter Tryz.func104,Tryz.ntmps104
   go_wp2_with fail
   refine (HN.out).mono ?_
   rintro e w1 ⟨rfl,hb⟩
   have c1:w1.cell? ⟨A,1,none⟩=some (.slice (some ⟨S1,0,none⟩) P (capV (G 100))):=(HH.out.call hb).cells.cell (by omega)
   go_wp2
   go_ret
   exact ⟨by rw [HX.out] <;> first|rfl|(simp;done)|(simp;omega),hb⟩
  ·rw [decide_eq_false h1] at hY
   have HX:=Lib.hid hY;clear hY
   go_enter Tryz.func104,Tryz.ntmps104
   go_wp2_with fail
   refine (HN.out).mono ?_
   rintro e w1 ⟨rfl,hb⟩
   have c1:w1.cell? ⟨A,1,none⟩=some (.slice (some ⟨S1,0,none⟩) P (capV (G 100))):=(HH.out.call hb).cells.cell (by omega)
   go_wp2
   go_ret
   exact ⟨by rw [HX.out] <;> first|rfl|(simp;done)|(simp;omega),hb⟩
 ·rw [decide_eq_false h0,Bool.false_and] at hY
  have HX:=Lib.hid hY;clear hY
  go_enter Tryz.func104,Tryz.ntmps104
  go_wp2_with fail
  refine (HN.out).mono ?_
  rintro e w1 ⟨rfl,hb⟩
  go_wp2
  go_ret
  exact ⟨by rw [HX.out] <;> first|rfl|(simp;done)|(simp;omega),hb⟩
set_option maxHeartbeats 800000 in
theorem ze3 {w:World} {L A S1 Q bp:Nat} {uv:Value} {P r nv:Nat} {lv:List Vl} {st:Nat->Int×Nat} {G:Nat->Value} (h:MdAt w L A S1 Q uv (.pointer (some ⟨bp,0,none⟩)) P r nv lv st G) (po tt vi sx:Int) (kv km me un nw li sh bu id:Int):Calls Tryz.prog 81 #[.pointer (some ⟨A,0,none⟩),opV 8 po tt vi sx kv km me un nw li sh bu id] w (Says (.bool (zah P po)) w):=by
 have HH:=Lib.hid h
 have HP:=Lib.hid fun w' (hb:Below w.heap.size w w')=>zap (h.call hb) po
 clear h;unfold opV
 go_enter Tryz.func81,Tryz.ntmps81
 go_wp2_with fail
 refine (HP.out _ ((Below.refl _ _).alloc (Nat.le_refl _) _)).mono ?_
 rintro e w1 ⟨rfl,hb⟩
 go_wp2
 go_ret
 exact ⟨rfl,((Below.refl _ _).alloc (Nat.le_refl _) _).trans (hb.mono (by simp))⟩
set_option maxHeartbeats 800000 in
theorem zf1 {w:World} {L A S1 Q bp:Nat} {uv:Value} {P r nv:Nat} {lv:List Vl} {st:Nat->Int×Nat} {G:Nat->Value} (h:MdAt w L A S1 Q uv (.pointer (some ⟨bp,0,none⟩)) P r nv lv st G) (po tt vi sx:Int) (kv km me un nw li sh bu id:Int):Calls Tryz.prog 81 #[.pointer (some ⟨A,0,none⟩),opV 12 po tt vi sx kv km me un nw li sh bu id] w (Says (.bool (zah P tt)) w):=by
 have HH:=Lib.hid h
 have HP:=Lib.hid fun w' (hb:Below w.heap.size w w')=>zap (h.call hb) tt
 clear h;unfold opV
 go_enter Tryz.func81,Tryz.ntmps81
 go_wp2_with fail
 refine (HP.out _ ((Below.refl _ _).alloc (Nat.le_refl _) _)).mono ?_
 rintro e w1 ⟨rfl,hb⟩
 go_wp2
 go_ret
 exact ⟨rfl,((Below.refl _ _).alloc (Nat.le_refl _) _).trans (hb.mono (by simp))⟩
theorem zld {w:World} {L A S1 Q bp:Nat} {uv:Value} {P r nv:Nat} {lv:List Vl} {st:Nat->Int×Nat} {G:Nat->Value} (h:MdAt w L A S1 Q uv (.pointer (some ⟨bp,0,none⟩)) P r nv lv st G) (p:Nat) (hp:p<P):w.cell? ⟨S1,p*2,none⟩=some (.int .i64 (st p).1)/\w.cell? ⟨S1,p*2+1,none⟩=some (.int .u32 ((st p).2:Nat)) :=
 ⟨(h.stands.cell (by omega)).trans (by rw [zeh]),(h.stands.cell (by omega)).trans (by rw [zoo])⟩
set_option maxRecDepth 20000 in
set_option maxHeartbeats 3200000 in
theorem zgn {w:World} {L A S1 Q bp:Nat} {uv:Value} {P r nv:Nat} {lv:List Vl} {st:Nat->Int×Nat} {G:Nat->Value} (h:MdAt w L A S1 Q uv (.pointer (some ⟨bp,0,none⟩)) P r nv lv st G) (hP:P<=64) (p:Nat) (hp:p<P) (x:Int) (hx:zau x=true):Calls Tryz.prog 90 #[.pointer (some ⟨A,0,none⟩),.int .i64 (p:Nat),.int .i64 x] w fun e w'=>e=.returned (.int .i64 ((((st p).2+1) % 4294967296:Nat):Int))/\MdAt w' L A S1 Q uv (.pointer (some ⟨bp,0,none⟩)) P r nv lv (updS st p x (((st p).2+1) % 4294967296)) G/\But S1 w w':=by
 obtain ⟨s0,s1⟩:=zld h p hp
 have c1:w.cell? ⟨A,1,none⟩=some (.slice (some ⟨S1,0,none⟩) P (capV (G 100))):=h.cells.cell (by omega)
 have hS:=fun W=>zlc (st p).1 x (st p).2 W
 rw [if_pos hx] at hS
 have hk1:((st p).2+1) % 4294967296<4294967296:=Nat.mod_lt _ (by omega)
 obtain ⟨k1,hk⟩:∃ k,k=((st p).2+1) % 4294967296:=⟨_,rfl⟩;rw [<- hk] at hk1 hS;rw [<- hk];have HS:=Lib.hid hS;have HH:=Lib.hid h
 have hAS:A≠S1:=zcs h.cells h.stands (by decide)
 have hAz:A<w.heap.size:=h.cells.lt;have hSz:S1<w.heap.size:=h.stands.lt
 have d1:decide (p<P)=true:=by simp;omega
 clear hS h hx hk
 generalize (st p).1=sx at *
 generalize (st p).2=sk at *
 go_enter Tryz.func90,Tryz.ntmps90
 go_upto_region 4 with (first
  |(go_at_call 114;(with_reducible refine Calls.mono (HS.out _) ?_);rintro e w1 ⟨rfl,hb⟩;(have HB1:Hid (Below w.heap.size w w1):=hb);(have hz1:=hb.size);clear hb))
 obtain ⟨tb,htb⟩:∃ x,x=w1.heap.size:=⟨_,rfl⟩;obtain ⟨w3,hw3⟩:∃ z,z=w1.alloc (.cells #[.int .i64 x,.int .u32 (k1:Nat)] 165):=⟨_,rfl⟩
 have HB3:Hid (Below w.heap.size w w3):=by rw [hw3];exact HB1.out.alloc hz1 _
 have t0:w3.cell? ⟨tb,0,none⟩=some (.int .i64 x):=by rw [hw3,htb];exact zog (heap_alloc_new _ _) 0 _ rfl
 have t1:w3.cell? ⟨tb,1,none⟩=some (.int .u32 (k1:Nat)):=by rw [hw3,htb];exact zog (heap_alloc_new _ _) 1 _ rfl
 have hz3:w3.heap.size=tb+1:=by rw [hw3,htb,World.size_alloc]
 rw [<- hw3,<- htb];have HM3:=Lib.hid (HH.out.call HB3.out)
 have htb2:w.heap.size<=tb:=by omega
 clear hw3 htb HB1 s0 s1 c1 hz1
 have c1:w3.cell? ⟨A,1,none⟩=some (.slice (some ⟨S1,0,none⟩) P (capV (G 100))):=HM3.out.cells.cell (by omega)
 refine wp_region_held_drew (S:=fun w'=>w'.cell? ⟨A,1,none⟩=some (.slice (some ⟨S1,0,none⟩) P (capV (G 100)))/\w'.cell? ⟨tb,0,none⟩=some (.int .i64 x)/\w'.cell? ⟨tb,1,none⟩=some (.int .u32 (k1:Nat))) (by kernel_rfl) ?_ (fun hHeld=>?_)
 ·exact ⟨c1,t0,t1⟩
 obtain ⟨v0,hv0⟩:∃ w',w'=w3.drew:=⟨_,rfl⟩
 have hvb:Below w3.heap.size w3 v0:=by rw [hv0];exact (Below.refl _ _).drew
 rw [<- hv0] at hHeld |-;clear hv0;have HM4:=Lib.hid (HM3.out.call hvb)
 have s0:v0.cell? ⟨S1,p*2,none⟩=some (rowS st (p*2)):=HM4.out.stands.cell (by omega)
 have s1:v0.cell? ⟨S1,p*2+1,none⟩=some (rowS st (p*2+1)):=HM4.out.stands.cell (by omega)
 have fz:∀ o,v0.frozen? ⟨S1,o,none⟩=false:=fun o=>HM4.out.stands.frozen o
 have HK9:Hid (∀ q:Addr,q.block≠S1->((v0.setCell ⟨S1,p*2,none⟩ (.int .i64 x)).setCell ⟨S1,p*2+1,none⟩ (.int .u32 (k1:Nat))).cell? q=v0.cell? q):=fun q hq =>
  (World.cell?_setCell_other _ _ _ _ (by intro e;exact hq (by rw [<- e]))).trans (World.cell?_setCell_other _ _ _ _ (by intro e;exact hq (by rw [<- e])))
 refine tk 0 ?_;refine tk 1 ?_;refine tk 2 ?_;refine tk 3 ?_;refine tk 4 ?_;refine tk 5 ?_;refine tk 6 ?_
 refine clR 7 rfl fun K hK=>?_
 go_simp
 refine hK.out _ _ ?_ (fun hHeld=>?_)
 ·(try dsimp only)
  obtain ⟨q0,q1,q2⟩:=hHeld
  exact ⟨(HK9.out _ hAS).trans q0,(HK9.out _ (by show tb≠S1;omega)).trans q1,(HK9.out _ (by show tb≠S1;omega)).trans q2⟩
 clear hK K
 (try simp only [Act.put,sqA,sqB,sqC])
 refine dnR ?_
 obtain ⟨w9,hw9⟩:∃ z,z=((v0.setCell ⟨S1,p*2,none⟩ (.int .i64 x)).setCell ⟨S1,p*2+1,none⟩ (.int .u32 (k1:Nat))):=⟨_,rfl⟩
 have HM9:Hid (MdAt w9 L A S1 Q uv (.pointer (some ⟨bp,0,none⟩)) P r nv lv (updS st p x k1) G):=by rw [hw9];exact HM4.out.setS p x k1
 have HB9:Hid (But S1 w w9):=by
  rw [hw9]
  exact ((But.of (HB3.out.trans (hvb.mono (by omega))) (by omega)).trans (But.set _ _)).trans (But.set _ _)
 rw [<- hw9] at hHeld |-;obtain ⟨q0,q1,q2⟩:=hHeld;clear hw9 HM4 s0 s1 fz HK9 hvb t0 t1 c1
 go_wp2
 go_ret
 exact ⟨by first|rfl|(simp;done),HM9.out,HB9.out⟩
def zff (lv:List Vl) (nv:Nat) (s:Int) (p:Nat) (vid:Int):Nat:=if s≠4 then 0 else if zax lv vid nv<0 then 1 else if hasB (lv.getD (zax lv vid nv).toNat vl0).mem p=false then 1 else if hasB (lv.getD (zax lv vid nv).toNat vl0).unt p=true then 2 else 3
set_option maxRecDepth 20000 in
set_option maxHeartbeats 3200000 in
theorem znu {w:World} {L A S1 Q bp:Nat} {uv:Value} {P r nv:Nat} {lv:List Vl} {st:Nat->Int×Nat} {G:Nat->Value} (h:MdAt w L A S1 Q uv (.pointer (some ⟨bp,0,none⟩)) P r nv lv st G) (hok:∀ x∈lv,x.ok) (p:Nat) (hp:p<P) (vid:Int):Calls Tryz.prog 94 #[.pointer (some ⟨A,0,none⟩),.int .i64 (p:Nat),.int .i64 vid] w (Says (.int .i64 (zff lv nv (st p).1 p vid:Nat)) w):=by
 obtain ⟨s0,s1⟩:=zld h p hp
 have c1:w.cell? ⟨A,1,none⟩=some (.slice (some ⟨S1,0,none⟩) P (capV (G 100))):=h.cells.cell (by omega)
 have hF:=fun W=>zia (st p).1 W
 have hV:=fun w' (hb:Below w.heap.size w w')=>zev (Sl.of_own (h.call hb).vlans) (Nat.le_refl _) vid
 have d1:decide (p<P)=true:=by simp;omega
 have hbd:=zba (zb7 lv vid) nv;obtain ⟨X,hX⟩:∃ X,X=zff lv nv (st p).1 p vid:=⟨_,rfl⟩;rw [<- hX];unfold zff at hX;obtain ⟨Au,cu,huv,_,_⟩:=(Sl.of_own h.vlans).form;have HH:=Lib.hid h;have hsl:=Sl.of_own h.vlans
 generalize (st p).1=s at *
 by_cases hs:s=4
 ·subst hs
  rw [if_neg (by simp)] at hX
  have hF':∀ W,Calls Tryz.prog 116 #[.int .i64 4] W fun e w'=>e=.returned (.bool true)/\W=w':=hF
  have HF:=Lib.hid hF';unfold zax at hV hX
  by_cases hneg:zbl (zb7 lv vid) nv<0
  ·rw [if_pos hneg] at hX
   have hm:zbl (zb7 lv vid) nv=-1:=by omega
   rw [hm] at hV;have HV:=Lib.hid hV;have HX:=Lib.hid hX;subst huv
   have c2:w.cell? ⟨A,2,none⟩=some (.slice Au nv cu):=h.cells.cell (by omega)
   clear hF hF' hV hX h hsl hneg hm hbd
   go_enter Tryz.func94,Tryz.ntmps94
   go_wp2_with (first
    |(go_at_call 116;(with_reducible refine Calls.mono (HF.out _) ?_);rintro e w1 ⟨rfl,rfl⟩)
    |(go_at_call 105;(with_reducible refine Calls.mono (HV.out _ (Below.refl _ _)) ?_);rintro e w1 ⟨rfl,hb⟩;(have HB:=Lib.hid hb);clear hb))
   go_ret
   exact ⟨by rw [HX.out];rfl,HB.out⟩
  ·rw [if_neg hneg] at hX
   obtain ⟨j,hj⟩:∃ j:Nat,zbl (zb7 lv vid) nv=j:=⟨(zbl (zb7 lv vid) nv).toNat,by omega⟩
   rw [hj,Int.toNat_natCast] at hX
   have hjn:j<nv:=by omega
   rw [hj] at hV;have HV:=Lib.hid hV
   obtain ⟨b0,off,cap,e,hc1,hc2,hb0,hlen,hcell⟩:=hsl.vlAt (by omega)
   obtain ⟨k0,k1,k2⟩:=hcell j hjn;have hok':=vl_ok hok j
   generalize hgx:lv.getD j vl0=xv at *
   have hm1:=fun W=>zlj xv.mem hok'.2.1 (p:Int) W
   have hm2:=fun W=>zlj xv.unt hok'.2.2 (p:Int) W
   subst e
   have c2:w.cell? ⟨A,2,none⟩=some (.slice (some ⟨b0,off,none⟩) nv cap):=h.cells.cell (by omega)
   have hAz:A<w.heap.size:=h.cells.lt
   have HK:=Lib.hid fun w' (hb:Below w.heap.size w w')=>And.intro ((hb.cell (p:=⟨A,2,none⟩) hAz).trans c2) (And.intro ((hb.cell (p:=⟨b0,off+j*3+1,none⟩) hb0).trans k1) ((hb.cell (p:=⟨b0,off+j*3+2,none⟩) hb0).trans k2))
   have d2:decide (j<nv)=true:=by simp;omega
   have g0:(0:Int)<=(j:Int):=Int.natCast_nonneg _
   have d3:decide ((j:Int)<0)=false:=by simp
   clear hcell k0 k1 k2 hok' hgx hok hV hF hF' hbd hneg hj hlen h hsl huv
   generalize hasB xv.mem (p:Int)=z1 at *
   generalize hasB xv.unt (p:Int)=z2 at *
   have H1:=Lib.hid hm1;have H2:=Lib.hid hm2;clear hm1 hm2
   cases z1
   ·rw [if_pos rfl] at hX
    have HX:=Lib.hid hX;clear hX
    go_enter Tryz.func94,Tryz.ntmps94
    go_wp2_with (first
     |(go_at_call 116;(with_reducible refine Calls.mono (HF.out _) ?_);rintro e w1 ⟨rfl,rfl⟩)
     |(go_at_call 105;(with_reducible refine Calls.mono (HV.out _ (Below.refl _ _)) ?_);rintro e w1 ⟨rfl,hb⟩;(have HB:=Lib.hid hb);(obtain ⟨r2,r3,r4⟩:=HK.out _ hb);clear hb)
     |(go_at_call 117;(with_reducible refine Calls.mono (H1.out _) ?_);rintro e w2 ⟨rfl,rfl⟩)
     |(go_at_call 117;(with_reducible refine Calls.mono (H2.out _) ?_);rintro e w2 ⟨rfl,rfl⟩))
    go_ret
    exact ⟨by rw [HX.out];rfl,HB.out⟩
   ·rw [if_neg (by simp)] at hX
    cases z2
    ·rw [if_neg (by simp)] at hX
     have HX:=Lib.hid hX;clear hX
     go_enter Tryz.func94,Tryz.ntmps94
     go_wp2_with (first
      |(go_at_call 116;(with_reducible refine Calls.mono (HF.out _) ?_);rintro e w1 ⟨rfl,rfl⟩)
      |(go_at_call 105;(with_reducible refine Calls.mono (HV.out _ (Below.refl _ _)) ?_);rintro e w1 ⟨rfl,hb⟩;(have HB:=Lib.hid hb);(obtain ⟨r2,r3,r4⟩:=HK.out _ hb);clear hb)
      |(go_at_call 117;(with_reducible refine Calls.mono (H1.out _) ?_);rintro e w2 ⟨rfl,rfl⟩)
      |(go_at_call 117;(with_reducible refine Calls.mono (H2.out _) ?_);rintro e w2 ⟨rfl,rfl⟩))
     go_ret
     exact ⟨by rw [HX.out];rfl,HB.out⟩
    ·rw [if_pos rfl] at hX
     have HX:=Lib.hid hX;clear hX
     go_enter Tryz.func94,Tryz.ntmps94
     go_wp2_with (first
      |(go_at_call 116;(with_reducible refine Calls.mono (HF.out _) ?_);rintro e w1 ⟨rfl,rfl⟩)
      |(go_at_call 105;(with_reducible refine Calls.mono (HV.out _ (Below.refl _ _)) ?_);rintro e w1 ⟨rfl,hb⟩;(have HB:=Lib.hid hb);(obtain ⟨r2,r3,r4⟩:=HK.out _ hb);clear hb)
      |(go_at_call 117;(with_reducible refine Calls.mono (H1.out _) ?_);rintro e w2 ⟨rfl,rfl⟩)
      |(go_at_call 117;(with_reducible refine Calls.mono (H2.out _) ?_);rintro e w2 ⟨rfl,rfl⟩))
     go_ret
     exact ⟨by rw [HX.out];rfl,HB.out⟩
 ·rw [if_pos hs] at hX
  have hd:decide (s=4)=false:=decide_eq_false hs
  rw [hd] at hF;have HF:=Lib.hid hF;have HX:=Lib.hid hX;clear hF hV hX h hsl hs hd hbd
  go_enter Tryz.func94,Tryz.ntmps94
  go_wp2_with (first
   |(go_at_call 116;(with_reducible refine Calls.mono (HF.out _) ?_);rintro e w1 ⟨rfl,rfl⟩))
  go_ret
  exact ⟨by rw [HX.out];rfl,Below.refl _ _⟩
set_option maxRecDepth 20000 in
set_option maxHeartbeats 3200000 in
theorem zla {w:World} {L A S1 Q bp:Nat} {uv:Value} {P r nv:Nat} {lv:List Vl} {st:Nat->Int×Nat} {G:Nat->Value} (h:MdAt w L A S1 Q uv (.pointer (some ⟨bp,0,none⟩)) P r nv lv st G) (hP:P<=64) (p:Nat) (hp:p<P) (x:Int) (hx:zau x=true) (tt vi:Int) (kv km me un nw li sh bu id:Int):Calls Tryz.prog 58 #[.pointer (some ⟨A,0,none⟩),opV 8 (p:Nat) tt vi x kv km me un nw li sh bu id] w fun e w'=>e=.returned (.int .i64 ((((st p).2+1) % 4294967296:Nat):Int))/\MdAt w' L A S1 Q uv (.pointer (some ⟨bp,0,none⟩)) P r nv lv (updS st p x (((st p).2+1) % 4294967296)) G/\But S1 w w':=by
 have HN:=Lib.hid fun w' (hb:Below w.heap.size w w')=>zae (h.call hb)
 have hmay:=fun w' (hb:Below w.heap.size w w')=>ze3 (h.call hb) (p:Nat) tt vi x kv km me un nw li sh bu id
 have hpb:zah P (p:Int)=true:=by simp [zah];omega
 rw [hpb] at hmay;have HMAY:=Lib.hid hmay
 have HC:=Lib.hid fun w' (hb:Below w.heap.size w w')=>zgn (h.call hb) hP p hp x hx
 have hSz:S1<w.heap.size:=h.stands.lt
 have HBOX:Hid (∀ w',Below (w.heap.size+1) (w.alloc (.cells #[.int .i64 8,.int .i64 (p:Nat),.int .i64 tt,.int .i64 vi,.int .i64 x,.int .i64 kv,.int .u64 km,.int .u64 me,.int .u64 un,.int .u32 nw,.int .u32 li,.int .i64 sh,.int .i64 bu,.int .i64 id] 66)) w'->(w'.cell? ⟨w.heap.size,0,none⟩=some (.int .i64 (8))/\w'.cell? ⟨w.heap.size,1,none⟩=some (.int .i64 ((p:Nat)))/\w'.cell? ⟨w.heap.size,2,none⟩=some (.int .i64 (tt))/\w'.cell? ⟨w.heap.size,3,none⟩=some (.int .i64 (vi))/\w'.cell? ⟨w.heap.size,4,none⟩=some (.int .i64 (x))/\w'.cell? ⟨w.heap.size,5,none⟩=some (.int .i64 kv)/\w'.cell? ⟨w.heap.size,6,none⟩=some (.int .u64 km)/\w'.cell? ⟨w.heap.size,7,none⟩=some (.int .u64 me)/\w'.cell? ⟨w.heap.size,8,none⟩=some (.int .u64 un)/\w'.cell? ⟨w.heap.size,9,none⟩=some (.int .u32 nw)/\w'.cell? ⟨w.heap.size,10,none⟩=some (.int .u32 li)/\w'.cell? ⟨w.heap.size,11,none⟩=some (.int .i64 sh)/\w'.cell? ⟨w.heap.size,12,none⟩=some (.int .i64 bu)/\w'.cell? ⟨w.heap.size,13,none⟩=some (.int .i64 id)) ):=fun w' hb=>by
  refine ⟨?_,?_,?_,?_,?_,?_,?_,?_,?_,?_,?_,?_,?_,?_⟩ <;>
  ·rw [hb.cell (by show w.heap.size<_;omega)]
   simp [go_sem]
 have HLOW:Hid (∀ w',Below (w.heap.size+1) (w.alloc (.cells #[.int .i64 8,.int .i64 (p:Nat),.int .i64 tt,.int .i64 vi,.int .i64 x,.int .i64 kv,.int .u64 km,.int .u64 me,.int .u64 un,.int .u32 nw,.int .u32 li,.int .i64 sh,.int .i64 bu,.int .i64 id] 66)) w'->Below w.heap.size w w'):=fun w' hb=>((Below.refl w.heap.size w).alloc (Nat.le_refl _) _).trans (hb.mono (by omega))
 have HUP:Hid (∀ w' w'',Below (w.heap.size+1) (w.alloc (.cells #[.int .i64 8,.int .i64 (p:Nat),.int .i64 tt,.int .i64 vi,.int .i64 x,.int .i64 kv,.int .u64 km,.int .u64 me,.int .u64 un,.int .u32 nw,.int .u32 li,.int .i64 sh,.int .i64 bu,.int .i64 id] 66)) w'->Below w'.heap.size w' w''->Below (w.heap.size+1) (w.alloc (.cells #[.int .i64 8,.int .i64 (p:Nat),.int .i64 tt,.int .i64 vi,.int .i64 x,.int .i64 kv,.int .u64 km,.int .u64 me,.int .u64 un,.int .u32 nw,.int .u32 li,.int .i64 sh,.int .i64 bu,.int .i64 id] 66)) w''):=fun w' w'' h1 h2=>h1.trans (h2.mono (by have:=h1.size;simp at this;omega))
 have hq:Below (w.heap.size+1) (w.alloc (.cells #[.int .i64 8,.int .i64 (p:Nat),.int .i64 tt,.int .i64 vi,.int .i64 x,.int .i64 kv,.int .u64 km,.int .u64 me,.int .u64 un,.int .u32 nw,.int .u32 li,.int .i64 sh,.int .i64 bu,.int .i64 id] 66)) (w.alloc (.cells #[.int .i64 8,.int .i64 (p:Nat),.int .i64 tt,.int .i64 vi,.int .i64 x,.int .i64 kv,.int .u64 km,.int .u64 me,.int .u64 un,.int .u32 nw,.int .u32 li,.int .i64 sh,.int .i64 bu,.int .i64 id] 66)):=Below.refl _ _;have HH:=Lib.hid h;clear h hmay hpb;unfold opV at HMAY |-
 go_enter Tryz.func58,Tryz.ntmps58
 go_wp2_with (first
  |(go_at_call 80;(with_reducible refine Calls.mono (HN.out _ (HLOW.out _ hq)) ?_);rintro e wa ⟨rfl,hba⟩;(have hq:=HUP.out _ _ hq hba);(obtain ⟨q0,q1,q2,q3,q4,q5,q6,q7,q8,q9,q10,q11,q12,q13⟩:=HBOX.out _ hq);clear hba)
  |(go_at_call 81;(with_reducible refine Calls.mono (HMAY.out _ (HLOW.out _ hq)) ?_);rintro e wa ⟨rfl,hba⟩;(have hq:=HUP.out _ _ hq hba);(obtain ⟨q0,q1,q2,q3,q4,q5,q6,q7,q8,q9,q10,q11,q12,q13⟩:=HBOX.out _ hq);clear hba)
  |(go_at_call 90;(with_reducible refine Calls.mono (HC.out _ (HLOW.out _ hq)) ?_);rintro e wz ⟨rfl,hmd,hbt⟩;(have HMD:=Lib.hid hmd);(have HBT:Hid (But S1 w wz):=(But.of (HLOW.out _ hq) (by omega)).trans hbt);clear hmd hbt hq))
 go_ret
 exact ⟨by first|rfl|(simp;done),HMD.out,HBT.out⟩
set_option maxRecDepth 20000 in
set_option maxHeartbeats 3200000 in
theorem zix {w:World} {L A S1 Q bp:Nat} {uv:Value} {P r nv:Nat} {lv:List Vl} {st:Nat->Int×Nat} {G:Nat->Value} (h:MdAt w L A S1 Q uv (.pointer (some ⟨bp,0,none⟩)) P r nv lv st G) (hok:∀ x∈lv,x.ok) (p:Nat) (hp:p<P) (po vi sx:Int) (kv km me un nw li sh bu id:Int):Calls Tryz.prog 58 #[.pointer (some ⟨A,0,none⟩),opV 12 po (p:Nat) vi sx kv km me un nw li sh bu id] w (Says (.int .i64 (zff lv nv (st p).1 p vi:Nat)) w):=by
 have HN:=Lib.hid fun w' (hb:Below w.heap.size w w')=>zae (h.call hb)
 have hmay:=fun w' (hb:Below w.heap.size w w')=>zf1 (h.call hb) po (p:Nat) vi sx kv km me un nw li sh bu id
 have hpb:zah P (p:Int)=true:=by simp [zah];omega
 rw [hpb] at hmay;have HMAY:=Lib.hid hmay
 have HC:=Lib.hid fun w' (hb:Below w.heap.size w w')=>znu (h.call hb) hok p hp vi
 have HBOX:Hid (∀ w',Below (w.heap.size+1) (w.alloc (.cells #[.int .i64 12,.int .i64 po,.int .i64 (p:Nat),.int .i64 vi,.int .i64 sx,.int .i64 kv,.int .u64 km,.int .u64 me,.int .u64 un,.int .u32 nw,.int .u32 li,.int .i64 sh,.int .i64 bu,.int .i64 id] 66)) w'->(w'.cell? ⟨w.heap.size,0,none⟩=some (.int .i64 (12))/\w'.cell? ⟨w.heap.size,1,none⟩=some (.int .i64 (po))/\w'.cell? ⟨w.heap.size,2,none⟩=some (.int .i64 ((p:Nat)))/\w'.cell? ⟨w.heap.size,3,none⟩=some (.int .i64 (vi))/\w'.cell? ⟨w.heap.size,4,none⟩=some (.int .i64 (sx))/\w'.cell? ⟨w.heap.size,5,none⟩=some (.int .i64 kv)/\w'.cell? ⟨w.heap.size,6,none⟩=some (.int .u64 km)/\w'.cell? ⟨w.heap.size,7,none⟩=some (.int .u64 me)/\w'.cell? ⟨w.heap.size,8,none⟩=some (.int .u64 un)/\w'.cell? ⟨w.heap.size,9,none⟩=some (.int .u32 nw)/\w'.cell? ⟨w.heap.size,10,none⟩=some (.int .u32 li)/\w'.cell? ⟨w.heap.size,11,none⟩=some (.int .i64 sh)/\w'.cell? ⟨w.heap.size,12,none⟩=some (.int .i64 bu)/\w'.cell? ⟨w.heap.size,13,none⟩=some (.int .i64 id)) ):=fun w' hb=>by
  refine ⟨?_,?_,?_,?_,?_,?_,?_,?_,?_,?_,?_,?_,?_,?_⟩ <;>
  ·rw [hb.cell (by show w.heap.size<_;omega)]
   simp [go_sem]
 have HLOW:Hid (∀ w',Below (w.heap.size+1) (w.alloc (.cells #[.int .i64 12,.int .i64 po,.int .i64 (p:Nat),.int .i64 vi,.int .i64 sx,.int .i64 kv,.int .u64 km,.int .u64 me,.int .u64 un,.int .u32 nw,.int .u32 li,.int .i64 sh,.int .i64 bu,.int .i64 id] 66)) w'->Below w.heap.size w w'):=fun w' hb=>((Below.refl w.heap.size w).alloc (Nat.le_refl _) _).trans (hb.mono (by omega))
 have HUP:Hid (∀ w' w'',Below (w.heap.size+1) (w.alloc (.cells #[.int .i64 12,.int .i64 po,.int .i64 (p:Nat),.int .i64 vi,.int .i64 sx,.int .i64 kv,.int .u64 km,.int .u64 me,.int .u64 un,.int .u32 nw,.int .u32 li,.int .i64 sh,.int .i64 bu,.int .i64 id] 66)) w'->Below w'.heap.size w' w''->Below (w.heap.size+1) (w.alloc (.cells #[.int .i64 12,.int .i64 po,.int .i64 (p:Nat),.int .i64 vi,.int .i64 sx,.int .i64 kv,.int .u64 km,.int .u64 me,.int .u64 un,.int .u32 nw,.int .u32 li,.int .i64 sh,.int .i64 bu,.int .i64 id] 66)) w''):=fun w' w'' h1 h2=>h1.trans (h2.mono (by have:=h1.size;simp at this;omega))
 have hq:Below (w.heap.size+1) (w.alloc (.cells #[.int .i64 12,.int .i64 po,.int .i64 (p:Nat),.int .i64 vi,.int .i64 sx,.int .i64 kv,.int .u64 km,.int .u64 me,.int .u64 un,.int .u32 nw,.int .u32 li,.int .i64 sh,.int .i64 bu,.int .i64 id] 66)) (w.alloc (.cells #[.int .i64 12,.int .i64 po,.int .i64 (p:Nat),.int .i64 vi,.int .i64 sx,.int .i64 kv,.int .u64 km,.int .u64 me,.int .u64 un,.int .u32 nw,.int .u32 li,.int .i64 sh,.int .i64 bu,.int .i64 id] 66)):=Below.refl _ _;have HH:=Lib.hid h;clear h hmay hpb;unfold opV at HMAY |-
 go_enter Tryz.func58,Tryz.ntmps58
 go_wp2_with (first
  |(go_at_call 80;(with_reducible refine Calls.mono (HN.out _ (HLOW.out _ hq)) ?_);rintro e wa ⟨rfl,hba⟩;(have hq:=HUP.out _ _ hq hba);(obtain ⟨q0,q1,q2,q3,q4,q5,q6,q7,q8,q9,q10,q11,q12,q13⟩:=HBOX.out _ hq);clear hba)
  |(go_at_call 81;(with_reducible refine Calls.mono (HMAY.out _ (HLOW.out _ hq)) ?_);rintro e wa ⟨rfl,hba⟩;(have hq:=HUP.out _ _ hq hba);(obtain ⟨q0,q1,q2,q3,q4,q5,q6,q7,q8,q9,q10,q11,q12,q13⟩:=HBOX.out _ hq);clear hba)
  |(go_at_call 94;(with_reducible refine Calls.mono (HC.out _ (HLOW.out _ hq)) ?_);rintro e wz ⟨rfl,hbz⟩;(have HBZ:=Lib.hid (HLOW.out _ (HUP.out _ _ hq hbz)));clear hbz hq))
 go_ret
 exact ⟨by first|rfl|(simp;done),HBZ.out⟩
end Go.Proofs.YtfekhdgjgjodlaaGreat
