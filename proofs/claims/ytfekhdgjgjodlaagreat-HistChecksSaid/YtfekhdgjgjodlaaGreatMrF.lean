/-
  Words and contracts that a statement's proof rests on (MrF). No statement is proved here.
-/
import Derived.Test.YtfekhdgjgjodlaaGreatMrD
set_option linter.unusedVariables false
set_option linter.unusedSimpArgs false
namespace Go.Proofs.YtfekhdgjgjodlaaGreat
open Go.RowKit
set_option maxRecDepth 20000 in
set_option maxHeartbeats 6400000 in
theorem zkv {E:Nat->Prop} {w:World} {L A S1 Q cQ:Nat} {X:Nat->Value} {bp bq P r S B n nv:Nat} {uv:Value} {lv:List Vl} {st:Nat->Int×Nat} {g:Nat->Nat->Pl} {G:Nat->Value} {R:Nat->Nat} {qv:Nat->Nat->Value} {qs:Nat->Nat->List Int} (h:RfAll E w L A S1 Q cQ X bp bq P r S B n nv uv lv st g G R qv qs) (p:Nat) (hp:p<P) (hs:(st p).1≠4) (po vi sx kv km me un nw li sh bu id:Int):Calls Tryz.prog 19 #[.pointer (some ⟨A,0,none⟩),opV 12 po ((p:Nat)) vi sx kv km me un nw li sh bu id] w (Says (.int .i64 0) w):=by
 have d1:decide (p<P)=true:=decide_eq_true hp
 obtain ⟨x4,hx4⟩:∃ x,x=(st p).1:=⟨_,rfl⟩
 have t4:(x4 == 4)=false:=by rw [hx4];simpa using hs
 have hfd:=fun w' (hb:Below w.heap.size w w')=>zag (Sl.of_own (h.call hb).md.vlans) (Nat.le_refl _) vi
 have HFD:=Lib.hid hfd;obtain ⟨w0,hw0⟩:∃ z,z=(w.alloc (.cells #[.int .i64 (12),.int .i64 (po),.int .i64 ((p:Nat)),.int .i64 (vi),.int .i64 (sx),.int .i64 (kv),.int .u64 (km),.int .u64 (me),.int .u64 (un),.int .u32 (nw),.int .u32 (li),.int .i64 (sh),.int .i64 (bu),.int .i64 (id)] 55)):=⟨_,rfl⟩
 have HB0:Hid (Below w.heap.size w w0):=by rw [hw0];exact (Below.refl _ _).alloc (Nat.le_refl _) _
 have HBOX:=Lib.hid (zbp hw0)
 have hwz:w.heap.size<w0.heap.size:=by rw [hw0];simp
 have hp0:=fun w' (hb:Below w.heap.size w w')=>zal (h.call hb) ((p:Nat))
 rw [zan hp] at hp0;have HP0:=Lib.hid hp0;clear hp0;have HH:=Lib.hid h;have hAz:A<w.heap.size:=h.md.cells.lt;clear h hfd;unfold opV
 go_enter Tryz.func19,Tryz.ntmps19
 go_wp2_with (first
  |(go_at_call 39;(with_reducible refine Calls.mono (HP0.out _ ((Below.refl _ _).alloc (Nat.le_refl _) _)) ?_);rintro e _ ⟨rfl,rfl⟩)
  |fail)
 rw [<- hw0];clear hw0;obtain ⟨q0,q1,q2,q3,q4,q5,q6,q7,q8,q9,q10,q11,q12,q13⟩:=HBOX.out _ (Below.refl _ _)
 have c11:w0.cell? ⟨A,11,none⟩=some uv:=(HH.out.call HB0.out).md.cells.cell (by omega)
 refine wp_region_held_drew (S:=fun w'=>w'.cell? ⟨A,11,none⟩=some uv/\w'.cell? ⟨w.heap.size,3,none⟩=some (.int .i64 (vi))) (by kernel_rfl) ?_ (fun hHeld=>?_)
 ·exact ⟨c11,q3⟩
 obtain ⟨v0,hv0⟩:∃ w',w'=w0.drew:=⟨_,rfl⟩
 have hvb:Below w0.heap.size w0 v0:=by rw [hv0];exact (Below.refl _ _).drew
 have HVZ:Hid (v0.heap.size=w0.heap.size):=by show _=_;rw [hv0];rfl
 rw [<- hv0] at hHeld |-;clear hv0;refine tk 0 ?_;refine tk 1 ?_;refine tk 2 ?_;refine tk 3 ?_;refine tk 4 ?_;refine tk 5 ?_
 refine clR 6 rfl fun K hK=>?_
 go_simp
 refine Calls.mono (HFD.out _ (HB0.out.trans (hvb.mono HB0.out.size))) ?_
 rintro e w1 ⟨rfl,hb1⟩
 have HB1':Hid (Below w0.heap.size w0 w1):=hvb.trans (hb1.mono (by rw [HVZ.out];exact Nat.le_refl _))
 have hz1:w0.heap.size<=w1.heap.size:=HB1'.out.size
 refine hK.out _ _ ?_ (fun hHeld=>?_)
 ·(try dsimp only)
  obtain ⟨x0,x1⟩:=hHeld
  exact ⟨(hb1.cell (p:=⟨A,11,none⟩) (by show A<v0.heap.size;rw [HVZ.out];omega)).trans x0,(hb1.cell (p:=⟨w.heap.size,3,none⟩) (by show w.heap.size<v0.heap.size;rw [HVZ.out];omega)).trans x1⟩
 clear hK K;refine tk 7 ?_
 refine dnR ?_
 have HB1:Hid (Below w.heap.size w w1):=HB0.out.trans (HB1'.out.mono HB0.out.size);have HM:=Lib.hid (HH.out.call HB1.out);clear hHeld c11 q0 q1 q2 q3 q4 q5 q6 q7 q8 q9 q10 q11 q12 q13 hb1 hvb;obtain ⟨q0,q1,q2,q3,q4,q5,q6,q7,q8,q9,q10,q11,q12,q13⟩:=HBOX.out _ HB1'.out
 have c10:w1.cell? ⟨A,10,none⟩=some (.slice (some ⟨S1,0,none⟩) P (capV (X 10))):=HM.out.md.cells.cell (by omega)
 have s0:w1.cell? ⟨S1,p*2,none⟩=some (.int .i64 (st p).1):=(HM.out.md.stands.cell (by omega)).trans (by rw [zeh])
 rw [<- hx4] at s0;clear hs
 go_wp2_with fail
 refine wp_region_held_drew (S:=fun w'=>w'.cell? ⟨A,10,none⟩=some (.slice (some ⟨S1,0,none⟩) P (capV (X 10)))/\w'.cell? ⟨w.heap.size,2,none⟩=some (.int .i64 (p:Nat))/\w'.cell? ⟨S1,p*2,none⟩=some (.int .i64 x4)) (by kernel_rfl) ?_ (fun hHeld=>?_)
 ·exact ⟨c10,q2,s0⟩
 obtain ⟨v1,hv0⟩:∃ w',w'=w1.drew:=⟨_,rfl⟩
 have hvb:Below w1.heap.size w1 v1:=by rw [hv0];exact (Below.refl _ _).drew
 have HVZ:Hid (v1.heap.size=w1.heap.size):=by show _=_;rw [hv0];rfl
 rw [<- hv0] at hHeld |-;clear hv0;refine tk 0 ?_;refine tk 1 ?_;refine tk 2 ?_;refine tk 3 ?_;refine tk 4 ?_;refine tk 5 ?_;refine tk 6 ?_;refine tk 7 ?_;refine tk 8 ?_;refine tk 9 ?_
 refine dnR ?_
 have HBV:Hid (Below w.heap.size w v1):=HB1.out.trans (hvb.mono HB1.out.size);have HBW:Hid (Below w0.heap.size w0 v1):=HB1'.out.trans (hvb.mono HB1'.out.size);clear hHeld c10 s0 q0 q1 q2 q3 q4 q5 q6 q7 q8 q9 q10 q11 q12 q13 hvb HVZ
 go_wp2
 go_ret
 exact ⟨by first|rfl|(simp;done),HBV.out⟩
set_option maxRecDepth 20000 in
set_option maxHeartbeats 6400000 in
theorem zkb {E:Nat->Prop} {w:World} {L A S1 Q cQ:Nat} {X:Nat->Value} {bp bq P r S B n nv:Nat} {uv:Value} {lv:List Vl} {st:Nat->Int×Nat} {g:Nat->Nat->Pl} {G:Nat->Value} {R:Nat->Nat} {qv:Nat->Nat->Value} {qs:Nat->Nat->List Int} (h:RfAll E w L A S1 Q cQ X bp bq P r S B n nv uv lv st g G R qv qs) (p:Nat) (hp:p<P) (vi:Int) (hs:(st p).1=4) (hneg:zax lv vi nv<0) (po sx kv km me un nw li sh bu id:Int):Calls Tryz.prog 19 #[.pointer (some ⟨A,0,none⟩),opV 12 po ((p:Nat)) vi sx kv km me un nw li sh bu id] w (Says (.int .i64 1) w):=by
 have d1:decide (p<P)=true:=decide_eq_true hp
 have hm:zax lv vi nv=-1:=by have h1:=(zba (zb7 lv vi) nv).1;unfold zax at hneg |-;omega
 have hfd:=fun w' (hb:Below w.heap.size w w')=>zag (Sl.of_own (h.call hb).md.vlans) (Nat.le_refl _) vi
 rw [hm] at hfd;have HFD:=Lib.hid hfd;obtain ⟨w0,hw0⟩:∃ z,z=(w.alloc (.cells #[.int .i64 (12),.int .i64 (po),.int .i64 ((p:Nat)),.int .i64 (vi),.int .i64 (sx),.int .i64 (kv),.int .u64 (km),.int .u64 (me),.int .u64 (un),.int .u32 (nw),.int .u32 (li),.int .i64 (sh),.int .i64 (bu),.int .i64 (id)] 55)):=⟨_,rfl⟩
 have HB0:Hid (Below w.heap.size w w0):=by rw [hw0];exact (Below.refl _ _).alloc (Nat.le_refl _) _
 have HBOX:=Lib.hid (zbp hw0)
 have hwz:w.heap.size<w0.heap.size:=by rw [hw0];simp
 have hp0:=fun w' (hb:Below w.heap.size w w')=>zal (h.call hb) ((p:Nat))
 rw [zan hp] at hp0;have HP0:=Lib.hid hp0;clear hp0;have HH:=Lib.hid h;have hAz:A<w.heap.size:=h.md.cells.lt;clear h hfd;unfold opV
 go_enter Tryz.func19,Tryz.ntmps19
 go_wp2_with (first
  |(go_at_call 39;(with_reducible refine Calls.mono (HP0.out _ ((Below.refl _ _).alloc (Nat.le_refl _) _)) ?_);rintro e _ ⟨rfl,rfl⟩)
  |fail)
 rw [<- hw0];clear hw0;obtain ⟨q0,q1,q2,q3,q4,q5,q6,q7,q8,q9,q10,q11,q12,q13⟩:=HBOX.out _ (Below.refl _ _)
 have c11:w0.cell? ⟨A,11,none⟩=some uv:=(HH.out.call HB0.out).md.cells.cell (by omega)
 refine wp_region_held_drew (S:=fun w'=>w'.cell? ⟨A,11,none⟩=some uv/\w'.cell? ⟨w.heap.size,3,none⟩=some (.int .i64 (vi))) (by kernel_rfl) ?_ (fun hHeld=>?_)
 ·exact ⟨c11,q3⟩
 obtain ⟨v0,hv0⟩:∃ w',w'=w0.drew:=⟨_,rfl⟩
 have hvb:Below w0.heap.size w0 v0:=by rw [hv0];exact (Below.refl _ _).drew
 have HVZ:Hid (v0.heap.size=w0.heap.size):=by show _=_;rw [hv0];rfl
 rw [<- hv0] at hHeld |-;clear hv0;refine tk 0 ?_;refine tk 1 ?_;refine tk 2 ?_;refine tk 3 ?_;refine tk 4 ?_;refine tk 5 ?_
 refine clR 6 rfl fun K hK=>?_
 go_simp
 refine Calls.mono (HFD.out _ (HB0.out.trans (hvb.mono HB0.out.size))) ?_
 rintro e w1 ⟨rfl,hb1⟩
 have HB1':Hid (Below w0.heap.size w0 w1):=hvb.trans (hb1.mono (by rw [HVZ.out];exact Nat.le_refl _))
 have hz1:w0.heap.size<=w1.heap.size:=HB1'.out.size
 refine hK.out _ _ ?_ (fun hHeld=>?_)
 ·(try dsimp only)
  obtain ⟨x0,x1⟩:=hHeld
  exact ⟨(hb1.cell (p:=⟨A,11,none⟩) (by show A<v0.heap.size;rw [HVZ.out];omega)).trans x0,(hb1.cell (p:=⟨w.heap.size,3,none⟩) (by show w.heap.size<v0.heap.size;rw [HVZ.out];omega)).trans x1⟩
 clear hK K;refine tk 7 ?_
 refine dnR ?_
 have HB1:Hid (Below w.heap.size w w1):=HB0.out.trans (HB1'.out.mono HB0.out.size);have HM:=Lib.hid (HH.out.call HB1.out);clear hHeld c11 q0 q1 q2 q3 q4 q5 q6 q7 q8 q9 q10 q11 q12 q13 hb1 hvb;obtain ⟨q0,q1,q2,q3,q4,q5,q6,q7,q8,q9,q10,q11,q12,q13⟩:=HBOX.out _ HB1'.out
 have c10:w1.cell? ⟨A,10,none⟩=some (.slice (some ⟨S1,0,none⟩) P (capV (X 10))):=HM.out.md.cells.cell (by omega)
 have s0:w1.cell? ⟨S1,p*2,none⟩=some (.int .i64 4):=(HM.out.md.stands.cell (by omega)).trans (by rw [zeh,hs])
 go_wp2_with fail
 refine wp_region_held_drew (S:=fun w'=>w'.cell? ⟨A,10,none⟩=some (.slice (some ⟨S1,0,none⟩) P (capV (X 10)))/\w'.cell? ⟨w.heap.size,2,none⟩=some (.int .i64 (p:Nat))/\w'.cell? ⟨S1,p*2,none⟩=some (.int .i64 4)) (by kernel_rfl) ?_ (fun hHeld=>?_)
 ·exact ⟨c10,q2,s0⟩
 obtain ⟨v1,hv0⟩:∃ w',w'=w1.drew:=⟨_,rfl⟩
 have hvb:Below w1.heap.size w1 v1:=by rw [hv0];exact (Below.refl _ _).drew
 have HVZ:Hid (v1.heap.size=w1.heap.size):=by show _=_;rw [hv0];rfl
 rw [<- hv0] at hHeld |-;clear hv0;refine tk 0 ?_;refine tk 1 ?_;refine tk 2 ?_;refine tk 3 ?_;refine tk 4 ?_;refine tk 5 ?_;refine tk 6 ?_;refine tk 7 ?_;refine tk 8 ?_;refine tk 9 ?_
 refine dnR ?_
 have HBV:Hid (Below w.heap.size w v1):=HB1.out.trans (hvb.mono HB1.out.size);have HBW:Hid (Below w0.heap.size w0 v1):=HB1'.out.trans (hvb.mono HB1'.out.size);clear hHeld c10 s0 q0 q1 q2 q3 q4 q5 q6 q7 q8 q9 q10 q11 q12 q13 hvb HVZ;obtain ⟨q0,q1,q2,q3,q4,q5,q6,q7,q8,q9,q10,q11,q12,q13⟩:=HBOX.out _ HBW.out
 go_wp2_with fail
 refine wp_region_held_drew (S:=fun w'=>w'.cell? ⟨w.heap.size,2,none⟩=some (.int .i64 (p:Nat))) (by kernel_rfl) ?_ (fun hHeld=>?_)
 ·exact q2
 obtain ⟨v2,hv0⟩:∃ w',w'=v1.drew:=⟨_,rfl⟩
 have hvb:Below v1.heap.size v1 v2:=by rw [hv0];exact (Below.refl _ _).drew
 have HVZ:Hid (v2.heap.size=v1.heap.size):=by show _=_;rw [hv0];rfl
 rw [<- hv0] at hHeld |-;clear hv0;refine tk 0 ?_;refine tk 1 ?_;refine tk 2 ?_;refine skR 3 rfl ?_;refine skR 4 rfl ?_;refine skR 5 rfl ?_;refine skR 6 rfl ?_;refine skR 7 rfl ?_;refine skR 8 rfl ?_;refine skR 9 rfl ?_;refine skR 10 rfl ?_;refine skR 11 rfl ?_;refine skR 12 rfl ?_;refine skR 13 rfl ?_;refine skR 14 rfl ?_;refine tk 15 ?_
 refine dnR ?_
 have HBX:Hid (Below w.heap.size w v2):=HBV.out.trans (hvb.mono HBV.out.size);clear hHeld q0 q1 q2 q3 q4 q5 q6 q7 q8 q9 q10 q11 q12 q13 hvb HVZ
 go_wp2
 go_ret
 exact ⟨by first|rfl|(simp;done),HBX.out⟩
set_option maxRecDepth 20000 in
set_option maxHeartbeats 6400000 in
theorem zkm {E:Nat->Prop} {w:World} {L A S1 Q cQ:Nat} {X:Nat->Value} {bp bq P r S B n nv:Nat} {uv:Value} {lv:List Vl} {st:Nat->Int×Nat} {g:Nat->Nat->Pl} {G:Nat->Value} {R:Nat->Nat} {qv:Nat->Nat->Value} {qs:Nat->Nat->List Int} (h:RfAll E w L A S1 Q cQ X bp bq P r S B n nv uv lv st g G R qv qs) (p:Nat) (hp:p<P) (vi:Int) (hs:(st p).1=4) (j:Nat) (hj:zax lv vi nv=(j:Int)) (hok:(lv.getD j vl0).ok) (hme:hasB (lv.getD j vl0).mem (p:Int)=false) (po sx kv km me un nw li sh bu id:Int):Calls Tryz.prog 19 #[.pointer (some ⟨A,0,none⟩),opV 12 po ((p:Nat)) vi sx kv km me un nw li sh bu id] w (Says (.int .i64 1) w):=by
 have d1:decide (p<P)=true:=decide_eq_true hp
 have hjn:j<nv:=by have h1:=(zba (zb7 lv vi) nv).2;unfold zax at hj;omega
 have hsl:=Sl.of_own h.md.vlans
 obtain ⟨b0,off,cap,e,hc1,hc2,hb0,hlen,hcell⟩:=hsl.vlAt (by omega)
 obtain ⟨k0,k1,k2⟩:=hcell j hjn;obtain ⟨xv,hxv⟩:∃ x,x=lv.getD j vl0:=⟨_,rfl⟩;rw [<- hxv] at k1 k2 hok hme;subst e
 have HK:=Lib.hid fun w' (hb:Below w.heap.size w w')=>And.intro ((hb.cell (p:=⟨b0,off+j*3+1,none⟩) hb0).trans k1) ((hb.cell (p:=⟨b0,off+j*3+2,none⟩) hb0).trans k2)
 have d2:decide (j<nv)=true:=decide_eq_true hjn
 have g0:(0:Int)<=(j:Int):=Int.natCast_nonneg _
 have d3:decide ((j:Int)<0)=false:=by simp
 clear hcell k0 k1 k2 hlen hsl;clear hxv
 have hhm:=fun w=>zbo xv.mem hok.2.1 (p:Int) w
 rw [hme] at hhm;have HHM:=Lib.hid hhm;clear hhm
 have hfd:=fun w' (hb:Below w.heap.size w w')=>zag (Sl.of_own (h.call hb).md.vlans) (Nat.le_refl _) vi
 rw [hj] at hfd;have HFD:=Lib.hid hfd;obtain ⟨w0,hw0⟩:∃ z,z=(w.alloc (.cells #[.int .i64 (12),.int .i64 (po),.int .i64 ((p:Nat)),.int .i64 (vi),.int .i64 (sx),.int .i64 (kv),.int .u64 (km),.int .u64 (me),.int .u64 (un),.int .u32 (nw),.int .u32 (li),.int .i64 (sh),.int .i64 (bu),.int .i64 (id)] 55)):=⟨_,rfl⟩
 have HB0:Hid (Below w.heap.size w w0):=by rw [hw0];exact (Below.refl _ _).alloc (Nat.le_refl _) _
 have HBOX:=Lib.hid (zbp hw0)
 have hwz:w.heap.size<w0.heap.size:=by rw [hw0];simp
 have hp0:=fun w' (hb:Below w.heap.size w w')=>zal (h.call hb) ((p:Nat))
 rw [zan hp] at hp0;have HP0:=Lib.hid hp0;clear hp0;have HH:=Lib.hid h;have hAz:A<w.heap.size:=h.md.cells.lt;clear h hfd;unfold opV
 go_enter Tryz.func19,Tryz.ntmps19
 go_wp2_with (first
  |(go_at_call 39;(with_reducible refine Calls.mono (HP0.out _ ((Below.refl _ _).alloc (Nat.le_refl _) _)) ?_);rintro e _ ⟨rfl,rfl⟩)
  |fail)
 rw [<- hw0];clear hw0;obtain ⟨q0,q1,q2,q3,q4,q5,q6,q7,q8,q9,q10,q11,q12,q13⟩:=HBOX.out _ (Below.refl _ _)
 have c11:w0.cell? ⟨A,11,none⟩=some (.slice (some ⟨b0,off,none⟩) nv cap):=(HH.out.call HB0.out).md.cells.cell (by omega)
 refine wp_region_held_drew (S:=fun w'=>w'.cell? ⟨A,11,none⟩=some (.slice (some ⟨b0,off,none⟩) nv cap)/\w'.cell? ⟨w.heap.size,3,none⟩=some (.int .i64 (vi))) (by kernel_rfl) ?_ (fun hHeld=>?_)
 ·exact ⟨c11,q3⟩
 obtain ⟨v0,hv0⟩:∃ w',w'=w0.drew:=⟨_,rfl⟩
 have hvb:Below w0.heap.size w0 v0:=by rw [hv0];exact (Below.refl _ _).drew
 have HVZ:Hid (v0.heap.size=w0.heap.size):=by show _=_;rw [hv0];rfl
 rw [<- hv0] at hHeld |-;clear hv0;refine tk 0 ?_;refine tk 1 ?_;refine tk 2 ?_;refine tk 3 ?_;refine tk 4 ?_;refine tk 5 ?_
 refine clR 6 rfl fun K hK=>?_
 go_simp
 refine Calls.mono (HFD.out _ (HB0.out.trans (hvb.mono HB0.out.size))) ?_
 rintro e w1 ⟨rfl,hb1⟩
 have HB1':Hid (Below w0.heap.size w0 w1):=hvb.trans (hb1.mono (by rw [HVZ.out];exact Nat.le_refl _))
 have hz1:w0.heap.size<=w1.heap.size:=HB1'.out.size
 refine hK.out _ _ ?_ (fun hHeld=>?_)
 ·(try dsimp only)
  obtain ⟨x0,x1⟩:=hHeld
  exact ⟨(hb1.cell (p:=⟨A,11,none⟩) (by show A<v0.heap.size;rw [HVZ.out];omega)).trans x0,(hb1.cell (p:=⟨w.heap.size,3,none⟩) (by show w.heap.size<v0.heap.size;rw [HVZ.out];omega)).trans x1⟩
 clear hK K;refine tk 7 ?_
 refine dnR ?_
 have HB1:Hid (Below w.heap.size w w1):=HB0.out.trans (HB1'.out.mono HB0.out.size);have HM:=Lib.hid (HH.out.call HB1.out);clear hHeld c11 q0 q1 q2 q3 q4 q5 q6 q7 q8 q9 q10 q11 q12 q13 hb1 hvb;obtain ⟨q0,q1,q2,q3,q4,q5,q6,q7,q8,q9,q10,q11,q12,q13⟩:=HBOX.out _ HB1'.out
 have c10:w1.cell? ⟨A,10,none⟩=some (.slice (some ⟨S1,0,none⟩) P (capV (X 10))):=HM.out.md.cells.cell (by omega)
 have s0:w1.cell? ⟨S1,p*2,none⟩=some (.int .i64 4):=(HM.out.md.stands.cell (by omega)).trans (by rw [zeh,hs])
 go_wp2_with fail
 refine wp_region_held_drew (S:=fun w'=>w'.cell? ⟨A,10,none⟩=some (.slice (some ⟨S1,0,none⟩) P (capV (X 10)))/\w'.cell? ⟨w.heap.size,2,none⟩=some (.int .i64 (p:Nat))/\w'.cell? ⟨S1,p*2,none⟩=some (.int .i64 4)) (by kernel_rfl) ?_ (fun hHeld=>?_)
 ·exact ⟨c10,q2,s0⟩
 obtain ⟨v1,hv0⟩:∃ w',w'=w1.drew:=⟨_,rfl⟩
 have hvb:Below w1.heap.size w1 v1:=by rw [hv0];exact (Below.refl _ _).drew
 have HVZ:Hid (v1.heap.size=w1.heap.size):=by show _=_;rw [hv0];rfl
 rw [<- hv0] at hHeld |-;clear hv0;refine tk 0 ?_;refine tk 1 ?_;refine tk 2 ?_;refine tk 3 ?_;refine tk 4 ?_;refine tk 5 ?_;refine tk 6 ?_;refine tk 7 ?_;refine tk 8 ?_;refine tk 9 ?_
 refine dnR ?_
 have HBV:Hid (Below w.heap.size w v1):=HB1.out.trans (hvb.mono HB1.out.size);have HBW:Hid (Below w0.heap.size w0 v1):=HB1'.out.trans (hvb.mono HB1'.out.size);clear hHeld c10 s0 q0 q1 q2 q3 q4 q5 q6 q7 q8 q9 q10 q11 q12 q13 hvb HVZ;obtain ⟨q0,q1,q2,q3,q4,q5,q6,q7,q8,q9,q10,q11,q12,q13⟩:=HBOX.out _ HBW.out;obtain ⟨r1,r2⟩:=HK.out _ HBV.out
 have c11:v1.cell? ⟨A,11,none⟩=some (.slice (some ⟨b0,off,none⟩) nv cap):=(HH.out.call HBV.out).md.cells.cell (by omega)
 go_wp2_with fail
 refine wp_region_held_drew (S:=fun w'=>w'.cell? ⟨A,11,none⟩=some (.slice (some ⟨b0,off,none⟩) nv cap)/\w'.cell? ⟨w.heap.size,2,none⟩=some (.int .i64 (p:Nat))/\w'.cell? ⟨b0,off+j*3+1,none⟩=some (.int .u64 (xv.mem:Nat))) (by kernel_rfl) ?_ (fun hHeld=>?_)
 ·exact ⟨c11,q2,r1⟩
 obtain ⟨v2,hv0⟩:∃ w',w'=v1.drew:=⟨_,rfl⟩
 have hvb:Below v1.heap.size v1 v2:=by rw [hv0];exact (Below.refl _ _).drew
 have HVZ:Hid (v2.heap.size=v1.heap.size):=by show _=_;rw [hv0];rfl
 rw [<- hv0] at hHeld |-;clear hv0;refine tk 0 ?_;refine tk 1 ?_;refine tk 2 ?_;refine tk 3 ?_;refine tk 4 ?_;refine tk 5 ?_;refine tk 6 ?_;refine tk 7 ?_;refine tk 8 ?_;refine tk 9 ?_;refine tk 10 ?_;refine tk 11 ?_;refine tk 12 ?_
 refine clR 13 rfl fun K hK=>?_
 go_simp
 refine Calls.mono (HHM.out _) ?_
 rintro e _ ⟨rfl,rfl⟩
 refine hK.out _ _ ?_ (fun hHeld=>?_)
 ·(try dsimp only)
  exact hHeld
 clear hK K;refine tk 14 ?_;refine tk 15 ?_
 refine dnR ?_
 have HBX:Hid (Below w.heap.size w v2):=HBV.out.trans (hvb.mono HBV.out.size);have HBY:Hid (Below w0.heap.size w0 v2):=HBW.out.trans (hvb.mono HBW.out.size);clear hHeld c11 r1 r2 q0 q1 q2 q3 q4 q5 q6 q7 q8 q9 q10 q11 q12 q13 hvb HVZ
 go_wp2
 go_ret
 exact ⟨by first|rfl|(simp;done),HBX.out⟩
set_option maxRecDepth 20000 in
set_option maxHeartbeats 6400000 in
theorem zj0 {E:Nat->Prop} {w:World} {L A S1 Q cQ:Nat} {X:Nat->Value} {bp bq P r S B n nv:Nat} {uv:Value} {lv:List Vl} {st:Nat->Int×Nat} {g:Nat->Nat->Pl} {G:Nat->Value} {R:Nat->Nat} {qv:Nat->Nat->Value} {qs:Nat->Nat->List Int} (h:RfAll E w L A S1 Q cQ X bp bq P r S B n nv uv lv st g G R qv qs) (p:Nat) (hp:p<P) (vi:Int) (hs:(st p).1=4) (j:Nat) (hj:zax lv vi nv=(j:Int)) (hok:(lv.getD j vl0).ok) (hme:hasB (lv.getD j vl0).mem (p:Int)=true) (hun:hasB (lv.getD j vl0).unt (p:Int)=true) (po sx kv km me un nw li sh bu id:Int):Calls Tryz.prog 19 #[.pointer (some ⟨A,0,none⟩),opV 12 po ((p:Nat)) vi sx kv km me un nw li sh bu id] w (Says (.int .i64 2) w):=by
 have d1:decide (p<P)=true:=decide_eq_true hp
 have hjn:j<nv:=by have h1:=(zba (zb7 lv vi) nv).2;unfold zax at hj;omega
 have hsl:=Sl.of_own h.md.vlans
 obtain ⟨b0,off,cap,e,hc1,hc2,hb0,hlen,hcell⟩:=hsl.vlAt (by omega)
 obtain ⟨k0,k1,k2⟩:=hcell j hjn;obtain ⟨xv,hxv⟩:∃ x,x=lv.getD j vl0:=⟨_,rfl⟩;rw [<- hxv] at k1 k2 hok hme hun;subst e
 have HK:=Lib.hid fun w' (hb:Below w.heap.size w w')=>And.intro ((hb.cell (p:=⟨b0,off+j*3+1,none⟩) hb0).trans k1) ((hb.cell (p:=⟨b0,off+j*3+2,none⟩) hb0).trans k2)
 have d2:decide (j<nv)=true:=decide_eq_true hjn
 have g0:(0:Int)<=(j:Int):=Int.natCast_nonneg _
 have d3:decide ((j:Int)<0)=false:=by simp
 clear hcell k0 k1 k2 hlen hsl;clear hxv
 have hhm:=fun w=>zbo xv.mem hok.2.1 (p:Int) w
 rw [hme] at hhm;have HHM:=Lib.hid hhm;clear hhm
 have hhu:=fun w=>zbo xv.unt hok.2.2 (p:Int) w
 rw [hun] at hhu;have HHU:=Lib.hid hhu;clear hhu
 have hfd:=fun w' (hb:Below w.heap.size w w')=>zag (Sl.of_own (h.call hb).md.vlans) (Nat.le_refl _) vi
 rw [hj] at hfd;have HFD:=Lib.hid hfd;obtain ⟨w0,hw0⟩:∃ z,z=(w.alloc (.cells #[.int .i64 (12),.int .i64 (po),.int .i64 ((p:Nat)),.int .i64 (vi),.int .i64 (sx),.int .i64 (kv),.int .u64 (km),.int .u64 (me),.int .u64 (un),.int .u32 (nw),.int .u32 (li),.int .i64 (sh),.int .i64 (bu),.int .i64 (id)] 55)):=⟨_,rfl⟩
 have HB0:Hid (Below w.heap.size w w0):=by rw [hw0];exact (Below.refl _ _).alloc (Nat.le_refl _) _
 have HBOX:=Lib.hid (zbp hw0)
 have hwz:w.heap.size<w0.heap.size:=by rw [hw0];simp
 have hp0:=fun w' (hb:Below w.heap.size w w')=>zal (h.call hb) ((p:Nat))
 rw [zan hp] at hp0;have HP0:=Lib.hid hp0;clear hp0;have HH:=Lib.hid h;have hAz:A<w.heap.size:=h.md.cells.lt;clear h hfd;unfold opV
 go_enter Tryz.func19,Tryz.ntmps19
 go_wp2_with (first
  |(go_at_call 39;(with_reducible refine Calls.mono (HP0.out _ ((Below.refl _ _).alloc (Nat.le_refl _) _)) ?_);rintro e _ ⟨rfl,rfl⟩)
  |fail)
 rw [<- hw0];clear hw0;obtain ⟨q0,q1,q2,q3,q4,q5,q6,q7,q8,q9,q10,q11,q12,q13⟩:=HBOX.out _ (Below.refl _ _)
 have c11:w0.cell? ⟨A,11,none⟩=some (.slice (some ⟨b0,off,none⟩) nv cap):=(HH.out.call HB0.out).md.cells.cell (by omega)
 refine wp_region_held_drew (S:=fun w'=>w'.cell? ⟨A,11,none⟩=some (.slice (some ⟨b0,off,none⟩) nv cap)/\w'.cell? ⟨w.heap.size,3,none⟩=some (.int .i64 (vi))) (by kernel_rfl) ?_ (fun hHeld=>?_)
 ·exact ⟨c11,q3⟩
 obtain ⟨v0,hv0⟩:∃ w',w'=w0.drew:=⟨_,rfl⟩
 have hvb:Below w0.heap.size w0 v0:=by rw [hv0];exact (Below.refl _ _).drew
 have HVZ:Hid (v0.heap.size=w0.heap.size):=by show _=_;rw [hv0];rfl
 rw [<- hv0] at hHeld |-;clear hv0;refine tk 0 ?_;refine tk 1 ?_;refine tk 2 ?_;refine tk 3 ?_;refine tk 4 ?_;refine tk 5 ?_
 refine clR 6 rfl fun K hK=>?_
 go_simp
 refine Calls.mono (HFD.out _ (HB0.out.trans (hvb.mono HB0.out.size))) ?_
 rintro e w1 ⟨rfl,hb1⟩
 have HB1':Hid (Below w0.heap.size w0 w1):=hvb.trans (hb1.mono (by rw [HVZ.out];exact Nat.le_refl _))
 have hz1:w0.heap.size<=w1.heap.size:=HB1'.out.size
 refine hK.out _ _ ?_ (fun hHeld=>?_)
 ·(try dsimp only)
  obtain ⟨x0,x1⟩:=hHeld
  exact ⟨(hb1.cell (p:=⟨A,11,none⟩) (by show A<v0.heap.size;rw [HVZ.out];omega)).trans x0,(hb1.cell (p:=⟨w.heap.size,3,none⟩) (by show w.heap.size<v0.heap.size;rw [HVZ.out];omega)).trans x1⟩
 clear hK K;refine tk 7 ?_
 refine dnR ?_
 have HB1:Hid (Below w.heap.size w w1):=HB0.out.trans (HB1'.out.mono HB0.out.size);have HM:=Lib.hid (HH.out.call HB1.out);clear hHeld c11 q0 q1 q2 q3 q4 q5 q6 q7 q8 q9 q10 q11 q12 q13 hb1 hvb;obtain ⟨q0,q1,q2,q3,q4,q5,q6,q7,q8,q9,q10,q11,q12,q13⟩:=HBOX.out _ HB1'.out
 have c10:w1.cell? ⟨A,10,none⟩=some (.slice (some ⟨S1,0,none⟩) P (capV (X 10))):=HM.out.md.cells.cell (by omega)
 have s0:w1.cell? ⟨S1,p*2,none⟩=some (.int .i64 4):=(HM.out.md.stands.cell (by omega)).trans (by rw [zeh,hs])
 go_wp2_with fail
 refine wp_region_held_drew (S:=fun w'=>w'.cell? ⟨A,10,none⟩=some (.slice (some ⟨S1,0,none⟩) P (capV (X 10)))/\w'.cell? ⟨w.heap.size,2,none⟩=some (.int .i64 (p:Nat))/\w'.cell? ⟨S1,p*2,none⟩=some (.int .i64 4)) (by kernel_rfl) ?_ (fun hHeld=>?_)
 ·exact ⟨c10,q2,s0⟩
 obtain ⟨v1,hv0⟩:∃ w',w'=w1.drew:=⟨_,rfl⟩
 have hvb:Below w1.heap.size w1 v1:=by rw [hv0];exact (Below.refl _ _).drew
 have HVZ:Hid (v1.heap.size=w1.heap.size):=by show _=_;rw [hv0];rfl
 rw [<- hv0] at hHeld |-;clear hv0;refine tk 0 ?_;refine tk 1 ?_;refine tk 2 ?_;refine tk 3 ?_;refine tk 4 ?_;refine tk 5 ?_;refine tk 6 ?_;refine tk 7 ?_;refine tk 8 ?_;refine tk 9 ?_
 refine dnR ?_
 have HBV:Hid (Below w.heap.size w v1):=HB1.out.trans (hvb.mono HB1.out.size);have HBW:Hid (Below w0.heap.size w0 v1):=HB1'.out.trans (hvb.mono HB1'.out.size);clear hHeld c10 s0 q0 q1 q2 q3 q4 q5 q6 q7 q8 q9 q10 q11 q12 q13 hvb HVZ;obtain ⟨q0,q1,q2,q3,q4,q5,q6,q7,q8,q9,q10,q11,q12,q13⟩:=HBOX.out _ HBW.out;obtain ⟨r1,r2⟩:=HK.out _ HBV.out
 have c11:v1.cell? ⟨A,11,none⟩=some (.slice (some ⟨b0,off,none⟩) nv cap):=(HH.out.call HBV.out).md.cells.cell (by omega)
 go_wp2_with fail
 refine wp_region_held_drew (S:=fun w'=>w'.cell? ⟨A,11,none⟩=some (.slice (some ⟨b0,off,none⟩) nv cap)/\w'.cell? ⟨w.heap.size,2,none⟩=some (.int .i64 (p:Nat))/\w'.cell? ⟨b0,off+j*3+1,none⟩=some (.int .u64 (xv.mem:Nat))) (by kernel_rfl) ?_ (fun hHeld=>?_)
 ·exact ⟨c11,q2,r1⟩
 obtain ⟨v2,hv0⟩:∃ w',w'=v1.drew:=⟨_,rfl⟩
 have hvb:Below v1.heap.size v1 v2:=by rw [hv0];exact (Below.refl _ _).drew
 have HVZ:Hid (v2.heap.size=v1.heap.size):=by show _=_;rw [hv0];rfl
 rw [<- hv0] at hHeld |-;clear hv0;refine tk 0 ?_;refine tk 1 ?_;refine tk 2 ?_;refine tk 3 ?_;refine tk 4 ?_;refine tk 5 ?_;refine tk 6 ?_;refine tk 7 ?_;refine tk 8 ?_;refine tk 9 ?_;refine tk 10 ?_;refine tk 11 ?_;refine tk 12 ?_
 refine clR 13 rfl fun K hK=>?_
 go_simp
 refine Calls.mono (HHM.out _) ?_
 rintro e _ ⟨rfl,rfl⟩
 refine hK.out _ _ ?_ (fun hHeld=>?_)
 ·(try dsimp only)
  exact hHeld
 clear hK K;refine tk 14 ?_;refine tk 15 ?_
 refine dnR ?_
 have HBX:Hid (Below w.heap.size w v2):=HBV.out.trans (hvb.mono HBV.out.size);have HBY:Hid (Below w0.heap.size w0 v2):=HBW.out.trans (hvb.mono HBW.out.size);clear hHeld c11 r1 r2 q0 q1 q2 q3 q4 q5 q6 q7 q8 q9 q10 q11 q12 q13 hvb HVZ;obtain ⟨q0,q1,q2,q3,q4,q5,q6,q7,q8,q9,q10,q11,q12,q13⟩:=HBOX.out _ HBY.out;obtain ⟨r1,r2⟩:=HK.out _ HBX.out
 have c11:v2.cell? ⟨A,11,none⟩=some (.slice (some ⟨b0,off,none⟩) nv cap):=(HH.out.call HBX.out).md.cells.cell (by omega)
 go_wp2_with fail
 refine wp_region_held_drew (S:=fun w'=>w'.cell? ⟨A,11,none⟩=some (.slice (some ⟨b0,off,none⟩) nv cap)/\w'.cell? ⟨w.heap.size,2,none⟩=some (.int .i64 (p:Nat))/\w'.cell? ⟨b0,off+j*3+2,none⟩=some (.int .u64 (xv.unt:Nat))) (by kernel_rfl) ?_ (fun hHeld=>?_)
 ·exact ⟨c11,q2,r2⟩
 obtain ⟨v3,hv0⟩:∃ w',w'=v2.drew:=⟨_,rfl⟩
 have hvb:Below v2.heap.size v2 v3:=by rw [hv0];exact (Below.refl _ _).drew
 have HVZ:Hid (v3.heap.size=v2.heap.size):=by show _=_;rw [hv0];rfl
 rw [<- hv0] at hHeld |-;clear hv0;refine tk 0 ?_;refine tk 1 ?_;refine tk 2 ?_;refine tk 3 ?_;refine tk 4 ?_;refine tk 5 ?_;refine tk 6 ?_;refine tk 7 ?_;refine tk 8 ?_;refine tk 9 ?_
 refine clR 10 rfl fun K hK=>?_
 go_simp
 refine Calls.mono (HHU.out _) ?_
 rintro e _ ⟨rfl,rfl⟩
 refine hK.out _ _ ?_ (fun hHeld=>?_)
 ·(try dsimp only)
  exact hHeld
 clear hK K
 (try simp only [Act.put,sqA,sqB,sqC])
 refine dnR ?_
 have HBZ:Hid (Below w.heap.size w v3):=HBX.out.trans (hvb.mono HBX.out.size);clear hHeld c11 r1 r2 q0 q1 q2 q3 q4 q5 q6 q7 q8 q9 q10 q11 q12 q13 hvb HVZ
 go_wp2
 go_ret
 exact ⟨by first|rfl|(simp;done),HBZ.out⟩
set_option maxRecDepth 20000 in
set_option maxHeartbeats 6400000 in
theorem zkn {E:Nat->Prop} {w:World} {L A S1 Q cQ:Nat} {X:Nat->Value} {bp bq P r S B n nv:Nat} {uv:Value} {lv:List Vl} {st:Nat->Int×Nat} {g:Nat->Nat->Pl} {G:Nat->Value} {R:Nat->Nat} {qv:Nat->Nat->Value} {qs:Nat->Nat->List Int} (h:RfAll E w L A S1 Q cQ X bp bq P r S B n nv uv lv st g G R qv qs) (p:Nat) (hp:p<P) (vi:Int) (hs:(st p).1=4) (j:Nat) (hj:zax lv vi nv=(j:Int)) (hok:(lv.getD j vl0).ok) (hme:hasB (lv.getD j vl0).mem (p:Int)=true) (hun:hasB (lv.getD j vl0).unt (p:Int)=false) (po sx kv km me un nw li sh bu id:Int):Calls Tryz.prog 19 #[.pointer (some ⟨A,0,none⟩),opV 12 po ((p:Nat)) vi sx kv km me un nw li sh bu id] w (Says (.int .i64 3) w):=by
 have d1:decide (p<P)=true:=decide_eq_true hp
 have hjn:j<nv:=by have h1:=(zba (zb7 lv vi) nv).2;unfold zax at hj;omega
 have hsl:=Sl.of_own h.md.vlans
 obtain ⟨b0,off,cap,e,hc1,hc2,hb0,hlen,hcell⟩:=hsl.vlAt (by omega)
 obtain ⟨k0,k1,k2⟩:=hcell j hjn;obtain ⟨xv,hxv⟩:∃ x,x=lv.getD j vl0:=⟨_,rfl⟩;rw [<- hxv] at k1 k2 hok hme hun;subst e
 have HK:=Lib.hid fun w' (hb:Below w.heap.size w w')=>And.intro ((hb.cell (p:=⟨b0,off+j*3+1,none⟩) hb0).trans k1) ((hb.cell (p:=⟨b0,off+j*3+2,none⟩) hb0).trans k2)
 have d2:decide (j<nv)=true:=decide_eq_true hjn
 have g0:(0:Int)<=(j:Int):=Int.natCast_nonneg _
 have d3:decide ((j:Int)<0)=false:=by simp
 clear hcell k0 k1 k2 hlen hsl;clear hxv
 have hhm:=fun w=>zbo xv.mem hok.2.1 (p:Int) w
 rw [hme] at hhm;have HHM:=Lib.hid hhm;clear hhm
 have hhu:=fun w=>zbo xv.unt hok.2.2 (p:Int) w
 rw [hun] at hhu;have HHU:=Lib.hid hhu;clear hhu
 have hfd:=fun w' (hb:Below w.heap.size w w')=>zag (Sl.of_own (h.call hb).md.vlans) (Nat.le_refl _) vi
 rw [hj] at hfd;have HFD:=Lib.hid hfd;obtain ⟨w0,hw0⟩:∃ z,z=(w.alloc (.cells #[.int .i64 (12),.int .i64 (po),.int .i64 ((p:Nat)),.int .i64 (vi),.int .i64 (sx),.int .i64 (kv),.int .u64 (km),.int .u64 (me),.int .u64 (un),.int .u32 (nw),.int .u32 (li),.int .i64 (sh),.int .i64 (bu),.int .i64 (id)] 55)):=⟨_,rfl⟩
 have HB0:Hid (Below w.heap.size w w0):=by rw [hw0];exact (Below.refl _ _).alloc (Nat.le_refl _) _
 have HBOX:=Lib.hid (zbp hw0)
 have hwz:w.heap.size<w0.heap.size:=by rw [hw0];simp
 have hp0:=fun w' (hb:Below w.heap.size w w')=>zal (h.call hb) ((p:Nat))
 rw [zan hp] at hp0;have HP0:=Lib.hid hp0;clear hp0;have HH:=Lib.hid h;have hAz:A<w.heap.size:=h.md.cells.lt;clear h hfd;unfold opV
 go_enter Tryz.func19,Tryz.ntmps19
 go_wp2_with (first
  |(go_at_call 39;(with_reducible refine Calls.mono (HP0.out _ ((Below.refl _ _).alloc (Nat.le_refl _) _)) ?_);rintro e _ ⟨rfl,rfl⟩)
  |fail)
 rw [<- hw0];clear hw0;obtain ⟨q0,q1,q2,q3,q4,q5,q6,q7,q8,q9,q10,q11,q12,q13⟩:=HBOX.out _ (Below.refl _ _)
 have c11:w0.cell? ⟨A,11,none⟩=some (.slice (some ⟨b0,off,none⟩) nv cap):=(HH.out.call HB0.out).md.cells.cell (by omega)
 refine wp_region_held_drew (S:=fun w'=>w'.cell? ⟨A,11,none⟩=some (.slice (some ⟨b0,off,none⟩) nv cap)/\w'.cell? ⟨w.heap.size,3,none⟩=some (.int .i64 (vi))) (by kernel_rfl) ?_ (fun hHeld=>?_)
 ·exact ⟨c11,q3⟩
 obtain ⟨v0,hv0⟩:∃ w',w'=w0.drew:=⟨_,rfl⟩
 have hvb:Below w0.heap.size w0 v0:=by rw [hv0];exact (Below.refl _ _).drew
 have HVZ:Hid (v0.heap.size=w0.heap.size):=by show _=_;rw [hv0];rfl
 rw [<- hv0] at hHeld |-;clear hv0;refine tk 0 ?_;refine tk 1 ?_;refine tk 2 ?_;refine tk 3 ?_;refine tk 4 ?_;refine tk 5 ?_
 refine clR 6 rfl fun K hK=>?_
 go_simp
 refine Calls.mono (HFD.out _ (HB0.out.trans (hvb.mono HB0.out.size))) ?_
 rintro e w1 ⟨rfl,hb1⟩
 have HB1':Hid (Below w0.heap.size w0 w1):=hvb.trans (hb1.mono (by rw [HVZ.out];exact Nat.le_refl _))
 have hz1:w0.heap.size<=w1.heap.size:=HB1'.out.size
 refine hK.out _ _ ?_ (fun hHeld=>?_)
 ·(try dsimp only)
  obtain ⟨x0,x1⟩:=hHeld
  exact ⟨(hb1.cell (p:=⟨A,11,none⟩) (by show A<v0.heap.size;rw [HVZ.out];omega)).trans x0,(hb1.cell (p:=⟨w.heap.size,3,none⟩) (by show w.heap.size<v0.heap.size;rw [HVZ.out];omega)).trans x1⟩
 clear hK K;refine tk 7 ?_
 refine dnR ?_
 have HB1:Hid (Below w.heap.size w w1):=HB0.out.trans (HB1'.out.mono HB0.out.size);have HM:=Lib.hid (HH.out.call HB1.out);clear hHeld c11 q0 q1 q2 q3 q4 q5 q6 q7 q8 q9 q10 q11 q12 q13 hb1 hvb;obtain ⟨q0,q1,q2,q3,q4,q5,q6,q7,q8,q9,q10,q11,q12,q13⟩:=HBOX.out _ HB1'.out
 have c10:w1.cell? ⟨A,10,none⟩=some (.slice (some ⟨S1,0,none⟩) P (capV (X 10))):=HM.out.md.cells.cell (by omega)
 have s0:w1.cell? ⟨S1,p*2,none⟩=some (.int .i64 4):=(HM.out.md.stands.cell (by omega)).trans (by rw [zeh,hs])
 go_wp2_with fail
 refine wp_region_held_drew (S:=fun w'=>w'.cell? ⟨A,10,none⟩=some (.slice (some ⟨S1,0,none⟩) P (capV (X 10)))/\w'.cell? ⟨w.heap.size,2,none⟩=some (.int .i64 (p:Nat))/\w'.cell? ⟨S1,p*2,none⟩=some (.int .i64 4)) (by kernel_rfl) ?_ (fun hHeld=>?_)
 ·exact ⟨c10,q2,s0⟩
 obtain ⟨v1,hv0⟩:∃ w',w'=w1.drew:=⟨_,rfl⟩
 have hvb:Below w1.heap.size w1 v1:=by rw [hv0];exact (Below.refl _ _).drew
 have HVZ:Hid (v1.heap.size=w1.heap.size):=by show _=_;rw [hv0];rfl
 rw [<- hv0] at hHeld |-;clear hv0;refine tk 0 ?_;refine tk 1 ?_;refine tk 2 ?_;refine tk 3 ?_;refine tk 4 ?_;refine tk 5 ?_;refine tk 6 ?_;refine tk 7 ?_;refine tk 8 ?_;refine tk 9 ?_
 refine dnR ?_
 have HBV:Hid (Below w.heap.size w v1):=HB1.out.trans (hvb.mono HB1.out.size);have HBW:Hid (Below w0.heap.size w0 v1):=HB1'.out.trans (hvb.mono HB1'.out.size);clear hHeld c10 s0 q0 q1 q2 q3 q4 q5 q6 q7 q8 q9 q10 q11 q12 q13 hvb HVZ;obtain ⟨q0,q1,q2,q3,q4,q5,q6,q7,q8,q9,q10,q11,q12,q13⟩:=HBOX.out _ HBW.out;obtain ⟨r1,r2⟩:=HK.out _ HBV.out
 have c11:v1.cell? ⟨A,11,none⟩=some (.slice (some ⟨b0,off,none⟩) nv cap):=(HH.out.call HBV.out).md.cells.cell (by omega)
 go_wp2_with fail
 refine wp_region_held_drew (S:=fun w'=>w'.cell? ⟨A,11,none⟩=some (.slice (some ⟨b0,off,none⟩) nv cap)/\w'.cell? ⟨w.heap.size,2,none⟩=some (.int .i64 (p:Nat))/\w'.cell? ⟨b0,off+j*3+1,none⟩=some (.int .u64 (xv.mem:Nat))) (by kernel_rfl) ?_ (fun hHeld=>?_)
 ·exact ⟨c11,q2,r1⟩
 obtain ⟨v2,hv0⟩:∃ w',w'=v1.drew:=⟨_,rfl⟩
 have hvb:Below v1.heap.size v1 v2:=by rw [hv0];exact (Below.refl _ _).drew
 have HVZ:Hid (v2.heap.size=v1.heap.size):=by show _=_;rw [hv0];rfl
 rw [<- hv0] at hHeld |-;clear hv0;refine tk 0 ?_;refine tk 1 ?_;refine tk 2 ?_;refine tk 3 ?_;refine tk 4 ?_;refine tk 5 ?_;refine tk 6 ?_;refine tk 7 ?_;refine tk 8 ?_;refine tk 9 ?_;refine tk 10 ?_;refine tk 11 ?_;refine tk 12 ?_
 refine clR 13 rfl fun K hK=>?_
 go_simp
 refine Calls.mono (HHM.out _) ?_
 rintro e _ ⟨rfl,rfl⟩
 refine hK.out _ _ ?_ (fun hHeld=>?_)
 ·(try dsimp only)
  exact hHeld
 clear hK K;refine tk 14 ?_;refine tk 15 ?_
 refine dnR ?_
 have HBX:Hid (Below w.heap.size w v2):=HBV.out.trans (hvb.mono HBV.out.size);have HBY:Hid (Below w0.heap.size w0 v2):=HBW.out.trans (hvb.mono HBW.out.size);clear hHeld c11 r1 r2 q0 q1 q2 q3 q4 q5 q6 q7 q8 q9 q10 q11 q12 q13 hvb HVZ;obtain ⟨q0,q1,q2,q3,q4,q5,q6,q7,q8,q9,q10,q11,q12,q13⟩:=HBOX.out _ HBY.out;obtain ⟨r1,r2⟩:=HK.out _ HBX.out
 have c11:v2.cell? ⟨A,11,none⟩=some (.slice (some ⟨b0,off,none⟩) nv cap):=(HH.out.call HBX.out).md.cells.cell (by omega)
 go_wp2_with fail
 refine wp_region_held_drew (S:=fun w'=>w'.cell? ⟨A,11,none⟩=some (.slice (some ⟨b0,off,none⟩) nv cap)/\w'.cell? ⟨w.heap.size,2,none⟩=some (.int .i64 (p:Nat))/\w'.cell? ⟨b0,off+j*3+2,none⟩=some (.int .u64 (xv.unt:Nat))) (by kernel_rfl) ?_ (fun hHeld=>?_)
 ·exact ⟨c11,q2,r2⟩
 obtain ⟨v3,hv0⟩:∃ w',w'=v2.drew:=⟨_,rfl⟩
 have hvb:Below v2.heap.size v2 v3:=by rw [hv0];exact (Below.refl _ _).drew
 have HVZ:Hid (v3.heap.size=v2.heap.size):=by show _=_;rw [hv0];rfl
 rw [<- hv0] at hHeld |-;clear hv0;refine tk 0 ?_;refine tk 1 ?_;refine tk 2 ?_;refine tk 3 ?_;refine tk 4 ?_;refine tk 5 ?_;refine tk 6 ?_;refine tk 7 ?_;refine tk 8 ?_;refine tk 9 ?_
 refine clR 10 rfl fun K hK=>?_
 go_simp
 refine Calls.mono (HHU.out _) ?_
 rintro e _ ⟨rfl,rfl⟩
 refine hK.out _ _ ?_ (fun hHeld=>?_)
 ·(try dsimp only)
  exact hHeld
 clear hK K
 (try simp only [Act.put,sqA,sqB,sqC])
 refine dnR ?_
 have HBZ:Hid (Below w.heap.size w v3):=HBX.out.trans (hvb.mono HBX.out.size);clear hHeld c11 r1 r2 q0 q1 q2 q3 q4 q5 q6 q7 q8 q9 q10 q11 q12 q13 hvb HVZ
 go_wp2
 go_ret
 exact ⟨by first|rfl|(simp;done),HBZ.out⟩
set_option maxRecDepth 20000 in
set_option maxHeartbeats 6400000 in
theorem zk9 {E:Nat->Prop} {w:World} {L A S1 Q cQ:Nat} {X:Nat->Value} {bp bq P r S B n nv:Nat} {uv:Value} {lv:List Vl} {st:Nat->Int×Nat} {g:Nat->Nat->Pl} {G:Nat->Value} {R:Nat->Nat} {qv:Nat->Nat->Value} {qs:Nat->Nat->List Int} (h:RfAll E w L A S1 Q cQ X bp bq P r S B n nv uv lv st g G R qv qs) (vi:Int) (hneg:zax lv vi nv<0) (po tt sx kv km me un nw li sh bu id:Int):Calls Tryz.prog 19 #[.pointer (some ⟨A,0,none⟩),opV 1 po tt vi sx kv km me un nw li sh bu id] w (Says (.int .i64 0) w):=by
 have hm:zax lv vi nv=-1:=by have h1:=(zba (zb7 lv vi) nv).1;unfold zax at hneg |-;omega
 have hfd:=fun w' (hb:Below w.heap.size w w')=>zag (Sl.of_own (h.call hb).md.vlans) (Nat.le_refl _) vi
 rw [hm] at hfd;have HFD:=Lib.hid hfd;obtain ⟨w0,hw0⟩:∃ z,z=(w.alloc (.cells #[.int .i64 (1),.int .i64 (po),.int .i64 (tt),.int .i64 (vi),.int .i64 (sx),.int .i64 (kv),.int .u64 (km),.int .u64 (me),.int .u64 (un),.int .u32 (nw),.int .u32 (li),.int .i64 (sh),.int .i64 (bu),.int .i64 (id)] 55)):=⟨_,rfl⟩
 have HB0:Hid (Below w.heap.size w w0):=by rw [hw0];exact (Below.refl _ _).alloc (Nat.le_refl _) _
 have HBOX:=Lib.hid (zbp hw0)
 have hwz:w.heap.size<w0.heap.size:=by rw [hw0];simp
 have HH:=Lib.hid h;have hAz:A<w.heap.size:=h.md.cells.lt;clear h hfd;unfold opV
 go_enter Tryz.func19,Tryz.ntmps19
 go_wp2_with (first
  |fail)
 rw [<- hw0];clear hw0;obtain ⟨q0,q1,q2,q3,q4,q5,q6,q7,q8,q9,q10,q11,q12,q13⟩:=HBOX.out _ (Below.refl _ _)
 have c11:w0.cell? ⟨A,11,none⟩=some uv:=(HH.out.call HB0.out).md.cells.cell (by omega)
 refine wp_region_held_drew (S:=fun w'=>w'.cell? ⟨A,11,none⟩=some uv/\w'.cell? ⟨w.heap.size,3,none⟩=some (.int .i64 (vi))) (by kernel_rfl) ?_ (fun hHeld=>?_)
 ·exact ⟨c11,q3⟩
 obtain ⟨v0,hv0⟩:∃ w',w'=w0.drew:=⟨_,rfl⟩
 have hvb:Below w0.heap.size w0 v0:=by rw [hv0];exact (Below.refl _ _).drew
 have HVZ:Hid (v0.heap.size=w0.heap.size):=by show _=_;rw [hv0];rfl
 rw [<- hv0] at hHeld |-;clear hv0;refine tk 0 ?_;refine tk 1 ?_;refine tk 2 ?_;refine tk 3 ?_;refine tk 4 ?_;refine tk 5 ?_
 refine clR 6 rfl fun K hK=>?_
 go_simp
 refine Calls.mono (HFD.out _ (HB0.out.trans (hvb.mono HB0.out.size))) ?_
 rintro e w1 ⟨rfl,hb1⟩
 have HB1':Hid (Below w0.heap.size w0 w1):=hvb.trans (hb1.mono (by rw [HVZ.out];exact Nat.le_refl _))
 have hz1:w0.heap.size<=w1.heap.size:=HB1'.out.size
 refine hK.out _ _ ?_ (fun hHeld=>?_)
 ·(try dsimp only)
  obtain ⟨x0,x1⟩:=hHeld
  exact ⟨(hb1.cell (p:=⟨A,11,none⟩) (by show A<v0.heap.size;rw [HVZ.out];omega)).trans x0,(hb1.cell (p:=⟨w.heap.size,3,none⟩) (by show w.heap.size<v0.heap.size;rw [HVZ.out];omega)).trans x1⟩
 clear hK K;refine tk 7 ?_
 refine dnR ?_
 have HB1:Hid (Below w.heap.size w w1):=HB0.out.trans (HB1'.out.mono HB0.out.size);have HM:=Lib.hid (HH.out.call HB1.out);clear hHeld c11 q0 q1 q2 q3 q4 q5 q6 q7 q8 q9 q10 q11 q12 q13 hb1 hvb;obtain ⟨q0,q1,q2,q3,q4,q5,q6,q7,q8,q9,q10,q11,q12,q13⟩:=HBOX.out _ HB1'.out
 go_wp2
 go_ret
 exact ⟨by first|rfl|(simp;done),HB1.out⟩
set_option maxRecDepth 20000 in
set_option maxHeartbeats 6400000 in
theorem zqt {E:Nat->Prop} {w:World} {L A S1 Q cQ:Nat} {X:Nat->Value} {bp bq P r S B n nv:Nat} {uv:Value} {lv:List Vl} {st:Nat->Int×Nat} {g:Nat->Nat->Pl} {G:Nat->Value} {R:Nat->Nat} {qv:Nat->Nat->Value} {qs:Nat->Nat->List Int} (h:RfAll E w L A S1 Q cQ X bp bq P r S B n nv uv lv st g G R qv qs) (vi:Int) (j:Nat) (hj:zax lv vi nv=(j:Int)) (po tt sx kv km me un nw li sh bu id:Int):Calls Tryz.prog 19 #[.pointer (some ⟨A,0,none⟩),opV 1 po tt vi sx kv km me un nw li sh bu id] w (Says (.int .i64 (wrap64 ((lv.getD j vl0).mem:Int))) w):=by
 have hjn:j<nv:=by have h1:=(zba (zb7 lv vi) nv).2;unfold zax at hj;omega
 have hsl:=Sl.of_own h.md.vlans
 obtain ⟨b0,off,cap,e,hc1,hc2,hb0,hlen,hcell⟩:=hsl.vlAt (by omega)
 obtain ⟨k0,k1,k2⟩:=hcell j hjn;obtain ⟨xv,hxv⟩:∃ x,x=lv.getD j vl0:=⟨_,rfl⟩;rw [<- hxv] at k1 k2;subst e
 have HK:=Lib.hid fun w' (hb:Below w.heap.size w w')=>And.intro ((hb.cell (p:=⟨b0,off+j*3+1,none⟩) hb0).trans k1) ((hb.cell (p:=⟨b0,off+j*3+2,none⟩) hb0).trans k2)
 have d2:decide (j<nv)=true:=decide_eq_true hjn
 have g0:(0:Int)<=(j:Int):=Int.natCast_nonneg _
 have d3:decide ((j:Int)<0)=false:=by simp
 clear hcell k0 k1 k2 hlen hsl;rw [<- hxv];clear hxv
 have hfd:=fun w' (hb:Below w.heap.size w w')=>zag (Sl.of_own (h.call hb).md.vlans) (Nat.le_refl _) vi
 rw [hj] at hfd;have HFD:=Lib.hid hfd;obtain ⟨w0,hw0⟩:∃ z,z=(w.alloc (.cells #[.int .i64 (1),.int .i64 (po),.int .i64 (tt),.int .i64 (vi),.int .i64 (sx),.int .i64 (kv),.int .u64 (km),.int .u64 (me),.int .u64 (un),.int .u32 (nw),.int .u32 (li),.int .i64 (sh),.int .i64 (bu),.int .i64 (id)] 55)):=⟨_,rfl⟩
 have HB0:Hid (Below w.heap.size w w0):=by rw [hw0];exact (Below.refl _ _).alloc (Nat.le_refl _) _
 have HBOX:=Lib.hid (zbp hw0)
 have hwz:w.heap.size<w0.heap.size:=by rw [hw0];simp
 have HH:=Lib.hid h;have hAz:A<w.heap.size:=h.md.cells.lt;clear h hfd;unfold opV
 go_enter Tryz.func19,Tryz.ntmps19
 go_wp2_with (first
  |fail)
 rw [<- hw0];clear hw0;obtain ⟨q0,q1,q2,q3,q4,q5,q6,q7,q8,q9,q10,q11,q12,q13⟩:=HBOX.out _ (Below.refl _ _)
 have c11:w0.cell? ⟨A,11,none⟩=some (.slice (some ⟨b0,off,none⟩) nv cap):=(HH.out.call HB0.out).md.cells.cell (by omega)
 refine wp_region_held_drew (S:=fun w'=>w'.cell? ⟨A,11,none⟩=some (.slice (some ⟨b0,off,none⟩) nv cap)/\w'.cell? ⟨w.heap.size,3,none⟩=some (.int .i64 (vi))) (by kernel_rfl) ?_ (fun hHeld=>?_)
 ·exact ⟨c11,q3⟩
 obtain ⟨v0,hv0⟩:∃ w',w'=w0.drew:=⟨_,rfl⟩
 have hvb:Below w0.heap.size w0 v0:=by rw [hv0];exact (Below.refl _ _).drew
 have HVZ:Hid (v0.heap.size=w0.heap.size):=by show _=_;rw [hv0];rfl
 rw [<- hv0] at hHeld |-;clear hv0;refine tk 0 ?_;refine tk 1 ?_;refine tk 2 ?_;refine tk 3 ?_;refine tk 4 ?_;refine tk 5 ?_
 refine clR 6 rfl fun K hK=>?_
 go_simp
 refine Calls.mono (HFD.out _ (HB0.out.trans (hvb.mono HB0.out.size))) ?_
 rintro e w1 ⟨rfl,hb1⟩
 have HB1':Hid (Below w0.heap.size w0 w1):=hvb.trans (hb1.mono (by rw [HVZ.out];exact Nat.le_refl _))
 have hz1:w0.heap.size<=w1.heap.size:=HB1'.out.size
 refine hK.out _ _ ?_ (fun hHeld=>?_)
 ·(try dsimp only)
  obtain ⟨x0,x1⟩:=hHeld
  exact ⟨(hb1.cell (p:=⟨A,11,none⟩) (by show A<v0.heap.size;rw [HVZ.out];omega)).trans x0,(hb1.cell (p:=⟨w.heap.size,3,none⟩) (by show w.heap.size<v0.heap.size;rw [HVZ.out];omega)).trans x1⟩
 clear hK K;refine tk 7 ?_
 refine dnR ?_
 have HB1:Hid (Below w.heap.size w w1):=HB0.out.trans (HB1'.out.mono HB0.out.size);have HM:=Lib.hid (HH.out.call HB1.out);clear hHeld c11 q0 q1 q2 q3 q4 q5 q6 q7 q8 q9 q10 q11 q12 q13 hb1 hvb;obtain ⟨q0,q1,q2,q3,q4,q5,q6,q7,q8,q9,q10,q11,q12,q13⟩:=HBOX.out _ HB1'.out;obtain ⟨r1,r2⟩:=HK.out _ HB1.out
 have c11:w1.cell? ⟨A,11,none⟩=some (.slice (some ⟨b0,off,none⟩) nv cap):=HM.out.md.cells.cell (by omega)
 go_wp2
 go_ret
 exact ⟨by first|rfl|(simp;done),HB1.out⟩
end Go.Proofs.YtfekhdgjgjodlaaGreat
