/-
  Words and contracts that a statement's proof rests on (MrJ). No statement is proved here.
-/
import Derived.Test.YtfekhdgjgjodlaaGreatHiC
set_option linter.unusedVariables false
set_option linter.unusedSimpArgs false
namespace Go.Proofs.YtfekhdgjgjodlaaGreat
open Go.RowKit
set_option maxRecDepth 20000 in
set_option maxHeartbeats 6400000 in
theorem zm4 {E:Nat->Prop} {w:World} {L A S1 Q cQ:Nat} {X:Nat->Value} {bp bq P r S B n nv:Nat} {uv:Value} {lv:List Vl} {st:Nat->Int×Nat} {g:Nat->Nat->Pl} {G:Nat->Value} {R:Nat->Nat} {qv:Nat->Nat->Value} {qs:Nat->Nat->List Int} (h:RfAll E w L A S1 Q cQ X bp bq P r S B n nv uv lv st g G R qv qs) (i:Nat) (j:Nat) (hi:i<P) (hj:j<P) (hr:r<=64) (hroom:(qs i j).length<r) (vi sx kq km me un nw li sh bu id:Int):Calls Tryz.prog 19 #[.pointer (some ⟨A,0,none⟩),opV 10 ((i:Nat)) ((j:Nat)) vi sx kq km me un nw li sh bu id] w fun e w'=>e=.returned (.int .i64 1)/\(∃ qv',RfAll E w' L A S1 Q cQ X bp bq P r S B n nv uv lv st g G R qv' (upd2 qs i j (qs i j ++ [id])))/\MdFr E w w' L:=by
 have d1:decide (i<P)=true:=decide_eq_true hi
 have d2:decide (j<P)=true:=decide_eq_true hj
 have d3:decide (i<cQ)=true:=decide_eq_true (Nat.lt_of_lt_of_le hi h.md.pq)
 have hicQ:i<cQ:=Nat.lt_of_lt_of_le hi h.md.pq;obtain ⟨lq,hlq⟩:∃ x,x=(qs i j).length:=⟨_,rfl⟩;obtain ⟨Au,cu,hv,hcu,hcm⟩:=(Sl.of_own (h.qu.own i j hi hj)).form;rw [<- hlq] at hv hcu
 have HQC:Hid (∀ w',Below w.heap.size w w'->w'.cell? ⟨A,13,none⟩=some (.slice (some ⟨Q,0,none⟩) P cQ)/\w'.cell? ⟨Q,i,none⟩=some (.slice (some ⟨R i,0,none⟩) P (capV (G i)))/\w'.cell? ⟨R i,j,none⟩=some (.slice Au lq cu)/\w'.cell? ⟨A,7,none⟩=some (.int .i64 (r:Nat))):=fun w' hb=>by
  have hm:=h.call hb
  exact ⟨hm.md.cells.cell (by omega),(hm.md.queues.cell (Nat.lt_of_lt_of_le hi hm.md.pq)).trans (congrArg some (hm.qu.at_ i hi)),((hm.qu.row i hi).cell (Nat.lt_of_lt_of_le hj (hm.qu.cq i hi))).trans (by rw [hv]),(hm.md.cells.cell (by omega)).trans (congrArg some hm.md.x7)⟩
 have hQ:=h.qu;have hRz:R i<w.heap.size:=(hQ.row i hi).lt;have hQz:Q<w.heap.size:=h.md.queues.lt
 have HNE:Hid (A≠R i/\Q≠R i/\w.heap.size≠R i):=⟨zav h.md.cells (hQ.row i hi) (by decide),zav h.md.queues (hQ.row i hi) (by decide),by omega⟩
 have ho:=hQ.own i j hi hj;rw [hv,<- hlq] at ho
 have HFZ:Hid (∀ w',Below w.heap.size w w'->w'.frozen? ⟨R i,j,none⟩=false):=fun w' hb=>(h.qu.call hb).row i hi |>.frozen j
 have HSL:Hid (∀ w',Below w.heap.size w w'->Sl w' w'.heap.size 1 (.slice Au lq cu) lq (kv .i64 (qs i j))):=fun w' hb=>Sl.of_own (zac ho hb)
 have HLQ:=Lib.hid hlq;rw [<- hlq] at hroom
 have d4:decide (lq≥r)=false:=decide_eq_false (by omega)
 have d5:decide (r<=lq)=false:=decide_eq_false (by omega)
 have d6:decide ((r:Int)<=(lq:Int))=false:=decide_eq_false (by omega)
 clear hv hlq hQ ho hcu hcm
 have hfd:=fun w' (hb:Below w.heap.size w w')=>zag (Sl.of_own (h.call hb).md.vlans) (Nat.le_refl _) vi
 have HFD:=Lib.hid hfd;obtain ⟨w0,hw0⟩:∃ z,z=(w.alloc (.cells #[.int .i64 (10),.int .i64 ((i:Nat)),.int .i64 ((j:Nat)),.int .i64 (vi),.int .i64 (sx),.int .i64 (kq),.int .u64 (km),.int .u64 (me),.int .u64 (un),.int .u32 (nw),.int .u32 (li),.int .i64 (sh),.int .i64 (bu),.int .i64 (id)] 55)):=⟨_,rfl⟩
 have HB0:Hid (Below w.heap.size w w0):=by rw [hw0];exact (Below.refl _ _).alloc (Nat.le_refl _) _
 have HBOX:=Lib.hid (zbp hw0)
 have hwz:w.heap.size<w0.heap.size:=by rw [hw0];simp
 have hp0:=fun w' (hb:Below w.heap.size w w')=>zal (h.call hb) ((i:Nat))
 rw [zan hi] at hp0;have HP0:=Lib.hid hp0;clear hp0
 have hp1:=fun w' (hb:Below w.heap.size w w')=>zal (h.call hb) ((j:Nat))
 rw [zan hj] at hp1;have HP1:=Lib.hid hp1;clear hp1;have HH:=Lib.hid h;have hAz:A<w.heap.size:=h.md.cells.lt;clear h hfd;unfold opV
 go_enter Tryz.func19,Tryz.ntmps19
 go_wp2_with (first
  |(go_at_call 39;(with_reducible refine Calls.mono (HP0.out _ ((Below.refl _ _).alloc (Nat.le_refl _) _)) ?_);rintro e _ ⟨rfl,rfl⟩)
  |(go_at_call 39;(with_reducible refine Calls.mono (HP1.out _ ((Below.refl _ _).alloc (Nat.le_refl _) _)) ?_);rintro e _ ⟨rfl,rfl⟩)
  |fail)
 rw [<- hw0];clear hw0;obtain ⟨q0,q1,q2,q3,q4,q5,q6,q7,q8,q9,q10,q11,q12,q13⟩:=HBOX.out _ (Below.refl _ _)
 have c11:w0.cell? ⟨A,11,none⟩=some uv:=(HH.out.call HB0.out).md.cells.cell (by omega)
 refine wp_region_held_drew (S:=fun w'=>w'.cell? ⟨A,11,none⟩=some uv/\w'.cell? ⟨w.heap.size,3,none⟩=some (.int .i64 (vi))) (by kernel_rfl) ?_ (fun hHeld=>?_)
 ·exact ⟨c11,q3⟩
 obtain ⟨v0,hv0⟩:∃ w',w'=w0.drew:=⟨_,rfl⟩
 have hvb:Below w0.heap.size w0 v0:=by rw [hv0];exact (Below.refl _ _).drew
 have HVZ:Hid (v0.heap.size=w0.heap.size):=by show _=_;rw [hv0];rfl
 rw [<- hv0] at hHeld |-;clear hv0;refine tk 0 ?_;refine tk 1 ?_;refine tk 2 ?_;refine tk 3 ?_;refine tk 4 ?_;refine tk 5 ?_
 refine clR 6 rfl fun K hK=>?_
 go_simp
 refine Calls.mono (HFD.out _ (HB0.out.trans (hvb.mono HB0.out.size))) ?_
 rintro e w1 ⟨rfl,hb1⟩
 have HB1':Hid (Below w0.heap.size w0 w1):=hvb.trans (hb1.mono (by rw [HVZ.out];exact Nat.le_refl _))
 have hz1:w0.heap.size<=w1.heap.size:=HB1'.out.size
 refine hK.out _ _ ?_ (fun hHeld=>?_)
 ·(try dsimp only)
  obtain ⟨x0,x1⟩:=hHeld
  exact ⟨(hb1.cell (p:=⟨A,11,none⟩) (by show A<v0.heap.size;rw [HVZ.out];omega)).trans x0,(hb1.cell (p:=⟨w.heap.size,3,none⟩) (by show w.heap.size<v0.heap.size;rw [HVZ.out];omega)).trans x1⟩
 clear hK K;refine tk 7 ?_
 refine dnR ?_
 have HB1:Hid (Below w.heap.size w w1):=HB0.out.trans (HB1'.out.mono HB0.out.size);have HM:=Lib.hid (HH.out.call HB1.out);clear hHeld c11 q0 q1 q2 q3 q4 q5 q6 q7 q8 q9 q10 q11 q12 q13 hb1 hvb;obtain ⟨q0,q1,q2,q3,q4,q5,q6,q7,q8,q9,q10,q11,q12,q13⟩:=HBOX.out _ HB1'.out;obtain ⟨e13,eq,er,e7⟩:=HQC.out _ HB1.out
 go_wp2_with fail
 refine wp_region_held_drew (S:=fun w'=>w'.cell? ⟨A,13,none⟩=some (.slice (some ⟨Q,0,none⟩) P cQ)/\w'.cell? ⟨Q,i,none⟩=some (.slice (some ⟨R i,0,none⟩) P (capV (G i)))/\w'.cell? ⟨R i,j,none⟩=some (.slice Au lq cu)/\w'.cell? ⟨w.heap.size,1,none⟩=some (.int .i64 (i:Nat))/\w'.cell? ⟨w.heap.size,2,none⟩=some (.int .i64 (j:Nat))/\w'.cell? ⟨A,7,none⟩=some (.int .i64 (r:Nat))) (by kernel_rfl) ?_ (fun hHeld=>?_)
 ·exact ⟨e13,eq,er,q1,q2,e7⟩
 obtain ⟨v1,hv0⟩:∃ w',w'=w1.drew:=⟨_,rfl⟩
 have hvb:Below w1.heap.size w1 v1:=by rw [hv0];exact (Below.refl _ _).drew
 have HVZ:Hid (v1.heap.size=w1.heap.size):=by show _=_;rw [hv0];rfl
 rw [<- hv0] at hHeld |-;clear hv0;refine tk 0 ?_;refine tk 1 ?_;refine tk 2 ?_;refine tk 3 ?_;refine tk 4 ?_;refine tk 5 ?_;refine tk 6 ?_;refine tk 7 ?_;refine tk 8 ?_;refine tk 9 ?_;refine tk 10 ?_;refine tk 11 ?_;refine tk 12 ?_;refine tk 13 ?_;refine tk 14 ?_;refine tk 15 ?_;refine tk 16 ?_;refine tk 17 ?_;refine tk 18 ?_
 refine dnR ?_
 have HBV:Hid (Below w.heap.size w v1):=HB1.out.trans (hvb.mono HB1.out.size);have HBW:Hid (Below w0.heap.size w0 v1):=HB1'.out.trans (hvb.mono HB1'.out.size);clear hHeld q0 q1 q2 q3 q4 q5 q6 q7 q8 q9 q10 q11 q12 q13 hvb HVZ e13 eq er e7;obtain ⟨e13,eq,er,e7⟩:=HQC.out _ HBV.out;obtain ⟨q0,q1,q2,q3,q4,q5,q6,q7,q8,q9,q10,q11,q12,q13⟩:=HBOX.out _ HBW.out
 go_wp2_with fail
 refine wp_region_held_drew (S:=fun w'=>w'.cell? ⟨A,13,none⟩=some (.slice (some ⟨Q,0,none⟩) P cQ)/\w'.cell? ⟨Q,i,none⟩=some (.slice (some ⟨R i,0,none⟩) P (capV (G i)))/\w'.cell? ⟨w.heap.size,1,none⟩=some (.int .i64 (i:Nat))/\w'.cell? ⟨w.heap.size,2,none⟩=some (.int .i64 (j:Nat))/\w'.cell? ⟨w.heap.size,13,none⟩=some (.int .i64 id)) (by kernel_rfl) ?_ (fun hHeld=>?_)
 ·exact ⟨e13,eq,q1,q2,q13⟩
 obtain ⟨v2,hv0⟩:∃ w',w'=v1.drew:=⟨_,rfl⟩
 have hvb:Below v1.heap.size v1 v2:=by rw [hv0];exact (Below.refl _ _).drew
 have HB2:Hid (Below w.heap.size w v2):=HBV.out.trans (hvb.mono HBV.out.size);have HBW2:Hid (Below w0.heap.size w0 v2):=HBW.out.trans (hvb.mono HBW.out.size);have hBv2:Below v2.heap.size v2 v2:=Below.refl _ _;rw [<- hv0] at hHeld |-;clear hv0 e13 eq er e7 q0 q1 q2 q3 q4 q5 q6 q7 q8 q9 q10 q11 q12 q13;refine tk 0 ?_;refine tk 1 ?_;refine tk 2 ?_;refine tk 3 ?_;refine tk 4 ?_;refine tk 5 ?_;refine tk 6 ?_;refine tk 7 ?_;refine tk 8 ?_;refine tk 9 ?_;refine tk 11 ?_;refine tk 12 ?_;refine tk 13 ?_;refine tk 14 ?_;refine tk 15 ?_;refine tk 16 ?_;refine tk 17 ?_;refine tk 18 ?_;refine tk 19 ?_;refine tk 20 ?_;refine tk 21 ?_;refine tk 24 ?_;refine tk 25 ?_
 refine wpAnyH_ready (rs:=[10,22,26]) (by kernel_rfl) (by simp) ?_
 refine (acR rfl (fun K hK=>?_) (acR rfl (fun K hK=>?_) (acR rfl (fun K hK=>?_) AllReadyH.nil)))
 ·go_simp
  refine hK.out _ _ ?_ (fun hHeld=>?_)
  ·(try dsimp only)
   obtain ⟨a1,a2,_,_⟩:=HQC.out _ (HB2.out.trans ((hBv2.alloc hBv2.size _).mono HB2.out.size));obtain ⟨_,a3,a4,_,_,_,_,_,_,_,_,_,_,a5⟩:=HBOX.out _ (HBW2.out.trans ((hBv2.alloc hBv2.size _).mono HBW2.out.size))
   exact ⟨a1,a2,a3,a4,a5⟩
  clear hK K
  (try simp only [Act.put,sqA,sqB,sqC])
  obtain ⟨za,hza⟩:∃ o,o=v2.heap.size:=⟨_,rfl⟩;obtain ⟨wa,hwa⟩:∃ x,x=v2.alloc (.cells #[] 3):=⟨_,rfl⟩
  have HOa:Hid (wa.ownsRow v2.heap.size 3 1 (.slice (some ⟨za,0,none⟩) 0 0) 0 []):=by rw [hwa,hza];exact ⟨by simp,.inr ⟨v2.heap.size,0,#[],rfl,hBv2.size,heap_alloc_new v2 _,Nat.le_refl _,by simp [maxLen],by simp,by simp⟩⟩
  have hBwa:Below v2.heap.size v2 wa:=by rw [hwa];exact hBv2.alloc hBv2.size _
  rw [<- hza,<- hwa]
  (try rw [<- hwa] at hHeld)
  clear hwa hza
  refine wpAnyH_ready (rs:=[22,26]) (by kernel_rfl) (by simp) ?_
  refine (acR rfl (fun K hK=>?_) (acR rfl (fun K hK=>?_) AllReadyH.nil))
  ·have erx:=(HQC.out _ (HB2.out.trans (hBwa.mono HB2.out.size))).2.2.1
   go_simp;clear erx
   refine hK.out _ _ ?_ (fun hHeld=>?_)
   ·(try dsimp only)
    obtain ⟨a1,a2,_,_⟩:=HQC.out _ (HB2.out.trans ((hBwa).mono HB2.out.size));obtain ⟨_,a3,a4,_,_,_,_,_,_,_,_,_,_,a5⟩:=HBOX.out _ (HBW2.out.trans ((hBwa).mono HBW2.out.size))
    exact ⟨a1,a2,a3,a4,a5⟩
   clear hK K
   (try simp only [Act.put,sqA,sqB,sqC])
   refine wpAnyH_ready (rs:=[23,26]) (by kernel_rfl) (by simp) ?_
   refine (acR rfl (fun K hK=>?_) (acR rfl (fun K hK=>?_) AllReadyH.nil))
   ·refine zam _ (by rfl) zb9 _ _ (by rfl) v2.heap.size (.slice (some ⟨za,0,none⟩) 0 0) 0 [] (by rfl) HOa.out v2.heap.size (.slice Au lq cu) lq (kv .i64 (qs i j)) (by rfl) ((HSL.out _ HB2.out).below hBwa) (zcl _) (by omega) hBwa.size ?_
    intro v9 w9 hown9 hgr9 hat9 hbel9;have hBw9:Below v2.heap.size v2 w9:=hBwa.trans hbel9;have hsz9:=hgr9.size;obtain ⟨A9,c9,hv9,_,_⟩:=(Sl.of_own hown9).form;subst hv9
    simp only [Nat.zero_add] at hown9 hat9 |-
    have hne9:∃ z,(Value.slice A9 lq c9).ownBlock=some z:=by
     rcases hat9 with h8|h8
     ·exact ⟨_,h8⟩
     ·exact ⟨_,h8⟩
    rw [List.nil_append] at hown9;have HO9:=Lib.hid hown9;clear hown9 hgr9 hat9 hbel9 hsz9
    refine hK.out _ _ ?_ (fun hHeld=>?_)
    ·(try dsimp only)
     obtain ⟨a1,a2,_,_⟩:=HQC.out _ (HB2.out.trans ((hBw9).mono HB2.out.size));obtain ⟨_,a3,a4,_,_,_,_,_,_,_,_,_,_,a5⟩:=HBOX.out _ (HBW2.out.trans ((hBw9).mono HBW2.out.size))
     exact ⟨a1,a2,a3,a4,a5⟩
    clear hK K
    (try simp only [Act.put,sqA,sqB,sqC])
    refine wpAnyH_ready (rs:=[26]) (by kernel_rfl) (by simp) ?_
    refine ac1 rfl fun K hK=>?_
    go_simp
    refine hK.out _ _ ?_ (fun hHeld=>?_)
    ·(try dsimp only)
     obtain ⟨a1,a2,_,_⟩:=HQC.out _ (HB2.out.trans ((hBw9.alloc hBw9.size _).mono HB2.out.size));obtain ⟨_,a3,a4,_,_,_,_,_,_,_,_,_,_,a5⟩:=HBOX.out _ (HBW2.out.trans ((hBw9.alloc hBw9.size _).mono HBW2.out.size))
     exact ⟨a1,a2,a3,a4,a5⟩
    clear hK K
    (try simp only [Act.put,sqA,sqB,sqC])
    obtain ⟨zb,hzb'⟩:∃ o,o=w9.heap.size:=⟨_,rfl⟩;obtain ⟨wb,hwb⟩:∃ x,x=w9.alloc (.cells #[.int .i64 id] 3):=⟨_,rfl⟩
    have hBwb:Below v2.heap.size v2 wb:=by rw [hwb];exact hBw9.alloc hBw9.size _
    have cb:wb.cell? ⟨zb,0,none⟩=some (.int .i64 id):=by rw [hwb,hzb'];simp [go_sem]
    have hzb:zb<wb.heap.size:=by rw [hwb,hzb',World.size_alloc];omega
    have HO9:=Lib.hid (zac HO9.out (show Below w9.heap.size w9 wb by rw [hwb];exact (Below.refl _ _).alloc (Nat.le_refl _) _))
    rw [<- hzb',<- hwb]
    (try rw [<- hwb] at hHeld)
    clear hwb hzb'
    refine wpAnyH_ready (rs:=[27]) (by kernel_rfl) (by simp) ?_
    refine ac1 rfl fun K hK=>?_
    refine zam _ (by rfl) zb9 _ _ (by rfl) v2.heap.size (.slice A9 lq c9) lq (kv .i64 (qs i j)) (by rfl) HO9.out (zb+1) _ 1 [.int .i64 id] (by rfl) (ze9 cb (Nat.lt_succ_self _)) (by simp [Value.oneCell']) (by omega) hBwb.size ?_
    intro v10 w10 hown10 hgr10 hat10 hbel10;have hBw10:Below v2.heap.size v2 w10:=hBwb.trans hbel10;obtain ⟨A10,c10,hv10,_,_⟩:=(Sl.of_own hown10).form;subst hv10
    have hx10:∃ b,(Value.slice A10 (lq+1) c10).ownBlock=some b:=by
     obtain ⟨z,hz⟩:=hne9
     rcases hat10 with h8|h8
     ·exact ⟨z,h8.trans hz⟩
     ·exact ⟨_,h8⟩
    have HO10:Hid (w10.ownsRow w.heap.size 3 1 (.slice A10 (lq+1) c10) (qs i j ++ [id]).length (kv .i64 (qs i j ++ [id]))):=by
     have h8:=zas hown10 HB2.out.size
     rw [show kv .i64 (qs i j) ++ [Value.int .i64 id]=kv .i64 (qs i j ++ [id]) by simp [kv]] at h8
     rw [show (qs i j ++ [id]).length=lq+1 by rw [List.length_append,<- HLQ.out];rfl]
     exact Lib.hid h8
    have HB10:Hid (Below w.heap.size w w10):=HB2.out.trans (hBw10.mono HB2.out.size)
    have y1:w10.cell? ⟨R i,j,none⟩=some (.slice Au lq cu):=(HQC.out _ HB10.out).2.2.1
    have y2:w10.frozen? ⟨R i,j,none⟩=false:=HFZ.out _ HB10.out
    clear hown10 hgr10 hat10 hbel10
    refine hK.out _ _ ?_ (fun hHeld=>?_)
    ·(try dsimp only)
     obtain ⟨a1,a2,_,_⟩:=HQC.out _ (HB2.out.trans ((hBw10).mono HB2.out.size));obtain ⟨_,a3,a4,_,_,_,_,_,_,_,_,_,_,a5⟩:=HBOX.out _ (HBW2.out.trans ((hBw10).mono HBW2.out.size))
     exact ⟨a1,a2,a3,a4,a5⟩
    clear hK K;refine tk 28 ?_
    refine wpAnyH_ready (rs:=[29]) (by kernel_rfl) (by simp) ?_
    refine ac1 rfl fun K hK=>?_
    go_simp
    refine hK.out _ _ ?_ (fun hHeld=>?_)
    ·(try dsimp only)
     obtain ⟨a1,a2,_,_⟩:=HQC.out _ (HB2.out.trans (hBw10.mono HB2.out.size));obtain ⟨_,a3,a4,_,_,_,_,_,_,_,_,_,_,a5⟩:=HBOX.out _ (HBW2.out.trans (hBw10.mono HBW2.out.size));have hz9:=(HB2.out.trans (hBw10.mono HB2.out.size)).size
     exact ⟨((But.set j _).cell (show A<w10.heap.size by omega) HNE.out.1).trans a1,((But.set j _).cell (show Q<w10.heap.size by omega) HNE.out.2.1).trans a2,((But.set j _).cell (show w.heap.size<w10.heap.size by have:=hBw10.size;have:=HBW2.out.size;omega) HNE.out.2.2).trans a3,((But.set j _).cell (show w.heap.size<w10.heap.size by have:=hBw10.size;have:=HBW2.out.size;omega) HNE.out.2.2).trans a4,((But.set j _).cell (show w.heap.size<w10.heap.size by have:=hBw10.size;have:=HBW2.out.size;omega) HNE.out.2.2).trans a5⟩
    clear hK K
    (try simp only [Act.put,sqA,sqB,sqC])
    refine dnR ?_
    have HF:=Lib.hid (HH.out.putq hi hj HB10.out HO10.out hx10);clear hHeld y1 y2 hvb
    go_wp2
    go_ret
    exact ⟨by first|rfl|(simp;done),⟨_,HF.out.1⟩,HF.out.2⟩
   ·go_simp
    refine hK.out _ _ ?_ (fun hHeld=>?_)
    ·(try dsimp only)
     obtain ⟨a1,a2,_,_⟩:=HQC.out _ (HB2.out.trans ((hBwa.alloc hBwa.size _).mono HB2.out.size));obtain ⟨_,a3,a4,_,_,_,_,_,_,_,_,_,_,a5⟩:=HBOX.out _ (HBW2.out.trans ((hBwa.alloc hBwa.size _).mono HBW2.out.size))
     exact ⟨a1,a2,a3,a4,a5⟩
    clear hK K
    (try simp only [Act.put,sqA,sqB,sqC])
    obtain ⟨zb,hzb'⟩:∃ o,o=wa.heap.size:=⟨_,rfl⟩;obtain ⟨wb,hwb⟩:∃ x,x=wa.alloc (.cells #[.int .i64 id] 3):=⟨_,rfl⟩
    have hBwb:Below v2.heap.size v2 wb:=by rw [hwb];exact hBwa.alloc hBwa.size _
    have cb:wb.cell? ⟨zb,0,none⟩=some (.int .i64 id):=by rw [hwb,hzb'];simp [go_sem]
    have hzb:zb<wb.heap.size:=by rw [hwb,hzb',World.size_alloc];omega
    have hzab:zb≠za:=by have:=(HOa.out.lt za rfl).2;omega
    have HOa:=Lib.hid (zac HOa.out (show Below wa.heap.size wa wb by rw [hwb];exact (Below.refl _ _).alloc (Nat.le_refl _) _))
    rw [<- hzb',<- hwb]
    (try rw [<- hwb] at hHeld)
    clear hwb hzb'
    refine wpAnyH_ready (rs:=[23]) (by kernel_rfl) (by simp) ?_
    refine ac1 rfl fun K hK=>?_
    refine zam _ (by rfl) zb9 _ _ (by rfl) v2.heap.size (.slice (some ⟨za,0,none⟩) 0 0) 0 [] (by rfl) HOa.out v2.heap.size (.slice Au lq cu) lq (kv .i64 (qs i j)) (by rfl) ((HSL.out _ HB2.out).below hBwb) (zcl _) (by omega) hBwb.size ?_
    intro v9 w9 hown9 hgr9 hat9 hbel9;have hBw9:Below v2.heap.size v2 w9:=hBwb.trans hbel9;have hsz9:=hgr9.size
    have cb:w9.cell? ⟨zb,0,none⟩=some (.int .i64 id):=(World.cell?_of_block (a:=⟨zb,0,none⟩) (hgr9.block zb hzb (fun e9=>hzab (by injection e9)))).trans cb
    have hzb:zb<w9.heap.size:=by omega
    obtain ⟨A9,c9,hv9,_,_⟩:=(Sl.of_own hown9).form;subst hv9
    simp only [Nat.zero_add] at hown9 hat9 |-
    have hne9:∃ z,(Value.slice A9 lq c9).ownBlock=some z:=by
     rcases hat9 with h8|h8
     ·exact ⟨_,h8⟩
     ·exact ⟨_,h8⟩
    rw [List.nil_append] at hown9;have HO9:=Lib.hid hown9;clear hown9 hgr9 hat9 hbel9 hsz9
    refine hK.out _ _ ?_ (fun hHeld=>?_)
    ·(try dsimp only)
     obtain ⟨a1,a2,_,_⟩:=HQC.out _ (HB2.out.trans ((hBw9).mono HB2.out.size));obtain ⟨_,a3,a4,_,_,_,_,_,_,_,_,_,_,a5⟩:=HBOX.out _ (HBW2.out.trans ((hBw9).mono HBW2.out.size))
     exact ⟨a1,a2,a3,a4,a5⟩
    clear hK K
    (try simp only [Act.put,sqA,sqB,sqC])
    refine wpAnyH_ready (rs:=[27]) (by kernel_rfl) (by simp) ?_
    refine ac1 rfl fun K hK=>?_
    refine zam _ (by rfl) zb9 _ _ (by rfl) v2.heap.size (.slice A9 lq c9) lq (kv .i64 (qs i j)) (by rfl) HO9.out (zb+1) _ 1 [.int .i64 id] (by rfl) (ze9 cb (Nat.lt_succ_self _)) (by simp [Value.oneCell']) (by omega) hBw9.size ?_
    intro v10 w10 hown10 hgr10 hat10 hbel10;have hBw10:Below v2.heap.size v2 w10:=hBw9.trans hbel10;obtain ⟨A10,c10,hv10,_,_⟩:=(Sl.of_own hown10).form;subst hv10
    have hx10:∃ b,(Value.slice A10 (lq+1) c10).ownBlock=some b:=by
     obtain ⟨z,hz⟩:=hne9
     rcases hat10 with h8|h8
     ·exact ⟨z,h8.trans hz⟩
     ·exact ⟨_,h8⟩
    have HO10:Hid (w10.ownsRow w.heap.size 3 1 (.slice A10 (lq+1) c10) (qs i j ++ [id]).length (kv .i64 (qs i j ++ [id]))):=by
     have h8:=zas hown10 HB2.out.size
     rw [show kv .i64 (qs i j) ++ [Value.int .i64 id]=kv .i64 (qs i j ++ [id]) by simp [kv]] at h8
     rw [show (qs i j ++ [id]).length=lq+1 by rw [List.length_append,<- HLQ.out];rfl]
     exact Lib.hid h8
    have HB10:Hid (Below w.heap.size w w10):=HB2.out.trans (hBw10.mono HB2.out.size)
    have y1:w10.cell? ⟨R i,j,none⟩=some (.slice Au lq cu):=(HQC.out _ HB10.out).2.2.1
    have y2:w10.frozen? ⟨R i,j,none⟩=false:=HFZ.out _ HB10.out
    clear hown10 hgr10 hat10 hbel10
    refine hK.out _ _ ?_ (fun hHeld=>?_)
    ·(try dsimp only)
     obtain ⟨a1,a2,_,_⟩:=HQC.out _ (HB2.out.trans ((hBw10).mono HB2.out.size));obtain ⟨_,a3,a4,_,_,_,_,_,_,_,_,_,_,a5⟩:=HBOX.out _ (HBW2.out.trans ((hBw10).mono HBW2.out.size))
     exact ⟨a1,a2,a3,a4,a5⟩
    clear hK K;refine tk 28 ?_
    refine wpAnyH_ready (rs:=[29]) (by kernel_rfl) (by simp) ?_
    refine ac1 rfl fun K hK=>?_
    go_simp
    refine hK.out _ _ ?_ (fun hHeld=>?_)
    ·(try dsimp only)
     obtain ⟨a1,a2,_,_⟩:=HQC.out _ (HB2.out.trans (hBw10.mono HB2.out.size));obtain ⟨_,a3,a4,_,_,_,_,_,_,_,_,_,_,a5⟩:=HBOX.out _ (HBW2.out.trans (hBw10.mono HBW2.out.size));have hz9:=(HB2.out.trans (hBw10.mono HB2.out.size)).size
     exact ⟨((But.set j _).cell (show A<w10.heap.size by omega) HNE.out.1).trans a1,((But.set j _).cell (show Q<w10.heap.size by omega) HNE.out.2.1).trans a2,((But.set j _).cell (show w.heap.size<w10.heap.size by have:=hBw10.size;have:=HBW2.out.size;omega) HNE.out.2.2).trans a3,((But.set j _).cell (show w.heap.size<w10.heap.size by have:=hBw10.size;have:=HBW2.out.size;omega) HNE.out.2.2).trans a4,((But.set j _).cell (show w.heap.size<w10.heap.size by have:=hBw10.size;have:=HBW2.out.size;omega) HNE.out.2.2).trans a5⟩
    clear hK K
    (try simp only [Act.put,sqA,sqB,sqC])
    refine dnR ?_
    have HF:=Lib.hid (HH.out.putq hi hj HB10.out HO10.out hx10);clear hHeld y1 y2 hvb
    go_wp2
    go_ret
    exact ⟨by first|rfl|(simp;done),⟨_,HF.out.1⟩,HF.out.2⟩
  ·go_simp
   refine hK.out _ _ ?_ (fun hHeld=>?_)
   ·(try dsimp only)
    obtain ⟨a1,a2,_,_⟩:=HQC.out _ (HB2.out.trans ((hBwa.alloc hBwa.size _).mono HB2.out.size));obtain ⟨_,a3,a4,_,_,_,_,_,_,_,_,_,_,a5⟩:=HBOX.out _ (HBW2.out.trans ((hBwa.alloc hBwa.size _).mono HBW2.out.size))
    exact ⟨a1,a2,a3,a4,a5⟩
   clear hK K
   (try simp only [Act.put,sqA,sqB,sqC])
   obtain ⟨zb,hzb'⟩:∃ o,o=wa.heap.size:=⟨_,rfl⟩;obtain ⟨wb,hwb⟩:∃ x,x=wa.alloc (.cells #[.int .i64 id] 3):=⟨_,rfl⟩
   have hBwb:Below v2.heap.size v2 wb:=by rw [hwb];exact hBwa.alloc hBwa.size _
   have cb:wb.cell? ⟨zb,0,none⟩=some (.int .i64 id):=by rw [hwb,hzb'];simp [go_sem]
   have hzb:zb<wb.heap.size:=by rw [hwb,hzb',World.size_alloc];omega
   have hzab:zb≠za:=by have:=(HOa.out.lt za rfl).2;omega
   have HOa:=Lib.hid (zac HOa.out (show Below wa.heap.size wa wb by rw [hwb];exact (Below.refl _ _).alloc (Nat.le_refl _) _))
   rw [<- hzb',<- hwb]
   (try rw [<- hwb] at hHeld)
   clear hwb hzb'
   refine wpAnyH_ready (rs:=[22]) (by kernel_rfl) (by simp) ?_
   refine ac1 rfl fun K hK=>?_
   have erx:=(HQC.out _ (HB2.out.trans (hBwb.mono HB2.out.size))).2.2.1;go_simp;clear erx
   refine hK.out _ _ ?_ (fun hHeld=>?_)
   ·(try dsimp only)
    obtain ⟨a1,a2,_,_⟩:=HQC.out _ (HB2.out.trans ((hBwb).mono HB2.out.size));obtain ⟨_,a3,a4,_,_,_,_,_,_,_,_,_,_,a5⟩:=HBOX.out _ (HBW2.out.trans ((hBwb).mono HBW2.out.size))
    exact ⟨a1,a2,a3,a4,a5⟩
   clear hK K
   (try simp only [Act.put,sqA,sqB,sqC])
   refine wpAnyH_ready (rs:=[23]) (by kernel_rfl) (by simp) ?_
   refine ac1 rfl fun K hK=>?_
   refine zam _ (by rfl) zb9 _ _ (by rfl) v2.heap.size (.slice (some ⟨za,0,none⟩) 0 0) 0 [] (by rfl) HOa.out v2.heap.size (.slice Au lq cu) lq (kv .i64 (qs i j)) (by rfl) ((HSL.out _ HB2.out).below hBwb) (zcl _) (by omega) hBwb.size ?_
   intro v9 w9 hown9 hgr9 hat9 hbel9;have hBw9:Below v2.heap.size v2 w9:=hBwb.trans hbel9;have hsz9:=hgr9.size
   have cb:w9.cell? ⟨zb,0,none⟩=some (.int .i64 id):=(World.cell?_of_block (a:=⟨zb,0,none⟩) (hgr9.block zb hzb (fun e9=>hzab (by injection e9)))).trans cb
   have hzb:zb<w9.heap.size:=by omega
   obtain ⟨A9,c9,hv9,_,_⟩:=(Sl.of_own hown9).form;subst hv9
   simp only [Nat.zero_add] at hown9 hat9 |-
   have hne9:∃ z,(Value.slice A9 lq c9).ownBlock=some z:=by
    rcases hat9 with h8|h8
    ·exact ⟨_,h8⟩
    ·exact ⟨_,h8⟩
   rw [List.nil_append] at hown9;have HO9:=Lib.hid hown9;clear hown9 hgr9 hat9 hbel9 hsz9
   refine hK.out _ _ ?_ (fun hHeld=>?_)
   ·(try dsimp only)
    obtain ⟨a1,a2,_,_⟩:=HQC.out _ (HB2.out.trans ((hBw9).mono HB2.out.size));obtain ⟨_,a3,a4,_,_,_,_,_,_,_,_,_,_,a5⟩:=HBOX.out _ (HBW2.out.trans ((hBw9).mono HBW2.out.size))
    exact ⟨a1,a2,a3,a4,a5⟩
   clear hK K
   (try simp only [Act.put,sqA,sqB,sqC])
   refine wpAnyH_ready (rs:=[27]) (by kernel_rfl) (by simp) ?_
   refine ac1 rfl fun K hK=>?_
   refine zam _ (by rfl) zb9 _ _ (by rfl) v2.heap.size (.slice A9 lq c9) lq (kv .i64 (qs i j)) (by rfl) HO9.out (zb+1) _ 1 [.int .i64 id] (by rfl) (ze9 cb (Nat.lt_succ_self _)) (by simp [Value.oneCell']) (by omega) hBw9.size ?_
   intro v10 w10 hown10 hgr10 hat10 hbel10;have hBw10:Below v2.heap.size v2 w10:=hBw9.trans hbel10;obtain ⟨A10,c10,hv10,_,_⟩:=(Sl.of_own hown10).form;subst hv10
   have hx10:∃ b,(Value.slice A10 (lq+1) c10).ownBlock=some b:=by
    obtain ⟨z,hz⟩:=hne9
    rcases hat10 with h8|h8
    ·exact ⟨z,h8.trans hz⟩
    ·exact ⟨_,h8⟩
   have HO10:Hid (w10.ownsRow w.heap.size 3 1 (.slice A10 (lq+1) c10) (qs i j ++ [id]).length (kv .i64 (qs i j ++ [id]))):=by
    have h8:=zas hown10 HB2.out.size
    rw [show kv .i64 (qs i j) ++ [Value.int .i64 id]=kv .i64 (qs i j ++ [id]) by simp [kv]] at h8
    rw [show (qs i j ++ [id]).length=lq+1 by rw [List.length_append,<- HLQ.out];rfl]
    exact Lib.hid h8
   have HB10:Hid (Below w.heap.size w w10):=HB2.out.trans (hBw10.mono HB2.out.size)
   have y1:w10.cell? ⟨R i,j,none⟩=some (.slice Au lq cu):=(HQC.out _ HB10.out).2.2.1
   have y2:w10.frozen? ⟨R i,j,none⟩=false:=HFZ.out _ HB10.out
   clear hown10 hgr10 hat10 hbel10
   refine hK.out _ _ ?_ (fun hHeld=>?_)
   ·(try dsimp only)
    obtain ⟨a1,a2,_,_⟩:=HQC.out _ (HB2.out.trans ((hBw10).mono HB2.out.size));obtain ⟨_,a3,a4,_,_,_,_,_,_,_,_,_,_,a5⟩:=HBOX.out _ (HBW2.out.trans ((hBw10).mono HBW2.out.size))
    exact ⟨a1,a2,a3,a4,a5⟩
   clear hK K;refine tk 28 ?_
   refine wpAnyH_ready (rs:=[29]) (by kernel_rfl) (by simp) ?_
   refine ac1 rfl fun K hK=>?_
   go_simp
   refine hK.out _ _ ?_ (fun hHeld=>?_)
   ·(try dsimp only)
    obtain ⟨a1,a2,_,_⟩:=HQC.out _ (HB2.out.trans (hBw10.mono HB2.out.size));obtain ⟨_,a3,a4,_,_,_,_,_,_,_,_,_,_,a5⟩:=HBOX.out _ (HBW2.out.trans (hBw10.mono HBW2.out.size));have hz9:=(HB2.out.trans (hBw10.mono HB2.out.size)).size
    exact ⟨((But.set j _).cell (show A<w10.heap.size by omega) HNE.out.1).trans a1,((But.set j _).cell (show Q<w10.heap.size by omega) HNE.out.2.1).trans a2,((But.set j _).cell (show w.heap.size<w10.heap.size by have:=hBw10.size;have:=HBW2.out.size;omega) HNE.out.2.2).trans a3,((But.set j _).cell (show w.heap.size<w10.heap.size by have:=hBw10.size;have:=HBW2.out.size;omega) HNE.out.2.2).trans a4,((But.set j _).cell (show w.heap.size<w10.heap.size by have:=hBw10.size;have:=HBW2.out.size;omega) HNE.out.2.2).trans a5⟩
   clear hK K
   (try simp only [Act.put,sqA,sqB,sqC])
   refine dnR ?_
   have HF:=Lib.hid (HH.out.putq hi hj HB10.out HO10.out hx10);clear hHeld y1 y2 hvb
   go_wp2
   go_ret
   exact ⟨by first|rfl|(simp;done),⟨_,HF.out.1⟩,HF.out.2⟩
 ·have erx:=(HQC.out _ (HB2.out.trans (hBv2.mono HB2.out.size))).2.2.1
  go_simp;clear erx
  refine hK.out _ _ ?_ (fun hHeld=>?_)
  ·(try dsimp only)
   obtain ⟨a1,a2,_,_⟩:=HQC.out _ (HB2.out.trans ((hBv2).mono HB2.out.size));obtain ⟨_,a3,a4,_,_,_,_,_,_,_,_,_,_,a5⟩:=HBOX.out _ (HBW2.out.trans ((hBv2).mono HBW2.out.size))
   exact ⟨a1,a2,a3,a4,a5⟩
  clear hK K
  (try simp only [Act.put,sqA,sqB,sqC])
  refine wpAnyH_ready (rs:=[10,26]) (by kernel_rfl) (by simp) ?_
  refine (acR rfl (fun K hK=>?_) (acR rfl (fun K hK=>?_) AllReadyH.nil))
  ·go_simp
   refine hK.out _ _ ?_ (fun hHeld=>?_)
   ·(try dsimp only)
    obtain ⟨a1,a2,_,_⟩:=HQC.out _ (HB2.out.trans ((hBv2.alloc hBv2.size _).mono HB2.out.size));obtain ⟨_,a3,a4,_,_,_,_,_,_,_,_,_,_,a5⟩:=HBOX.out _ (HBW2.out.trans ((hBv2.alloc hBv2.size _).mono HBW2.out.size))
    exact ⟨a1,a2,a3,a4,a5⟩
   clear hK K
   (try simp only [Act.put,sqA,sqB,sqC])
   obtain ⟨za,hza⟩:∃ o,o=v2.heap.size:=⟨_,rfl⟩;obtain ⟨wa,hwa⟩:∃ x,x=v2.alloc (.cells #[] 3):=⟨_,rfl⟩
   have HOa:Hid (wa.ownsRow v2.heap.size 3 1 (.slice (some ⟨za,0,none⟩) 0 0) 0 []):=by rw [hwa,hza];exact ⟨by simp,.inr ⟨v2.heap.size,0,#[],rfl,hBv2.size,heap_alloc_new v2 _,Nat.le_refl _,by simp [maxLen],by simp,by simp⟩⟩
   have hBwa:Below v2.heap.size v2 wa:=by rw [hwa];exact hBv2.alloc hBv2.size _
   rw [<- hza,<- hwa]
   (try rw [<- hwa] at hHeld)
   clear hwa hza
   refine wpAnyH_ready (rs:=[23,26]) (by kernel_rfl) (by simp) ?_
   refine (acR rfl (fun K hK=>?_) (acR rfl (fun K hK=>?_) AllReadyH.nil))
   ·refine zam _ (by rfl) zb9 _ _ (by rfl) v2.heap.size (.slice (some ⟨za,0,none⟩) 0 0) 0 [] (by rfl) HOa.out v2.heap.size (.slice Au lq cu) lq (kv .i64 (qs i j)) (by rfl) ((HSL.out _ HB2.out).below hBwa) (zcl _) (by omega) hBwa.size ?_
    intro v9 w9 hown9 hgr9 hat9 hbel9;have hBw9:Below v2.heap.size v2 w9:=hBwa.trans hbel9;have hsz9:=hgr9.size;obtain ⟨A9,c9,hv9,_,_⟩:=(Sl.of_own hown9).form;subst hv9
    simp only [Nat.zero_add] at hown9 hat9 |-
    have hne9:∃ z,(Value.slice A9 lq c9).ownBlock=some z:=by
     rcases hat9 with h8|h8
     ·exact ⟨_,h8⟩
     ·exact ⟨_,h8⟩
    rw [List.nil_append] at hown9;have HO9:=Lib.hid hown9;clear hown9 hgr9 hat9 hbel9 hsz9
    refine hK.out _ _ ?_ (fun hHeld=>?_)
    ·(try dsimp only)
     obtain ⟨a1,a2,_,_⟩:=HQC.out _ (HB2.out.trans ((hBw9).mono HB2.out.size));obtain ⟨_,a3,a4,_,_,_,_,_,_,_,_,_,_,a5⟩:=HBOX.out _ (HBW2.out.trans ((hBw9).mono HBW2.out.size))
     exact ⟨a1,a2,a3,a4,a5⟩
    clear hK K
    (try simp only [Act.put,sqA,sqB,sqC])
    refine wpAnyH_ready (rs:=[26]) (by kernel_rfl) (by simp) ?_
    refine ac1 rfl fun K hK=>?_
    go_simp
    refine hK.out _ _ ?_ (fun hHeld=>?_)
    ·(try dsimp only)
     obtain ⟨a1,a2,_,_⟩:=HQC.out _ (HB2.out.trans ((hBw9.alloc hBw9.size _).mono HB2.out.size));obtain ⟨_,a3,a4,_,_,_,_,_,_,_,_,_,_,a5⟩:=HBOX.out _ (HBW2.out.trans ((hBw9.alloc hBw9.size _).mono HBW2.out.size))
     exact ⟨a1,a2,a3,a4,a5⟩
    clear hK K
    (try simp only [Act.put,sqA,sqB,sqC])
    obtain ⟨zb,hzb'⟩:∃ o,o=w9.heap.size:=⟨_,rfl⟩;obtain ⟨wb,hwb⟩:∃ x,x=w9.alloc (.cells #[.int .i64 id] 3):=⟨_,rfl⟩
    have hBwb:Below v2.heap.size v2 wb:=by rw [hwb];exact hBw9.alloc hBw9.size _
    have cb:wb.cell? ⟨zb,0,none⟩=some (.int .i64 id):=by rw [hwb,hzb'];simp [go_sem]
    have hzb:zb<wb.heap.size:=by rw [hwb,hzb',World.size_alloc];omega
    have HO9:=Lib.hid (zac HO9.out (show Below w9.heap.size w9 wb by rw [hwb];exact (Below.refl _ _).alloc (Nat.le_refl _) _))
    rw [<- hzb',<- hwb]
    (try rw [<- hwb] at hHeld)
    clear hwb hzb'
    refine wpAnyH_ready (rs:=[27]) (by kernel_rfl) (by simp) ?_
    refine ac1 rfl fun K hK=>?_
    refine zam _ (by rfl) zb9 _ _ (by rfl) v2.heap.size (.slice A9 lq c9) lq (kv .i64 (qs i j)) (by rfl) HO9.out (zb+1) _ 1 [.int .i64 id] (by rfl) (ze9 cb (Nat.lt_succ_self _)) (by simp [Value.oneCell']) (by omega) hBwb.size ?_
    intro v10 w10 hown10 hgr10 hat10 hbel10;have hBw10:Below v2.heap.size v2 w10:=hBwb.trans hbel10;obtain ⟨A10,c10,hv10,_,_⟩:=(Sl.of_own hown10).form;subst hv10
    have hx10:∃ b,(Value.slice A10 (lq+1) c10).ownBlock=some b:=by
     obtain ⟨z,hz⟩:=hne9
     rcases hat10 with h8|h8
     ·exact ⟨z,h8.trans hz⟩
     ·exact ⟨_,h8⟩
    have HO10:Hid (w10.ownsRow w.heap.size 3 1 (.slice A10 (lq+1) c10) (qs i j ++ [id]).length (kv .i64 (qs i j ++ [id]))):=by
     have h8:=zas hown10 HB2.out.size
     rw [show kv .i64 (qs i j) ++ [Value.int .i64 id]=kv .i64 (qs i j ++ [id]) by simp [kv]] at h8
     rw [show (qs i j ++ [id]).length=lq+1 by rw [List.length_append,<- HLQ.out];rfl]
     exact Lib.hid h8
    have HB10:Hid (Below w.heap.size w w10):=HB2.out.trans (hBw10.mono HB2.out.size)
    have y1:w10.cell? ⟨R i,j,none⟩=some (.slice Au lq cu):=(HQC.out _ HB10.out).2.2.1
    have y2:w10.frozen? ⟨R i,j,none⟩=false:=HFZ.out _ HB10.out
    clear hown10 hgr10 hat10 hbel10
    refine hK.out _ _ ?_ (fun hHeld=>?_)
    ·(try dsimp only)
     obtain ⟨a1,a2,_,_⟩:=HQC.out _ (HB2.out.trans ((hBw10).mono HB2.out.size));obtain ⟨_,a3,a4,_,_,_,_,_,_,_,_,_,_,a5⟩:=HBOX.out _ (HBW2.out.trans ((hBw10).mono HBW2.out.size))
     exact ⟨a1,a2,a3,a4,a5⟩
    clear hK K;refine tk 28 ?_
    refine wpAnyH_ready (rs:=[29]) (by kernel_rfl) (by simp) ?_
    refine ac1 rfl fun K hK=>?_
    go_simp
    refine hK.out _ _ ?_ (fun hHeld=>?_)
    ·(try dsimp only)
     obtain ⟨a1,a2,_,_⟩:=HQC.out _ (HB2.out.trans (hBw10.mono HB2.out.size));obtain ⟨_,a3,a4,_,_,_,_,_,_,_,_,_,_,a5⟩:=HBOX.out _ (HBW2.out.trans (hBw10.mono HBW2.out.size));have hz9:=(HB2.out.trans (hBw10.mono HB2.out.size)).size
     exact ⟨((But.set j _).cell (show A<w10.heap.size by omega) HNE.out.1).trans a1,((But.set j _).cell (show Q<w10.heap.size by omega) HNE.out.2.1).trans a2,((But.set j _).cell (show w.heap.size<w10.heap.size by have:=hBw10.size;have:=HBW2.out.size;omega) HNE.out.2.2).trans a3,((But.set j _).cell (show w.heap.size<w10.heap.size by have:=hBw10.size;have:=HBW2.out.size;omega) HNE.out.2.2).trans a4,((But.set j _).cell (show w.heap.size<w10.heap.size by have:=hBw10.size;have:=HBW2.out.size;omega) HNE.out.2.2).trans a5⟩
    clear hK K
    (try simp only [Act.put,sqA,sqB,sqC])
    refine dnR ?_
    have HF:=Lib.hid (HH.out.putq hi hj HB10.out HO10.out hx10);clear hHeld y1 y2 hvb
    go_wp2
    go_ret
    exact ⟨by first|rfl|(simp;done),⟨_,HF.out.1⟩,HF.out.2⟩
   ·go_simp
    refine hK.out _ _ ?_ (fun hHeld=>?_)
    ·(try dsimp only)
     obtain ⟨a1,a2,_,_⟩:=HQC.out _ (HB2.out.trans ((hBwa.alloc hBwa.size _).mono HB2.out.size));obtain ⟨_,a3,a4,_,_,_,_,_,_,_,_,_,_,a5⟩:=HBOX.out _ (HBW2.out.trans ((hBwa.alloc hBwa.size _).mono HBW2.out.size))
     exact ⟨a1,a2,a3,a4,a5⟩
    clear hK K
    (try simp only [Act.put,sqA,sqB,sqC])
    obtain ⟨zb,hzb'⟩:∃ o,o=wa.heap.size:=⟨_,rfl⟩;obtain ⟨wb,hwb⟩:∃ x,x=wa.alloc (.cells #[.int .i64 id] 3):=⟨_,rfl⟩
    have hBwb:Below v2.heap.size v2 wb:=by rw [hwb];exact hBwa.alloc hBwa.size _
    have cb:wb.cell? ⟨zb,0,none⟩=some (.int .i64 id):=by rw [hwb,hzb'];simp [go_sem]
    have hzb:zb<wb.heap.size:=by rw [hwb,hzb',World.size_alloc];omega
    have hzab:zb≠za:=by have:=(HOa.out.lt za rfl).2;omega
    have HOa:=Lib.hid (zac HOa.out (show Below wa.heap.size wa wb by rw [hwb];exact (Below.refl _ _).alloc (Nat.le_refl _) _))
    rw [<- hzb',<- hwb]
    (try rw [<- hwb] at hHeld)
    clear hwb hzb'
    refine wpAnyH_ready (rs:=[23]) (by kernel_rfl) (by simp) ?_
    refine ac1 rfl fun K hK=>?_
    refine zam _ (by rfl) zb9 _ _ (by rfl) v2.heap.size (.slice (some ⟨za,0,none⟩) 0 0) 0 [] (by rfl) HOa.out v2.heap.size (.slice Au lq cu) lq (kv .i64 (qs i j)) (by rfl) ((HSL.out _ HB2.out).below hBwb) (zcl _) (by omega) hBwb.size ?_
    intro v9 w9 hown9 hgr9 hat9 hbel9;have hBw9:Below v2.heap.size v2 w9:=hBwb.trans hbel9;have hsz9:=hgr9.size
    have cb:w9.cell? ⟨zb,0,none⟩=some (.int .i64 id):=(World.cell?_of_block (a:=⟨zb,0,none⟩) (hgr9.block zb hzb (fun e9=>hzab (by injection e9)))).trans cb
    have hzb:zb<w9.heap.size:=by omega
    obtain ⟨A9,c9,hv9,_,_⟩:=(Sl.of_own hown9).form;subst hv9
    simp only [Nat.zero_add] at hown9 hat9 |-
    have hne9:∃ z,(Value.slice A9 lq c9).ownBlock=some z:=by
     rcases hat9 with h8|h8
     ·exact ⟨_,h8⟩
     ·exact ⟨_,h8⟩
    rw [List.nil_append] at hown9;have HO9:=Lib.hid hown9;clear hown9 hgr9 hat9 hbel9 hsz9
    refine hK.out _ _ ?_ (fun hHeld=>?_)
    ·(try dsimp only)
     obtain ⟨a1,a2,_,_⟩:=HQC.out _ (HB2.out.trans ((hBw9).mono HB2.out.size));obtain ⟨_,a3,a4,_,_,_,_,_,_,_,_,_,_,a5⟩:=HBOX.out _ (HBW2.out.trans ((hBw9).mono HBW2.out.size))
     exact ⟨a1,a2,a3,a4,a5⟩
    clear hK K
    (try simp only [Act.put,sqA,sqB,sqC])
    refine wpAnyH_ready (rs:=[27]) (by kernel_rfl) (by simp) ?_
    refine ac1 rfl fun K hK=>?_
    refine zam _ (by rfl) zb9 _ _ (by rfl) v2.heap.size (.slice A9 lq c9) lq (kv .i64 (qs i j)) (by rfl) HO9.out (zb+1) _ 1 [.int .i64 id] (by rfl) (ze9 cb (Nat.lt_succ_self _)) (by simp [Value.oneCell']) (by omega) hBw9.size ?_
    intro v10 w10 hown10 hgr10 hat10 hbel10;have hBw10:Below v2.heap.size v2 w10:=hBw9.trans hbel10;obtain ⟨A10,c10,hv10,_,_⟩:=(Sl.of_own hown10).form;subst hv10
    have hx10:∃ b,(Value.slice A10 (lq+1) c10).ownBlock=some b:=by
     obtain ⟨z,hz⟩:=hne9
     rcases hat10 with h8|h8
     ·exact ⟨z,h8.trans hz⟩
     ·exact ⟨_,h8⟩
    have HO10:Hid (w10.ownsRow w.heap.size 3 1 (.slice A10 (lq+1) c10) (qs i j ++ [id]).length (kv .i64 (qs i j ++ [id]))):=by
     have h8:=zas hown10 HB2.out.size
     rw [show kv .i64 (qs i j) ++ [Value.int .i64 id]=kv .i64 (qs i j ++ [id]) by simp [kv]] at h8
     rw [show (qs i j ++ [id]).length=lq+1 by rw [List.length_append,<- HLQ.out];rfl]
     exact Lib.hid h8
    have HB10:Hid (Below w.heap.size w w10):=HB2.out.trans (hBw10.mono HB2.out.size)
    have y1:w10.cell? ⟨R i,j,none⟩=some (.slice Au lq cu):=(HQC.out _ HB10.out).2.2.1
    have y2:w10.frozen? ⟨R i,j,none⟩=false:=HFZ.out _ HB10.out
    clear hown10 hgr10 hat10 hbel10
    refine hK.out _ _ ?_ (fun hHeld=>?_)
    ·(try dsimp only)
     obtain ⟨a1,a2,_,_⟩:=HQC.out _ (HB2.out.trans ((hBw10).mono HB2.out.size));obtain ⟨_,a3,a4,_,_,_,_,_,_,_,_,_,_,a5⟩:=HBOX.out _ (HBW2.out.trans ((hBw10).mono HBW2.out.size))
     exact ⟨a1,a2,a3,a4,a5⟩
    clear hK K;refine tk 28 ?_
    refine wpAnyH_ready (rs:=[29]) (by kernel_rfl) (by simp) ?_
    refine ac1 rfl fun K hK=>?_
    go_simp
    refine hK.out _ _ ?_ (fun hHeld=>?_)
    ·(try dsimp only)
     obtain ⟨a1,a2,_,_⟩:=HQC.out _ (HB2.out.trans (hBw10.mono HB2.out.size));obtain ⟨_,a3,a4,_,_,_,_,_,_,_,_,_,_,a5⟩:=HBOX.out _ (HBW2.out.trans (hBw10.mono HBW2.out.size));have hz9:=(HB2.out.trans (hBw10.mono HB2.out.size)).size
     exact ⟨((But.set j _).cell (show A<w10.heap.size by omega) HNE.out.1).trans a1,((But.set j _).cell (show Q<w10.heap.size by omega) HNE.out.2.1).trans a2,((But.set j _).cell (show w.heap.size<w10.heap.size by have:=hBw10.size;have:=HBW2.out.size;omega) HNE.out.2.2).trans a3,((But.set j _).cell (show w.heap.size<w10.heap.size by have:=hBw10.size;have:=HBW2.out.size;omega) HNE.out.2.2).trans a4,((But.set j _).cell (show w.heap.size<w10.heap.size by have:=hBw10.size;have:=HBW2.out.size;omega) HNE.out.2.2).trans a5⟩
    clear hK K
    (try simp only [Act.put,sqA,sqB,sqC])
    refine dnR ?_
    have HF:=Lib.hid (HH.out.putq hi hj HB10.out HO10.out hx10);clear hHeld y1 y2 hvb
    go_wp2
    go_ret
    exact ⟨by first|rfl|(simp;done),⟨_,HF.out.1⟩,HF.out.2⟩
  ·go_simp
   refine hK.out _ _ ?_ (fun hHeld=>?_)
   ·(try dsimp only)
    obtain ⟨a1,a2,_,_⟩:=HQC.out _ (HB2.out.trans ((hBv2.alloc hBv2.size _).mono HB2.out.size));obtain ⟨_,a3,a4,_,_,_,_,_,_,_,_,_,_,a5⟩:=HBOX.out _ (HBW2.out.trans ((hBv2.alloc hBv2.size _).mono HBW2.out.size))
    exact ⟨a1,a2,a3,a4,a5⟩
   clear hK K
   (try simp only [Act.put,sqA,sqB,sqC])
   obtain ⟨zb,hzb'⟩:∃ o,o=v2.heap.size:=⟨_,rfl⟩;obtain ⟨wb,hwb⟩:∃ x,x=v2.alloc (.cells #[.int .i64 id] 3):=⟨_,rfl⟩
   have hBwb:Below v2.heap.size v2 wb:=by rw [hwb];exact hBv2.alloc hBv2.size _
   have cb:wb.cell? ⟨zb,0,none⟩=some (.int .i64 id):=by rw [hwb,hzb'];simp [go_sem]
   have hzb:zb<wb.heap.size:=by rw [hwb,hzb',World.size_alloc];omega
   rw [<- hzb',<- hwb]
   (try rw [<- hwb] at hHeld)
   clear hwb hzb'
   refine wpAnyH_ready (rs:=[10]) (by kernel_rfl) (by simp) ?_
   refine ac1 rfl fun K hK=>?_
   go_simp
   refine hK.out _ _ ?_ (fun hHeld=>?_)
   ·(try dsimp only)
    obtain ⟨a1,a2,_,_⟩:=HQC.out _ (HB2.out.trans ((hBwb.alloc hBwb.size _).mono HB2.out.size));obtain ⟨_,a3,a4,_,_,_,_,_,_,_,_,_,_,a5⟩:=HBOX.out _ (HBW2.out.trans ((hBwb.alloc hBwb.size _).mono HBW2.out.size))
    exact ⟨a1,a2,a3,a4,a5⟩
   clear hK K
   (try simp only [Act.put,sqA,sqB,sqC])
   obtain ⟨za,hza⟩:∃ o,o=wb.heap.size:=⟨_,rfl⟩;obtain ⟨wa,hwa⟩:∃ x,x=wb.alloc (.cells #[] 3):=⟨_,rfl⟩
   have HOa:Hid (wa.ownsRow v2.heap.size 3 1 (.slice (some ⟨za,0,none⟩) 0 0) 0 []):=by rw [hwa,hza];exact ⟨by simp,.inr ⟨wb.heap.size,0,#[],rfl,hBwb.size,heap_alloc_new wb _,Nat.le_refl _,by simp [maxLen],by simp,by simp⟩⟩
   have hBwa:Below v2.heap.size v2 wa:=by rw [hwa];exact hBwb.alloc hBwb.size _
   have cb:wa.cell? ⟨zb,0,none⟩=some (.int .i64 id):=by rw [hwa];exact (World.cell?_alloc_lt _ _ _ (by show zb<wb.heap.size;omega)).trans cb
   have hzab:zb≠za:=by omega
   have hzb:zb<wa.heap.size:=by rw [hwa,World.size_alloc];omega
   rw [<- hza,<- hwa]
   (try rw [<- hwa] at hHeld)
   clear hwa hza
   refine wpAnyH_ready (rs:=[23]) (by kernel_rfl) (by simp) ?_
   refine ac1 rfl fun K hK=>?_
   refine zam _ (by rfl) zb9 _ _ (by rfl) v2.heap.size (.slice (some ⟨za,0,none⟩) 0 0) 0 [] (by rfl) HOa.out v2.heap.size (.slice Au lq cu) lq (kv .i64 (qs i j)) (by rfl) ((HSL.out _ HB2.out).below hBwa) (zcl _) (by omega) hBwa.size ?_
   intro v9 w9 hown9 hgr9 hat9 hbel9;have hBw9:Below v2.heap.size v2 w9:=hBwa.trans hbel9;have hsz9:=hgr9.size
   have cb:w9.cell? ⟨zb,0,none⟩=some (.int .i64 id):=(World.cell?_of_block (a:=⟨zb,0,none⟩) (hgr9.block zb hzb (fun e9=>hzab (by injection e9)))).trans cb
   have hzb:zb<w9.heap.size:=by omega
   obtain ⟨A9,c9,hv9,_,_⟩:=(Sl.of_own hown9).form;subst hv9
   simp only [Nat.zero_add] at hown9 hat9 |-
   have hne9:∃ z,(Value.slice A9 lq c9).ownBlock=some z:=by
    rcases hat9 with h8|h8
    ·exact ⟨_,h8⟩
    ·exact ⟨_,h8⟩
   rw [List.nil_append] at hown9;have HO9:=Lib.hid hown9;clear hown9 hgr9 hat9 hbel9 hsz9
   refine hK.out _ _ ?_ (fun hHeld=>?_)
   ·(try dsimp only)
    obtain ⟨a1,a2,_,_⟩:=HQC.out _ (HB2.out.trans ((hBw9).mono HB2.out.size));obtain ⟨_,a3,a4,_,_,_,_,_,_,_,_,_,_,a5⟩:=HBOX.out _ (HBW2.out.trans ((hBw9).mono HBW2.out.size))
    exact ⟨a1,a2,a3,a4,a5⟩
   clear hK K
   (try simp only [Act.put,sqA,sqB,sqC])
   refine wpAnyH_ready (rs:=[27]) (by kernel_rfl) (by simp) ?_
   refine ac1 rfl fun K hK=>?_
   refine zam _ (by rfl) zb9 _ _ (by rfl) v2.heap.size (.slice A9 lq c9) lq (kv .i64 (qs i j)) (by rfl) HO9.out (zb+1) _ 1 [.int .i64 id] (by rfl) (ze9 cb (Nat.lt_succ_self _)) (by simp [Value.oneCell']) (by omega) hBw9.size ?_
   intro v10 w10 hown10 hgr10 hat10 hbel10;have hBw10:Below v2.heap.size v2 w10:=hBw9.trans hbel10;obtain ⟨A10,c10,hv10,_,_⟩:=(Sl.of_own hown10).form;subst hv10
   have hx10:∃ b,(Value.slice A10 (lq+1) c10).ownBlock=some b:=by
    obtain ⟨z,hz⟩:=hne9
    rcases hat10 with h8|h8
    ·exact ⟨z,h8.trans hz⟩
    ·exact ⟨_,h8⟩
   have HO10:Hid (w10.ownsRow w.heap.size 3 1 (.slice A10 (lq+1) c10) (qs i j ++ [id]).length (kv .i64 (qs i j ++ [id]))):=by
    have h8:=zas hown10 HB2.out.size
    rw [show kv .i64 (qs i j) ++ [Value.int .i64 id]=kv .i64 (qs i j ++ [id]) by simp [kv]] at h8
    rw [show (qs i j ++ [id]).length=lq+1 by rw [List.length_append,<- HLQ.out];rfl]
    exact Lib.hid h8
   have HB10:Hid (Below w.heap.size w w10):=HB2.out.trans (hBw10.mono HB2.out.size)
   have y1:w10.cell? ⟨R i,j,none⟩=some (.slice Au lq cu):=(HQC.out _ HB10.out).2.2.1
   have y2:w10.frozen? ⟨R i,j,none⟩=false:=HFZ.out _ HB10.out
   clear hown10 hgr10 hat10 hbel10
   refine hK.out _ _ ?_ (fun hHeld=>?_)
   ·(try dsimp only)
    obtain ⟨a1,a2,_,_⟩:=HQC.out _ (HB2.out.trans ((hBw10).mono HB2.out.size));obtain ⟨_,a3,a4,_,_,_,_,_,_,_,_,_,_,a5⟩:=HBOX.out _ (HBW2.out.trans ((hBw10).mono HBW2.out.size))
    exact ⟨a1,a2,a3,a4,a5⟩
   clear hK K;refine tk 28 ?_
   refine wpAnyH_ready (rs:=[29]) (by kernel_rfl) (by simp) ?_
   refine ac1 rfl fun K hK=>?_
   go_simp
   refine hK.out _ _ ?_ (fun hHeld=>?_)
   ·(try dsimp only)
    obtain ⟨a1,a2,_,_⟩:=HQC.out _ (HB2.out.trans (hBw10.mono HB2.out.size));obtain ⟨_,a3,a4,_,_,_,_,_,_,_,_,_,_,a5⟩:=HBOX.out _ (HBW2.out.trans (hBw10.mono HBW2.out.size));have hz9:=(HB2.out.trans (hBw10.mono HB2.out.size)).size
    exact ⟨((But.set j _).cell (show A<w10.heap.size by omega) HNE.out.1).trans a1,((But.set j _).cell (show Q<w10.heap.size by omega) HNE.out.2.1).trans a2,((But.set j _).cell (show w.heap.size<w10.heap.size by have:=hBw10.size;have:=HBW2.out.size;omega) HNE.out.2.2).trans a3,((But.set j _).cell (show w.heap.size<w10.heap.size by have:=hBw10.size;have:=HBW2.out.size;omega) HNE.out.2.2).trans a4,((But.set j _).cell (show w.heap.size<w10.heap.size by have:=hBw10.size;have:=HBW2.out.size;omega) HNE.out.2.2).trans a5⟩
   clear hK K
   (try simp only [Act.put,sqA,sqB,sqC])
   refine dnR ?_
   have HF:=Lib.hid (HH.out.putq hi hj HB10.out HO10.out hx10);clear hHeld y1 y2 hvb
   go_wp2
   go_ret
   exact ⟨by first|rfl|(simp;done),⟨_,HF.out.1⟩,HF.out.2⟩
 ·go_simp
  refine hK.out _ _ ?_ (fun hHeld=>?_)
  ·(try dsimp only)
   obtain ⟨a1,a2,_,_⟩:=HQC.out _ (HB2.out.trans ((hBv2.alloc hBv2.size _).mono HB2.out.size));obtain ⟨_,a3,a4,_,_,_,_,_,_,_,_,_,_,a5⟩:=HBOX.out _ (HBW2.out.trans ((hBv2.alloc hBv2.size _).mono HBW2.out.size))
   exact ⟨a1,a2,a3,a4,a5⟩
  clear hK K
  (try simp only [Act.put,sqA,sqB,sqC])
  obtain ⟨zb,hzb'⟩:∃ o,o=v2.heap.size:=⟨_,rfl⟩;obtain ⟨wb,hwb⟩:∃ x,x=v2.alloc (.cells #[.int .i64 id] 3):=⟨_,rfl⟩
  have hBwb:Below v2.heap.size v2 wb:=by rw [hwb];exact hBv2.alloc hBv2.size _
  have cb:wb.cell? ⟨zb,0,none⟩=some (.int .i64 id):=by rw [hwb,hzb'];simp [go_sem]
  have hzb:zb<wb.heap.size:=by rw [hwb,hzb',World.size_alloc];omega
  rw [<- hzb',<- hwb]
  (try rw [<- hwb] at hHeld)
  clear hwb hzb'
  refine wpAnyH_ready (rs:=[10,22]) (by kernel_rfl) (by simp) ?_
  refine (acR rfl (fun K hK=>?_) (acR rfl (fun K hK=>?_) AllReadyH.nil))
  ·go_simp
   refine hK.out _ _ ?_ (fun hHeld=>?_)
   ·(try dsimp only)
    obtain ⟨a1,a2,_,_⟩:=HQC.out _ (HB2.out.trans ((hBwb.alloc hBwb.size _).mono HB2.out.size));obtain ⟨_,a3,a4,_,_,_,_,_,_,_,_,_,_,a5⟩:=HBOX.out _ (HBW2.out.trans ((hBwb.alloc hBwb.size _).mono HBW2.out.size))
    exact ⟨a1,a2,a3,a4,a5⟩
   clear hK K
   (try simp only [Act.put,sqA,sqB,sqC])
   obtain ⟨za,hza⟩:∃ o,o=wb.heap.size:=⟨_,rfl⟩;obtain ⟨wa,hwa⟩:∃ x,x=wb.alloc (.cells #[] 3):=⟨_,rfl⟩
   have HOa:Hid (wa.ownsRow v2.heap.size 3 1 (.slice (some ⟨za,0,none⟩) 0 0) 0 []):=by rw [hwa,hza];exact ⟨by simp,.inr ⟨wb.heap.size,0,#[],rfl,hBwb.size,heap_alloc_new wb _,Nat.le_refl _,by simp [maxLen],by simp,by simp⟩⟩
   have hBwa:Below v2.heap.size v2 wa:=by rw [hwa];exact hBwb.alloc hBwb.size _
   have cb:wa.cell? ⟨zb,0,none⟩=some (.int .i64 id):=by rw [hwa];exact (World.cell?_alloc_lt _ _ _ (by show zb<wb.heap.size;omega)).trans cb
   have hzab:zb≠za:=by omega
   have hzb:zb<wa.heap.size:=by rw [hwa,World.size_alloc];omega
   rw [<- hza,<- hwa]
   (try rw [<- hwa] at hHeld)
   clear hwa hza
   refine wpAnyH_ready (rs:=[22]) (by kernel_rfl) (by simp) ?_
   refine ac1 rfl fun K hK=>?_
   have erx:=(HQC.out _ (HB2.out.trans (hBwa.mono HB2.out.size))).2.2.1;go_simp;clear erx
   refine hK.out _ _ ?_ (fun hHeld=>?_)
   ·(try dsimp only)
    obtain ⟨a1,a2,_,_⟩:=HQC.out _ (HB2.out.trans ((hBwa).mono HB2.out.size));obtain ⟨_,a3,a4,_,_,_,_,_,_,_,_,_,_,a5⟩:=HBOX.out _ (HBW2.out.trans ((hBwa).mono HBW2.out.size))
    exact ⟨a1,a2,a3,a4,a5⟩
   clear hK K
   (try simp only [Act.put,sqA,sqB,sqC])
   refine wpAnyH_ready (rs:=[23]) (by kernel_rfl) (by simp) ?_
   refine ac1 rfl fun K hK=>?_
   refine zam _ (by rfl) zb9 _ _ (by rfl) v2.heap.size (.slice (some ⟨za,0,none⟩) 0 0) 0 [] (by rfl) HOa.out v2.heap.size (.slice Au lq cu) lq (kv .i64 (qs i j)) (by rfl) ((HSL.out _ HB2.out).below hBwa) (zcl _) (by omega) hBwa.size ?_
   intro v9 w9 hown9 hgr9 hat9 hbel9;have hBw9:Below v2.heap.size v2 w9:=hBwa.trans hbel9;have hsz9:=hgr9.size
   have cb:w9.cell? ⟨zb,0,none⟩=some (.int .i64 id):=(World.cell?_of_block (a:=⟨zb,0,none⟩) (hgr9.block zb hzb (fun e9=>hzab (by injection e9)))).trans cb
   have hzb:zb<w9.heap.size:=by omega
   obtain ⟨A9,c9,hv9,_,_⟩:=(Sl.of_own hown9).form;subst hv9
   simp only [Nat.zero_add] at hown9 hat9 |-
   have hne9:∃ z,(Value.slice A9 lq c9).ownBlock=some z:=by
    rcases hat9 with h8|h8
    ·exact ⟨_,h8⟩
    ·exact ⟨_,h8⟩
   rw [List.nil_append] at hown9;have HO9:=Lib.hid hown9;clear hown9 hgr9 hat9 hbel9 hsz9
   refine hK.out _ _ ?_ (fun hHeld=>?_)
   ·(try dsimp only)
    obtain ⟨a1,a2,_,_⟩:=HQC.out _ (HB2.out.trans ((hBw9).mono HB2.out.size));obtain ⟨_,a3,a4,_,_,_,_,_,_,_,_,_,_,a5⟩:=HBOX.out _ (HBW2.out.trans ((hBw9).mono HBW2.out.size))
    exact ⟨a1,a2,a3,a4,a5⟩
   clear hK K
   (try simp only [Act.put,sqA,sqB,sqC])
   refine wpAnyH_ready (rs:=[27]) (by kernel_rfl) (by simp) ?_
   refine ac1 rfl fun K hK=>?_
   refine zam _ (by rfl) zb9 _ _ (by rfl) v2.heap.size (.slice A9 lq c9) lq (kv .i64 (qs i j)) (by rfl) HO9.out (zb+1) _ 1 [.int .i64 id] (by rfl) (ze9 cb (Nat.lt_succ_self _)) (by simp [Value.oneCell']) (by omega) hBw9.size ?_
   intro v10 w10 hown10 hgr10 hat10 hbel10;have hBw10:Below v2.heap.size v2 w10:=hBw9.trans hbel10;obtain ⟨A10,c10,hv10,_,_⟩:=(Sl.of_own hown10).form;subst hv10
   have hx10:∃ b,(Value.slice A10 (lq+1) c10).ownBlock=some b:=by
    obtain ⟨z,hz⟩:=hne9
    rcases hat10 with h8|h8
    ·exact ⟨z,h8.trans hz⟩
    ·exact ⟨_,h8⟩
   have HO10:Hid (w10.ownsRow w.heap.size 3 1 (.slice A10 (lq+1) c10) (qs i j ++ [id]).length (kv .i64 (qs i j ++ [id]))):=by
    have h8:=zas hown10 HB2.out.size
    rw [show kv .i64 (qs i j) ++ [Value.int .i64 id]=kv .i64 (qs i j ++ [id]) by simp [kv]] at h8
    rw [show (qs i j ++ [id]).length=lq+1 by rw [List.length_append,<- HLQ.out];rfl]
    exact Lib.hid h8
   have HB10:Hid (Below w.heap.size w w10):=HB2.out.trans (hBw10.mono HB2.out.size)
   have y1:w10.cell? ⟨R i,j,none⟩=some (.slice Au lq cu):=(HQC.out _ HB10.out).2.2.1
   have y2:w10.frozen? ⟨R i,j,none⟩=false:=HFZ.out _ HB10.out
   clear hown10 hgr10 hat10 hbel10
   refine hK.out _ _ ?_ (fun hHeld=>?_)
   ·(try dsimp only)
    obtain ⟨a1,a2,_,_⟩:=HQC.out _ (HB2.out.trans ((hBw10).mono HB2.out.size));obtain ⟨_,a3,a4,_,_,_,_,_,_,_,_,_,_,a5⟩:=HBOX.out _ (HBW2.out.trans ((hBw10).mono HBW2.out.size))
    exact ⟨a1,a2,a3,a4,a5⟩
   clear hK K;refine tk 28 ?_
   refine wpAnyH_ready (rs:=[29]) (by kernel_rfl) (by simp) ?_
   refine ac1 rfl fun K hK=>?_
   go_simp
   refine hK.out _ _ ?_ (fun hHeld=>?_)
   ·(try dsimp only)
    obtain ⟨a1,a2,_,_⟩:=HQC.out _ (HB2.out.trans (hBw10.mono HB2.out.size));obtain ⟨_,a3,a4,_,_,_,_,_,_,_,_,_,_,a5⟩:=HBOX.out _ (HBW2.out.trans (hBw10.mono HBW2.out.size));have hz9:=(HB2.out.trans (hBw10.mono HB2.out.size)).size
    exact ⟨((But.set j _).cell (show A<w10.heap.size by omega) HNE.out.1).trans a1,((But.set j _).cell (show Q<w10.heap.size by omega) HNE.out.2.1).trans a2,((But.set j _).cell (show w.heap.size<w10.heap.size by have:=hBw10.size;have:=HBW2.out.size;omega) HNE.out.2.2).trans a3,((But.set j _).cell (show w.heap.size<w10.heap.size by have:=hBw10.size;have:=HBW2.out.size;omega) HNE.out.2.2).trans a4,((But.set j _).cell (show w.heap.size<w10.heap.size by have:=hBw10.size;have:=HBW2.out.size;omega) HNE.out.2.2).trans a5⟩
   clear hK K
   (try simp only [Act.put,sqA,sqB,sqC])
   refine dnR ?_
   have HF:=Lib.hid (HH.out.putq hi hj HB10.out HO10.out hx10);clear hHeld y1 y2 hvb
   go_wp2
   go_ret
   exact ⟨by first|rfl|(simp;done),⟨_,HF.out.1⟩,HF.out.2⟩
  ·have erx:=(HQC.out _ (HB2.out.trans (hBwb.mono HB2.out.size))).2.2.1
   go_simp;clear erx
   refine hK.out _ _ ?_ (fun hHeld=>?_)
   ·(try dsimp only)
    obtain ⟨a1,a2,_,_⟩:=HQC.out _ (HB2.out.trans ((hBwb).mono HB2.out.size));obtain ⟨_,a3,a4,_,_,_,_,_,_,_,_,_,_,a5⟩:=HBOX.out _ (HBW2.out.trans ((hBwb).mono HBW2.out.size))
    exact ⟨a1,a2,a3,a4,a5⟩
   clear hK K
   (try simp only [Act.put,sqA,sqB,sqC])
   refine wpAnyH_ready (rs:=[10]) (by kernel_rfl) (by simp) ?_
   refine ac1 rfl fun K hK=>?_
   go_simp
   refine hK.out _ _ ?_ (fun hHeld=>?_)
   ·(try dsimp only)
    obtain ⟨a1,a2,_,_⟩:=HQC.out _ (HB2.out.trans ((hBwb.alloc hBwb.size _).mono HB2.out.size));obtain ⟨_,a3,a4,_,_,_,_,_,_,_,_,_,_,a5⟩:=HBOX.out _ (HBW2.out.trans ((hBwb.alloc hBwb.size _).mono HBW2.out.size))
    exact ⟨a1,a2,a3,a4,a5⟩
   clear hK K
   (try simp only [Act.put,sqA,sqB,sqC])
   obtain ⟨za,hza⟩:∃ o,o=wb.heap.size:=⟨_,rfl⟩;obtain ⟨wa,hwa⟩:∃ x,x=wb.alloc (.cells #[] 3):=⟨_,rfl⟩
   have HOa:Hid (wa.ownsRow v2.heap.size 3 1 (.slice (some ⟨za,0,none⟩) 0 0) 0 []):=by rw [hwa,hza];exact ⟨by simp,.inr ⟨wb.heap.size,0,#[],rfl,hBwb.size,heap_alloc_new wb _,Nat.le_refl _,by simp [maxLen],by simp,by simp⟩⟩
   have hBwa:Below v2.heap.size v2 wa:=by rw [hwa];exact hBwb.alloc hBwb.size _
   have cb:wa.cell? ⟨zb,0,none⟩=some (.int .i64 id):=by rw [hwa];exact (World.cell?_alloc_lt _ _ _ (by show zb<wb.heap.size;omega)).trans cb
   have hzab:zb≠za:=by omega
   have hzb:zb<wa.heap.size:=by rw [hwa,World.size_alloc];omega
   rw [<- hza,<- hwa]
   (try rw [<- hwa] at hHeld)
   clear hwa hza
   refine wpAnyH_ready (rs:=[23]) (by kernel_rfl) (by simp) ?_
   refine ac1 rfl fun K hK=>?_
   refine zam _ (by rfl) zb9 _ _ (by rfl) v2.heap.size (.slice (some ⟨za,0,none⟩) 0 0) 0 [] (by rfl) HOa.out v2.heap.size (.slice Au lq cu) lq (kv .i64 (qs i j)) (by rfl) ((HSL.out _ HB2.out).below hBwa) (zcl _) (by omega) hBwa.size ?_
   intro v9 w9 hown9 hgr9 hat9 hbel9;have hBw9:Below v2.heap.size v2 w9:=hBwa.trans hbel9;have hsz9:=hgr9.size
   have cb:w9.cell? ⟨zb,0,none⟩=some (.int .i64 id):=(World.cell?_of_block (a:=⟨zb,0,none⟩) (hgr9.block zb hzb (fun e9=>hzab (by injection e9)))).trans cb
   have hzb:zb<w9.heap.size:=by omega
   obtain ⟨A9,c9,hv9,_,_⟩:=(Sl.of_own hown9).form;subst hv9
   simp only [Nat.zero_add] at hown9 hat9 |-
   have hne9:∃ z,(Value.slice A9 lq c9).ownBlock=some z:=by
    rcases hat9 with h8|h8
    ·exact ⟨_,h8⟩
    ·exact ⟨_,h8⟩
   rw [List.nil_append] at hown9;have HO9:=Lib.hid hown9;clear hown9 hgr9 hat9 hbel9 hsz9
   refine hK.out _ _ ?_ (fun hHeld=>?_)
   ·(try dsimp only)
    obtain ⟨a1,a2,_,_⟩:=HQC.out _ (HB2.out.trans ((hBw9).mono HB2.out.size));obtain ⟨_,a3,a4,_,_,_,_,_,_,_,_,_,_,a5⟩:=HBOX.out _ (HBW2.out.trans ((hBw9).mono HBW2.out.size))
    exact ⟨a1,a2,a3,a4,a5⟩
   clear hK K
   (try simp only [Act.put,sqA,sqB,sqC])
   refine wpAnyH_ready (rs:=[27]) (by kernel_rfl) (by simp) ?_
   refine ac1 rfl fun K hK=>?_
   refine zam _ (by rfl) zb9 _ _ (by rfl) v2.heap.size (.slice A9 lq c9) lq (kv .i64 (qs i j)) (by rfl) HO9.out (zb+1) _ 1 [.int .i64 id] (by rfl) (ze9 cb (Nat.lt_succ_self _)) (by simp [Value.oneCell']) (by omega) hBw9.size ?_
   intro v10 w10 hown10 hgr10 hat10 hbel10;have hBw10:Below v2.heap.size v2 w10:=hBw9.trans hbel10;obtain ⟨A10,c10,hv10,_,_⟩:=(Sl.of_own hown10).form;subst hv10
   have hx10:∃ b,(Value.slice A10 (lq+1) c10).ownBlock=some b:=by
    obtain ⟨z,hz⟩:=hne9
    rcases hat10 with h8|h8
    ·exact ⟨z,h8.trans hz⟩
    ·exact ⟨_,h8⟩
   have HO10:Hid (w10.ownsRow w.heap.size 3 1 (.slice A10 (lq+1) c10) (qs i j ++ [id]).length (kv .i64 (qs i j ++ [id]))):=by
    have h8:=zas hown10 HB2.out.size
    rw [show kv .i64 (qs i j) ++ [Value.int .i64 id]=kv .i64 (qs i j ++ [id]) by simp [kv]] at h8
    rw [show (qs i j ++ [id]).length=lq+1 by rw [List.length_append,<- HLQ.out];rfl]
    exact Lib.hid h8
   have HB10:Hid (Below w.heap.size w w10):=HB2.out.trans (hBw10.mono HB2.out.size)
   have y1:w10.cell? ⟨R i,j,none⟩=some (.slice Au lq cu):=(HQC.out _ HB10.out).2.2.1
   have y2:w10.frozen? ⟨R i,j,none⟩=false:=HFZ.out _ HB10.out
   clear hown10 hgr10 hat10 hbel10
   refine hK.out _ _ ?_ (fun hHeld=>?_)
   ·(try dsimp only)
    obtain ⟨a1,a2,_,_⟩:=HQC.out _ (HB2.out.trans ((hBw10).mono HB2.out.size));obtain ⟨_,a3,a4,_,_,_,_,_,_,_,_,_,_,a5⟩:=HBOX.out _ (HBW2.out.trans ((hBw10).mono HBW2.out.size))
    exact ⟨a1,a2,a3,a4,a5⟩
   clear hK K;refine tk 28 ?_
   refine wpAnyH_ready (rs:=[29]) (by kernel_rfl) (by simp) ?_
   refine ac1 rfl fun K hK=>?_
   go_simp
   refine hK.out _ _ ?_ (fun hHeld=>?_)
   ·(try dsimp only)
    obtain ⟨a1,a2,_,_⟩:=HQC.out _ (HB2.out.trans (hBw10.mono HB2.out.size));obtain ⟨_,a3,a4,_,_,_,_,_,_,_,_,_,_,a5⟩:=HBOX.out _ (HBW2.out.trans (hBw10.mono HBW2.out.size));have hz9:=(HB2.out.trans (hBw10.mono HB2.out.size)).size
    exact ⟨((But.set j _).cell (show A<w10.heap.size by omega) HNE.out.1).trans a1,((But.set j _).cell (show Q<w10.heap.size by omega) HNE.out.2.1).trans a2,((But.set j _).cell (show w.heap.size<w10.heap.size by have:=hBw10.size;have:=HBW2.out.size;omega) HNE.out.2.2).trans a3,((But.set j _).cell (show w.heap.size<w10.heap.size by have:=hBw10.size;have:=HBW2.out.size;omega) HNE.out.2.2).trans a4,((But.set j _).cell (show w.heap.size<w10.heap.size by have:=hBw10.size;have:=HBW2.out.size;omega) HNE.out.2.2).trans a5⟩
   clear hK K
   (try simp only [Act.put,sqA,sqB,sqC])
   refine dnR ?_
   have HF:=Lib.hid (HH.out.putq hi hj HB10.out HO10.out hx10);clear hHeld y1 y2 hvb
   go_wp2
   go_ret
   exact ⟨by first|rfl|(simp;done),⟨_,HF.out.1⟩,HF.out.2⟩
end Go.Proofs.YtfekhdgjgjodlaaGreat
