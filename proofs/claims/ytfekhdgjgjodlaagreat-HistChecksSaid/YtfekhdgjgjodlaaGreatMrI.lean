/-
  Words and contracts that a statement's proof rests on (MrI). No statement is proved here.
-/
import Derived.Test.YtfekhdgjgjodlaaGreatMrG
set_option linter.unusedVariables false
set_option linter.unusedSimpArgs false
namespace Go.Proofs.YtfekhdgjgjodlaaGreat
open Go.RowKit
set_option maxRecDepth 20000 in
set_option maxHeartbeats 6400000 in
theorem zjn {E:Nat->Prop} {w:World} {L A S1 Q cQ:Nat} {X:Nat->Value} {bp bq P r S B n nv:Nat} {uv:Value} {lv:List Vl} {st:Nat->Int×Nat} {g:Nat->Nat->Pl} {G:Nat->Value} {R:Nat->Nat} {qv:Nat->Nat->Value} {qs:Nat->Nat->List Int} (h:RfAll E w L A S1 Q cQ X bp bq P r S B n nv uv lv st g G R qv qs) (p:Nat) (hp:p<P) (sx:Int) (hx:¬ zau sx=true) (tt vi kv km me un nw li sh bu id:Int):Calls Tryz.prog 19 #[.pointer (some ⟨A,0,none⟩),opV 8 ((p:Nat)) tt vi sx kv km me un nw li sh bu id] w (Says (.int .i64 (-1)) w):=by
 have d1:decide (p<P)=true:=decide_eq_true hp
 obtain ⟨x0,z0,hxz⟩:∃ (x:Int) (z:Nat),st p=(x,z):=⟨_,_,rfl⟩
 have HS8:Hid (∀ w',Below w.heap.size w w'->(w'.cell? ⟨A,10,none⟩=some (.slice (some ⟨S1,0,none⟩) P (capV (X 10)))/\w'.cell? ⟨S1,p*2,none⟩=some (.int .i64 x0)/\w'.cell? ⟨S1,p*2+1,none⟩=some (.int .u32 (z0:Nat)))/\w'.frozen? ⟨S1,p*2,none⟩=false/\w'.frozen? ⟨S1,p*2+1,none⟩=false):=fun w' hb=>by
  have hm:=(h.call hb).md
  exact ⟨⟨hm.cells.cell (by omega),(hm.stands.cell (by omega)).trans (by rw [zeh,hxz]),(hm.stands.cell (by omega)).trans (by rw [zoo,hxz])⟩,hm.stands.frozen _,hm.stands.frozen _⟩
 have hset:=fun w=>zjc x0 sx z0 w
 rw [if_neg hx] at hset;obtain ⟨zz,hzz⟩:∃ z,z=(z0+1) % 4294967296:=⟨_,rfl⟩
 try rw [<- hzz] at hset
 have hzb:zz<4294967296:=by rw [hzz];exact Nat.mod_lt _ (by omega)
 have HZ9:=Lib.hid hzz;clear hzz;have HSET:=Lib.hid hset
 have HNS:Hid (A≠S1/\S1<w.heap.size):=⟨zcs h.md.cells h.md.stands (by decide),h.md.stands.lt⟩
 clear hset
 have hfd:=fun w' (hb:Below w.heap.size w w')=>zag (Sl.of_own (h.call hb).md.vlans) (Nat.le_refl _) vi
 have HFD:=Lib.hid hfd;obtain ⟨w0,hw0⟩:∃ z,z=(w.alloc (.cells #[.int .i64 (8),.int .i64 ((p:Nat)),.int .i64 (tt),.int .i64 (vi),.int .i64 (sx),.int .i64 (kv),.int .u64 (km),.int .u64 (me),.int .u64 (un),.int .u32 (nw),.int .u32 (li),.int .i64 (sh),.int .i64 (bu),.int .i64 (id)] 55)):=⟨_,rfl⟩
 have HB0:Hid (Below w.heap.size w w0):=by rw [hw0];exact (Below.refl _ _).alloc (Nat.le_refl _) _
 have HBOX:=Lib.hid (zbp hw0)
 have hwz:w.heap.size<w0.heap.size:=by rw [hw0];simp
 have hp0:=fun w' (hb:Below w.heap.size w w')=>zal (h.call hb) ((p:Nat))
 rw [zan hp] at hp0;have HP0:=Lib.hid hp0;clear hp0;have HH:=Lib.hid h;have hAz:A<w.heap.size:=h.md.cells.lt;clear h hfd;unfold opV
 go_enter Tryz.func19,Tryz.ntmps19
 go_wp2_with (first
  |(go_at_call 39;(with_reducible refine Calls.mono (HP0.out _ ((Below.refl _ _).alloc (Nat.le_refl _) _)) ?_);rintro e _ ⟨rfl,rfl⟩)
  |fail)
 rw [<- hw0];clear hw0;obtain ⟨q0,q1,q2,q3,q4,q5,q6,q7,q8,q9,q10,q11,q12,q13⟩:=HBOX.out _ (Below.refl _ _)
 have c11:w0.cell? ⟨A,11,none⟩=some uv:=(HH.out.call HB0.out).md.cells.cell (by omega)
 refine wp_region_held_drew (S:=fun w'=>w'.cell? ⟨A,11,none⟩=some uv/\w'.cell? ⟨w.heap.size,3,none⟩=some (.int .i64 (vi))) (by kernel_rfl) ?_ (fun hHeld=>?_)
 ·exact ⟨c11,q3⟩
 obtain ⟨v0,hv0⟩:∃ w',w'=w0.drew:=⟨_,rfl⟩
 have hvb:Below w0.heap.size w0 v0:=by rw [hv0];exact (Below.refl _ _).drew
 have HVZ:Hid (v0.heap.size=w0.heap.size):=by show _=_;rw [hv0];rfl
 rw [<- hv0] at hHeld |-;clear hv0;refine tk 0 ?_;refine tk 1 ?_;refine tk 2 ?_;refine tk 3 ?_;refine tk 4 ?_;refine tk 5 ?_
 refine clR 6 rfl fun K hK=>?_
 go_simp
 refine Calls.mono (HFD.out _ (HB0.out.trans (hvb.mono HB0.out.size))) ?_
 rintro e w1 ⟨rfl,hb1⟩
 have HB1':Hid (Below w0.heap.size w0 w1):=hvb.trans (hb1.mono (by rw [HVZ.out];exact Nat.le_refl _))
 have hz1:w0.heap.size<=w1.heap.size:=HB1'.out.size
 refine hK.out _ _ ?_ (fun hHeld=>?_)
 ·(try dsimp only)
  obtain ⟨x0,x1⟩:=hHeld
  exact ⟨(hb1.cell (p:=⟨A,11,none⟩) (by show A<v0.heap.size;rw [HVZ.out];omega)).trans x0,(hb1.cell (p:=⟨w.heap.size,3,none⟩) (by show w.heap.size<v0.heap.size;rw [HVZ.out];omega)).trans x1⟩
 clear hK K;refine tk 7 ?_
 refine dnR ?_
 have HB1:Hid (Below w.heap.size w w1):=HB0.out.trans (HB1'.out.mono HB0.out.size);have HM:=Lib.hid (HH.out.call HB1.out);clear hHeld c11 q0 q1 q2 q3 q4 q5 q6 q7 q8 q9 q10 q11 q12 q13 hb1 hvb;obtain ⟨q0,q1,q2,q3,q4,q5,q6,q7,q8,q9,q10,q11,q12,q13⟩:=HBOX.out _ HB1'.out;obtain ⟨⟨a1,a2,a3⟩,a4,a5⟩:=HS8.out _ HB1.out
 go_wp2_with fail
 refine wp_region_held_drew (S:=fun w'=>w'.cell? ⟨A,10,none⟩=some (.slice (some ⟨S1,0,none⟩) P (capV (X 10)))/\w'.cell? ⟨w.heap.size,1,none⟩=some (.int .i64 (p:Nat))/\w'.cell? ⟨w.heap.size,4,none⟩=some (.int .i64 sx)/\w'.cell? ⟨S1,p*2,none⟩=some (.int .i64 x0)/\w'.cell? ⟨S1,p*2+1,none⟩=some (.int .u32 (z0:Nat))) (by kernel_rfl) ?_ (fun hHeld=>?_)
 ·exact ⟨a1,q1,q4,a2,a3⟩
 obtain ⟨v1,hv0⟩:∃ w',w'=w1.drew:=⟨_,rfl⟩
 have HB2:Hid (Below w.heap.size w v1):=by rw [hv0];exact HB1.out.trans (Below.refl _ _).drew
 have HBW2:Hid (Below w0.heap.size w0 v1):=by rw [hv0];exact HB1'.out.trans (Below.refl _ _).drew
 rw [<- hv0] at hHeld |-;clear hv0 a1 a2 a3 a4 a5 q0 q1 q2 q3 q4 q5 q6 q7 q8 q9 q10 q11 q12 q13;refine tk 0 ?_;refine tk 1 ?_;refine tk 2 ?_;refine tk 3 ?_;refine tk 4 ?_;refine tk 5 ?_;refine tk 6 ?_;refine tk 7 ?_;refine tk 8 ?_;refine tk 9 ?_
 refine wpAnyH_ready (rs:=[10,14]) (by kernel_rfl) (by simp) ?_
 refine (acR rfl (fun K hK=>?_) (acR rfl (fun K hK=>?_) AllReadyH.nil))
 ·go_simp
  refine Calls.mono (HSET.out _) ?_
  rintro e w9 ⟨rfl,hb9⟩;have HB9:Hid (Below w.heap.size w w9):=HB2.out.trans (hb9.mono HB2.out.size);have HBW9:Hid (Below w0.heap.size w0 w9):=HBW2.out.trans (hb9.mono HBW2.out.size);clear hb9
  refine hK.out _ _ ?_ (fun hHeld=>?_)
  ·(try dsimp only)
   obtain ⟨⟨a1,a2,a3⟩,_⟩:=HS8.out _ HB9.out;obtain ⟨_,b1,_,_,b4,_⟩:=HBOX.out _ HBW9.out
   exact ⟨a1,b1,b4,a2,a3⟩
  clear hK K;refine tk 11 ?_;refine tk 12 ?_;refine tk 13 ?_
  refine wpAnyH_ready (rs:=[14]) (by kernel_rfl) (by simp) ?_
  refine ac1 rfl fun K hK=>?_
  go_simp
  refine hK.out _ _ ?_ (fun hHeld=>?_)
  ·(try dsimp only)
   obtain ⟨⟨a1,a2,a3⟩,_⟩:=HS8.out _ (HB9.out.alloc HB9.out.size _);obtain ⟨_,b1,_,_,b4,_⟩:=HBOX.out _ (HBW9.out.alloc HBW9.out.size _)
   exact ⟨a1,b1,b4,a2,a3⟩
  clear hK K
  (try simp only [Act.put,sqA,sqB,sqC])
  obtain ⟨xb,hxbd⟩:∃ o,o=w9.heap.size:=⟨_,rfl⟩;obtain ⟨wy,hwy⟩:∃ x,x=w9.alloc (.cells #[.int .i64 0,.int .u32 0] 76):=⟨_,rfl⟩
  have HBy:Hid (Below w.heap.size w wy):=by rw [hwy];exact HB9.out.alloc HB9.out.size _
  have HBWy:Hid (Below w0.heap.size w0 wy):=by rw [hwy];exact HBW9.out.alloc HBW9.out.size _
  have hxw:w.heap.size<=xb:=by rw [hxbd];exact HB9.out.size
  have hxw0:w0.heap.size<=xb:=by rw [hxbd];exact HBW9.out.size
  have hxb:xb<wy.heap.size:=by rw [hwy,hxbd,World.size_alloc];omega
  have y0:wy.cell? ⟨xb,0,none⟩=some (.int .i64 0):=by rw [hwy,hxbd];simp [go_sem]
  have y1:wy.cell? ⟨xb,1,none⟩=some (.int .u32 0):=by rw [hwy,hxbd];simp [go_sem]
  have y2:wy.frozen? ⟨xb,0,none⟩=false:=by rw [hwy,hxbd];simp [go_sem]
  have y3:wy.frozen? ⟨xb,1,none⟩=false:=by rw [hwy,hxbd];simp [go_sem]
  rw [<- hxbd,<- hwy]
  (try rw [<- hwy] at hHeld)
  clear hwy hxbd
  refine wpAnyH_ready (rs:=[15]) (by kernel_rfl) (by simp) ?_
  refine ac1 rfl fun K hK=>?_
  go_simp
  refine hK.out _ _ ?_ (fun hHeld=>?_)
  ·(try dsimp only)
   obtain ⟨⟨a1,a2,a3⟩,_⟩:=HS8.out _ ((HBy.out.setCell (show w.heap.size<=(⟨xb,0,none⟩:Addr).block from hxw) _).setCell (show w.heap.size<=(⟨xb,1,none⟩:Addr).block from hxw) _)
   obtain ⟨_,b1,_,_,b4,_⟩:=HBOX.out _ ((HBWy.out.setCell (show w0.heap.size<=(⟨xb,0,none⟩:Addr).block from hxw0) _).setCell (show w0.heap.size<=(⟨xb,1,none⟩:Addr).block from hxw0) _)
   exact ⟨a1,b1,b4,a2,a3⟩
  clear hK K;refine tk 16 ?_
  refine dnR ?_
  obtain ⟨wf,hwf⟩:∃ z,z=(wy.setCell ⟨xb,0,none⟩ (.int .i64 0)).setCell ⟨xb,1,none⟩ (.int .u32 0):=⟨_,rfl⟩
  have HBF:Hid (Below w.heap.size w wf):=by rw [hwf];exact (HBy.out.setCell hxw _).setCell hxw _
  have HBFW:Hid (Below w0.heap.size w0 wf):=by rw [hwf];exact (HBWy.out.setCell hxw0 _).setCell hxw0 _
  have HGG:Hid (wf.cell? ⟨xb,0,none⟩=some (.int .i64 0)/\wf.cell? ⟨xb,1,none⟩=some (.int .u32 0)/\xb<wf.heap.size/\w.heap.size<=xb):=by
   rw [hwf]
   exact ⟨by simp [go_sem,y0],by simp [go_sem,y1],by simp [go_sem];exact hxb,hxw⟩
  rw [<- hwf];clear hHeld hwf y0 y1 y2 y3
  go_wp2
  go_ret
  exact ⟨by first|rfl|(simp;done),HBF.out⟩
 ·go_simp
  refine hK.out _ _ ?_ (fun hHeld=>?_)
  ·(try dsimp only)
   obtain ⟨⟨a1,a2,a3⟩,_⟩:=HS8.out _ (HB2.out.alloc HB2.out.size _);obtain ⟨_,b1,_,_,b4,_⟩:=HBOX.out _ (HBW2.out.alloc HBW2.out.size _)
   exact ⟨a1,b1,b4,a2,a3⟩
  clear hK K
  (try simp only [Act.put,sqA,sqB,sqC])
  obtain ⟨xb,hxbd⟩:∃ o,o=v1.heap.size:=⟨_,rfl⟩;obtain ⟨wy,hwy⟩:∃ x,x=v1.alloc (.cells #[.int .i64 0,.int .u32 0] 76):=⟨_,rfl⟩
  have HBy:Hid (Below w.heap.size w wy):=by rw [hwy];exact HB2.out.alloc HB2.out.size _
  have HBWy:Hid (Below w0.heap.size w0 wy):=by rw [hwy];exact HBW2.out.alloc HBW2.out.size _
  have hxw:w.heap.size<=xb:=by rw [hxbd];exact HB2.out.size
  have hxw0:w0.heap.size<=xb:=by rw [hxbd];exact HBW2.out.size
  have hxb:xb<wy.heap.size:=by rw [hwy,hxbd,World.size_alloc];omega
  have y0:wy.cell? ⟨xb,0,none⟩=some (.int .i64 0):=by rw [hwy,hxbd];simp [go_sem]
  have y1:wy.cell? ⟨xb,1,none⟩=some (.int .u32 0):=by rw [hwy,hxbd];simp [go_sem]
  have y2:wy.frozen? ⟨xb,0,none⟩=false:=by rw [hwy,hxbd];simp [go_sem]
  have y3:wy.frozen? ⟨xb,1,none⟩=false:=by rw [hwy,hxbd];simp [go_sem]
  rw [<- hxbd,<- hwy]
  (try rw [<- hwy] at hHeld)
  clear hwy hxbd
  refine wpAnyH_ready (rs:=[10]) (by kernel_rfl) (by simp) ?_
  refine ac1 rfl fun K hK=>?_
  go_simp
  refine Calls.mono (HSET.out _) ?_
  rintro e w9 ⟨rfl,hb9⟩;have HB9:Hid (Below w.heap.size w w9):=HBy.out.trans (hb9.mono HBy.out.size);have HBW9:Hid (Below w0.heap.size w0 w9):=HBWy.out.trans (hb9.mono HBWy.out.size)
  have y0:w9.cell? ⟨xb,0,none⟩=some (.int .i64 0):=(hb9.cell (p:=⟨xb,0,none⟩) hxb).trans y0
  have y1:w9.cell? ⟨xb,1,none⟩=some (.int .u32 0):=(hb9.cell (p:=⟨xb,1,none⟩) hxb).trans y1
  have y2:w9.frozen? ⟨xb,0,none⟩=false:=(hb9.frozen (p:=⟨xb,0,none⟩) hxb).trans y2
  have y3:w9.frozen? ⟨xb,1,none⟩=false:=(hb9.frozen (p:=⟨xb,1,none⟩) hxb).trans y3
  have hxb9:xb<w9.heap.size:=Nat.lt_of_lt_of_le hxb hb9.size;clear hb9
  refine hK.out _ _ ?_ (fun hHeld=>?_)
  ·(try dsimp only)
   obtain ⟨⟨a1,a2,a3⟩,_⟩:=HS8.out _ HB9.out;obtain ⟨_,b1,_,_,b4,_⟩:=HBOX.out _ HBW9.out
   exact ⟨a1,b1,b4,a2,a3⟩
  clear hK K;refine tk 11 ?_;refine tk 12 ?_;refine tk 13 ?_
  refine wpAnyH_ready (rs:=[15]) (by kernel_rfl) (by simp) ?_
  refine ac1 rfl fun K hK=>?_
  go_simp
  refine hK.out _ _ ?_ (fun hHeld=>?_)
  ·(try dsimp only)
   obtain ⟨⟨a1,a2,a3⟩,_⟩:=HS8.out _ ((HB9.out.setCell (show w.heap.size<=(⟨xb,0,none⟩:Addr).block from hxw) _).setCell (show w.heap.size<=(⟨xb,1,none⟩:Addr).block from hxw) _)
   obtain ⟨_,b1,_,_,b4,_⟩:=HBOX.out _ ((HBW9.out.setCell (show w0.heap.size<=(⟨xb,0,none⟩:Addr).block from hxw0) _).setCell (show w0.heap.size<=(⟨xb,1,none⟩:Addr).block from hxw0) _)
   exact ⟨a1,b1,b4,a2,a3⟩
  clear hK K;refine tk 16 ?_
  refine dnR ?_
  obtain ⟨wf,hwf⟩:∃ z,z=(w9.setCell ⟨xb,0,none⟩ (.int .i64 0)).setCell ⟨xb,1,none⟩ (.int .u32 0):=⟨_,rfl⟩
  have HBF:Hid (Below w.heap.size w wf):=by rw [hwf];exact (HB9.out.setCell hxw _).setCell hxw _
  have HBFW:Hid (Below w0.heap.size w0 wf):=by rw [hwf];exact (HBW9.out.setCell hxw0 _).setCell hxw0 _
  have HGG:Hid (wf.cell? ⟨xb,0,none⟩=some (.int .i64 0)/\wf.cell? ⟨xb,1,none⟩=some (.int .u32 0)/\xb<wf.heap.size/\w.heap.size<=xb):=by
   rw [hwf]
   exact ⟨by simp [go_sem,y0],by simp [go_sem,y1],by simp [go_sem];exact hxb9,hxw⟩
  rw [<- hwf];clear hHeld hwf y0 y1 y2 y3
  go_wp2
  go_ret
  exact ⟨by first|rfl|(simp;done),HBF.out⟩
set_option maxRecDepth 20000 in
set_option maxHeartbeats 6400000 in
theorem zpy {E:Nat->Prop} {w:World} {L A S1 Q cQ:Nat} {X:Nat->Value} {bp bq P r S B n nv:Nat} {uv:Value} {lv:List Vl} {st:Nat->Int×Nat} {g:Nat->Nat->Pl} {G:Nat->Value} {R:Nat->Nat} {qv:Nat->Nat->Value} {qs:Nat->Nat->List Int} (h:RfAll E w L A S1 Q cQ X bp bq P r S B n nv uv lv st g G R qv qs) (p:Nat) (hp:p<P) (sx:Int) (hx:zau sx=true) (tt vi kv km me un nw li sh bu id:Int):Calls Tryz.prog 19 #[.pointer (some ⟨A,0,none⟩),opV 8 ((p:Nat)) tt vi sx kv km me un nw li sh bu id] w fun e w'=>e=.returned (.int .i64 ((((st p).2+1) % 4294967296:Nat):Int))/\RfAll E w' L A S1 Q cQ X bp bq P r S B n nv uv lv (updS st p sx (((st p).2+1) % 4294967296)) g G R qv qs/\MdFr E w w' L:=by
 have d1:decide (p<P)=true:=decide_eq_true hp
 obtain ⟨x0,z0,hxz⟩:∃ (x:Int) (z:Nat),st p=(x,z):=⟨_,_,rfl⟩
 have HS8:Hid (∀ w',Below w.heap.size w w'->(w'.cell? ⟨A,10,none⟩=some (.slice (some ⟨S1,0,none⟩) P (capV (X 10)))/\w'.cell? ⟨S1,p*2,none⟩=some (.int .i64 x0)/\w'.cell? ⟨S1,p*2+1,none⟩=some (.int .u32 (z0:Nat)))/\w'.frozen? ⟨S1,p*2,none⟩=false/\w'.frozen? ⟨S1,p*2+1,none⟩=false):=fun w' hb=>by
  have hm:=(h.call hb).md
  exact ⟨⟨hm.cells.cell (by omega),(hm.stands.cell (by omega)).trans (by rw [zeh,hxz]),(hm.stands.cell (by omega)).trans (by rw [zoo,hxz])⟩,hm.stands.frozen _,hm.stands.frozen _⟩
 have hset:=fun w=>zjc x0 sx z0 w
 rw [if_pos hx] at hset;obtain ⟨zz,hzz⟩:∃ z,z=(z0+1) % 4294967296:=⟨_,rfl⟩
 try rw [<- hzz] at hset
 have hzb:zz<4294967296:=by rw [hzz];exact Nat.mod_lt _ (by omega)
 have HZ9:=Lib.hid hzz;clear hzz;have HSET:=Lib.hid hset
 have HNS:Hid (A≠S1/\S1<w.heap.size):=⟨zcs h.md.cells h.md.stands (by decide),h.md.stands.lt⟩
 clear hset
 have hfd:=fun w' (hb:Below w.heap.size w w')=>zag (Sl.of_own (h.call hb).md.vlans) (Nat.le_refl _) vi
 have HFD:=Lib.hid hfd;obtain ⟨w0,hw0⟩:∃ z,z=(w.alloc (.cells #[.int .i64 (8),.int .i64 ((p:Nat)),.int .i64 (tt),.int .i64 (vi),.int .i64 (sx),.int .i64 (kv),.int .u64 (km),.int .u64 (me),.int .u64 (un),.int .u32 (nw),.int .u32 (li),.int .i64 (sh),.int .i64 (bu),.int .i64 (id)] 55)):=⟨_,rfl⟩
 have HB0:Hid (Below w.heap.size w w0):=by rw [hw0];exact (Below.refl _ _).alloc (Nat.le_refl _) _
 have HBOX:=Lib.hid (zbp hw0)
 have hwz:w.heap.size<w0.heap.size:=by rw [hw0];simp
 have hp0:=fun w' (hb:Below w.heap.size w w')=>zal (h.call hb) ((p:Nat))
 rw [zan hp] at hp0;have HP0:=Lib.hid hp0;clear hp0;have HH:=Lib.hid h;have hAz:A<w.heap.size:=h.md.cells.lt;clear h hfd;unfold opV
 go_enter Tryz.func19,Tryz.ntmps19
 go_wp2_with (first
  |(go_at_call 39;(with_reducible refine Calls.mono (HP0.out _ ((Below.refl _ _).alloc (Nat.le_refl _) _)) ?_);rintro e _ ⟨rfl,rfl⟩)
  |fail)
 rw [<- hw0];clear hw0;obtain ⟨q0,q1,q2,q3,q4,q5,q6,q7,q8,q9,q10,q11,q12,q13⟩:=HBOX.out _ (Below.refl _ _)
 have c11:w0.cell? ⟨A,11,none⟩=some uv:=(HH.out.call HB0.out).md.cells.cell (by omega)
 refine wp_region_held_drew (S:=fun w'=>w'.cell? ⟨A,11,none⟩=some uv/\w'.cell? ⟨w.heap.size,3,none⟩=some (.int .i64 (vi))) (by kernel_rfl) ?_ (fun hHeld=>?_)
 ·exact ⟨c11,q3⟩
 obtain ⟨v0,hv0⟩:∃ w',w'=w0.drew:=⟨_,rfl⟩
 have hvb:Below w0.heap.size w0 v0:=by rw [hv0];exact (Below.refl _ _).drew
 have HVZ:Hid (v0.heap.size=w0.heap.size):=by show _=_;rw [hv0];rfl
 rw [<- hv0] at hHeld |-;clear hv0;refine tk 0 ?_;refine tk 1 ?_;refine tk 2 ?_;refine tk 3 ?_;refine tk 4 ?_;refine tk 5 ?_
 refine clR 6 rfl fun K hK=>?_
 go_simp
 refine Calls.mono (HFD.out _ (HB0.out.trans (hvb.mono HB0.out.size))) ?_
 rintro e w1 ⟨rfl,hb1⟩
 have HB1':Hid (Below w0.heap.size w0 w1):=hvb.trans (hb1.mono (by rw [HVZ.out];exact Nat.le_refl _))
 have hz1:w0.heap.size<=w1.heap.size:=HB1'.out.size
 refine hK.out _ _ ?_ (fun hHeld=>?_)
 ·(try dsimp only)
  obtain ⟨x0,x1⟩:=hHeld
  exact ⟨(hb1.cell (p:=⟨A,11,none⟩) (by show A<v0.heap.size;rw [HVZ.out];omega)).trans x0,(hb1.cell (p:=⟨w.heap.size,3,none⟩) (by show w.heap.size<v0.heap.size;rw [HVZ.out];omega)).trans x1⟩
 clear hK K;refine tk 7 ?_
 refine dnR ?_
 have HB1:Hid (Below w.heap.size w w1):=HB0.out.trans (HB1'.out.mono HB0.out.size);have HM:=Lib.hid (HH.out.call HB1.out);clear hHeld c11 q0 q1 q2 q3 q4 q5 q6 q7 q8 q9 q10 q11 q12 q13 hb1 hvb;obtain ⟨q0,q1,q2,q3,q4,q5,q6,q7,q8,q9,q10,q11,q12,q13⟩:=HBOX.out _ HB1'.out;obtain ⟨⟨a1,a2,a3⟩,a4,a5⟩:=HS8.out _ HB1.out
 go_wp2_with fail
 refine wp_region_held_drew (S:=fun w'=>w'.cell? ⟨A,10,none⟩=some (.slice (some ⟨S1,0,none⟩) P (capV (X 10)))/\w'.cell? ⟨w.heap.size,1,none⟩=some (.int .i64 (p:Nat))/\w'.cell? ⟨w.heap.size,4,none⟩=some (.int .i64 sx)/\w'.cell? ⟨S1,p*2,none⟩=some (.int .i64 x0)/\w'.cell? ⟨S1,p*2+1,none⟩=some (.int .u32 (z0:Nat))) (by kernel_rfl) ?_ (fun hHeld=>?_)
 ·exact ⟨a1,q1,q4,a2,a3⟩
 obtain ⟨v1,hv0⟩:∃ w',w'=w1.drew:=⟨_,rfl⟩
 have HB2:Hid (Below w.heap.size w v1):=by rw [hv0];exact HB1.out.trans (Below.refl _ _).drew
 have HBW2:Hid (Below w0.heap.size w0 v1):=by rw [hv0];exact HB1'.out.trans (Below.refl _ _).drew
 rw [<- hv0] at hHeld |-;clear hv0 a1 a2 a3 a4 a5 q0 q1 q2 q3 q4 q5 q6 q7 q8 q9 q10 q11 q12 q13;refine tk 0 ?_;refine tk 1 ?_;refine tk 2 ?_;refine tk 3 ?_;refine tk 4 ?_;refine tk 5 ?_;refine tk 6 ?_;refine tk 7 ?_;refine tk 8 ?_;refine tk 9 ?_
 refine wpAnyH_ready (rs:=[10,14]) (by kernel_rfl) (by simp) ?_
 refine (acR rfl (fun K hK=>?_) (acR rfl (fun K hK=>?_) AllReadyH.nil))
 ·go_simp
  refine Calls.mono (HSET.out _) ?_
  rintro e w9 ⟨rfl,hb9⟩;have HB9:Hid (Below w.heap.size w w9):=HB2.out.trans (hb9.mono HB2.out.size);have HBW9:Hid (Below w0.heap.size w0 w9):=HBW2.out.trans (hb9.mono HBW2.out.size);clear hb9
  refine hK.out _ _ ?_ (fun hHeld=>?_)
  ·(try dsimp only)
   obtain ⟨⟨a1,a2,a3⟩,_⟩:=HS8.out _ HB9.out;obtain ⟨_,b1,_,_,b4,_⟩:=HBOX.out _ HBW9.out
   exact ⟨a1,b1,b4,a2,a3⟩
  clear hK K;refine tk 11 ?_;refine tk 12 ?_;refine tk 13 ?_
  refine wpAnyH_ready (rs:=[14]) (by kernel_rfl) (by simp) ?_
  refine ac1 rfl fun K hK=>?_
  go_simp
  refine hK.out _ _ ?_ (fun hHeld=>?_)
  ·(try dsimp only)
   obtain ⟨⟨a1,a2,a3⟩,_⟩:=HS8.out _ (HB9.out.alloc HB9.out.size _);obtain ⟨_,b1,_,_,b4,_⟩:=HBOX.out _ (HBW9.out.alloc HBW9.out.size _)
   exact ⟨a1,b1,b4,a2,a3⟩
  clear hK K
  (try simp only [Act.put,sqA,sqB,sqC])
  obtain ⟨xb,hxbd⟩:∃ o,o=w9.heap.size:=⟨_,rfl⟩;obtain ⟨wy,hwy⟩:∃ x,x=w9.alloc (.cells #[.int .i64 0,.int .u32 0] 76):=⟨_,rfl⟩
  have HBy:Hid (Below w.heap.size w wy):=by rw [hwy];exact HB9.out.alloc HB9.out.size _
  have HBWy:Hid (Below w0.heap.size w0 wy):=by rw [hwy];exact HBW9.out.alloc HBW9.out.size _
  have hxw:w.heap.size<=xb:=by rw [hxbd];exact HB9.out.size
  have hxw0:w0.heap.size<=xb:=by rw [hxbd];exact HBW9.out.size
  have hxb:xb<wy.heap.size:=by rw [hwy,hxbd,World.size_alloc];omega
  have y0:wy.cell? ⟨xb,0,none⟩=some (.int .i64 0):=by rw [hwy,hxbd];simp [go_sem]
  have y1:wy.cell? ⟨xb,1,none⟩=some (.int .u32 0):=by rw [hwy,hxbd];simp [go_sem]
  have y2:wy.frozen? ⟨xb,0,none⟩=false:=by rw [hwy,hxbd];simp [go_sem]
  have y3:wy.frozen? ⟨xb,1,none⟩=false:=by rw [hwy,hxbd];simp [go_sem]
  rw [<- hxbd,<- hwy]
  (try rw [<- hwy] at hHeld)
  clear hwy hxbd
  refine wpAnyH_ready (rs:=[15]) (by kernel_rfl) (by simp) ?_
  refine ac1 rfl fun K hK=>?_
  go_simp
  refine hK.out _ _ ?_ (fun hHeld=>?_)
  ·(try dsimp only)
   obtain ⟨⟨a1,a2,a3⟩,_⟩:=HS8.out _ ((HBy.out.setCell (show w.heap.size<=(⟨xb,0,none⟩:Addr).block from hxw) _).setCell (show w.heap.size<=(⟨xb,1,none⟩:Addr).block from hxw) _)
   obtain ⟨_,b1,_,_,b4,_⟩:=HBOX.out _ ((HBWy.out.setCell (show w0.heap.size<=(⟨xb,0,none⟩:Addr).block from hxw0) _).setCell (show w0.heap.size<=(⟨xb,1,none⟩:Addr).block from hxw0) _)
   exact ⟨a1,b1,b4,a2,a3⟩
  clear hK K;refine tk 16 ?_
  refine dnR ?_
  obtain ⟨wf,hwf⟩:∃ z,z=(wy.setCell ⟨xb,0,none⟩ (.int .i64 sx)).setCell ⟨xb,1,none⟩ (.int .u32 (zz:Nat)):=⟨_,rfl⟩
  have HBF:Hid (Below w.heap.size w wf):=by rw [hwf];exact (HBy.out.setCell hxw _).setCell hxw _
  have HBFW:Hid (Below w0.heap.size w0 wf):=by rw [hwf];exact (HBWy.out.setCell hxw0 _).setCell hxw0 _
  have HGG:Hid (wf.cell? ⟨xb,0,none⟩=some (.int .i64 sx)/\wf.cell? ⟨xb,1,none⟩=some (.int .u32 (zz:Nat))/\xb<wf.heap.size/\w.heap.size<=xb):=by
   rw [hwf]
   exact ⟨by simp [go_sem,y0],by simp [go_sem,y1],by simp [go_sem];exact hxb,hxw⟩
  rw [<- hwf];clear hHeld hwf y0 y1 y2 y3;obtain ⟨⟨a1,_,_⟩,_⟩:=HS8.out _ HBF.out;obtain ⟨_,b1,_⟩:=HBOX.out _ HBFW.out;obtain ⟨g0,g1,hxf,hxw'⟩:=HGG.out
  go_wp2_with fail
  refine wp_region_held_drew (S:=fun w'=>w'.cell? ⟨A,10,none⟩=some (.slice (some ⟨S1,0,none⟩) P (capV (X 10)))/\w'.cell? ⟨w.heap.size,1,none⟩=some (.int .i64 (p:Nat))/\w'.cell? ⟨xb,0,none⟩=some (.int .i64 sx)/\w'.cell? ⟨xb,1,none⟩=some (.int .u32 (zz:Nat))) (by kernel_rfl) ?_ (fun hHeld=>?_)
  ·exact ⟨a1,b1,g0,g1⟩
  obtain ⟨v3,hv0⟩:∃ w',w'=wf.drew:=⟨_,rfl⟩
  have hvb:Below wf.heap.size wf v3:=by rw [hv0];exact (Below.refl _ _).drew
  have HB3:Hid (Below w.heap.size w v3):=HBF.out.trans (hvb.mono HBF.out.size);have HBW3:Hid (Below w0.heap.size w0 v3):=HBFW.out.trans (hvb.mono HBFW.out.size)
  have g0':v3.cell? ⟨xb,0,none⟩=some (.int .i64 sx):=(hvb.cell (p:=⟨xb,0,none⟩) hxf).trans g0
  have g1':v3.cell? ⟨xb,1,none⟩=some (.int .u32 (zz:Nat)):=(hvb.cell (p:=⟨xb,1,none⟩) hxf).trans g1
  rw [<- hv0] at hHeld |-;clear hv0 g0 g1;obtain ⟨⟨_,s0,s1⟩,s2,s3⟩:=HS8.out _ HB3.out
  have hxS:xb≠S1:=by have:=HNS.out.2;omega
  have hxv:xb<v3.heap.size:=by have:=hvb.size;omega
  clear a1 b1;refine tk 0 ?_;refine tk 1 ?_;refine tk 2 ?_;refine tk 3 ?_;refine tk 4 ?_;refine tk 5 ?_;refine tk 6 ?_;refine tk 7 ?_
  refine clR 8 rfl fun K hK=>?_
  go_simp
  refine hK.out _ _ ?_ (fun hHeld=>?_)
  ·(try dsimp only)
   obtain ⟨⟨a1,_,_⟩,_⟩:=HS8.out _ HB3.out;obtain ⟨_,b1,_⟩:=HBOX.out _ HBW3.out;have hz3:=HB3.out.size;have hz3':=HBW3.out.size;have hS1z:=HNS.out.2
   exact ⟨(((But.set _ _).trans (But.set _ _)).cell (show A<v3.heap.size by omega) HNS.out.1).trans a1,(((But.set _ _).trans (But.set _ _)).cell (show w.heap.size<v3.heap.size by omega) (show w.heap.size≠S1 by omega)).trans b1,(((But.set _ _).trans (But.set _ _)).cell (show xb<v3.heap.size by omega) hxS).trans g0',(((But.set _ _).trans (But.set _ _)).cell (show xb<v3.heap.size by omega) hxS).trans g1'⟩
  clear hK K
  (try simp only [Act.put,sqA,sqB,sqC])
  refine dnR ?_
  obtain ⟨wl,hwl⟩:∃ z,z=(v3.setCell ⟨S1,p*2,none⟩ (.int .i64 sx)).setCell ⟨S1,p*2+1,none⟩ (.int .u32 (zz:Nat)):=⟨_,rfl⟩
  have HBL:Hid (But S1 v3 wl):=by rw [hwl];exact (But.set _ _).trans (But.set _ _)
  have HML:Hid (RfAll E wl L A S1 Q cQ X bp bq P r S B n nv uv lv (updS st p sx zz) g G R qv qs/\MdFr E w wl L):=by
   have h3:=HH.out.call HB3.out
   have hm:RfAt wl L A S1 Q cQ X uv (.pointer (some ⟨bp,0,none⟩)) P r nv lv (updS st p sx zz) G:=by rw [hwl];exact h3.md.setS p sx _
   exact ⟨h3.but hm HBL.out (.inl rfl),RfFr.of_but HH.out HB3.out HBL.out (.inl (.inl (.inr (.inl rfl)))) HH.out.md.ls⟩
  have g1'':wl.cell? ⟨xb,1,none⟩=some (.int .u32 (zz:Nat)):=(HBL.out.cell (p:=⟨xb,1,none⟩) hxv hxS).trans g1'
  rw [<- hwl];clear hwl hHeld g0' g1' s0 s1 s2 s3 hvb
  go_wp2
  go_ret
  exact ⟨by (rw [hxz];show _=Ending.returned (.int .i64 (((z0+1) % 4294967296:Nat):Int));rw [<- HZ9.out];first|rfl|(simp;done)),by (rw [hxz];show RfAll E wl L A S1 Q cQ X bp bq P r S B n nv uv lv (updS st p sx ((z0+1) % 4294967296)) g G R qv qs;rw [<- HZ9.out];exact HML.out.1),HML.out.2⟩
 ·go_simp
  refine hK.out _ _ ?_ (fun hHeld=>?_)
  ·(try dsimp only)
   obtain ⟨⟨a1,a2,a3⟩,_⟩:=HS8.out _ (HB2.out.alloc HB2.out.size _);obtain ⟨_,b1,_,_,b4,_⟩:=HBOX.out _ (HBW2.out.alloc HBW2.out.size _)
   exact ⟨a1,b1,b4,a2,a3⟩
  clear hK K
  (try simp only [Act.put,sqA,sqB,sqC])
  obtain ⟨xb,hxbd⟩:∃ o,o=v1.heap.size:=⟨_,rfl⟩;obtain ⟨wy,hwy⟩:∃ x,x=v1.alloc (.cells #[.int .i64 0,.int .u32 0] 76):=⟨_,rfl⟩
  have HBy:Hid (Below w.heap.size w wy):=by rw [hwy];exact HB2.out.alloc HB2.out.size _
  have HBWy:Hid (Below w0.heap.size w0 wy):=by rw [hwy];exact HBW2.out.alloc HBW2.out.size _
  have hxw:w.heap.size<=xb:=by rw [hxbd];exact HB2.out.size
  have hxw0:w0.heap.size<=xb:=by rw [hxbd];exact HBW2.out.size
  have hxb:xb<wy.heap.size:=by rw [hwy,hxbd,World.size_alloc];omega
  have y0:wy.cell? ⟨xb,0,none⟩=some (.int .i64 0):=by rw [hwy,hxbd];simp [go_sem]
  have y1:wy.cell? ⟨xb,1,none⟩=some (.int .u32 0):=by rw [hwy,hxbd];simp [go_sem]
  have y2:wy.frozen? ⟨xb,0,none⟩=false:=by rw [hwy,hxbd];simp [go_sem]
  have y3:wy.frozen? ⟨xb,1,none⟩=false:=by rw [hwy,hxbd];simp [go_sem]
  rw [<- hxbd,<- hwy]
  (try rw [<- hwy] at hHeld)
  clear hwy hxbd
  refine wpAnyH_ready (rs:=[10]) (by kernel_rfl) (by simp) ?_
  refine ac1 rfl fun K hK=>?_
  go_simp
  refine Calls.mono (HSET.out _) ?_
  rintro e w9 ⟨rfl,hb9⟩;have HB9:Hid (Below w.heap.size w w9):=HBy.out.trans (hb9.mono HBy.out.size);have HBW9:Hid (Below w0.heap.size w0 w9):=HBWy.out.trans (hb9.mono HBWy.out.size)
  have y0:w9.cell? ⟨xb,0,none⟩=some (.int .i64 0):=(hb9.cell (p:=⟨xb,0,none⟩) hxb).trans y0
  have y1:w9.cell? ⟨xb,1,none⟩=some (.int .u32 0):=(hb9.cell (p:=⟨xb,1,none⟩) hxb).trans y1
  have y2:w9.frozen? ⟨xb,0,none⟩=false:=(hb9.frozen (p:=⟨xb,0,none⟩) hxb).trans y2
  have y3:w9.frozen? ⟨xb,1,none⟩=false:=(hb9.frozen (p:=⟨xb,1,none⟩) hxb).trans y3
  have hxb9:xb<w9.heap.size:=Nat.lt_of_lt_of_le hxb hb9.size;clear hb9
  refine hK.out _ _ ?_ (fun hHeld=>?_)
  ·(try dsimp only)
   obtain ⟨⟨a1,a2,a3⟩,_⟩:=HS8.out _ HB9.out;obtain ⟨_,b1,_,_,b4,_⟩:=HBOX.out _ HBW9.out
   exact ⟨a1,b1,b4,a2,a3⟩
  clear hK K;refine tk 11 ?_;refine tk 12 ?_;refine tk 13 ?_
  refine wpAnyH_ready (rs:=[15]) (by kernel_rfl) (by simp) ?_
  refine ac1 rfl fun K hK=>?_
  go_simp
  refine hK.out _ _ ?_ (fun hHeld=>?_)
  ·(try dsimp only)
   obtain ⟨⟨a1,a2,a3⟩,_⟩:=HS8.out _ ((HB9.out.setCell (show w.heap.size<=(⟨xb,0,none⟩:Addr).block from hxw) _).setCell (show w.heap.size<=(⟨xb,1,none⟩:Addr).block from hxw) _)
   obtain ⟨_,b1,_,_,b4,_⟩:=HBOX.out _ ((HBW9.out.setCell (show w0.heap.size<=(⟨xb,0,none⟩:Addr).block from hxw0) _).setCell (show w0.heap.size<=(⟨xb,1,none⟩:Addr).block from hxw0) _)
   exact ⟨a1,b1,b4,a2,a3⟩
  clear hK K;refine tk 16 ?_
  refine dnR ?_
  obtain ⟨wf,hwf⟩:∃ z,z=(w9.setCell ⟨xb,0,none⟩ (.int .i64 sx)).setCell ⟨xb,1,none⟩ (.int .u32 (zz:Nat)):=⟨_,rfl⟩
  have HBF:Hid (Below w.heap.size w wf):=by rw [hwf];exact (HB9.out.setCell hxw _).setCell hxw _
  have HBFW:Hid (Below w0.heap.size w0 wf):=by rw [hwf];exact (HBW9.out.setCell hxw0 _).setCell hxw0 _
  have HGG:Hid (wf.cell? ⟨xb,0,none⟩=some (.int .i64 sx)/\wf.cell? ⟨xb,1,none⟩=some (.int .u32 (zz:Nat))/\xb<wf.heap.size/\w.heap.size<=xb):=by
   rw [hwf]
   exact ⟨by simp [go_sem,y0],by simp [go_sem,y1],by simp [go_sem];exact hxb9,hxw⟩
  rw [<- hwf];clear hHeld hwf y0 y1 y2 y3;obtain ⟨⟨a1,_,_⟩,_⟩:=HS8.out _ HBF.out;obtain ⟨_,b1,_⟩:=HBOX.out _ HBFW.out;obtain ⟨g0,g1,hxf,hxw'⟩:=HGG.out
  go_wp2_with fail
  refine wp_region_held_drew (S:=fun w'=>w'.cell? ⟨A,10,none⟩=some (.slice (some ⟨S1,0,none⟩) P (capV (X 10)))/\w'.cell? ⟨w.heap.size,1,none⟩=some (.int .i64 (p:Nat))/\w'.cell? ⟨xb,0,none⟩=some (.int .i64 sx)/\w'.cell? ⟨xb,1,none⟩=some (.int .u32 (zz:Nat))) (by kernel_rfl) ?_ (fun hHeld=>?_)
  ·exact ⟨a1,b1,g0,g1⟩
  obtain ⟨v3,hv0⟩:∃ w',w'=wf.drew:=⟨_,rfl⟩
  have hvb:Below wf.heap.size wf v3:=by rw [hv0];exact (Below.refl _ _).drew
  have HB3:Hid (Below w.heap.size w v3):=HBF.out.trans (hvb.mono HBF.out.size);have HBW3:Hid (Below w0.heap.size w0 v3):=HBFW.out.trans (hvb.mono HBFW.out.size)
  have g0':v3.cell? ⟨xb,0,none⟩=some (.int .i64 sx):=(hvb.cell (p:=⟨xb,0,none⟩) hxf).trans g0
  have g1':v3.cell? ⟨xb,1,none⟩=some (.int .u32 (zz:Nat)):=(hvb.cell (p:=⟨xb,1,none⟩) hxf).trans g1
  rw [<- hv0] at hHeld |-;clear hv0 g0 g1;obtain ⟨⟨_,s0,s1⟩,s2,s3⟩:=HS8.out _ HB3.out
  have hxS:xb≠S1:=by have:=HNS.out.2;omega
  have hxv:xb<v3.heap.size:=by have:=hvb.size;omega
  clear a1 b1;refine tk 0 ?_;refine tk 1 ?_;refine tk 2 ?_;refine tk 3 ?_;refine tk 4 ?_;refine tk 5 ?_;refine tk 6 ?_;refine tk 7 ?_
  refine clR 8 rfl fun K hK=>?_
  go_simp
  refine hK.out _ _ ?_ (fun hHeld=>?_)
  ·(try dsimp only)
   obtain ⟨⟨a1,_,_⟩,_⟩:=HS8.out _ HB3.out;obtain ⟨_,b1,_⟩:=HBOX.out _ HBW3.out;have hz3:=HB3.out.size;have hz3':=HBW3.out.size;have hS1z:=HNS.out.2
   exact ⟨(((But.set _ _).trans (But.set _ _)).cell (show A<v3.heap.size by omega) HNS.out.1).trans a1,(((But.set _ _).trans (But.set _ _)).cell (show w.heap.size<v3.heap.size by omega) (show w.heap.size≠S1 by omega)).trans b1,(((But.set _ _).trans (But.set _ _)).cell (show xb<v3.heap.size by omega) hxS).trans g0',(((But.set _ _).trans (But.set _ _)).cell (show xb<v3.heap.size by omega) hxS).trans g1'⟩
  clear hK K
  (try simp only [Act.put,sqA,sqB,sqC])
  refine dnR ?_
  obtain ⟨wl,hwl⟩:∃ z,z=(v3.setCell ⟨S1,p*2,none⟩ (.int .i64 sx)).setCell ⟨S1,p*2+1,none⟩ (.int .u32 (zz:Nat)):=⟨_,rfl⟩
  have HBL:Hid (But S1 v3 wl):=by rw [hwl];exact (But.set _ _).trans (But.set _ _)
  have HML:Hid (RfAll E wl L A S1 Q cQ X bp bq P r S B n nv uv lv (updS st p sx zz) g G R qv qs/\MdFr E w wl L):=by
   have h3:=HH.out.call HB3.out
   have hm:RfAt wl L A S1 Q cQ X uv (.pointer (some ⟨bp,0,none⟩)) P r nv lv (updS st p sx zz) G:=by rw [hwl];exact h3.md.setS p sx _
   exact ⟨h3.but hm HBL.out (.inl rfl),RfFr.of_but HH.out HB3.out HBL.out (.inl (.inl (.inr (.inl rfl)))) HH.out.md.ls⟩
  have g1'':wl.cell? ⟨xb,1,none⟩=some (.int .u32 (zz:Nat)):=(HBL.out.cell (p:=⟨xb,1,none⟩) hxv hxS).trans g1'
  rw [<- hwl];clear hwl hHeld g0' g1' s0 s1 s2 s3 hvb
  go_wp2
  go_ret
  exact ⟨by (rw [hxz];show _=Ending.returned (.int .i64 (((z0+1) % 4294967296:Nat):Int));rw [<- HZ9.out];first|rfl|(simp;done)),by (rw [hxz];show RfAll E wl L A S1 Q cQ X bp bq P r S B n nv uv lv (updS st p sx ((z0+1) % 4294967296)) g G R qv qs;rw [<- HZ9.out];exact HML.out.1),HML.out.2⟩
end Go.Proofs.YtfekhdgjgjodlaaGreat
