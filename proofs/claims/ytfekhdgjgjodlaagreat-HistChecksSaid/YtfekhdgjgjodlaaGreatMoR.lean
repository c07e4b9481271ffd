/-
  Words and contracts that a statement's proof rests on (MoR). No statement is proved here.
-/
import Derived.Test.YtfekhdgjgjodlaaGreatMoX
import Derived.Test.YtfekhdgjgjodlaaGreatSrC
set_option linter.unusedVariables false
set_option linter.unusedSimpArgs false
namespace Go.Proofs.YtfekhdgjgjodlaaGreat
open Go.RowKit
theorem zb9:ST Tryz.prog 47 3 (.int .i64 0) 1 8:=ST.mk Tryz.underlying47 (by kernel_rfl) rfl (by omega) (by omega)
def upd2 {α:Type} (f:Nat->Nat->α) (i j:Nat) (x:α) (i' j':Nat):α:=if i'=i/\j'=j then x else f i' j'
theorem zbs {α:Type} (f:Nat->Nat->α) (i j:Nat) (x:α):upd2 f i j x i j=x:=if_pos ⟨rfl,rfl⟩
theorem zcu {α:Type} (f:Nat->Nat->α) {i j i' j':Nat} (x:α) (h:¬ (i'=i/\j'=j)):upd2 f i j x i' j'=f i' j':=if_neg h
structure QuAt (w:World) (L P:Nat) (R:Nat->Nat) (G:Nat->Value) (qv:Nat->Nat->Value) (qs:Nat->Nat->List Int):Prop where
 low:∀ i,i<P->L<=R i
 at_:∀ i,i<P->G i=.slice (some ⟨R i,0,none⟩) P (capV (G i))
 row:∀ i,i<P->w.rowIs (R i) 47 (capV (G i)) (qv i)
 inj:∀ i j,i<P->j<P->i≠j->R i≠R j
 own:∀ i j,i<P->j<P->w.ownsRow L 3 1 (qv i j) (qs i j).length (kv .i64 (qs i j))
 apart:∀ i j i' j',i<P->j<P->i'<P->j'<P->¬ (i'=i/\j'=j)->∀ b,(qv i j).ownBlock=some b->(qv i' j').ownBlock≠some b
 cq:∀ i,i<P->P<=capV (G i)
theorem QuAt.of_new {w:World} {L hN P:Nat} {R:Nat->Nat} {G:Nat->Value} (h:zjd w hN P P R G) (hL:L<=hN):QuAt w L P R G (fun _ _=>.slice none 0 0) (fun _ _=>[]):=by
 refine ⟨fun i hi=>Nat.le_trans hL (h i hi).1,fun i hi=>(by (rw [(h i hi).2.1];rfl)),fun i hi=>(by (rw [(h i hi).2.1];exact (h i hi).2.2.1)),fun i j hi hj hne=>?_,fun i j hi hj=>World.ownsRow_nil _ _ _ _,fun i j i' j' hi hj hi' hj' hne b hb=>?_,fun i hi=>(by (rw [(h i hi).2.1];exact Nat.le_refl _))⟩
 ·rcases Nat.lt_or_ge i j with hlt|hge
  ·have:=(h j hj).2.2.2 i hlt;omega
  ·have:=(h i hi).2.2.2 j (by omega);omega
 ·cases hb
theorem QuAt.keep {w w':World} {L P:Nat} {R:Nat->Nat} {G:Nat->Value} {qv:Nat->Nat->Value} {qs:Nat->Nat->List Int} (h:QuAt w L P R G qv qs) (hk:∀ b,b<w.heap.size->(∃ i,i<P/\(b=R i\/∃ j,j<P/\(qv i j).ownBlock=some b))->w'.heap[b]?=w.heap[b]?):QuAt w' L P R G qv qs :=
 ⟨h.low,h.at_,fun i hi=>(h.row i hi).of_block (hk _ (h.row i hi).lt ⟨i,hi,.inl rfl⟩),h.inj,fun i j hi hj=>zbm (h.own i j hi hj) (fun g e=>hk g ((h.own i j hi hj).lt g e).2 ⟨i,hi,.inr ⟨j,hj,e⟩⟩),h.apart,h.cq⟩
theorem QuAt.call {w w':World} {L P:Nat} {R:Nat->Nat} {G:Nat->Value} {qv:Nat->Nat->Value} {qs:Nat->Nat->List Int} (h:QuAt w L P R G qv qs) (hb:Below w.heap.size w w'):QuAt w' L P R G qv qs :=
 h.keep fun b hlt _=>hb.block b hlt
theorem QuAt.step {w w':World} {L P:Nat} {R:Nat->Nat} {G:Nat->Value} {qv:Nat->Nat->Value} {qs:Nat->Nat->List Int} (h:QuAt w L P R G qv qs) {i j:Nat} (hi:i<P) (hj:j<P) (v':Value) (l':List Int)
  (hrow:w'.rowIs (R i) 47 (capV (G i)) (fun x=>if x=j then v' else qv i x)) (hoth:∀ b,b<w.heap.size->b≠R i->(qv i j).ownBlock≠some b->w'.heap[b]?=w.heap[b]?)
  (hown:w'.ownsRow L 3 1 v' l'.length (kv .i64 l')) (hat:v'.ownBlock=(qv i j).ownBlock\/∃ b,v'.ownBlock=some b/\w.heap.size<=b):QuAt w' L P R G (upd2 qv i j v') (upd2 qs i j l'):=by
 refine ⟨h.low,h.at_,fun a ha=>?_,h.inj,fun a c ha hc=>?_,fun a c a' c' ha hc ha' hc' hne b hb=>?_,h.cq⟩
 ·by_cases e:a=i
  ·subst e
   refine hrow.congr fun x hx=>?_
   unfold upd2
   by_cases e2:x=j
   ·rw [if_pos e2,if_pos ⟨rfl,e2⟩]
   ·rw [if_neg e2,if_neg (fun e3=>e2 e3.2)]
  ·have h1:=(h.row a ha).of_block (w':=w') (hoth _ (h.row a ha).lt (h.inj a i ha hi e) (zad (h.row a ha) (h.own i j hi hj) (by decide)))
   refine h1.congr fun x hx=>?_
   rw [zcu _ _ (fun e3=>e e3.1)]
 ·by_cases e:a=i/\c=j
  ·obtain ⟨rfl,rfl⟩:=e
   rw [zbs,zbs]
   exact hown
  ·rw [zcu _ _ e,zcu _ _ e]
   refine zbm (h.own a c ha hc) fun g e2=>hoth g ((h.own a c ha hc).lt g e2).2 (fun e3=>zad (h.row i hi) (h.own a c ha hc) (by decide) (by rw [e2,e3])) (fun e3=>h.apart i j a c hi hj ha hc e g e3 e2)
 ·by_cases e:a=i/\c=j
  ·obtain ⟨rfl,rfl⟩:=e
   rw [zbs] at hb;rw [zcu _ _ hne]
   rcases hat with hat|⟨b',hb',hz⟩
   ·rw [hat] at hb
    exact h.apart a c a' c' ha hc ha' hc' hne b hb
   ·intro e2
    have:=((h.own a' c' ha' hc').lt b e2).2
    rw [hb'] at hb
    injection hb with hb
    omega
  ·rw [zcu _ _ e] at hb
   by_cases e':a'=i/\c'=j
   ·obtain ⟨rfl,rfl⟩:=e'
    rw [zbs]
    rcases hat with hat|⟨b',hb',hz⟩
    ·rw [hat]
     exact h.apart a c a' c' ha hc ha' hc' hne b hb
    ·rw [hb']
     intro e2
     injection e2 with e2
     have:=((h.own a c ha hc).lt b hb).2
     omega
   ·rw [zcu _ _ e']
    exact h.apart a c a' c' ha hc ha' hc' hne b hb
theorem MdAt.quiet {w w':World} {L A S1 Q:Nat} {uv bv:Value} {P r nv:Nat} {lv:List Vl} {st:Nat->Int×Nat} {G:Nat->Value} {R:Nat->Nat} {qv:Nat->Nat->Value} {qs:Nat->Nat->List Int} (h:MdAt w L A S1 Q uv bv P r nv lv st G) (hQ:QuAt w L P R G qv qs) {i j:Nat} (hi:i<P) (hj:j<P) (hoth:∀ b,b<w.heap.size->b≠R i->(qv i j).ownBlock≠some b->w'.heap[b]?=w.heap[b]?):MdAt w' L A S1 Q uv bv P r nv lv st G:=by
 refine h.keep fun b hb=>?_
 rcases hb with rfl|rfl|rfl|hb
 ·exact hoth _ h.cells.lt (zav h.cells (hQ.row i hi) (by decide)) (zad h.cells (hQ.own i j hi hj) (by decide))
 ·exact hoth _ h.stands.lt (ze7 h.stands (hQ.row i hi) (by decide)) (zbr h.stands (hQ.own i j hi hj) (by decide))
 ·exact hoth _ h.queues.lt (zav h.queues (hQ.row i hi) (by decide)) (zad h.queues (hQ.own i j hi hj) (by decide))
 ·refine hoth b (h.vlans.lt b hb).2 (fun e=>zad (hQ.row i hi) h.vlans (by decide) (by rw [hb,e])) (fun e=>?_)
  rcases h.vlans.2 with hn|⟨g,cap,cur,hv,hg,hh,_⟩
  ·rw [hn.1] at hb;cases hb
  ·rcases (hQ.own i j hi hj).2 with hn|⟨g',cap',cur',hv',hg',hh',_⟩
   ·rw [hn.1] at e;cases e
   ·rw [hv] at hb
    rw [hv'] at e
    injection hb with hb
    injection e with e
    subst hb;subst e;rw [hh] at hh'
    injection hh' with h1
    injection h1 with h2 h3
    exact absurd h3 (by decide)
set_option maxHeartbeats 1600000 in
theorem zk7 {w:World} {L A S1 Q bp:Nat} {uv:Value} {P r nv:Nat} {lv:List Vl} {st:Nat->Int×Nat} {G:Nat->Value} {R:Nat->Nat} {qv:Nat->Nat->Value} {qs:Nat->Nat->List Int} (h:MdAt w L A S1 Q uv (.pointer (some ⟨bp,0,none⟩)) P r nv lv st G) (hQ:QuAt w L P R G qv qs) (i j:Nat) (hi:i<P) (hj:j<P) (id:Int) (hfull:r<=(qs i j).length):Calls Tryz.prog 92 #[.pointer (some ⟨A,0,none⟩),.int .i64 (i:Nat),.int .i64 (j:Nat),.int .i64 id] w (Says (.bool false) w):=by
 have c4:w.cell? ⟨A,4,none⟩=some (.slice (some ⟨Q,0,none⟩) P P):=h.cells.cell (by omega)
 have c0:w.cell? ⟨A,0,none⟩=some (.int .i64 (r:Nat)):=h.cells.cell (by omega)
 have cq:w.cell? ⟨Q,i,none⟩=some (.slice (some ⟨R i,0,none⟩) P (capV (G i))):=(h.queues.cell hi).trans (congrArg some (hQ.at_ i hi))
 have hcq:=hQ.cq i hi;obtain ⟨Au,cu,hv,hcu,hcm⟩:=(Sl.of_own (hQ.own i j hi hj)).form
 have cr:w.cell? ⟨R i,j,none⟩=some (.slice Au (qs i j).length cu):=((hQ.row i hi).cell (Nat.lt_of_lt_of_le hj hcq)).trans (by rw [hv])
 have HH:=Lib.hid h;have HQ:=Lib.hid hQ;have hAz:A<w.heap.size:=h.cells.lt;have hQz:Q<w.heap.size:=h.queues.lt;have hRz:R i<w.heap.size:=(hQ.row i hi).lt
 have hAR:A≠R i:=zav h.cells (hQ.row i hi) (by decide)
 have hQR:Q≠R i:=zav h.queues (hQ.row i hi) (by decide)
 have HV:=Lib.hid hv
 have d1:decide (i<P)=true:=by simp;omega
 have d2:decide (j<P)=true:=by simp;omega
 have d3:decide (((qs i j).length:Int)≥(r:Int))=true:=by simp;omega
 have d4:(r:Int)<=((qs i j).length:Int):=by omega
 generalize (qs i j).length=k at *
 clear h hQ HH HQ HV hv
 go_enter Tryz.func92,Tryz.ntmps92
 go_wp2
 go_ret
 exact ⟨by first|rfl|(simp;done),Below.refl _ _⟩
set_option maxRecDepth 20000 in
set_option maxHeartbeats 1600000 in
theorem znx {w:World} {L A S1 Q bp:Nat} {uv:Value} {P r nv:Nat} {lv:List Vl} {st:Nat->Int×Nat} {G:Nat->Value} {R:Nat->Nat} {qv:Nat->Nat->Value} {qs:Nat->Nat->List Int} (h:MdAt w L A S1 Q uv (.pointer (some ⟨bp,0,none⟩)) P r nv lv st G) (hQ:QuAt w L P R G qv qs) (hP:P<=64) (i j:Nat) (hi:i<P) (hj:j<P) (id:Int) (hr:r<=64) (hroom:(qs i j).length<r):Calls Tryz.prog 92 #[.pointer (some ⟨A,0,none⟩),.int .i64 (i:Nat),.int .i64 (j:Nat),.int .i64 id] w fun e w'=>e=.returned (.bool true) /\
   MdAt w' L A S1 Q uv (.pointer (some ⟨bp,0,none⟩)) P r nv lv st G/\(∃ v',QuAt w' L P R G (upd2 qv i j v') (upd2 qs i j (qs i j ++ [id]))/\(v'.ownBlock=(qv i j).ownBlock\/∃ b,v'.ownBlock=some b/\w.heap.size<=b))/\(∀ b,b<w.heap.size->b≠R i->(qv i j).ownBlock≠some b->w'.heap[b]?=w.heap[b]?)/\Below L w w':=by
 have c4:w.cell? ⟨A,4,none⟩=some (.slice (some ⟨Q,0,none⟩) P P):=h.cells.cell (by omega)
 have c0:w.cell? ⟨A,0,none⟩=some (.int .i64 (r:Nat)):=h.cells.cell (by omega)
 have cq:w.cell? ⟨Q,i,none⟩=some (.slice (some ⟨R i,0,none⟩) P (capV (G i))):=(h.queues.cell hi).trans (congrArg some (hQ.at_ i hi))
 have hcq:=hQ.cq i hi;obtain ⟨Au,cu,hv,hcu,hcm⟩:=(Sl.of_own (hQ.own i j hi hj)).form
 have cr:w.cell? ⟨R i,j,none⟩=some (.slice Au (qs i j).length cu):=((hQ.row i hi).cell (Nat.lt_of_lt_of_le hj hcq)).trans (by rw [hv])
 have HH:=Lib.hid h;have HQ:=Lib.hid hQ;have hAz:A<w.heap.size:=h.cells.lt;have hQz:Q<w.heap.size:=h.queues.lt;have hRz:R i<w.heap.size:=(hQ.row i hi).lt
 have hAR:A≠R i:=zav h.cells (hQ.row i hi) (by decide)
 have hQR:Q≠R i:=zav h.queues (hQ.row i hi) (by decide)
 have HV:=Lib.hid hv
 have d1:decide (i<P)=true:=by simp;omega
 have d2:decide (j<P)=true:=by simp;omega
 have d4:¬ (r:Int)<=((qs i j).length:Int):=by omega
 obtain ⟨k,hk⟩:∃ k,k=(qs i j).length:=⟨_,rfl⟩
 have hkr:k<64:=by omega
 have HKK:=Lib.hid hk;rw [<- hk] at cr d4 hcu HV;clear h hQ hv hroom hk
 go_enter Tryz.func92,Tryz.ntmps92
 go_wp2_with fail
 refine wp_region_held_drew (S:=fun w'=>w'.cell? ⟨A,4,none⟩=some (.slice (some ⟨Q,0,none⟩) P P)/\w'.cell? ⟨Q,i,none⟩=some (.slice (some ⟨R i,0,none⟩) P (capV (G i)))) (by kernel_rfl) ?_ (fun hHeld=>?_)
 ·exact ⟨c4,cq⟩
 obtain ⟨v0,hv0⟩:∃ w',w'=w.drew:=⟨_,rfl⟩
 have hvb:Below w.heap.size w v0:=by rw [hv0];exact (Below.refl _ _).drew
 have HVZ:Hid (v0.heap.size=w.heap.size):=by show _=_;rw [hv0];rfl
 rw [<- hv0] at hHeld |-;clear hv0
 have HO1:Hid ((v0.alloc (.cells #[.int .i64 id] 3)).ownsRow L 3 1 (.slice Au k cu) k (kv .i64 (qs i j))):=by
  have h1:=zac (zac (HQ.out.own i j hi hj) hvb) ((Below.refl _ _).alloc (Nat.le_refl _) (.cells #[.int .i64 id] 3));rw [HV.out,<- HKK.out] at h1
  exact h1
 refine tk 0 ?_;refine tk 1 ?_;refine tk 2 ?_;refine tk 3 ?_;refine tk 4 ?_;refine tk 5 ?_;refine tk 6 ?_;refine tk 7 ?_;refine tk 8 ?_;refine tk 9 ?_
 refine clR 10 rfl fun K hK=>?_
 go_simp
 refine hK.out _ _ ?_ (fun hHeld=>?_)
 ·(try dsimp only)
  obtain ⟨q0,q1⟩:=hHeld
  exact ⟨(World.cell?_alloc_lt _ _ _ (by show A<v0.heap.size;have:=HVZ.out;omega)).trans q0,(World.cell?_alloc_lt _ _ _ (by show Q<v0.heap.size;have:=HVZ.out;omega)).trans q1⟩
 clear hK K
 (try simp only [Act.put,sqA,sqB,sqC])
 refine clR 11 rfl fun K hK=>?_
 refine zam _ (by rfl) zb9 _ _ (by rfl) L (.slice Au k cu) k (kv .i64 (qs i j)) (by rfl) HO1.out (v0.heap.size+1) _ 1 [.int .i64 id] (by rfl) (Sl.litN v0 #[.int .i64 id] _ 1 1 rfl (by decide)) (by simp [Value.oneCell']) (by omega) (by rw [World.size_alloc];have:=HH.out.la;have:=HVZ.out;omega) ?_
 intro v9 w9 hown9 hgr9 hat9 hbel9
 have HG9:Hid (∀ b,b<w.heap.size->(qv i j).ownBlock≠some b->w9.heap[b]?=w.heap[b]?):=fun b hb hne=>by
  rw [hgr9.block b (by rw [World.size_alloc];have:=HVZ.out;omega) (by rw [<- HV.out];exact fun e=>hne e.symm)]
  exact (hvb.alloc (by have:=HVZ.out;omega) _).block b hb
 have hz9:w.heap.size<=w9.heap.size:=by have:=hgr9.size;rw [World.size_alloc] at this;have:=HVZ.out;omega
 have ca:=(World.cell?_of_block (a:=⟨A,4,none⟩) (HG9.out A hAz (zad HH.out.cells (HQ.out.own i j hi hj) (by decide)))).trans c4
 have cb:=(World.cell?_of_block (a:=⟨Q,i,none⟩) (HG9.out Q hQz (zad HH.out.queues (HQ.out.own i j hi hj) (by decide)))).trans cq
 have HR9:Hid (w9.rowIs (R i) 47 (capV (G i)) (qv i)):=(HQ.out.row i hi).of_block (HG9.out _ hRz (zad (HQ.out.row i hi) (HQ.out.own i j hi hj) (by decide)))
 have e9:w9.cell? ⟨R i,j,none⟩=some (qv i j):=HR9.out.cell (Nat.lt_of_lt_of_le hj (HQ.out.cq i hi))
 have f9:w9.frozen? ⟨R i,j,none⟩=false:=HR9.out.frozen j
 have HO9:=Lib.hid hown9;have HA9:=Lib.hid hat9
 have HL9:Hid (Below L w w9):=Below.trans ((hvb.mono (by have:=HH.out.la;omega)).alloc (by have:=HH.out.la;have:=HVZ.out;omega) _) hbel9
 obtain ⟨A9,c9,hv9,_,_⟩:=(Sl.of_own hown9).form;subst hv9;clear hown9 hgr9 hat9 hbel9
 refine hK.out _ _ ?_ (fun hHeld=>?_)
 ·(try dsimp only)
  exact ⟨ca,cb⟩
 clear hK K;refine tk 12 ?_
 refine clR 13 rfl fun K hK=>?_
 go_simp
 refine hK.out _ _ ?_ (fun hHeld=>?_)
 ·(try dsimp only)
  exact ⟨((But.set j _).cell (show A<w9.heap.size by omega) hAR).trans ca,((But.set j _).cell (show Q<w9.heap.size by omega) hQR).trans cb⟩
 clear hK K
 (try simp only [Act.put,sqA,sqB,sqC])
 refine dnR ?_
 have HOT:Hid (∀ b,b<w.heap.size->b≠R i->(qv i j).ownBlock≠some b->(w9.setCell ⟨R i,j,none⟩ (.slice A9 (k+1) c9)).heap[b]?=w.heap[b]?):=fun b hb h1 h2=>(zab _ _ _ (by exact h1)).trans (HG9.out b hb h2)
 have HAT:Hid ((Value.slice A9 (k+1) c9).ownBlock=(qv i j).ownBlock\/∃ b,(Value.slice A9 (k+1) c9).ownBlock=some b/\w.heap.size<=b):=by
  rcases HA9.out with h1|h1
  ·left
   rw [h1,HV.out]
  ·right
   exact ⟨_,h1,by rw [World.size_alloc];have:=HVZ.out;omega⟩
 have HQ9:Hid (QuAt (w9.setCell ⟨R i,j,none⟩ (.slice A9 (k+1) c9)) L P R G (upd2 qv i j (.slice A9 (k+1) c9)) (upd2 qs i j (qs i j ++ [id]))):=by
  refine HQ.out.step hi hj _ _ (HR9.out.set j _) HOT.out ?_ ?_
  ·have h1:=HO9.out
   have e1:(qs i j ++ [id]).length=k+1:=by rw [List.length_append,HKK.out];rfl
   have e2:kv .i64 (qs i j ++ [id])=kv .i64 (qs i j) ++ [.int .i64 id]:=by simp [kv]
   rw [e1,e2]
   exact zbm h1 (fun g e=>zab _ _ _ (fun e3=>zad HR9.out h1 (by decide) (by rw [e,e3])))
  ·exact HAT.out
 have HL:Hid (Below L w (w9.setCell ⟨R i,j,none⟩ (.slice A9 (k+1) c9))):=HL9.out.setCell (HQ.out.low i hi) _;have HM:Hid (MdAt (w9.setCell ⟨R i,j,none⟩ (.slice A9 (k+1) c9)) L A S1 Q uv (.pointer (some ⟨bp,0,none⟩)) P r nv lv st G):=HH.out.quiet HQ.out hi hj HOT.out;clear HG9 hz9 ca cb HR9 e9 f9 HO9 HA9 HL9 hvb HO1 c4 c0 cq cr
 go_wp2
 go_ret
 exact ⟨by first|rfl|(simp;done),HM.out,⟨_,HQ9.out,HAT.out⟩,HOT.out,HL.out⟩
set_option maxHeartbeats 1600000 in
theorem zju {w:World} {L A S1 Q bp:Nat} {uv:Value} {P r nv:Nat} {lv:List Vl} {st:Nat->Int×Nat} {G:Nat->Value} {R:Nat->Nat} {qv:Nat->Nat->Value} {qs:Nat->Nat->List Int} (h:MdAt w L A S1 Q uv (.pointer (some ⟨bp,0,none⟩)) P r nv lv st G) (hQ:QuAt w L P R G qv qs) (i j:Nat) (hi:i<P) (hj:j<P) (hnone:qs i j=[]):Calls Tryz.prog 93 #[.pointer (some ⟨A,0,none⟩),.int .i64 (i:Nat),.int .i64 (j:Nat)] w (Says (.int .i64 (-1)) w):=by
 have c4:w.cell? ⟨A,4,none⟩=some (.slice (some ⟨Q,0,none⟩) P P):=h.cells.cell (by omega)
 have c0:w.cell? ⟨A,0,none⟩=some (.int .i64 (r:Nat)):=h.cells.cell (by omega)
 have cq:w.cell? ⟨Q,i,none⟩=some (.slice (some ⟨R i,0,none⟩) P (capV (G i))):=(h.queues.cell hi).trans (congrArg some (hQ.at_ i hi))
 have hcq:=hQ.cq i hi;obtain ⟨Au,cu,hv,hcu,hcm⟩:=(Sl.of_own (hQ.own i j hi hj)).form
 have cr:w.cell? ⟨R i,j,none⟩=some (.slice Au (qs i j).length cu):=((hQ.row i hi).cell (Nat.lt_of_lt_of_le hj hcq)).trans (by rw [hv])
 have HH:=Lib.hid h;have HQ:=Lib.hid hQ;have hAz:A<w.heap.size:=h.cells.lt;have hQz:Q<w.heap.size:=h.queues.lt;have hRz:R i<w.heap.size:=(hQ.row i hi).lt
 have hAR:A≠R i:=zav h.cells (hQ.row i hi) (by decide)
 have hQR:Q≠R i:=zav h.queues (hQ.row i hi) (by decide)
 have HV:=Lib.hid hv
 have d1:decide (i<P)=true:=by simp;omega
 have d2:decide (j<P)=true:=by simp;omega
 rw [hnone] at cr
 have cr':w.cell? ⟨R i,j,none⟩=some (.slice Au 0 cu):=cr
 clear cr h hQ HH HQ HV hv hcu hnone
 go_enter Tryz.func93,Tryz.ntmps93
 go_wp2
 go_ret
 exact ⟨by first|rfl|(simp;done),Below.refl _ _⟩
set_option maxRecDepth 20000 in
set_option maxHeartbeats 1600000 in
theorem zok {w:World} {L A S1 Q bp:Nat} {uv:Value} {P r nv:Nat} {lv:List Vl} {st:Nat->Int×Nat} {G:Nat->Value} {R:Nat->Nat} {qv:Nat->Nat->Value} {qs:Nat->Nat->List Int} (h:MdAt w L A S1 Q uv (.pointer (some ⟨bp,0,none⟩)) P r nv lv st G) (hQ:QuAt w L P R G qv qs) (i j:Nat) (hi:i<P) (hj:j<P) (x:Int) (l:List Int) (hql:qs i j=x :: l):Calls Tryz.prog 93 #[.pointer (some ⟨A,0,none⟩),.int .i64 (i:Nat),.int .i64 (j:Nat)] w fun e w'=>e=.returned (.int .i64 x) /\
   MdAt w' L A S1 Q uv (.pointer (some ⟨bp,0,none⟩)) P r nv lv st G/\(∃ v',QuAt w' L P R G (upd2 qv i j v') (upd2 qs i j l)/\(v'.ownBlock=(qv i j).ownBlock\/∃ b,v'.ownBlock=some b/\w.heap.size<=b))/\(∀ b,b<w.heap.size->b≠R i->(qv i j).ownBlock≠some b->w'.heap[b]?=w.heap[b]?)/\Below L w w':=by
 have c4:w.cell? ⟨A,4,none⟩=some (.slice (some ⟨Q,0,none⟩) P P):=h.cells.cell (by omega)
 have c0:w.cell? ⟨A,0,none⟩=some (.int .i64 (r:Nat)):=h.cells.cell (by omega)
 have cq:w.cell? ⟨Q,i,none⟩=some (.slice (some ⟨R i,0,none⟩) P (capV (G i))):=(h.queues.cell hi).trans (congrArg some (hQ.at_ i hi))
 have hcq:=hQ.cq i hi;obtain ⟨Au,cu,hv,hcu,hcm⟩:=(Sl.of_own (hQ.own i j hi hj)).form
 have cr:w.cell? ⟨R i,j,none⟩=some (.slice Au (qs i j).length cu):=((hQ.row i hi).cell (Nat.lt_of_lt_of_le hj hcq)).trans (by rw [hv])
 have HH:=Lib.hid h;have HQ:=Lib.hid hQ;have hAz:A<w.heap.size:=h.cells.lt;have hQz:Q<w.heap.size:=h.queues.lt;have hRz:R i<w.heap.size:=(hQ.row i hi).lt
 have hAR:A≠R i:=zav h.cells (hQ.row i hi) (by decide)
 have hQR:Q≠R i:=zav h.queues (hQ.row i hi) (by decide)
 have HV:=Lib.hid hv
 have d1:decide (i<P)=true:=by simp;omega
 have d2:decide (j<P)=true:=by simp;omega
 have ho:=hQ.own i j hi hj;rw [hql] at cr ho hcu;rw [hv] at ho;rw [hql] at ho;obtain ⟨k,hk⟩:∃ k,k=l.length:=⟨_,rfl⟩
 have hk1:(x :: l).length=k+1:=by rw [List.length_cons,hk]
 rw [hk1] at cr ho hcu;rw [hql,hk1] at HV
 obtain ⟨b,rfl,hbL⟩:∃ b,Au=some ⟨b,0,none⟩/\L<=b:=by
  rcases ho.2 with hn|⟨g,cap,cur,hv9,hg,_⟩
  ·cases hn.1
  ·injection hv9 with h1 h2 h3
   exact ⟨g,h1,hg⟩
 have hbz:b<w.heap.size:=(ho.lt b rfl).2
 have cb:w.cell? ⟨b,0,none⟩=some (.int .i64 x):=(ho.cellAt 0 (by omega)).trans rfl
 have HO:=Lib.hid ho;have HKK:=Lib.hid hk
 have hcm':k+1<=2 ^ 63 - 1:=by unfold maxLen at hcm;omega
 unfold maxLen at hcm
 have d4:((k+1:Nat):Int)≠0:=by omega
 have d5:(((k+1:Nat):Int) == 0)=false:=by simp;omega
 have d6:¬ (k:Int)+1=0:=by omega
 have d7:decide (0<k+1)=true:=by simp
 have hbA:b≠A:=fun e=>zad h.cells ho (by decide) (by rw [e];rfl)
 have hbQ:b≠Q:=fun e=>zad h.queues ho (by decide) (by rw [e];rfl)
 have hbR:b≠R i:=fun e=>zad (hQ.row i hi) ho (by decide) (by rw [e];rfl)
 clear h hQ hv ho hql hk hk1
 go_enter Tryz.func93,Tryz.ntmps93
 go_wp2_with fail
 refine wp_region_held_drew (S:=fun w'=>w'.cell? ⟨A,4,none⟩=some (.slice (some ⟨Q,0,none⟩) P P)/\w'.cell? ⟨Q,i,none⟩=some (.slice (some ⟨R i,0,none⟩) P (capV (G i)))) (by kernel_rfl) ?_ (fun hHeld=>?_)
 ·exact ⟨c4,cq⟩
 obtain ⟨v0,hv0⟩:∃ w',w'=w.drew:=⟨_,rfl⟩
 have hvb:Below w.heap.size w v0:=by rw [hv0];exact (Below.refl _ _).drew
 have HVZ:Hid (v0.heap.size=w.heap.size):=by show _=_;rw [hv0];rfl
 rw [<- hv0] at hHeld |-;clear hv0;have HO1:=Lib.hid (zac HO.out hvb);refine tk 0 ?_;refine tk 1 ?_;refine tk 2 ?_;refine tk 3 ?_;refine tk 4 ?_;refine tk 5 ?_;refine tk 6 ?_;refine tk 7 ?_;refine tk 8 ?_
 refine clR 9 rfl fun K hK=>?_
 go_simp
 refine Calls.mono (ziu HO1.out) ?_
 rintro e w9 ⟨rfl,ho9,hb9⟩
 have HG9:Hid (∀ a,a<w.heap.size->b≠a->w9.heap[a]?=w.heap[a]?):=fun a ha hne=>by
  rw [hb9.rest a (by have:=HVZ.out;omega) (fun e=>hne e.symm)]
  exact hvb.block a ha
 have hz9:w.heap.size<=w9.heap.size:=by have:=hb9.below.size;have:=HVZ.out;omega
 have ca:=(World.cell?_of_block (a:=⟨A,4,none⟩) (HG9.out A hAz hbA)).trans c4;have cb':=(World.cell?_of_block (a:=⟨Q,i,none⟩) (HG9.out Q hQz hbQ)).trans cq;have HR9:Hid (w9.rowIs (R i) 47 (capV (G i)) (qv i)):=(HQ.out.row i hi).of_block (HG9.out _ hRz hbR)
 have e9:w9.cell? ⟨R i,j,none⟩=some (qv i j):=HR9.out.cell (Nat.lt_of_lt_of_le hj (HQ.out.cq i hi))
 have f9:w9.frozen? ⟨R i,j,none⟩=false:=HR9.out.frozen j
 have HO9:=Lib.hid ho9
 have HL9:Hid (Below L w w9):=(hvb.mono (by omega)).trans (hb9.below.mono hbL)
 clear ho9 hb9
 refine hK.out _ _ ?_ (fun hHeld=>?_)
 ·(try dsimp only)
  exact ⟨ca,cb'⟩
 clear hK K;refine tk 10 ?_
 refine clR 11 rfl fun K hK=>?_
 go_simp
 refine hK.out _ _ ?_ (fun hHeld=>?_)
 ·(try dsimp only)
  exact ⟨((But.set j _).cell (show A<w9.heap.size by omega) hAR).trans ca,((But.set j _).cell (show Q<w9.heap.size by omega) hQR).trans cb'⟩
 clear hK K
 (try simp only [Act.put,sqA,sqB,sqC])
 refine dnR ?_
 have HOT:Hid (∀ a,a<w.heap.size->a≠R i->(qv i j).ownBlock≠some a->(w9.setCell ⟨R i,j,none⟩ (.slice (some ⟨b,0,none⟩) k cu)).heap[a]?=w.heap[a]?):=fun a ha h1 h2=>(zab _ _ _ (by exact h1)).trans (HG9.out a ha (fun e=>h2 (by rw [HV.out,e];rfl)))
 have HQ9:Hid (QuAt (w9.setCell ⟨R i,j,none⟩ (.slice (some ⟨b,0,none⟩) k cu)) L P R G (upd2 qv i j (.slice (some ⟨b,0,none⟩) k cu)) (upd2 qs i j l)):=by
  refine HQ.out.step hi hj _ _ (HR9.out.set j _) HOT.out ?_ (.inl (by rw [HV.out];rfl))
  have h1:=HO9.out;rw [<- HKK.out]
  exact zbm h1 (fun g e=>zab _ _ _ (fun e3=>zad HR9.out h1 (by decide) (by rw [e,e3])))
 have HL:Hid (Below L w (w9.setCell ⟨R i,j,none⟩ (.slice (some ⟨b,0,none⟩) k cu))):=HL9.out.setCell (HQ.out.low i hi) _;have HM:Hid (MdAt (w9.setCell ⟨R i,j,none⟩ (.slice (some ⟨b,0,none⟩) k cu)) L A S1 Q uv (.pointer (some ⟨bp,0,none⟩)) P r nv lv st G):=HH.out.quiet HQ.out hi hj HOT.out;clear HG9 hz9 ca cb' HR9 e9 f9 HO9 HL9 hvb HO1 c4 c0 cq cr cb
 go_wp2
 go_ret
 exact ⟨by first|rfl|(simp;done),HM.out,⟨_,HQ9.out,.inl (by rw [HV.out];rfl)⟩,HOT.out,HL.out⟩
end Go.Proofs.YtfekhdgjgjodlaaGreat
