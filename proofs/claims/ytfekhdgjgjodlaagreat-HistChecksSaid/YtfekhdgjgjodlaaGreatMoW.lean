/-
  Words and contracts that a statement's proof rests on (MoW). No statement is proved here.
-/
import Derived.Deep.DeepCutAuto
import Derived.Test.YtfekhdgjgjodlaaGreatKeyA
import Derived.Test.YtfekhdgjgjodlaaGreatBkD
import Derived.Test.YtfekhdgjgjodlaaGreatBkE
import Derived.Test.YtfekhdgjgjodlaaGreatSrB
import Derived.Test.YtfekhdgjgjodlaaGreatSrC
set_option linter.unusedVariables false
set_option linter.unusedSimpArgs false
namespace Go.Proofs.YtfekhdgjgjodlaaGreat
open Go.RowKit
def rowS (f:Nat->Int×Nat) (j:Nat):Value:=if j % 2=0 then .int .i64 (f (j / 2)).1 else .int .u32 ((f (j / 2)).2:Nat)
theorem zeh (f:Nat->Int×Nat) (k:Nat):rowS f (k*2)=.int .i64 (f k).1:=by
 unfold rowS
 rw [if_pos (by omega),show k*2 / 2=k by omega]
theorem zoo (f:Nat->Int×Nat) (k:Nat):rowS f (k*2+1)=.int .u32 ((f k).2:Nat):=by
 unfold rowS
 rw [if_neg (by omega),show (k*2+1) / 2=k by omega]
theorem zb5 {w:World} {M:Nat} {e:TypeId}:(w.alloc (.cells (mkC (.agg #[.int .i64 0,.int .u32 0]) 2 M) e)).rowIs w.heap.size e (M*2) (rowS fun _=>(0,0)):=by
 refine ⟨_,heap_alloc_new w _,by rw [zl9],fun i hi=>?_⟩
 unfold mkC madeCells rowS
 have hm:i % 2<2:=by omega
 simp only [Value.cells,Array.getElem?_map]
 rw [Array.getElem?_eq_getElem (show i<(Array.range (M*2)).size by simpa using hi)]
 simp only [Array.getElem_range,Option.map_some]
 rcases (show i % 2=0\/i % 2=1 by omega) with h|h <;> simp [h]
theorem stStands:ST Tryz.prog 157 165 (.agg #[.int .i64 0,.int .u32 0]) 2 16:=ST.mk Tryz.underlying157 (by kernel_rfl) rfl (by omega) (by omega)
theorem stQus:ST Tryz.prog 79 109 (.slice none 0 0) 1 24:=ST.mk Tryz.underlying79 (by kernel_rfl) rfl (by omega) (by omega)
theorem stQu:ST Tryz.prog 109 47 (.slice none 0 0) 1 24:=ST.mk Tryz.underlying109 (by kernel_rfl) rfl (by omega) (by omega)
def capV:Value->Nat
 |.slice _ _ c=>c|_=>0
def mdF (r:Nat) (vs uv bv vq:Value):Nat->Value
 |0=>.int .i64 (r:Nat)|1=>vs|2=>uv|3=>bv|_=>vq
structure MdAt (w:World) (L A S1 Q:Nat) (uv bv:Value) (P r nv:Nat) (lv:List Vl) (st:Nat->Int×Nat) (G:Nat->Value):Prop where
 la:L<=A
 ls:L<=S1
 lq:L<=Q
 cells:w.rowIs A 161 5 (mdF r (.slice (some ⟨S1,0,none⟩) P (capV (G 100))) uv bv (.slice (some ⟨Q,0,none⟩) P P))
 stands:rowH w S1 165 (P*2) (rowS st)
 vlans:w.ownsRow L 135 3 uv nv (vlc lv)
 queues:w.rowIs Q 109 P G
 cs:P<=capV (G 100)/\capV (G 100)<=maxLen
theorem BkAt.domM {w:World} {D D':Nat->Prop} {p q S B n:Nat} {g:Nat->Nat->Pl} (h:BkAt w D p q S B n g) (hd:∀ b,b<w.heap.size->D' b->D b):BkAt w D' p q S B n g:=by
 obtain ⟨h0,h1,h2,h3,h4,h5,h6,h9,h10⟩:=h
 refine ⟨h0,h1,h2,h3,h4,h5,h6,h9,fun i hi=>?_⟩
 obtain ⟨v,hv,A,cap,e1,e2,e3,e4⟩:=h10 i hi
 refine ⟨v,hv,A,cap,e1,e2,e3,fun hn=>?_⟩
 obtain ⟨b,off,f1,f2,f3,f4⟩:=e4 hn
 exact ⟨b,off,f1,f2,fun hb=>f3 (hd b f2 hb),f4⟩
theorem zav {w:World} {a b M N:Nat} {T U:TypeId} {f g:Nat->Value} (h:w.rowIs a T M f) (k:w.rowIs b U N g) (hn:T≠U):a≠b:=by
 intro e;obtain ⟨cs,h1,_⟩:=h;obtain ⟨ds,k1,_⟩:=k;rw [e,k1] at h1
 injection h1 with h2
 injection h2 with h3 h4
 exact hn h4.symm
theorem zcs {w:World} {a b M N:Nat} {T U:TypeId} {f g:Nat->Value} (h:w.rowIs a T M f) (k:rowH w b U N g) (hn:T≠U):a≠b:=by
 obtain ⟨m,F,k1,_⟩:=k
 exact zav h k1 hn
theorem ze7 {w:World} {a b M N:Nat} {T U:TypeId} {f g:Nat->Value} (h:rowH w a T M f) (k:w.rowIs b U N g) (hn:T≠U):a≠b:=by
 obtain ⟨m,F,k1,_⟩:=h
 exact zav k1 k hn
theorem zad {w:World} {a M size n L:Nat} {T U:TypeId} {f:Nat->Value} {v:Value} {xs:List Value} (h:w.rowIs a T M f) (k:w.ownsRow L U size v n xs) (hn:T≠U):v.ownBlock≠some a:=by
 intro e;obtain ⟨cs,h1,_⟩:=h
 rcases k.2 with hnil|⟨g,cap,cur,hv,hg,hh,r⟩
 ·rw [hnil.1] at e;cases e
 ·rw [hv] at e
  injection e with e
  rw [<- e,hh] at h1
  injection h1 with h2
  injection h2 with h3 h4
  exact hn h4.symm
theorem zbr {w:World} {a M size n L:Nat} {T U:TypeId} {f:Nat->Value} {v:Value} {xs:List Value} (h:rowH w a T M f) (k:w.ownsRow L U size v n xs) (hn:T≠U):v.ownBlock≠some a:=by
 obtain ⟨m,F,k1,_⟩:=h
 exact zad k1 k hn
theorem zbm {X X':World} {base size n:Nat} {e:TypeId} {v:Value} {xs:List Value} (h:X.ownsRow base e size v n xs) (hk:∀ g,v.ownBlock=some g->X'.heap[g]?=X.heap[g]?):X'.ownsRow base e size v n xs:=by
 refine ⟨h.1,?_⟩
 rcases h.2 with hn|⟨g,cap,cur,hv,hg,hh,r⟩
 ·exact .inl hn
 ·refine .inr ⟨g,cap,cur,hv,hg,(hk g ?_).trans hh,r⟩
  rw [hv]
  rfl
theorem MdAt.keep {w w':World} {L A S1 Q:Nat} {uv bv:Value} {P r nv:Nat} {lv:List Vl} {st:Nat->Int×Nat} {G:Nat->Value} (h:MdAt w L A S1 Q uv bv P r nv lv st G) (hk:∀ b,b=A\/b=S1\/b=Q\/uv.ownBlock=some b->w'.heap[b]?=w.heap[b]?):MdAt w' L A S1 Q uv bv P r nv lv st G :=
 ⟨h.la,h.ls,h.lq,h.cells.of_block (hk A (.inl rfl)),h.stands.of_block (hk S1 (.inr (.inl rfl))),zbm h.vlans (fun g e=>hk g (.inr (.inr (.inr e)))),h.queues.of_block (hk Q (.inr (.inr (.inl rfl)))),h.cs⟩
theorem MdAt.lt {w:World} {L A S1 Q:Nat} {uv bv:Value} {P r nv:Nat} {lv:List Vl} {st:Nat->Int×Nat} {G:Nat->Value} (h:MdAt w L A S1 Q uv bv P r nv lv st G) (b:Nat) (hb:b=A\/b=S1\/b=Q\/uv.ownBlock=some b):b<w.heap.size:=by
 rcases hb with rfl|rfl|rfl|hb
 ·exact h.cells.lt
 ·exact h.stands.lt
 ·exact h.queues.lt
 ·exact (h.vlans.lt b hb).2
theorem MdAt.call {w w':World} {L A S1 Q:Nat} {uv bv:Value} {P r nv:Nat} {lv:List Vl} {st:Nat->Int×Nat} {G:Nat->Value} (h:MdAt w L A S1 Q uv bv P r nv lv st G) (hb:Below w.heap.size w w'):MdAt w' L A S1 Q uv bv P r nv lv st G :=
 h.keep fun b hc=>hb.block b (h.lt b hc)
theorem MdAt.setQ {w:World} {L A S1 Q:Nat} {uv bv:Value} {P r nv:Nat} {lv:List Vl} {st:Nat->Int×Nat} {G:Nat->Value} (h:MdAt w L A S1 Q uv bv P r nv lv st G) (k:Nat) (v:Value) (hk:k≠100):MdAt (w.setCell ⟨Q,k,none⟩ v) L A S1 Q uv bv P r nv lv st (fun j=>if j=k then v else G j):=by
 have e:(if (100:Nat)=k then v else G 100)=G 100:=if_neg (Ne.symm hk)
 refine ⟨h.la,h.ls,h.lq,(by (rw [e];exact h.cells.of_block (zab _ _ _ (zav h.cells h.queues (by decide))))),h.stands.of_block (zab _ _ _ (ze7 h.stands h.queues (by decide))),zbm h.vlans (fun g e=>zab _ _ _ (fun e2=>zad h.queues h.vlans (by decide) (by rw [e,e2]))),h.queues.set k v,(by (rw [e];exact h.cs))⟩
theorem MdAt.setB {w:World} {L A S1 Q:Nat} {uv bv:Value} {P r nv:Nat} {lv:List Vl} {st:Nat->Int×Nat} {G:Nat->Value} (h:MdAt w L A S1 Q uv bv P r nv lv st G) (v:Value):MdAt (w.setCell ⟨A,3,none⟩ v) L A S1 Q uv v P r nv lv st G :=
 ⟨h.la,h.ls,h.lq,(h.cells.set 3 v).congr fun i hi=>(by
  match i,hi with
  |0,_=>rfl
  |1,_=>rfl
  |2,_=>rfl
  |3,_=>rfl
  |4,_=>rfl),h.stands.of_block (zab _ _ _ (ze7 h.stands h.cells (by decide))),zbm h.vlans (fun g e=>zab _ _ _ (fun e2=>zad h.cells h.vlans (by decide) (by rw [e,e2]))),h.queues.of_block (zab _ _ _ (zav h.queues h.cells (by decide))),h.cs⟩
theorem MdAt.low {w:World} {L L' A S1 Q:Nat} {uv bv:Value} {P r nv:Nat} {lv:List Vl} {st:Nat->Int×Nat} {G:Nat->Value} (h:MdAt w L A S1 Q uv bv P r nv lv st G) (hL:L'<=L):MdAt w L' A S1 Q uv bv P r nv lv st G :=
 ⟨Nat.le_trans hL h.la,Nat.le_trans hL h.ls,Nat.le_trans hL h.lq,h.cells,h.stands,zas h.vlans hL,h.queues,h.cs⟩
def zjd (w:World) (hN P k:Nat) (R:Nat->Nat) (G:Nat->Value):Prop :=
 ∀ i,i<k->hN<=R i/\G i=.slice (some ⟨R i,0,none⟩) P P/\w.rowIs (R i) 47 P (fun _=>.slice none 0 0)/\∀ j,j<i->R j<R i
set_option maxRecDepth 20000 in
set_option maxHeartbeats 6400000 in
theorem zp6 {w:World} {Bo nr nv m:Nat} {vr vv:Value} {lr:List Rl} {lv:List Vl} (hr:Sl w Bo 2 vr nr (rlc lr)) (hv:Sl w Bo 3 vv nv (vlc lv)) (hok:∀ x∈lv,x.ok) (hB:Bo<=w.heap.size) (hf:zdh lr nr m) (P S B n r:Nat) (t nm sh:Int) (hP:2<=P/\P<=64) (hS:1<=S/\S<=8) (hBB:1<=B/\B<=16) (hn:1<=n/\n<=8) (hnv:nv<=1000000) (hK:zgd (zb4 lv P nv) (decide ((nr:Int)=P)) (!decide (m<nr)) (zct S B n && (zaq t 8 && zaq r 64))=0) :
  Calls Tryz.prog 57 #[zbb P vr vv S B n t r nm sh] w fun e w'=>∃ (A S1 Q bp bq hN:Nat) (uv:Value) (R:Nat->Nat) (G:Nat->Value),e=.returned (.tuple #[.pointer (some ⟨A,0,none⟩),.int .i64 0]) /\
   MdAt w' w.heap.size A S1 Q uv (.pointer (some ⟨bp,0,none⟩)) P r nv lv (fun _=>(0,0)) G/\BkAt w' (fun b=>b<=bp\/hN<=b) bp bq S B n (fun _ _=>pl0)/\A<bq/\S1<bq/\Q<bq/\bq<bp/\bp<hN/\(∀ b,uv.ownBlock=some b->b<bq)/\zjd w' hN P P R G/\Below w.heap.size w w':=by
 obtain ⟨Ar,cr,rfl,hcr,hcm⟩:=hr.form;obtain ⟨Av,cv,rfl,hcv,hcw⟩:=hv.form
 have HC:=Lib.hid fun w' (hb:Below w.heap.size w w')=>zgh (hr.below (hb.mono hB)) (hv.below (hb.mono hB)) hok (Nat.le_trans hB hb.size) hf P S B n t r nm sh
 rw [hK] at HC
 have HCL:=Lib.hid fun w' (hb:Below w.heap.size w w')=>zlb hnv (hv.below (hb.mono hB)) (zh3 lv) (Nat.le_trans hB hb.size)
 have HBN:=Lib.hid fun W=>book_New S B n hS hBB hn W
 have hk1:=fun W=>zby (P:=Tryz.prog) W stStands P (by omega)
 have hk2:=fun W=>zby (P:=Tryz.prog) W stQus P (by omega)
 have hk3:=Lib.hid fun W=>zby (P:=Tryz.prog) W stQu P (by omega)
 clear hr hv hok hf hK hcr hcm hcv hcw;unfold zbb at HC |-
 have HBOX:Hid (∀ w',Below (w.heap.size+1) (w.alloc (.cells #[.int .i64 (P:Nat),.slice Ar nr cr,.slice Av nv cv,.int .i64 (S:Nat),.int .i64 (B:Nat),.int .i64 (n:Nat),.int .i64 t,.int .i64 (r:Nat),.int .u32 nm,.int .u32 sh] 41)) w'->w'.cell? ⟨w.heap.size,0,none⟩=some (.int .i64 (P:Nat))/\w'.cell? ⟨w.heap.size,1,none⟩=some (.slice Ar nr cr)/\w'.cell? ⟨w.heap.size,2,none⟩=some (.slice Av nv cv)/\w'.cell? ⟨w.heap.size,3,none⟩=some (.int .i64 (S:Nat))/\w'.cell? ⟨w.heap.size,4,none⟩=some (.int .i64 (B:Nat))/\w'.cell? ⟨w.heap.size,5,none⟩=some (.int .i64 (n:Nat))/\w'.cell? ⟨w.heap.size,6,none⟩=some (.int .i64 t)/\w'.cell? ⟨w.heap.size,7,none⟩=some (.int .i64 (r:Nat))/\w'.cell? ⟨w.heap.size,8,none⟩=some (.int .u32 nm)/\w'.cell? ⟨w.heap.size,9,none⟩=some (.int .u32 sh)):=fun w' hb=>by
  refine ⟨?_,?_,?_,?_,?_,?_,?_,?_,?_,?_⟩ <;>
  ·rw [hb.cell (by show w.heap.size<_;omega)]
   simp [go_sem]
 have HBX:Hid (∀ w',Below (w.heap.size+1) (w.alloc (.cells #[.int .i64 (P:Nat),.slice Ar nr cr,.slice Av nv cv,.int .i64 (S:Nat),.int .i64 (B:Nat),.int .i64 (n:Nat),.int .i64 t,.int .i64 (r:Nat),.int .u32 nm,.int .u32 sh] 41)) w'->w'.cell? ⟨w.heap.size,0,none⟩=some (.int .i64 (P:Nat))/\w'.cell? ⟨w.heap.size,2,none⟩=some (.slice Av nv cv)/\w'.cell? ⟨w.heap.size,7,none⟩=some (.int .i64 (r:Nat))):=fun w' hb=>by
  obtain ⟨q0,q1,q2,q3,q4,q5,q6,q7,q8,q9⟩:=HBOX.out w' hb
  exact ⟨q0,q2,q7⟩
 have HLOW:Hid (∀ w',Below (w.heap.size+1) (w.alloc (.cells #[.int .i64 (P:Nat),.slice Ar nr cr,.slice Av nv cv,.int .i64 (S:Nat),.int .i64 (B:Nat),.int .i64 (n:Nat),.int .i64 t,.int .i64 (r:Nat),.int .u32 nm,.int .u32 sh] 41)) w'->Below w.heap.size w w'):=fun w' hb=>((Below.refl w.heap.size w).alloc (Nat.le_refl _) _).trans (hb.mono (by omega))
 have HSZ:Hid (∀ w',Below (w.heap.size+1) (w.alloc (.cells #[.int .i64 (P:Nat),.slice Ar nr cr,.slice Av nv cv,.int .i64 (S:Nat),.int .i64 (B:Nat),.int .i64 (n:Nat),.int .i64 t,.int .i64 (r:Nat),.int .u32 nm,.int .u32 sh] 41)) w'->w.heap.size+1<=w'.heap.size):=fun w' hb=>by have:=hb.size;simp at this;omega
 have HUP:Hid (∀ w' w'',Below (w.heap.size+1) (w.alloc (.cells #[.int .i64 (P:Nat),.slice Ar nr cr,.slice Av nv cv,.int .i64 (S:Nat),.int .i64 (B:Nat),.int .i64 (n:Nat),.int .i64 t,.int .i64 (r:Nat),.int .u32 nm,.int .u32 sh] 41)) w'->Below w'.heap.size w' w''->Below (w.heap.size+1) (w.alloc (.cells #[.int .i64 (P:Nat),.slice Ar nr cr,.slice Av nv cv,.int .i64 (S:Nat),.int .i64 (B:Nat),.int .i64 (n:Nat),.int .i64 t,.int .i64 (r:Nat),.int .u32 nm,.int .u32 sh] 41)) w''):=fun w' w'' h1 h2=>h1.trans (h2.mono (by have:=h1.size;simp at this;omega))
 have hq:Below (w.heap.size+1) (w.alloc (.cells #[.int .i64 (P:Nat),.slice Ar nr cr,.slice Av nv cv,.int .i64 (S:Nat),.int .i64 (B:Nat),.int .i64 (n:Nat),.int .i64 t,.int .i64 (r:Nat),.int .u32 nm,.int .u32 sh] 41)) (w.alloc (.cells #[.int .i64 (P:Nat),.slice Ar nr cr,.slice Av nv cv,.int .i64 (S:Nat),.int .i64 (B:Nat),.int .i64 (n:Nat),.int .i64 t,.int .i64 (r:Nat),.int .u32 nm,.int .u32 sh] 41)):=Below.refl _ _
 go_enter Tryz.func57,Tryz.ntmps57
 go_upto_region 4 with (first
  |(go_at_call 25;(with_reducible refine Calls.mono (HC.out _ (HLOW.out _ hq)) ?_);rintro e wa ⟨rfl,hba⟩;(have hqa:=HUP.out _ _ hq hba);clear hba hq))
 go_cut [5] (fun p5 wx=>∃ (A S1 Q:Nat) (uv:Value),p5=.pointer (some ⟨A,0,none⟩)/\Hid (MdAt wx (w.heap.size+1) A S1 Q uv (.pointer none) P r nv lv (fun _=>(0,0)) (fun j=>if j=100 then .slice none 0 P else .slice none 0 0)/\Below (w.heap.size+1) (w.alloc (.cells #[.int .i64 (P:Nat),.slice Ar nr cr,.slice Av nv cv,.int .i64 (S:Nat),.int .i64 (B:Nat),.int .i64 (n:Nat),.int .i64 t,.int .i64 (r:Nat),.int .u32 nm,.int .u32 sh] 41)) wx))
 case first =>
  obtain ⟨q0,q2,q7⟩:=HBX.out _ hqa
  refine wp_region_held_drew (S:=fun w'=>w'.cell? ⟨w.heap.size,0,none⟩=some (.int .i64 (P:Nat))/\w'.cell? ⟨w.heap.size,2,none⟩=some (.slice Av nv cv)/\w'.cell? ⟨w.heap.size,7,none⟩=some (.int .i64 (r:Nat))) (by kernel_rfl) ?_ (fun hHeld=>?_)
  ·exact HBX.out _ (by (repeat' (first|(with_reducible exact Below.refl _ _)|(with_reducible assumption)|(with_reducible refine Below.alloc ?_ ?_ _)|(with_reducible refine zaa ?_ _)|(with_reducible refine Below.drew ?_)|(exact HSZ.out _ (by assumption))|go_size|omega)))
  obtain ⟨v0,hv0⟩:∃ w',w'=wa.drew:=⟨_,rfl⟩
  have hqv0:Below (w.heap.size+1) (w.alloc (.cells #[.int .i64 (P:Nat),.slice Ar nr cr,.slice Av nv cv,.int .i64 (S:Nat),.int .i64 (B:Nat),.int .i64 (n:Nat),.int .i64 t,.int .i64 (r:Nat),.int .u32 nm,.int .u32 sh] 41)) v0:=by rw [hv0];exact hqa.drew
  rw [<- hv0] at hHeld |-;clear hv0;refine tk 0 ?_;refine tk 1 ?_;refine tk 2 ?_;refine tk 3 ?_;refine tk 5 ?_;refine tk 6 ?_;refine tk 8 ?_;refine tk 9 ?_
  refine wpAnyH_ready (rs:=[4,7,10]) (by kernel_rfl) (by simp) ?_
  refine (acR rfl (fun K hK=>?_) (acR rfl (fun K hK=>?_) (acR rfl (fun K hK=>?_) AllReadyH.nil)))
  ·go_simp
   refine hK.out _ _ ?_ (fun hHeld=>?_)
   ·(try dsimp only)
    exact HBX.out _ (by (repeat' (first|(with_reducible exact Below.refl _ _)|(with_reducible assumption)|(with_reducible refine Below.alloc ?_ ?_ _)|(with_reducible refine zaa ?_ _)|(with_reducible refine Below.drew ?_)|(exact HSZ.out _ (by assumption))|go_size|omega)))
   clear hK K
   (try simp only [Act.put,sqA,sqB,sqC])
   obtain ⟨S1,hS1⟩:∃ o,o=(v0).heap.size:=⟨_,rfl⟩;obtain ⟨ws,hws⟩:∃ x,x=(v0).alloc (.cells (mkC (.agg #[.int .i64 0,.int .u32 0]) 2 P) 165):=⟨_,rfl⟩
   have HST:Hid (ws.rowIs S1 165 (P*2) (rowS fun _=>(0,0))):=by rw [hws,hS1];exact zb5
   have HBs:Hid (Below (v0).heap.size v0 ws):=by rw [hws];exact (Below.refl _ _).alloc (Nat.le_refl _) _
   have hqws:=HUP.out _ _ hqv0 HBs.out
   have hS1b:w.heap.size+1<=S1:=by rw [hS1];exact HSZ.out _ hqv0
   rw [<- hws]
   (try rw [<- hS1])
   (try rw [<- hws] at hHeld)
   clear hws hS1
   refine wpAnyH_ready (rs:=[7,10]) (by kernel_rfl) (by simp) ?_
   refine (acR rfl (fun K hK=>?_) (acR rfl (fun K hK=>?_) AllReadyH.nil))
   ·go_simp
    refine Calls.mono (HCL.out _ (HLOW.out _ (by (repeat' (first|(with_reducible exact Below.refl _ _)|(with_reducible assumption)|(with_reducible refine Below.alloc ?_ ?_ _)|(with_reducible refine zaa ?_ _)|(with_reducible refine Below.drew ?_)|(exact HSZ.out _ (by assumption))|go_size|omega))))) ?_
    rintro e wc ⟨uv,rfl,hown,hbc⟩;obtain ⟨Au,cu,hue,_,_⟩:=(Sl.of_own hown).form;subst hue;have HOW:=Lib.hid (zas hown (HSZ.out _ hqws));have hqwc:=HUP.out _ _ hqws hbc;have HBc:Hid (Below (ws).heap.size ws wc):=hbc;clear hown hbc
    refine hK.out _ _ ?_ (fun hHeld=>?_)
    ·(try dsimp only)
     exact HBX.out _ (by (repeat' (first|(with_reducible exact Below.refl _ _)|(with_reducible assumption)|(with_reducible refine Below.alloc ?_ ?_ _)|(with_reducible refine zaa ?_ _)|(with_reducible refine Below.drew ?_)|(exact HSZ.out _ (by assumption))|go_size|omega)))
    clear hK K
    (try simp only [Act.put,sqA,sqB,sqC])
    refine wpAnyH_ready (rs:=[10]) (by kernel_rfl) (by simp) ?_
    refine ac1 rfl fun K hK=>?_
    go_simp
    refine hK.out _ _ ?_ (fun hHeld=>?_)
    ·(try dsimp only)
     exact HBX.out _ (by (repeat' (first|(with_reducible exact Below.refl _ _)|(with_reducible assumption)|(with_reducible refine Below.alloc ?_ ?_ _)|(with_reducible refine zaa ?_ _)|(with_reducible refine Below.drew ?_)|(exact HSZ.out _ (by assumption))|go_size|omega)))
    clear hK K
    (try simp only [Act.put,sqA,sqB,sqC])
    obtain ⟨Q,hQ⟩:∃ o,o=(wc).heap.size:=⟨_,rfl⟩;obtain ⟨wq,hwq⟩:∃ x,x=(wc).alloc (.cells (mkC (.slice none 0 0) 1 P) 109):=⟨_,rfl⟩
    have HQ:Hid (wq.rowIs Q 109 P (fun _=>.slice none 0 0)):=by rw [hwq];exact zcw rfl hQ.symm
    have HBq:Hid (Below (wc).heap.size wc wq):=by rw [hwq];exact (Below.refl _ _).alloc (Nat.le_refl _) _
    have hqwq:=HUP.out _ _ hqwc HBq.out
    have hQb:w.heap.size+1<=Q:=by rw [hQ];exact HSZ.out _ hqwc
    rw [<- hwq]
    (try rw [<- hQ])
    (try rw [<- hwq] at hHeld)
    clear hwq hQ;refine tk 11 ?_
    refine wpAnyH_ready (rs:=[12]) (by kernel_rfl) (by simp) ?_
    refine ac1 rfl fun K hK=>?_
    go_simp
    refine hK.out _ _ ?_ (fun hHeld=>?_)
    ·(try dsimp only)
     exact HBX.out _ (by (repeat' (first|(with_reducible exact Below.refl _ _)|(with_reducible assumption)|(with_reducible refine Below.alloc ?_ ?_ _)|(with_reducible refine zaa ?_ _)|(with_reducible refine Below.drew ?_)|(exact HSZ.out _ (by assumption))|go_size|omega)))
    clear hK K;refine tk 13 ?_
    refine dnR ?_
    have h1:=(World.rowIs.of_block (World.rowIs.of_block HST.out (HBc.out.block _ HST.out.lt)) (HBq.out.block _ (World.rowIs.of_block HST.out (HBc.out.block _ HST.out.lt)).lt));have h2:=HQ.out;have h3:=(zac HOW.out HBq.out);obtain ⟨A,hA⟩:∃ o,o=(wq).heap.size:=⟨_,rfl⟩;have hbx:Below (wq).heap.size wq ((wq).alloc (.cells #[.int .i64 (r:Nat),.slice (some ⟨S1,0,none⟩) P P,.slice Au nv cu,.pointer none,.slice (some ⟨Q,0,none⟩) P P] 161)):=(Below.refl _ _).alloc (Nat.le_refl _) _
    have hLA:w.heap.size+1<=A:=by rw [hA];exact HSZ.out _ hqwq
    have h0:((wq).alloc (.cells #[.int .i64 (r:Nat),.slice (some ⟨S1,0,none⟩) P P,.slice Au nv cu,.pointer none,.slice (some ⟨Q,0,none⟩) P P] 161)).rowIs A 161 5 (mdF r (.slice (some ⟨S1,0,none⟩) P P) (.slice Au nv cu) (.pointer none) (.slice (some ⟨Q,0,none⟩) P P)):=⟨_,by rw [hA];exact heap_alloc_new _ _,rfl,fun i hi=>(by
     match i,hi with
     |0,_=>rfl
     |1,_=>rfl
     |2,_=>rfl
     |3,_=>rfl
     |4,_=>rfl)⟩
    have HM9:Hid (MdAt ((wq).alloc (.cells #[.int .i64 (r:Nat),.slice (some ⟨S1,0,none⟩) P P,.slice Au nv cu,.pointer none,.slice (some ⟨Q,0,none⟩) P P] 161)) (w.heap.size+1) A S1 Q (.slice Au nv cu) (.pointer none) P r nv lv (fun _=>(0,0)) (fun j=>if j=100 then .slice none 0 P else .slice none 0 0)):=⟨hLA,hS1b,hQb,h0,rowH.of (World.rowIs.of_block h1 (hbx.block _ h1.lt)),zac h3 hbx,World.rowIs.congr (World.rowIs.of_block h2 (hbx.block _ h2.lt)) (fun i hi=>(if_neg (by omega)).symm),(by (show P<=P/\P<=maxLen;unfold maxLen;omega))⟩
    have HQ9:=Lib.hid (HUP.out _ _ hqwq hbx);clear h0 h1 h2 h3 hbx
    go_wp2
    go_meet
    exact ⟨A,S1,Q,_,by rw [hA],HM9.out,HQ9.out⟩
   ·go_simp
    refine hK.out _ _ ?_ (fun hHeld=>?_)
    ·(try dsimp only)
     exact HBX.out _ (by (repeat' (first|(with_reducible exact Below.refl _ _)|(with_reducible assumption)|(with_reducible refine Below.alloc ?_ ?_ _)|(with_reducible refine zaa ?_ _)|(with_reducible refine Below.drew ?_)|(exact HSZ.out _ (by assumption))|go_size|omega)))
    clear hK K
    (try simp only [Act.put,sqA,sqB,sqC])
    obtain ⟨Q,hQ⟩:∃ o,o=(ws).heap.size:=⟨_,rfl⟩;obtain ⟨wq,hwq⟩:∃ x,x=(ws).alloc (.cells (mkC (.slice none 0 0) 1 P) 109):=⟨_,rfl⟩
    have HQ:Hid (wq.rowIs Q 109 P (fun _=>.slice none 0 0)):=by rw [hwq];exact zcw rfl hQ.symm
    have HBq:Hid (Below (ws).heap.size ws wq):=by rw [hwq];exact (Below.refl _ _).alloc (Nat.le_refl _) _
    have hqwq:=HUP.out _ _ hqws HBq.out
    have hQb:w.heap.size+1<=Q:=by rw [hQ];exact HSZ.out _ hqws
    rw [<- hwq]
    (try rw [<- hQ])
    (try rw [<- hwq] at hHeld)
    clear hwq hQ
    refine wpAnyH_ready (rs:=[7]) (by kernel_rfl) (by simp) ?_
    refine ac1 rfl fun K hK=>?_
    go_simp
    refine Calls.mono (HCL.out _ (HLOW.out _ (by (repeat' (first|(with_reducible exact Below.refl _ _)|(with_reducible assumption)|(with_reducible refine Below.alloc ?_ ?_ _)|(with_reducible refine zaa ?_ _)|(with_reducible refine Below.drew ?_)|(exact HSZ.out _ (by assumption))|go_size|omega))))) ?_
    rintro e wc ⟨uv,rfl,hown,hbc⟩;obtain ⟨Au,cu,hue,_,_⟩:=(Sl.of_own hown).form;subst hue;have HOW:=Lib.hid (zas hown (HSZ.out _ hqwq));have hqwc:=HUP.out _ _ hqwq hbc;have HBc:Hid (Below (wq).heap.size wq wc):=hbc;clear hown hbc
    refine hK.out _ _ ?_ (fun hHeld=>?_)
    ·(try dsimp only)
     exact HBX.out _ (by (repeat' (first|(with_reducible exact Below.refl _ _)|(with_reducible assumption)|(with_reducible refine Below.alloc ?_ ?_ _)|(with_reducible refine zaa ?_ _)|(with_reducible refine Below.drew ?_)|(exact HSZ.out _ (by assumption))|go_size|omega)))
    clear hK K;refine tk 11 ?_
    refine wpAnyH_ready (rs:=[12]) (by kernel_rfl) (by simp) ?_
    refine ac1 rfl fun K hK=>?_
    go_simp
    refine hK.out _ _ ?_ (fun hHeld=>?_)
    ·(try dsimp only)
     exact HBX.out _ (by (repeat' (first|(with_reducible exact Below.refl _ _)|(with_reducible assumption)|(with_reducible refine Below.alloc ?_ ?_ _)|(with_reducible refine zaa ?_ _)|(with_reducible refine Below.drew ?_)|(exact HSZ.out _ (by assumption))|go_size|omega)))
    clear hK K;refine tk 13 ?_
    refine dnR ?_
    have h1:=(World.rowIs.of_block (World.rowIs.of_block HST.out (HBq.out.block _ HST.out.lt)) (HBc.out.block _ (World.rowIs.of_block HST.out (HBq.out.block _ HST.out.lt)).lt));have h2:=(World.rowIs.of_block HQ.out (HBc.out.block _ HQ.out.lt));have h3:=HOW.out;obtain ⟨A,hA⟩:∃ o,o=(wc).heap.size:=⟨_,rfl⟩;have hbx:Below (wc).heap.size wc ((wc).alloc (.cells #[.int .i64 (r:Nat),.slice (some ⟨S1,0,none⟩) P P,.slice Au nv cu,.pointer none,.slice (some ⟨Q,0,none⟩) P P] 161)):=(Below.refl _ _).alloc (Nat.le_refl _) _
    have hLA:w.heap.size+1<=A:=by rw [hA];exact HSZ.out _ hqwc
    have h0:((wc).alloc (.cells #[.int .i64 (r:Nat),.slice (some ⟨S1,0,none⟩) P P,.slice Au nv cu,.pointer none,.slice (some ⟨Q,0,none⟩) P P] 161)).rowIs A 161 5 (mdF r (.slice (some ⟨S1,0,none⟩) P P) (.slice Au nv cu) (.pointer none) (.slice (some ⟨Q,0,none⟩) P P)):=⟨_,by rw [hA];exact heap_alloc_new _ _,rfl,fun i hi=>(by
     match i,hi with
     |0,_=>rfl
     |1,_=>rfl
     |2,_=>rfl
     |3,_=>rfl
     |4,_=>rfl)⟩
    have HM9:Hid (MdAt ((wc).alloc (.cells #[.int .i64 (r:Nat),.slice (some ⟨S1,0,none⟩) P P,.slice Au nv cu,.pointer none,.slice (some ⟨Q,0,none⟩) P P] 161)) (w.heap.size+1) A S1 Q (.slice Au nv cu) (.pointer none) P r nv lv (fun _=>(0,0)) (fun j=>if j=100 then .slice none 0 P else .slice none 0 0)):=⟨hLA,hS1b,hQb,h0,rowH.of (World.rowIs.of_block h1 (hbx.block _ h1.lt)),zac h3 hbx,World.rowIs.congr (World.rowIs.of_block h2 (hbx.block _ h2.lt)) (fun i hi=>(if_neg (by omega)).symm),(by (show P<=P/\P<=maxLen;unfold maxLen;omega))⟩
    have HQ9:=Lib.hid (HUP.out _ _ hqwc hbx);clear h0 h1 h2 h3 hbx
    go_wp2
    go_meet
    exact ⟨A,S1,Q,_,by rw [hA],HM9.out,HQ9.out⟩
  ·go_simp
   refine Calls.mono (HCL.out _ (HLOW.out _ (by (repeat' (first|(with_reducible exact Below.refl _ _)|(with_reducible assumption)|(with_reducible refine Below.alloc ?_ ?_ _)|(with_reducible refine zaa ?_ _)|(with_reducible refine Below.drew ?_)|(exact HSZ.out _ (by assumption))|go_size|omega))))) ?_
   rintro e wc ⟨uv,rfl,hown,hbc⟩;obtain ⟨Au,cu,hue,_,_⟩:=(Sl.of_own hown).form;subst hue;have HOW:=Lib.hid (zas hown (HSZ.out _ hqv0));have hqwc:=HUP.out _ _ hqv0 hbc;have HBc:Hid (Below (v0).heap.size v0 wc):=hbc;clear hown hbc
   refine hK.out _ _ ?_ (fun hHeld=>?_)
   ·(try dsimp only)
    exact HBX.out _ (by (repeat' (first|(with_reducible exact Below.refl _ _)|(with_reducible assumption)|(with_reducible refine Below.alloc ?_ ?_ _)|(with_reducible refine zaa ?_ _)|(with_reducible refine Below.drew ?_)|(exact HSZ.out _ (by assumption))|go_size|omega)))
   clear hK K
   (try simp only [Act.put,sqA,sqB,sqC])
   refine wpAnyH_ready (rs:=[4,10]) (by kernel_rfl) (by simp) ?_
   refine (acR rfl (fun K hK=>?_) (acR rfl (fun K hK=>?_) AllReadyH.nil))
   ·go_simp
    refine hK.out _ _ ?_ (fun hHeld=>?_)
    ·(try dsimp only)
     exact HBX.out _ (by (repeat' (first|(with_reducible exact Below.refl _ _)|(with_reducible assumption)|(with_reducible refine Below.alloc ?_ ?_ _)|(with_reducible refine zaa ?_ _)|(with_reducible refine Below.drew ?_)|(exact HSZ.out _ (by assumption))|go_size|omega)))
    clear hK K
    (try simp only [Act.put,sqA,sqB,sqC])
    obtain ⟨S1,hS1⟩:∃ o,o=(wc).heap.size:=⟨_,rfl⟩;obtain ⟨ws,hws⟩:∃ x,x=(wc).alloc (.cells (mkC (.agg #[.int .i64 0,.int .u32 0]) 2 P) 165):=⟨_,rfl⟩
    have HST:Hid (ws.rowIs S1 165 (P*2) (rowS fun _=>(0,0))):=by rw [hws,hS1];exact zb5
    have HBs:Hid (Below (wc).heap.size wc ws):=by rw [hws];exact (Below.refl _ _).alloc (Nat.le_refl _) _
    have hqws:=HUP.out _ _ hqwc HBs.out
    have hS1b:w.heap.size+1<=S1:=by rw [hS1];exact HSZ.out _ hqwc
    rw [<- hws]
    (try rw [<- hS1])
    (try rw [<- hws] at hHeld)
    clear hws hS1
    refine wpAnyH_ready (rs:=[10]) (by kernel_rfl) (by simp) ?_
    refine ac1 rfl fun K hK=>?_
    go_simp
    refine hK.out _ _ ?_ (fun hHeld=>?_)
    ·(try dsimp only)
     exact HBX.out _ (by (repeat' (first|(with_reducible exact Below.refl _ _)|(with_reducible assumption)|(with_reducible refine Below.alloc ?_ ?_ _)|(with_reducible refine zaa ?_ _)|(with_reducible refine Below.drew ?_)|(exact HSZ.out _ (by assumption))|go_size|omega)))
    clear hK K
    (try simp only [Act.put,sqA,sqB,sqC])
    obtain ⟨Q,hQ⟩:∃ o,o=(ws).heap.size:=⟨_,rfl⟩;obtain ⟨wq,hwq⟩:∃ x,x=(ws).alloc (.cells (mkC (.slice none 0 0) 1 P) 109):=⟨_,rfl⟩
    have HQ:Hid (wq.rowIs Q 109 P (fun _=>.slice none 0 0)):=by rw [hwq];exact zcw rfl hQ.symm
    have HBq:Hid (Below (ws).heap.size ws wq):=by rw [hwq];exact (Below.refl _ _).alloc (Nat.le_refl _) _
    have hqwq:=HUP.out _ _ hqws HBq.out
    have hQb:w.heap.size+1<=Q:=by rw [hQ];exact HSZ.out _ hqws
    rw [<- hwq]
    (try rw [<- hQ])
    (try rw [<- hwq] at hHeld)
    clear hwq hQ;refine tk 11 ?_
    refine wpAnyH_ready (rs:=[12]) (by kernel_rfl) (by simp) ?_
    refine ac1 rfl fun K hK=>?_
    go_simp
    refine hK.out _ _ ?_ (fun hHeld=>?_)
    ·(try dsimp only)
     exact HBX.out _ (by (repeat' (first|(with_reducible exact Below.refl _ _)|(with_reducible assumption)|(with_reducible refine Below.alloc ?_ ?_ _)|(with_reducible refine zaa ?_ _)|(with_reducible refine Below.drew ?_)|(exact HSZ.out _ (by assumption))|go_size|omega)))
    clear hK K;refine tk 13 ?_
    refine dnR ?_
    have h1:=(World.rowIs.of_block HST.out (HBq.out.block _ HST.out.lt));have h2:=HQ.out;have h3:=(zac (zac HOW.out HBs.out) HBq.out);obtain ⟨A,hA⟩:∃ o,o=(wq).heap.size:=⟨_,rfl⟩;have hbx:Below (wq).heap.size wq ((wq).alloc (.cells #[.int .i64 (r:Nat),.slice (some ⟨S1,0,none⟩) P P,.slice Au nv cu,.pointer none,.slice (some ⟨Q,0,none⟩) P P] 161)):=(Below.refl _ _).alloc (Nat.le_refl _) _
    have hLA:w.heap.size+1<=A:=by rw [hA];exact HSZ.out _ hqwq
    have h0:((wq).alloc (.cells #[.int .i64 (r:Nat),.slice (some ⟨S1,0,none⟩) P P,.slice Au nv cu,.pointer none,.slice (some ⟨Q,0,none⟩) P P] 161)).rowIs A 161 5 (mdF r (.slice (some ⟨S1,0,none⟩) P P) (.slice Au nv cu) (.pointer none) (.slice (some ⟨Q,0,none⟩) P P)):=⟨_,by rw [hA];exact heap_alloc_new _ _,rfl,fun i hi=>(by
     match i,hi with
     |0,_=>rfl
     |1,_=>rfl
     |2,_=>rfl
     |3,_=>rfl
     |4,_=>rfl)⟩
    have HM9:Hid (MdAt ((wq).alloc (.cells #[.int .i64 (r:Nat),.slice (some ⟨S1,0,none⟩) P P,.slice Au nv cu,.pointer none,.slice (some ⟨Q,0,none⟩) P P] 161)) (w.heap.size+1) A S1 Q (.slice Au nv cu) (.pointer none) P r nv lv (fun _=>(0,0)) (fun j=>if j=100 then .slice none 0 P else .slice none 0 0)):=⟨hLA,hS1b,hQb,h0,rowH.of (World.rowIs.of_block h1 (hbx.block _ h1.lt)),zac h3 hbx,World.rowIs.congr (World.rowIs.of_block h2 (hbx.block _ h2.lt)) (fun i hi=>(if_neg (by omega)).symm),(by (show P<=P/\P<=maxLen;unfold maxLen;omega))⟩
    have HQ9:=Lib.hid (HUP.out _ _ hqwq hbx);clear h0 h1 h2 h3 hbx
    go_wp2
    go_meet
    exact ⟨A,S1,Q,_,by rw [hA],HM9.out,HQ9.out⟩
   ·go_simp
    refine hK.out _ _ ?_ (fun hHeld=>?_)
    ·(try dsimp only)
     exact HBX.out _ (by (repeat' (first|(with_reducible exact Below.refl _ _)|(with_reducible assumption)|(with_reducible refine Below.alloc ?_ ?_ _)|(with_reducible refine zaa ?_ _)|(with_reducible refine Below.drew ?_)|(exact HSZ.out _ (by assumption))|go_size|omega)))
    clear hK K
    (try simp only [Act.put,sqA,sqB,sqC])
    obtain ⟨Q,hQ⟩:∃ o,o=(wc).heap.size:=⟨_,rfl⟩;obtain ⟨wq,hwq⟩:∃ x,x=(wc).alloc (.cells (mkC (.slice none 0 0) 1 P) 109):=⟨_,rfl⟩
    have HQ:Hid (wq.rowIs Q 109 P (fun _=>.slice none 0 0)):=by rw [hwq];exact zcw rfl hQ.symm
    have HBq:Hid (Below (wc).heap.size wc wq):=by rw [hwq];exact (Below.refl _ _).alloc (Nat.le_refl _) _
    have hqwq:=HUP.out _ _ hqwc HBq.out
    have hQb:w.heap.size+1<=Q:=by rw [hQ];exact HSZ.out _ hqwc
    rw [<- hwq]
    (try rw [<- hQ])
    (try rw [<- hwq] at hHeld)
    clear hwq hQ
    refine wpAnyH_ready (rs:=[4]) (by kernel_rfl) (by simp) ?_
    refine ac1 rfl fun K hK=>?_
    go_simp
    refine hK.out _ _ ?_ (fun hHeld=>?_)
    ·(try dsimp only)
     exact HBX.out _ (by (repeat' (first|(with_reducible exact Below.refl _ _)|(with_reducible assumption)|(with_reducible refine Below.alloc ?_ ?_ _)|(with_reducible refine zaa ?_ _)|(with_reducible refine Below.drew ?_)|(exact HSZ.out _ (by assumption))|go_size|omega)))
    clear hK K
    (try simp only [Act.put,sqA,sqB,sqC])
    obtain ⟨S1,hS1⟩:∃ o,o=(wq).heap.size:=⟨_,rfl⟩;obtain ⟨ws,hws⟩:∃ x,x=(wq).alloc (.cells (mkC (.agg #[.int .i64 0,.int .u32 0]) 2 P) 165):=⟨_,rfl⟩
    have HST:Hid (ws.rowIs S1 165 (P*2) (rowS fun _=>(0,0))):=by rw [hws,hS1];exact zb5
    have HBs:Hid (Below (wq).heap.size wq ws):=by rw [hws];exact (Below.refl _ _).alloc (Nat.le_refl _) _
    have hqws:=HUP.out _ _ hqwq HBs.out
    have hS1b:w.heap.size+1<=S1:=by rw [hS1];exact HSZ.out _ hqwq
    rw [<- hws]
    (try rw [<- hS1])
    (try rw [<- hws] at hHeld)
    clear hws hS1;refine tk 11 ?_
    refine wpAnyH_ready (rs:=[12]) (by kernel_rfl) (by simp) ?_
    refine ac1 rfl fun K hK=>?_
    go_simp
    refine hK.out _ _ ?_ (fun hHeld=>?_)
    ·(try dsimp only)
     exact HBX.out _ (by (repeat' (first|(with_reducible exact Below.refl _ _)|(with_reducible assumption)|(with_reducible refine Below.alloc ?_ ?_ _)|(with_reducible refine zaa ?_ _)|(with_reducible refine Below.drew ?_)|(exact HSZ.out _ (by assumption))|go_size|omega)))
    clear hK K;refine tk 13 ?_
    refine dnR ?_
    have h1:=HST.out;have h2:=(World.rowIs.of_block HQ.out (HBs.out.block _ HQ.out.lt));have h3:=(zac (zac HOW.out HBq.out) HBs.out);obtain ⟨A,hA⟩:∃ o,o=(ws).heap.size:=⟨_,rfl⟩;have hbx:Below (ws).heap.size ws ((ws).alloc (.cells #[.int .i64 (r:Nat),.slice (some ⟨S1,0,none⟩) P P,.slice Au nv cu,.pointer none,.slice (some ⟨Q,0,none⟩) P P] 161)):=(Below.refl _ _).alloc (Nat.le_refl _) _
    have hLA:w.heap.size+1<=A:=by rw [hA];exact HSZ.out _ hqws
    have h0:((ws).alloc (.cells #[.int .i64 (r:Nat),.slice (some ⟨S1,0,none⟩) P P,.slice Au nv cu,.pointer none,.slice (some ⟨Q,0,none⟩) P P] 161)).rowIs A 161 5 (mdF r (.slice (some ⟨S1,0,none⟩) P P) (.slice Au nv cu) (.pointer none) (.slice (some ⟨Q,0,none⟩) P P)):=⟨_,by rw [hA];exact heap_alloc_new _ _,rfl,fun i hi=>(by
     match i,hi with
     |0,_=>rfl
     |1,_=>rfl
     |2,_=>rfl
     |3,_=>rfl
     |4,_=>rfl)⟩
    have HM9:Hid (MdAt ((ws).alloc (.cells #[.int .i64 (r:Nat),.slice (some ⟨S1,0,none⟩) P P,.slice Au nv cu,.pointer none,.slice (some ⟨Q,0,none⟩) P P] 161)) (w.heap.size+1) A S1 Q (.slice Au nv cu) (.pointer none) P r nv lv (fun _=>(0,0)) (fun j=>if j=100 then .slice none 0 P else .slice none 0 0)):=⟨hLA,hS1b,hQb,h0,rowH.of (World.rowIs.of_block h1 (hbx.block _ h1.lt)),zac h3 hbx,World.rowIs.congr (World.rowIs.of_block h2 (hbx.block _ h2.lt)) (fun i hi=>(if_neg (by omega)).symm),(by (show P<=P/\P<=maxLen;unfold maxLen;omega))⟩
    have HQ9:=Lib.hid (HUP.out _ _ hqws hbx);clear h0 h1 h2 h3 hbx
    go_wp2
    go_meet
    exact ⟨A,S1,Q,_,by rw [hA],HM9.out,HQ9.out⟩
  ·go_simp
   refine hK.out _ _ ?_ (fun hHeld=>?_)
   ·(try dsimp only)
    exact HBX.out _ (by (repeat' (first|(with_reducible exact Below.refl _ _)|(with_reducible assumption)|(with_reducible refine Below.alloc ?_ ?_ _)|(with_reducible refine zaa ?_ _)|(with_reducible refine Below.drew ?_)|(exact HSZ.out _ (by assumption))|go_size|omega)))
   clear hK K
   (try simp only [Act.put,sqA,sqB,sqC])
   obtain ⟨Q,hQ⟩:∃ o,o=(v0).heap.size:=⟨_,rfl⟩;obtain ⟨wq,hwq⟩:∃ x,x=(v0).alloc (.cells (mkC (.slice none 0 0) 1 P) 109):=⟨_,rfl⟩
   have HQ:Hid (wq.rowIs Q 109 P (fun _=>.slice none 0 0)):=by rw [hwq];exact zcw rfl hQ.symm
   have HBq:Hid (Below (v0).heap.size v0 wq):=by rw [hwq];exact (Below.refl _ _).alloc (Nat.le_refl _) _
   have hqwq:=HUP.out _ _ hqv0 HBq.out
   have hQb:w.heap.size+1<=Q:=by rw [hQ];exact HSZ.out _ hqv0
   rw [<- hwq]
   (try rw [<- hQ])
   (try rw [<- hwq] at hHeld)
   clear hwq hQ
   refine wpAnyH_ready (rs:=[4,7]) (by kernel_rfl) (by simp) ?_
   refine (acR rfl (fun K hK=>?_) (acR rfl (fun K hK=>?_) AllReadyH.nil))
   ·go_simp
    refine hK.out _ _ ?_ (fun hHeld=>?_)
    ·(try dsimp only)
     exact HBX.out _ (by (repeat' (first|(with_reducible exact Below.refl _ _)|(with_reducible assumption)|(with_reducible refine Below.alloc ?_ ?_ _)|(with_reducible refine zaa ?_ _)|(with_reducible refine Below.drew ?_)|(exact HSZ.out _ (by assumption))|go_size|omega)))
    clear hK K
    (try simp only [Act.put,sqA,sqB,sqC])
    obtain ⟨S1,hS1⟩:∃ o,o=(wq).heap.size:=⟨_,rfl⟩;obtain ⟨ws,hws⟩:∃ x,x=(wq).alloc (.cells (mkC (.agg #[.int .i64 0,.int .u32 0]) 2 P) 165):=⟨_,rfl⟩
    have HST:Hid (ws.rowIs S1 165 (P*2) (rowS fun _=>(0,0))):=by rw [hws,hS1];exact zb5
    have HBs:Hid (Below (wq).heap.size wq ws):=by rw [hws];exact (Below.refl _ _).alloc (Nat.le_refl _) _
    have hqws:=HUP.out _ _ hqwq HBs.out
    have hS1b:w.heap.size+1<=S1:=by rw [hS1];exact HSZ.out _ hqwq
    rw [<- hws]
    (try rw [<- hS1])
    (try rw [<- hws] at hHeld)
    clear hws hS1
    refine wpAnyH_ready (rs:=[7]) (by kernel_rfl) (by simp) ?_
    refine ac1 rfl fun K hK=>?_
    go_simp
    refine Calls.mono (HCL.out _ (HLOW.out _ (by (repeat' (first|(with_reducible exact Below.refl _ _)|(with_reducible assumption)|(with_reducible refine Below.alloc ?_ ?_ _)|(with_reducible refine zaa ?_ _)|(with_reducible refine Below.drew ?_)|(exact HSZ.out _ (by assumption))|go_size|omega))))) ?_
    rintro e wc ⟨uv,rfl,hown,hbc⟩;obtain ⟨Au,cu,hue,_,_⟩:=(Sl.of_own hown).form;subst hue;have HOW:=Lib.hid (zas hown (HSZ.out _ hqws));have hqwc:=HUP.out _ _ hqws hbc;have HBc:Hid (Below (ws).heap.size ws wc):=hbc;clear hown hbc
    refine hK.out _ _ ?_ (fun hHeld=>?_)
    ·(try dsimp only)
     exact HBX.out _ (by (repeat' (first|(with_reducible exact Below.refl _ _)|(with_reducible assumption)|(with_reducible refine Below.alloc ?_ ?_ _)|(with_reducible refine zaa ?_ _)|(with_reducible refine Below.drew ?_)|(exact HSZ.out _ (by assumption))|go_size|omega)))
    clear hK K;refine tk 11 ?_
    refine wpAnyH_ready (rs:=[12]) (by kernel_rfl) (by simp) ?_
    refine ac1 rfl fun K hK=>?_
    go_simp
    refine hK.out _ _ ?_ (fun hHeld=>?_)
    ·(try dsimp only)
     exact HBX.out _ (by (repeat' (first|(with_reducible exact Below.refl _ _)|(with_reducible assumption)|(with_reducible refine Below.alloc ?_ ?_ _)|(with_reducible refine zaa ?_ _)|(with_reducible refine Below.drew ?_)|(exact HSZ.out _ (by assumption))|go_size|omega)))
    clear hK K;refine tk 13 ?_
    refine dnR ?_
    have h1:=(World.rowIs.of_block HST.out (HBc.out.block _ HST.out.lt));have h2:=(World.rowIs.of_block (World.rowIs.of_block HQ.out (HBs.out.block _ HQ.out.lt)) (HBc.out.block _ (World.rowIs.of_block HQ.out (HBs.out.block _ HQ.out.lt)).lt));have h3:=HOW.out;obtain ⟨A,hA⟩:∃ o,o=(wc).heap.size:=⟨_,rfl⟩;have hbx:Below (wc).heap.size wc ((wc).alloc (.cells #[.int .i64 (r:Nat),.slice (some ⟨S1,0,none⟩) P P,.slice Au nv cu,.pointer none,.slice (some ⟨Q,0,none⟩) P P] 161)):=(Below.refl _ _).alloc (Nat.le_refl _) _
    have hLA:w.heap.size+1<=A:=by rw [hA];exact HSZ.out _ hqwc
    have h0:((wc).alloc (.cells #[.int .i64 (r:Nat),.slice (some ⟨S1,0,none⟩) P P,.slice Au nv cu,.pointer none,.slice (some ⟨Q,0,none⟩) P P] 161)).rowIs A 161 5 (mdF r (.slice (some ⟨S1,0,none⟩) P P) (.slice Au nv cu) (.pointer none) (.slice (some ⟨Q,0,none⟩) P P)):=⟨_,by rw [hA];exact heap_alloc_new _ _,rfl,fun i hi=>(by
     match i,hi with
     |0,_=>rfl
     |1,_=>rfl
     |2,_=>rfl
     |3,_=>rfl
     |4,_=>rfl)⟩
    have HM9:Hid (MdAt ((wc).alloc (.cells #[.int .i64 (r:Nat),.slice (some ⟨S1,0,none⟩) P P,.slice Au nv cu,.pointer none,.slice (some ⟨Q,0,none⟩) P P] 161)) (w.heap.size+1) A S1 Q (.slice Au nv cu) (.pointer none) P r nv lv (fun _=>(0,0)) (fun j=>if j=100 then .slice none 0 P else .slice none 0 0)):=⟨hLA,hS1b,hQb,h0,rowH.of (World.rowIs.of_block h1 (hbx.block _ h1.lt)),zac h3 hbx,World.rowIs.congr (World.rowIs.of_block h2 (hbx.block _ h2.lt)) (fun i hi=>(if_neg (by omega)).symm),(by (show P<=P/\P<=maxLen;unfold maxLen;omega))⟩
    have HQ9:=Lib.hid (HUP.out _ _ hqwc hbx);clear h0 h1 h2 h3 hbx
    go_wp2
    go_meet
    exact ⟨A,S1,Q,_,by rw [hA],HM9.out,HQ9.out⟩
   ·go_simp
    refine Calls.mono (HCL.out _ (HLOW.out _ (by (repeat' (first|(with_reducible exact Below.refl _ _)|(with_reducible assumption)|(with_reducible refine Below.alloc ?_ ?_ _)|(with_reducible refine zaa ?_ _)|(with_reducible refine Below.drew ?_)|(exact HSZ.out _ (by assumption))|go_size|omega))))) ?_
    rintro e wc ⟨uv,rfl,hown,hbc⟩;obtain ⟨Au,cu,hue,_,_⟩:=(Sl.of_own hown).form;subst hue;have HOW:=Lib.hid (zas hown (HSZ.out _ hqwq));have hqwc:=HUP.out _ _ hqwq hbc;have HBc:Hid (Below (wq).heap.size wq wc):=hbc;clear hown hbc
    refine hK.out _ _ ?_ (fun hHeld=>?_)
    ·(try dsimp only)
     exact HBX.out _ (by (repeat' (first|(with_reducible exact Below.refl _ _)|(with_reducible assumption)|(with_reducible refine Below.alloc ?_ ?_ _)|(with_reducible refine zaa ?_ _)|(with_reducible refine Below.drew ?_)|(exact HSZ.out _ (by assumption))|go_size|omega)))
    clear hK K
    (try simp only [Act.put,sqA,sqB,sqC])
    refine wpAnyH_ready (rs:=[4]) (by kernel_rfl) (by simp) ?_
    refine ac1 rfl fun K hK=>?_
    go_simp
    refine hK.out _ _ ?_ (fun hHeld=>?_)
    ·(try dsimp only)
     exact HBX.out _ (by (repeat' (first|(with_reducible exact Below.refl _ _)|(with_reducible assumption)|(with_reducible refine Below.alloc ?_ ?_ _)|(with_reducible refine zaa ?_ _)|(with_reducible refine Below.drew ?_)|(exact HSZ.out _ (by assumption))|go_size|omega)))
    clear hK K
    (try simp only [Act.put,sqA,sqB,sqC])
    obtain ⟨S1,hS1⟩:∃ o,o=(wc).heap.size:=⟨_,rfl⟩;obtain ⟨ws,hws⟩:∃ x,x=(wc).alloc (.cells (mkC (.agg #[.int .i64 0,.int .u32 0]) 2 P) 165):=⟨_,rfl⟩
    have HST:Hid (ws.rowIs S1 165 (P*2) (rowS fun _=>(0,0))):=by rw [hws,hS1];exact zb5
    have HBs:Hid (Below (wc).heap.size wc ws):=by rw [hws];exact (Below.refl _ _).alloc (Nat.le_refl _) _
    have hqws:=HUP.out _ _ hqwc HBs.out
    have hS1b:w.heap.size+1<=S1:=by rw [hS1];exact HSZ.out _ hqwc
    rw [<- hws]
    (try rw [<- hS1])
    (try rw [<- hws] at hHeld)
    clear hws hS1;refine tk 11 ?_
    refine wpAnyH_ready (rs:=[12]) (by kernel_rfl) (by simp) ?_
    refine ac1 rfl fun K hK=>?_
    go_simp
    refine hK.out _ _ ?_ (fun hHeld=>?_)
    ·(try dsimp only)
     exact HBX.out _ (by (repeat' (first|(with_reducible exact Below.refl _ _)|(with_reducible assumption)|(with_reducible refine Below.alloc ?_ ?_ _)|(with_reducible refine zaa ?_ _)|(with_reducible refine Below.drew ?_)|(exact HSZ.out _ (by assumption))|go_size|omega)))
    clear hK K;refine tk 13 ?_
    refine dnR ?_
    have h1:=HST.out;have h2:=(World.rowIs.of_block (World.rowIs.of_block HQ.out (HBc.out.block _ HQ.out.lt)) (HBs.out.block _ (World.rowIs.of_block HQ.out (HBc.out.block _ HQ.out.lt)).lt));have h3:=(zac HOW.out HBs.out);obtain ⟨A,hA⟩:∃ o,o=(ws).heap.size:=⟨_,rfl⟩;have hbx:Below (ws).heap.size ws ((ws).alloc (.cells #[.int .i64 (r:Nat),.slice (some ⟨S1,0,none⟩) P P,.slice Au nv cu,.pointer none,.slice (some ⟨Q,0,none⟩) P P] 161)):=(Below.refl _ _).alloc (Nat.le_refl _) _
    have hLA:w.heap.size+1<=A:=by rw [hA];exact HSZ.out _ hqws
    have h0:((ws).alloc (.cells #[.int .i64 (r:Nat),.slice (some ⟨S1,0,none⟩) P P,.slice Au nv cu,.pointer none,.slice (some ⟨Q,0,none⟩) P P] 161)).rowIs A 161 5 (mdF r (.slice (some ⟨S1,0,none⟩) P P) (.slice Au nv cu) (.pointer none) (.slice (some ⟨Q,0,none⟩) P P)):=⟨_,by rw [hA];exact heap_alloc_new _ _,rfl,fun i hi=>(by
     match i,hi with
     |0,_=>rfl
     |1,_=>rfl
     |2,_=>rfl
     |3,_=>rfl
     |4,_=>rfl)⟩
    have HM9:Hid (MdAt ((ws).alloc (.cells #[.int .i64 (r:Nat),.slice (some ⟨S1,0,none⟩) P P,.slice Au nv cu,.pointer none,.slice (some ⟨Q,0,none⟩) P P] 161)) (w.heap.size+1) A S1 Q (.slice Au nv cu) (.pointer none) P r nv lv (fun _=>(0,0)) (fun j=>if j=100 then .slice none 0 P else .slice none 0 0)):=⟨hLA,hS1b,hQb,h0,rowH.of (World.rowIs.of_block h1 (hbx.block _ h1.lt)),zac h3 hbx,World.rowIs.congr (World.rowIs.of_block h2 (hbx.block _ h2.lt)) (fun i hi=>(if_neg (by omega)).symm),(by (show P<=P/\P<=maxLen;unfold maxLen;omega))⟩
    have HQ9:=Lib.hid (HUP.out _ _ hqws hbx);clear h0 h1 h2 h3 hbx
    go_wp2
    go_meet
    exact ⟨A,S1,Q,_,by rw [hA],HM9.out,HQ9.out⟩
 case rest =>
  obtain ⟨A,S1,Q,uv,rfl,HM⟩:=hcut;obtain ⟨Au,cu,huv,_,_⟩:=(Sl.of_own HM.out.1.vlans).form;subst huv;obtain ⟨q0,q1,q2,q3,q4,q5,q6,q7,q8,q9⟩:=HBOX.out _ HM.out.2;have hLA:=HM.out.1.la;have hLS:=HM.out.1.ls;have hLQ:=HM.out.1.lq;have hAz:A<wc.heap.size:=HM.out.1.cells.lt;have hSz:S1<wc.heap.size:=HM.out.1.stands.lt;have hQz:Q<wc.heap.size:=HM.out.1.queues.lt
  have hUz:∀ x,(Value.slice Au nv cu).ownBlock=some x->x<wc.heap.size:=fun x e=>(HM.out.1.vlans.lt x e).2
  have hAQ:A≠Q:=zav HM.out.1.cells HM.out.1.queues (by decide)
  clear HC HCL hk1 hk2 hqa;have HUZ:=Lib.hid hUz;clear hUz
  go_upto_region 6 with (first
   |(go_at_call 79;(with_reducible refine Calls.mono (HBN.out _) ?_);rintro e wb ⟨bp,bq,rfl,hbk,hbp,hbq,hqp,hbb⟩;(have HM2:=Lib.hid (HM.out.1.call hbb));(have c3:wb.cell? ⟨A,3,none⟩=some (.pointer none):=HM2.out.cells.cell (by omega));(have f3:=HM2.out.cells.frozen 3);(have HBK:=Lib.hid hbk);(have HB2:=Lib.hid (HUP.out _ _ HM.out.2 hbb));clear hbk hbb))
  obtain ⟨w3,hw3⟩:∃ x,x=wb.setCell ⟨A,3,none⟩ (.pointer (some ⟨bp,0,none⟩)):=⟨_,rfl⟩;have hpz:bp<wb.heap.size:=HBK.out.1
  have hz3:w3.heap.size=wb.heap.size:=by rw [hw3,World.size_setCell]
  have HM3:Hid (MdAt w3 (w.heap.size+1) A S1 Q (.slice Au nv cu) (.pointer (some ⟨bp,0,none⟩)) P r nv lv (fun _=>(0,0)) (fun j=>if j=100 then .slice none 0 P else .slice none 0 0)):=by rw [hw3];exact HM2.out.setB _
  have HK3:Hid (BkAt w3 (fun b=>b<=bp\/wb.heap.size<=b) bp bq S B n (fun _ _=>pl0)):=by
   rw [hw3]
   refine (HBK.out.but (But.set 3 _) (by omega) (by omega) (by show A<=bp;omega)).domM fun b hb hd=>?_
   rw [World.size_setCell] at hb
   rcases hd with hd|hd
   ·exact hd
   ·exact absurd hd (by omega)
  have HB3:Hid (Below (w.heap.size+1) (w.alloc (.cells #[.int .i64 (P:Nat),.slice Ar nr cr,.slice Av nv cv,.int .i64 (S:Nat),.int .i64 (B:Nat),.int .i64 (n:Nat),.int .i64 t,.int .i64 (r:Nat),.int .u32 nm,.int .u32 sh] 41)) w3):=by rw [hw3];exact HB2.out.setCell (by show w.heap.size+1<=A;omega) _
  obtain ⟨hN,hhN⟩:∃ x,x=wb.heap.size:=⟨_,rfl⟩;rw [<- hhN] at HK3 hz3 hpz;rw [<- hw3]
  have c4:w3.cell? ⟨A,4,none⟩=some (.slice (some ⟨Q,0,none⟩) P P):=HM3.out.cells.cell (by omega)
  clear hw3 hhN HM2 HBK HB2 c3 f3 HM HBN q0 q1 q2 q3 q4 q5 q6 q7 q8 q9
  go_wp2
  clear c4
  go_loopw [39] (fun i wr=>∃ (k:Nat) (R:Nat->Nat) (G:Nat->Value),k<=P/\i=.int .i64 k/\Hid (MdAt wr (w.heap.size+1) A S1 Q (.slice Au nv cu) (.pointer (some ⟨bp,0,none⟩)) P r nv lv (fun _=>(0,0)) G)/\Hid (BkAt wr (fun b=>b<=bp\/hN<=b) bp bq S B n (fun _ _=>pl0))/\Hid (zjd wr hN P k R G)/\hN<=wr.heap.size/\Hid (Below (w.heap.size+1) (w.alloc (.cells #[.int .i64 (P:Nat),.slice Ar nr cr,.slice Av nv cv,.int .i64 (S:Nat),.int .i64 (B:Nat),.int .i64 (n:Nat),.int .i64 t,.int .i64 (r:Nat),.int .u32 nm,.int .u32 sh] 41)) wr)) (fun i _=>P - (intOf i).toNat)
  case atStart=>exact ⟨0,fun _=>0,_,by omega,rfl,HM3,HK3,fun i hi=>absurd hi (by omega),by omega,HB3⟩
  case round =>
   obtain ⟨k,R,G,hk,rfl,HM,HK,HQ,hNz,HB⟩:=hrel
   have c4:wr.cell? ⟨A,4,none⟩=some (.slice (some ⟨Q,0,none⟩) P P):=HM.out.cells.cell (by omega)
   have q0:=(HBOX.out _ HB.out).1
   by_cases hlt:k<P
   ·have g0:(0:Int)<=(k:Int):=Int.natCast_nonneg _
    have g1:(k:Int)<(P:Int):=by omega
    have hk3':=hk3.out
    go_wp2_with fail
    refine wp_region_held_drew (S:=fun w'=>w'.cell? ⟨A,4,none⟩=some (.slice (some ⟨Q,0,none⟩) P P)/\w'.cell? ⟨w.heap.size,0,none⟩=some (.int .i64 (P:Nat))) (by kernel_rfl) ?_ (fun hHeld=>?_)
    ·exact ⟨c4,q0⟩
    obtain ⟨v0,hv0⟩:∃ w',w'=wr.drew:=⟨_,rfl⟩
    have hvz:v0.heap.size=wr.heap.size:=by rw [hv0];rfl
    have hvb:Below wr.heap.size wr v0:=by rw [hv0];exact (Below.refl _ _).drew
    rw [<- hv0] at hHeld |-;clear hv0;obtain ⟨gb,hgb⟩:∃ g',g'=wr.heap.size:=⟨_,rfl⟩;obtain ⟨v1,hv1⟩:∃ w',w'=v0.alloc (.cells (mkC (.slice none 0 0) 1 P) 47):=⟨_,rfl⟩
    have HO:Hid (v1.rowIs gb 47 P (fun _=>.slice none 0 0)):=by rw [hv1];exact zcw rfl (hvz.trans hgb.symm)
    have hb1:Below wr.heap.size wr v1:=by rw [hv1];exact hvb.alloc (by omega) _
    have HM1:=Lib.hid (HM.out.call hb1)
    have y1:(v0.alloc (.cells (mkC (.slice none 0 0) 1 P) 47)).cell? ⟨Q,k,none⟩=some (G k):=by rw [<- hv1];exact HM1.out.queues.cell hlt
    have y2:∀ i,(v0.alloc (.cells (mkC (.slice none 0 0) 1 P) 47)).frozen? ⟨Q,i,none⟩=false:=fun i=>by rw [<- hv1];exact HM1.out.queues.frozen i
    refine tk 0 ?_;refine tk 1 ?_;refine tk 2 ?_;refine tk 3 ?_;refine tk 4 ?_;refine tk 5 ?_;refine tk 6 ?_
    refine clR 7 rfl fun K hK=>?_
    go_simp
    refine hK.out _ _ ?_ (fun hHeld=>?_)
    ·(try dsimp only)
     obtain ⟨q0,q1⟩:=hHeld
     exact ⟨(World.cell?_alloc_lt _ _ _ (by show A<v0.heap.size;omega)).trans q0,(World.cell?_alloc_lt _ _ _ (by show w.heap.size<v0.heap.size;omega)).trans q1⟩
    clear hK K;refine tk 8 ?_
    refine clR 9 rfl fun K hK=>?_
    go_simp
    refine hK.out _ _ ?_ (fun hHeld=>?_)
    ·(try dsimp only)
     obtain ⟨q0,q1⟩:=hHeld;have hz1:=hb1.size
     exact ⟨((But.set k _).cell (show A<(v0.alloc _).heap.size by rw [World.size_alloc];omega) hAQ).trans q0,((But.set k _).cell (show w.heap.size<(v0.alloc _).heap.size by rw [World.size_alloc];omega) (show w.heap.size≠Q by omega)).trans q1⟩
    clear hK K
    (try simp only [Act.put,sqA,sqB,sqC])
    refine dnR ?_
    obtain ⟨v2,hv2⟩:∃ w',w'=v1.setCell ⟨Q,k,none⟩ (.slice (some ⟨gb,0,none⟩) P P):=⟨_,rfl⟩
    have hbut:But Q wr v2:=by rw [hv2];exact (But.of hb1 (by omega)).trans (But.set k _)
    have HMn:Hid (MdAt v2 (w.heap.size+1) A S1 Q (.slice Au nv cu) (.pointer (some ⟨bp,0,none⟩)) P r nv lv (fun _=>(0,0)) (fun j=>if j=k then .slice (some ⟨gb,0,none⟩) P P else G j)):=by rw [hv2];exact HM1.out.setQ k _ (by omega)
    have HKn:Hid (BkAt v2 (fun b=>b<=bp\/hN<=b) bp bq S B n (fun _ _=>pl0)):=HK.out.but hbut (by omega) (by omega) (by show Q<=bp\/_;omega)
    have HQn:Hid (zjd v2 hN P (k+1) (fun i=>if i=k then gb else R i) (fun j=>if j=k then .slice (some ⟨gb,0,none⟩) P P else G j)):=fun i hi=>by
     have hRlt:∀ j,j<k->R j<wr.heap.size:=fun j hj=>(HQ.out j hj).2.2.1.lt
     by_cases hik:i=k
     ·subst hik
      refine ⟨by simp only [if_true];omega,by simp only [if_true],?_,fun j hj=>?_⟩
      ·simp only [if_true]
       rw [hv2]
       exact HO.out.of_block (zab _ _ _ (by show gb≠Q;omega))
      ·show (if j=i then gb else R j)<(if i=i then gb else R i)
       rw [if_neg (by omega),if_pos rfl]
       have:=hRlt j hj
       omega
     ·have hlt2:i<k:=by omega
      obtain ⟨h1,h2,h3,h4⟩:=HQ.out i hlt2
      simp only [if_neg hik]
      refine ⟨h1,h2,h3.of_block (hbut.rest _ h3.lt (by omega)),fun j hj=>?_⟩
      rw [if_neg (by omega)]
      exact h4 j hj
    have HBn:Hid (Below (w.heap.size+1) (w.alloc (.cells #[.int .i64 (P:Nat),.slice Ar nr cr,.slice Av nv cv,.int .i64 (S:Nat),.int .i64 (B:Nat),.int .i64 (n:Nat),.int .i64 t,.int .i64 (r:Nat),.int .u32 nm,.int .u32 sh] 41)) v2):=HB.out.trans (hbut.below.mono (by omega))
    have hNn:hN<=v2.heap.size:=Nat.le_trans hNz hbut.below.size
    try rw [<- hgb]
    try rw [<- hv1]
    try rw [<- hv2]
    clear hv1 hv2 hgb hbut HM1 HO hb1 y1 y2 hvb hvz hHeld c4 q0
    go_wp2
    go_roundw
    case rel=>exact ⟨k+1,_,_,by omega,by go_num,HMn,HKn,HQn,hNn,HBn⟩
    case measure=>simp [intOf];omega
   ·have d1:decide ((k:Int)<(P:Int))=false:=by simp;omega
    obtain rfl:k=P:=by omega
    have HBf:=Lib.hid (HLOW.out _ HB.out)
    have HUz:Hid (∀ x,(Value.slice Au nv cu).ownBlock=some x->x<bq):=fun x e=>by have:=HUZ.out x e;omega
    clear c4 q0
    go_wp2
    exact bodyPost_ret (v:=.tuple #[.pointer (some ⟨A,0,none⟩),.int .i64 0]) (by simp [results,Tryz.results57,go_sem]) rfl ⟨A,S1,Q,bp,bq,hN,_,R,G,rfl,HM.out.low (by omega),HK.out,by omega,by omega,by omega,by omega,by omega,HUz.out,HQ.out,HBf.out⟩
end Go.Proofs.YtfekhdgjgjodlaaGreat
