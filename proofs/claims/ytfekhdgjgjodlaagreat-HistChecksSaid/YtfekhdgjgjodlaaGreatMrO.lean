/-
  Words and contracts that a statement's proof rests on (MrO). No statement is proved here.
-/
import Derived.Deep.DeepCutAuto
import Derived.Test.YtfekhdgjgjodlaaGreatSrC
import Derived.Test.YtfekhdgjgjodlaaGreatSrF
set_option linter.unusedVariables false
set_option linter.unusedSimpArgs false
namespace Go.Proofs.YtfekhdgjgjodlaaGreat
open Go.RowKit
theorem zph:ST Tryz.prog 77 76 (.agg #[.int .i64 0,.int .u32 0]) 2 16:=ST.mk Tryz.underlying77 (by kernel_rfl) rfl (by omega) (by omega)
theorem zfw:ST Tryz.prog 23 88 (.agg #[.int .i64 0,.int .u64 0,.int .u64 0]) 3 24:=ST.mk Tryz.underlying23 (by kernel_rfl) rfl (by omega) (by omega)
def plF (P:Nat) (vr vv:Value) (S B n:Nat) (t:Int) (r:Nat) (nm sh:Int):Nat->Value
 |0=>.int .i64 (P:Nat)|1=>vr|2=>vv|3=>.int .i64 (S:Nat)|4=>.int .i64 (B:Nat)|5=>.int .i64 (n:Nat)|6=>.int .i64 t|7=>.int .i64 (r:Nat)|8=>.int .u32 nm|9=>.int .u32 sh|_=>.slice none 0 P
theorem stQuR:ST Tryz.prog 109 47 (.slice none 0 0) 1 24:=ST.mk Tryz.underlying109 (by kernel_rfl) rfl (by omega) (by omega)
theorem zqu:ST Tryz.prog 79 109 (.slice none 0 0) 1 24:=ST.mk Tryz.underlying79 (by kernel_rfl) rfl (by omega) (by omega)
structure NewR (w:World) (A S1:Nat) (X:Nat->Value) (P k base0 base1 nv:Nat) (lv:List Vl) (uv bv QV:Value) (vs:List Value) (R:Nat->Nat) (G:Nat->Value):Prop where
 cells:w.rowIs A 81 14 (rfF X (.slice (some ⟨S1,0,none⟩) P P) uv bv QV)
 stands:w.rowIs S1 76 (P*2) (rowS fun _=>(0,0))
 vlans:w.ownsRow base0 88 3 uv nv (vlc lv)
 vl:∀ b,uv.ownBlock=some b->b<base1
 own:w.ownsRow base1 109 1 QV k vs
 row:zjd w base1 P k R G
 vsG:∀ i,i<k->vs[i]?=some (G i)
theorem NewR.step {w wa w9:World} {A S1:Nat} {X:Nat->Value} {P k base0 base1 nv b:Nat} {lv:List Vl} {uv bv QV Q9:Value} {vs:List Value} {R:Nat->Nat} {G:Nat->Value} (h:NewR w A S1 X P k base0 base1 nv lv uv bv QV vs R G) (hba:Below w.heap.size w wa) (hbb:base1<=b) (hbz:w.heap.size<=b)
  (hrow:wa.rowIs b 47 P (fun _=>.slice none 0 0)) (ho9:w9.ownsRow base1 109 1 Q9 (k+1) (vs ++ [.slice (some ⟨b,0,none⟩) P P])) (hg:wa.grownBy w9 QV.ownBlock) :
  NewR (w9.setCell ⟨A,13,none⟩ Q9) A S1 X P (k+1) base0 base1 nv lv uv bv Q9 (vs ++ [.slice (some ⟨b,0,none⟩) P P]) (fun i=>if i=k then b else R i) (fun i=>if i=k then .slice (some ⟨b,0,none⟩) P P else G i):=by
 have hwa:=zac h.own hba
 have hkr:∀ {x M:Nat} {T:TypeId} {f:Nat->Value},wa.rowIs x T M f->T≠109->w9.rowIs x T M f:=fun hr hT=>hr.of_block (hg.block _ hr.lt (fun e=>zad hr hwa hT e.symm))
 have hc9:=hkr (h.cells.of_block (hba.block _ h.cells.lt)) (by decide)
 have hfar:∀ {x M:Nat} {T:TypeId} {f:Nat->Value},w9.rowIs x T M f->T≠81->(w9.setCell ⟨A,13,none⟩ Q9).rowIs x T M f:=fun hr hT=>hr.of_block (zab _ _ _ (zav hr hc9 hT))
 have hlen:vs.length=k:=by have:=h.own.1;omega
 refine ⟨(hc9.set 13 Q9).congr fun i hi=>?_,hfar (hkr (h.stands.of_block (hba.block _ h.stands.lt)) (by decide)) (by decide),?_,h.vl,?_,fun i hi=>?_,fun i hi=>?_⟩
 ·match i,hi with
  |0,_=>rfl
  |1,_=>rfl
  |2,_=>rfl
  |3,_=>rfl
  |4,_=>rfl
  |5,_=>rfl
  |6,_=>rfl
  |7,_=>rfl
  |8,_=>rfl
  |9,_=>rfl
  |10,_=>rfl
  |11,_=>rfl
  |12,_=>rfl
  |13,_=>rfl
 ·have hv1:=zac h.vlans hba
  have hv9:w9.ownsRow base0 88 3 uv nv (vlc lv):=zbm hv1 fun z hz=>hg.block z (hv1.lt z hz).2 (fun e=>by
   have h1:=h.vl z hz;have h2:=(hwa.lt z e.symm).1
   omega)
  exact zbm hv9 fun z hz=>zab _ _ _ (fun e=>zad hc9 hv9 (by decide) (by rw [hz,e]))
 ·exact zbm ho9 fun z hz=>zab _ _ _ (fun e=>zad hc9 ho9 (by decide) (by rw [hz,e]))
 ·have hRlt:∀ j,j<k->R j<w.heap.size:=fun j hj=>(h.row j hj).2.2.1.lt
  by_cases e:i=k
  ·subst e
   simp only [if_true]
   refine ⟨hbb,trivial,hfar (hkr hrow (by decide)) (by decide),fun j hj=>?_⟩
   rw [if_neg (by omega)]
   have:=hRlt j hj
   omega
  ·obtain ⟨h1,h2,h3,h4⟩:=h.row i (by omega)
   simp only [if_neg e]
   refine ⟨h1,h2,hfar (hkr (h3.of_block (hba.block _ h3.lt)) (by decide)) (by decide),fun j hj=>?_⟩
   rw [if_neg (by omega)]
   exact h4 j hj
 ·by_cases e:i=k
  ·subst e
   simp only [if_true]
   rw [List.getElem?_append_right (by omega),hlen]
   simp
  ·simp only [if_neg e]
   rw [List.getElem?_append_left (by omega)]
   exact h.vsG i (by omega)
set_option maxRecDepth 20000 in
set_option maxHeartbeats 12800000 in
theorem zp3 {w:World} {Bo nr nv:Nat} {vr vv:Value} {lr:List Rl} {lv:List Vl} (hr:Sl w Bo 2 vr nr (rlc lr)) (hv:Sl w Bo 3 vv nv (vlc lv)) (hB:Bo<=w.heap.size) (hnv:nv<=1000000) (P S B n r:Nat) (t nm sh:Int) (hP:2<=P/\P<=64) (hS:1<=S/\S<=8) (hBB:1<=B/\B<=16) (hn:1<=n/\n<=8) :
  Calls Tryz.prog 18 #[zbb P vr vv S B n t r nm sh] w fun e w'=>∃ (A S1 Q cQ:Nat) (X:Nat->Value) (bp bq:Nat) (uv:Value) (R:Nat->Nat) (G:Nat->Value),e=.returned (.pointer (some ⟨A,0,none⟩)) /\
   RfAll (fun b=>b<w.heap.size) w' w.heap.size A S1 Q cQ X bp bq P r S B n nv uv lv (fun _=>(0,0)) (fun _ _=>pl0) G R (fun _ _=>.slice none 0 0) (fun _ _=>[])/\Below w.heap.size w w':=by
 obtain ⟨Ar,cr,rfl,hcr,hcm⟩:=hr.form;obtain ⟨Av,cv,rfl,hcv,hcw⟩:=hv.form
 have HV:Hid (∀ w',Below w.heap.size w w'->Sl w' Bo 3 (.slice Av nv cv) nv (vlc lv)):=fun w' hb=>hv.below (hb.mono hB)
 have HBN:=Lib.hid fun W=>zny S B n hS hBB hn W
 have hk1:=fun W=>zby (P:=Tryz.prog) W zph P (by omega)
 obtain ⟨w0,hw0⟩:∃ z,z=w.alloc (.cells #[.int .i64 (P:Nat),.slice Ar nr cr,.slice Av nv cv,.int .i64 (S:Nat),.int .i64 (B:Nat),.int .i64 (n:Nat),.int .i64 t,.int .i64 (r:Nat),.int .u32 nm,.int .u32 sh] 28):=⟨_,rfl⟩
 have HB0:Hid (Below w.heap.size w w0):=by rw [hw0];exact (Below.refl _ _).alloc (Nat.le_refl _) _
 have HBOX:Hid (∀ w',Below w0.heap.size w0 w'->w'.cell? ⟨w.heap.size,0,none⟩=some (.int .i64 (P:Nat))/\w'.cell? ⟨w.heap.size,1,none⟩=some (.slice Ar nr cr)/\w'.cell? ⟨w.heap.size,2,none⟩=some (.slice Av nv cv)/\w'.cell? ⟨w.heap.size,3,none⟩=some (.int .i64 (S:Nat))/\w'.cell? ⟨w.heap.size,4,none⟩=some (.int .i64 (B:Nat))/\w'.cell? ⟨w.heap.size,5,none⟩=some (.int .i64 (n:Nat))/\w'.cell? ⟨w.heap.size,6,none⟩=some (.int .i64 t)/\w'.cell? ⟨w.heap.size,7,none⟩=some (.int .i64 (r:Nat))/\w'.cell? ⟨w.heap.size,8,none⟩=some (.int .u32 nm)/\w'.cell? ⟨w.heap.size,9,none⟩=some (.int .u32 sh)):=fun w' hb=>by
  rw [hw0] at hb
  refine ⟨?_,?_,?_,?_,?_,?_,?_,?_,?_,?_⟩ <;>
  ·rw [hb.cell (by show w.heap.size<_;simp)]
   simp [go_sem]
 clear hr hv hcr hcm hcv hcw;unfold zbb
 go_enter Tryz.func18,Tryz.ntmps18
 go_upto_region 1 with fail
 rw [<- hw0]
 have HWW:Hid (w.heap.size<w0.heap.size):=by rw [hw0];simp only [World.size_alloc];exact Lib.hid (Nat.lt_succ_self _)
 clear hw0
 go_cut [3] (fun p3 wx=>∃ (A S1 bp bq cu H0:Nat) (Au:Option Addr) (wb:World),p3=.pointer (some ⟨A,0,none⟩)/\Hid (Hid (NewR wx A S1 (plF P (.slice Ar nr cr) (.slice Av nv cv) S B n t r nm sh) P 0 w0.heap.size wb.heap.size nv lv (.slice Au nv cu) (.pointer (some ⟨bp,0,none⟩)) (.slice none 0 0) [] (fun _=>0) (fun _=>.slice none 0 0))/\Hid (Below wb.heap.size wb wx)/\Hid (Below w0.heap.size w0 wx)/\Hid (wb.heap.size<=A)/\Hid (H0<=bp/\H0<=bq/\H0<=wb.heap.size/\w0.heap.size<=H0)/\Hid (BkAt wb (fun b=>b<H0\/b=bp\/b=bq) bp bq S B n (fun _ _=>pl0))/\Hid (w.heap.size<=S1)/\Hid (S1<H0\/wb.heap.size<=S1)/\Hid (∀ z,(Value.slice Au nv cu).ownBlock=some z->z<H0)))
 case first =>
  refine wp_region_held_drew (S:=fun w'=>w'.cell? ⟨w.heap.size,0,none⟩=some (.int .i64 (P:Nat))/\w'.cell? ⟨w.heap.size,1,none⟩=some (.slice Ar nr cr)/\w'.cell? ⟨w.heap.size,2,none⟩=some (.slice Av nv cv)/\w'.cell? ⟨w.heap.size,3,none⟩=some (.int .i64 (S:Nat))/\w'.cell? ⟨w.heap.size,4,none⟩=some (.int .i64 (B:Nat))/\w'.cell? ⟨w.heap.size,5,none⟩=some (.int .i64 (n:Nat))/\w'.cell? ⟨w.heap.size,6,none⟩=some (.int .i64 t)/\w'.cell? ⟨w.heap.size,7,none⟩=some (.int .i64 (r:Nat))/\w'.cell? ⟨w.heap.size,8,none⟩=some (.int .u32 nm)/\w'.cell? ⟨w.heap.size,9,none⟩=some (.int .u32 sh)) (by kernel_rfl) ?_ (fun hHeld=>?_)
  ·exact HBOX.out _ (Below.refl _ _).drew
  obtain ⟨v0,hv0⟩:∃ w',w'=w0.drew:=⟨_,rfl⟩
  have hBv0:Below w0.heap.size w0 v0:=by rw [hv0];exact (Below.refl _ _).drew
  rw [<- hv0] at hHeld |-;clear hv0;refine tk 0 ?_;refine tk 1 ?_;refine tk 2 ?_;refine tk 5 ?_;refine tk 6 ?_;refine tk 8 ?_;refine tk 9 ?_
  refine wpAnyH_ready (rs:=[3,4]) (by kernel_rfl) (by simp) ?_
  refine (acR rfl (fun K hK=>?_) (acR rfl (fun K hK=>?_) AllReadyH.nil))
  ·go_simp
   refine hK.out _ _ ?_ (fun hHeld=>?_)
   ·(try dsimp only)
    exact HBOX.out _ (hBv0.alloc hBv0.size _)
   clear hK K
   (try simp only [Act.put,sqA,sqB,sqC])
   obtain ⟨S1,hS1⟩:∃ o,o=v0.heap.size:=⟨_,rfl⟩;obtain ⟨ws,hws⟩:∃ x,x=v0.alloc (.cells (mkC (.agg #[.int .i64 0,.int .u32 0]) 2 P) 76):=⟨_,rfl⟩
   have hbs:Below v0.heap.size v0 ws:=by rw [hws];exact (Below.refl _ _).alloc (Nat.le_refl _) _
   have HSt:Hid (ws.rowIs S1 76 (P*2) (rowS fun _=>(0,0))):=by rw [hws,hS1];exact zb5
   have hBws:Below w0.heap.size w0 ws:=hBv0.trans (hbs.mono hBv0.size)
   have HLS:Hid (w.heap.size<=S1):=by rw [hS1];exact Lib.hid (Nat.le_trans HB0.out.size hBv0.size)
   rw [<- hS1,<- hws]
   (try rw [<- hws] at hHeld)
   clear hws hS1 hbs
   refine wpAnyH_ready (rs:=[4]) (by kernel_rfl) (by simp) ?_
   refine ac1 rfl fun K hK=>?_
   go_simp
   refine hK.out _ _ ?_ (fun hHeld=>?_)
   ·(try dsimp only)
    exact HBOX.out _ (hBws.alloc hBws.size _)
   clear hK K
   (try simp only [Act.put,sqA,sqB,sqC])
   obtain ⟨zl,hzl⟩:∃ o,o=ws.heap.size:=⟨_,rfl⟩;obtain ⟨wl,hwl⟩:∃ x,x=ws.alloc (.cells #[] 88):=⟨_,rfl⟩
   have hbl:Below ws.heap.size ws wl:=by rw [hwl];exact (Below.refl _ _).alloc (Nat.le_refl _) _
   have HSt:Hid (_):=Lib.hid (World.rowIs.of_block HSt.out (hbl.block _ HSt.out.lt))
   have HOl:Hid (wl.ownsRow w0.heap.size 88 3 (.slice (some ⟨zl,0,none⟩) 0 0) 0 []):=by rw [hwl,hzl];exact ⟨by simp,.inr ⟨ws.heap.size,0,#[],rfl,hBws.size,heap_alloc_new ws _,Nat.le_refl _,by simp [maxLen],by simp,by simp⟩⟩
   have hBwl:Below w0.heap.size w0 wl:=hBws.trans (hbl.mono hBws.size);rw [<- hzl,<- hwl]
   (try rw [<- hwl] at hHeld)
   clear hwl hzl hbl
   refine wpAnyH_ready (rs:=[7]) (by kernel_rfl) (by simp) ?_
   refine ac1 rfl fun K hK=>?_
   refine zam _ (by rfl) zfw _ _ (by rfl) w0.heap.size (.slice (some ⟨zl,0,none⟩) 0 0) 0 [] (by rfl) HOl.out Bo (.slice Av nv cv) nv (vlc lv) (by rfl) (HV.out _ (HB0.out.trans (hBwl.mono HB0.out.size))) (zh3 lv) (by omega) hBwl.size ?_
   intro v9 wu hown9 hgr9 hat9 hbel9
   have HSt:Hid (wu.rowIs S1 76 (P*2) (rowS fun _=>(0,0))):=Lib.hid (World.rowIs.of_block HSt.out (hgr9.block _ HSt.out.lt (fun e9=>zad HSt.out HOl.out (by decide) e9.symm)))
   obtain ⟨Au,cu,hv9,_,_⟩:=(Sl.of_own hown9).form;subst hv9
   simp only [Nat.zero_add] at hown9 |-
   rw [List.nil_append] at hown9;have HOu:=Lib.hid hown9;have hBwu:Below w0.heap.size w0 wu:=hBwl.trans hbel9;clear hown9 hgr9 hat9 hbel9
   refine hK.out _ _ ?_ (fun hHeld=>?_)
   ·(try dsimp only)
    exact HBOX.out _ hBwu
   clear hK K
   (try simp only [Act.put,sqA,sqB,sqC])
   refine wpAnyH_ready (rs:=[10]) (by kernel_rfl) (by simp) ?_
   refine ac1 rfl fun K hK=>?_
   go_simp
   refine Calls.mono (HBN.out _) ?_
   rintro e wb ⟨bp,bq,rfl,hbk,hbp,hbq,hbb⟩;have hS1l:=HSt.out.lt
   have hul0:=fun z (hz:(Value.slice Au nv cu).ownBlock=some z)=>(HOu.out.lt z hz).2
   have HSt:Hid (_):=Lib.hid (World.rowIs.of_block HSt.out (hbb.block _ HSt.out.lt));have HOu:=Lib.hid (zac HOu.out hbb);have HK:=Lib.hid hbk;have hBwb:Below w0.heap.size w0 wb:=hBwu.trans (hbb.mono hBwu.size);obtain ⟨H0,hH0⟩:∃ o,o=wu.heap.size:=⟨_,rfl⟩;rw [<- hH0] at HK
   have HH0:Hid (H0<=bp/\H0<=bq/\H0<=wb.heap.size/\w0.heap.size<=H0):=by rw [hH0];exact ⟨hbp,hbq,hbb.size,hBwu.size⟩
   have hS1c:S1<H0\/wb.heap.size<=S1:=.inl (by rw [hH0];exact hS1l)
   have hul:∀ z,(Value.slice Au nv cu).ownBlock=some z->z<H0:=fun z hz=>by rw [hH0];exact hul0 z hz
   clear hbk hbp hbq hbb hH0 hul0
   refine hK.out _ _ ?_ (fun hHeld=>?_)
   ·(try dsimp only)
    exact HBOX.out _ hBwb
   clear hK K;refine tk 11 ?_
   refine wpAnyH_ready (rs:=[12]) (by kernel_rfl) (by simp) ?_
   refine ac1 rfl fun K hK=>?_
   go_simp
   refine hK.out _ _ ?_ (fun hHeld=>?_)
   ·(try dsimp only)
    exact HBOX.out _ (hBwb.alloc hBwb.size _)
   clear hK K;refine tk 13 ?_
   refine dnR ?_
   obtain ⟨A,hA⟩:∃ o,o=wb.heap.size:=⟨_,rfl⟩;obtain ⟨wm,hwm⟩:∃ x,x=wb.alloc (.cells #[.int .i64 (P:Nat),.slice Ar nr cr,.slice Av nv cv,.int .i64 (S:Nat),.int .i64 (B:Nat),.int .i64 (n:Nat),.int .i64 t,.int .i64 (r:Nat),.int .u32 nm,.int .u32 sh,.slice (some ⟨S1,0,none⟩) P P,.slice Au nv cu,.pointer (some ⟨bp,0,none⟩),.slice none 0 0] 81):=⟨_,rfl⟩
   have hbm:Below wb.heap.size wb wm:=by rw [hwm];exact (Below.refl _ _).alloc (Nat.le_refl _) _
   have HBm:Hid (Below wb.heap.size wb wm):=hbm;have HBWm:Hid (Below w0.heap.size w0 wm):=hBwb.trans (hbm.mono hBwb.size)
   have HI:Hid (NewR wm A S1 (plF P (.slice Ar nr cr) (.slice Av nv cv) S B n t r nm sh) P 0 w0.heap.size wb.heap.size nv lv (.slice Au nv cu) (.pointer (some ⟨bp,0,none⟩)) (.slice none 0 0) [] (fun _=>0) (fun _=>.slice none 0 0)):=⟨⟨_,by rw [hwm,hA];exact heap_alloc_new _ _,rfl,fun i hi=>(by
    match i,hi with
    |0,_=>rfl
    |1,_=>rfl
    |2,_=>rfl
    |3,_=>rfl
    |4,_=>rfl
    |5,_=>rfl
    |6,_=>rfl
    |7,_=>rfl
    |8,_=>rfl
    |9,_=>rfl
    |10,_=>rfl
    |11,_=>rfl
    |12,_=>rfl
    |13,_=>rfl)⟩,World.rowIs.of_block HSt.out (hbm.block _ HSt.out.lt),zac HOu.out hbm,fun z hz=>Nat.lt_of_lt_of_le (hul z hz) HH0.out.2.2.1,World.ownsRow_nil _ _ _ _,fun i hi=>absurd hi (by omega),fun i hi=>absurd hi (by omega)⟩
   have HAb:Hid (wb.heap.size<=A):=by rw [hA];exact Lib.hid (Nat.le_refl _)
   rw [<- hA,<- hwm];clear hwm hA hbm hHeld HSt HOu
   go_wp2
   go_meet
   exact ⟨A,S1,bp,bq,cu,H0,Au,wb,rfl,HI,HBm,HBWm,HAb,HH0,HK,HLS,Lib.hid hS1c,Lib.hid hul⟩
  ·go_simp
   refine hK.out _ _ ?_ (fun hHeld=>?_)
   ·(try dsimp only)
    exact HBOX.out _ (hBv0.alloc hBv0.size _)
   clear hK K
   (try simp only [Act.put,sqA,sqB,sqC])
   obtain ⟨zl,hzl⟩:∃ o,o=v0.heap.size:=⟨_,rfl⟩;obtain ⟨wl,hwl⟩:∃ x,x=v0.alloc (.cells #[] 88):=⟨_,rfl⟩
   have hbl:Below v0.heap.size v0 wl:=by rw [hwl];exact (Below.refl _ _).alloc (Nat.le_refl _) _
   have HOl:Hid (wl.ownsRow w0.heap.size 88 3 (.slice (some ⟨zl,0,none⟩) 0 0) 0 []):=by rw [hwl,hzl];exact ⟨by simp,.inr ⟨v0.heap.size,0,#[],rfl,hBv0.size,heap_alloc_new v0 _,Nat.le_refl _,by simp [maxLen],by simp,by simp⟩⟩
   have hBwl:Below w0.heap.size w0 wl:=hBv0.trans (hbl.mono hBv0.size);rw [<- hzl,<- hwl]
   (try rw [<- hwl] at hHeld)
   clear hwl hzl hbl
   refine wpAnyH_ready (rs:=[3,7]) (by kernel_rfl) (by simp) ?_
   refine (acR rfl (fun K hK=>?_) (acR rfl (fun K hK=>?_) AllReadyH.nil))
   ·go_simp
    refine hK.out _ _ ?_ (fun hHeld=>?_)
    ·(try dsimp only)
     exact HBOX.out _ (hBwl.alloc hBwl.size _)
    clear hK K
    (try simp only [Act.put,sqA,sqB,sqC])
    obtain ⟨S1,hS1⟩:∃ o,o=wl.heap.size:=⟨_,rfl⟩;obtain ⟨ws,hws⟩:∃ x,x=wl.alloc (.cells (mkC (.agg #[.int .i64 0,.int .u32 0]) 2 P) 76):=⟨_,rfl⟩
    have hbs:Below wl.heap.size wl ws:=by rw [hws];exact (Below.refl _ _).alloc (Nat.le_refl _) _
    have HOl:=Lib.hid (zac HOl.out hbs)
    have HSt:Hid (ws.rowIs S1 76 (P*2) (rowS fun _=>(0,0))):=by rw [hws,hS1];exact zb5
    have hBws:Below w0.heap.size w0 ws:=hBwl.trans (hbs.mono hBwl.size)
    have HLS:Hid (w.heap.size<=S1):=by rw [hS1];exact Lib.hid (Nat.le_trans HB0.out.size hBwl.size)
    rw [<- hS1,<- hws]
    (try rw [<- hws] at hHeld)
    clear hws hS1 hbs
    refine wpAnyH_ready (rs:=[7]) (by kernel_rfl) (by simp) ?_
    refine ac1 rfl fun K hK=>?_
    refine zam _ (by rfl) zfw _ _ (by rfl) w0.heap.size (.slice (some ⟨zl,0,none⟩) 0 0) 0 [] (by rfl) HOl.out Bo (.slice Av nv cv) nv (vlc lv) (by rfl) (HV.out _ (HB0.out.trans (hBws.mono HB0.out.size))) (zh3 lv) (by omega) hBws.size ?_
    intro v9 wu hown9 hgr9 hat9 hbel9
    have HSt:Hid (wu.rowIs S1 76 (P*2) (rowS fun _=>(0,0))):=Lib.hid (World.rowIs.of_block HSt.out (hgr9.block _ HSt.out.lt (fun e9=>zad HSt.out HOl.out (by decide) e9.symm)))
    obtain ⟨Au,cu,hv9,_,_⟩:=(Sl.of_own hown9).form;subst hv9
    simp only [Nat.zero_add] at hown9 |-
    rw [List.nil_append] at hown9;have HOu:=Lib.hid hown9;have hBwu:Below w0.heap.size w0 wu:=hBws.trans hbel9;clear hown9 hgr9 hat9 hbel9
    refine hK.out _ _ ?_ (fun hHeld=>?_)
    ·(try dsimp only)
     exact HBOX.out _ hBwu
    clear hK K
    (try simp only [Act.put,sqA,sqB,sqC])
    refine wpAnyH_ready (rs:=[10]) (by kernel_rfl) (by simp) ?_
    refine ac1 rfl fun K hK=>?_
    go_simp
    refine Calls.mono (HBN.out _) ?_
    rintro e wb ⟨bp,bq,rfl,hbk,hbp,hbq,hbb⟩;have hS1l:=HSt.out.lt
    have hul0:=fun z (hz:(Value.slice Au nv cu).ownBlock=some z)=>(HOu.out.lt z hz).2
    have HSt:Hid (_):=Lib.hid (World.rowIs.of_block HSt.out (hbb.block _ HSt.out.lt));have HOu:=Lib.hid (zac HOu.out hbb);have HK:=Lib.hid hbk;have hBwb:Below w0.heap.size w0 wb:=hBwu.trans (hbb.mono hBwu.size);obtain ⟨H0,hH0⟩:∃ o,o=wu.heap.size:=⟨_,rfl⟩;rw [<- hH0] at HK
    have HH0:Hid (H0<=bp/\H0<=bq/\H0<=wb.heap.size/\w0.heap.size<=H0):=by rw [hH0];exact ⟨hbp,hbq,hbb.size,hBwu.size⟩
    have hS1c:S1<H0\/wb.heap.size<=S1:=.inl (by rw [hH0];exact hS1l)
    have hul:∀ z,(Value.slice Au nv cu).ownBlock=some z->z<H0:=fun z hz=>by rw [hH0];exact hul0 z hz
    clear hbk hbp hbq hbb hH0 hul0
    refine hK.out _ _ ?_ (fun hHeld=>?_)
    ·(try dsimp only)
     exact HBOX.out _ hBwb
    clear hK K;refine tk 11 ?_
    refine wpAnyH_ready (rs:=[12]) (by kernel_rfl) (by simp) ?_
    refine ac1 rfl fun K hK=>?_
    go_simp
    refine hK.out _ _ ?_ (fun hHeld=>?_)
    ·(try dsimp only)
     exact HBOX.out _ (hBwb.alloc hBwb.size _)
    clear hK K;refine tk 13 ?_
    refine dnR ?_
    obtain ⟨A,hA⟩:∃ o,o=wb.heap.size:=⟨_,rfl⟩;obtain ⟨wm,hwm⟩:∃ x,x=wb.alloc (.cells #[.int .i64 (P:Nat),.slice Ar nr cr,.slice Av nv cv,.int .i64 (S:Nat),.int .i64 (B:Nat),.int .i64 (n:Nat),.int .i64 t,.int .i64 (r:Nat),.int .u32 nm,.int .u32 sh,.slice (some ⟨S1,0,none⟩) P P,.slice Au nv cu,.pointer (some ⟨bp,0,none⟩),.slice none 0 0] 81):=⟨_,rfl⟩
    have hbm:Below wb.heap.size wb wm:=by rw [hwm];exact (Below.refl _ _).alloc (Nat.le_refl _) _
    have HBm:Hid (Below wb.heap.size wb wm):=hbm;have HBWm:Hid (Below w0.heap.size w0 wm):=hBwb.trans (hbm.mono hBwb.size)
    have HI:Hid (NewR wm A S1 (plF P (.slice Ar nr cr) (.slice Av nv cv) S B n t r nm sh) P 0 w0.heap.size wb.heap.size nv lv (.slice Au nv cu) (.pointer (some ⟨bp,0,none⟩)) (.slice none 0 0) [] (fun _=>0) (fun _=>.slice none 0 0)):=⟨⟨_,by rw [hwm,hA];exact heap_alloc_new _ _,rfl,fun i hi=>(by
     match i,hi with
     |0,_=>rfl
     |1,_=>rfl
     |2,_=>rfl
     |3,_=>rfl
     |4,_=>rfl
     |5,_=>rfl
     |6,_=>rfl
     |7,_=>rfl
     |8,_=>rfl
     |9,_=>rfl
     |10,_=>rfl
     |11,_=>rfl
     |12,_=>rfl
     |13,_=>rfl)⟩,World.rowIs.of_block HSt.out (hbm.block _ HSt.out.lt),zac HOu.out hbm,fun z hz=>Nat.lt_of_lt_of_le (hul z hz) HH0.out.2.2.1,World.ownsRow_nil _ _ _ _,fun i hi=>absurd hi (by omega),fun i hi=>absurd hi (by omega)⟩
    have HAb:Hid (wb.heap.size<=A):=by rw [hA];exact Lib.hid (Nat.le_refl _)
    rw [<- hA,<- hwm];clear hwm hA hbm hHeld HSt HOu
    go_wp2
    go_meet
    exact ⟨A,S1,bp,bq,cu,H0,Au,wb,rfl,HI,HBm,HBWm,HAb,HH0,HK,HLS,Lib.hid hS1c,Lib.hid hul⟩
   ·refine zam _ (by rfl) zfw _ _ (by rfl) w0.heap.size (.slice (some ⟨zl,0,none⟩) 0 0) 0 [] (by rfl) HOl.out Bo (.slice Av nv cv) nv (vlc lv) (by rfl) (HV.out _ (HB0.out.trans (hBwl.mono HB0.out.size))) (zh3 lv) (by omega) hBwl.size ?_
    intro v9 wu hown9 hgr9 hat9 hbel9;obtain ⟨Au,cu,hv9,_,_⟩:=(Sl.of_own hown9).form;subst hv9
    simp only [Nat.zero_add] at hown9 |-
    rw [List.nil_append] at hown9;have HOu:=Lib.hid hown9;have hBwu:Below w0.heap.size w0 wu:=hBwl.trans hbel9;clear hown9 hgr9 hat9 hbel9
    refine hK.out _ _ ?_ (fun hHeld=>?_)
    ·(try dsimp only)
     exact HBOX.out _ hBwu
    clear hK K
    (try simp only [Act.put,sqA,sqB,sqC])
    refine wpAnyH_ready (rs:=[3,10]) (by kernel_rfl) (by simp) ?_
    refine (acR rfl (fun K hK=>?_) (acR rfl (fun K hK=>?_) AllReadyH.nil))
    ·go_simp
     refine hK.out _ _ ?_ (fun hHeld=>?_)
     ·(try dsimp only)
      exact HBOX.out _ (hBwu.alloc hBwu.size _)
     clear hK K
     (try simp only [Act.put,sqA,sqB,sqC])
     obtain ⟨S1,hS1⟩:∃ o,o=wu.heap.size:=⟨_,rfl⟩;obtain ⟨ws,hws⟩:∃ x,x=wu.alloc (.cells (mkC (.agg #[.int .i64 0,.int .u32 0]) 2 P) 76):=⟨_,rfl⟩
     have hbs:Below wu.heap.size wu ws:=by rw [hws];exact (Below.refl _ _).alloc (Nat.le_refl _) _
     have HOu:=Lib.hid (zac HOu.out hbs)
     have HSt:Hid (ws.rowIs S1 76 (P*2) (rowS fun _=>(0,0))):=by rw [hws,hS1];exact zb5
     have hBws:Below w0.heap.size w0 ws:=hBwu.trans (hbs.mono hBwu.size)
     have HLS:Hid (w.heap.size<=S1):=by rw [hS1];exact Lib.hid (Nat.le_trans HB0.out.size hBwu.size)
     rw [<- hS1,<- hws]
     (try rw [<- hws] at hHeld)
     clear hws hS1 hbs
     refine wpAnyH_ready (rs:=[10]) (by kernel_rfl) (by simp) ?_
     refine ac1 rfl fun K hK=>?_
     go_simp
     refine Calls.mono (HBN.out _) ?_
     rintro e wb ⟨bp,bq,rfl,hbk,hbp,hbq,hbb⟩;have hS1l:=HSt.out.lt
     have hul0:=fun z (hz:(Value.slice Au nv cu).ownBlock=some z)=>(HOu.out.lt z hz).2
     have HSt:Hid (_):=Lib.hid (World.rowIs.of_block HSt.out (hbb.block _ HSt.out.lt));have HOu:=Lib.hid (zac HOu.out hbb);have HK:=Lib.hid hbk;have hBwb:Below w0.heap.size w0 wb:=hBws.trans (hbb.mono hBws.size);obtain ⟨H0,hH0⟩:∃ o,o=ws.heap.size:=⟨_,rfl⟩;rw [<- hH0] at HK
     have HH0:Hid (H0<=bp/\H0<=bq/\H0<=wb.heap.size/\w0.heap.size<=H0):=by rw [hH0];exact ⟨hbp,hbq,hbb.size,hBws.size⟩
     have hS1c:S1<H0\/wb.heap.size<=S1:=.inl (by rw [hH0];exact hS1l)
     have hul:∀ z,(Value.slice Au nv cu).ownBlock=some z->z<H0:=fun z hz=>by rw [hH0];exact hul0 z hz
     clear hbk hbp hbq hbb hH0 hul0
     refine hK.out _ _ ?_ (fun hHeld=>?_)
     ·(try dsimp only)
      exact HBOX.out _ hBwb
     clear hK K;refine tk 11 ?_
     refine wpAnyH_ready (rs:=[12]) (by kernel_rfl) (by simp) ?_
     refine ac1 rfl fun K hK=>?_
     go_simp
     refine hK.out _ _ ?_ (fun hHeld=>?_)
     ·(try dsimp only)
      exact HBOX.out _ (hBwb.alloc hBwb.size _)
     clear hK K;refine tk 13 ?_
     refine dnR ?_
     obtain ⟨A,hA⟩:∃ o,o=wb.heap.size:=⟨_,rfl⟩;obtain ⟨wm,hwm⟩:∃ x,x=wb.alloc (.cells #[.int .i64 (P:Nat),.slice Ar nr cr,.slice Av nv cv,.int .i64 (S:Nat),.int .i64 (B:Nat),.int .i64 (n:Nat),.int .i64 t,.int .i64 (r:Nat),.int .u32 nm,.int .u32 sh,.slice (some ⟨S1,0,none⟩) P P,.slice Au nv cu,.pointer (some ⟨bp,0,none⟩),.slice none 0 0] 81):=⟨_,rfl⟩
     have hbm:Below wb.heap.size wb wm:=by rw [hwm];exact (Below.refl _ _).alloc (Nat.le_refl _) _
     have HBm:Hid (Below wb.heap.size wb wm):=hbm;have HBWm:Hid (Below w0.heap.size w0 wm):=hBwb.trans (hbm.mono hBwb.size)
     have HI:Hid (NewR wm A S1 (plF P (.slice Ar nr cr) (.slice Av nv cv) S B n t r nm sh) P 0 w0.heap.size wb.heap.size nv lv (.slice Au nv cu) (.pointer (some ⟨bp,0,none⟩)) (.slice none 0 0) [] (fun _=>0) (fun _=>.slice none 0 0)):=⟨⟨_,by rw [hwm,hA];exact heap_alloc_new _ _,rfl,fun i hi=>(by
      match i,hi with
      |0,_=>rfl
      |1,_=>rfl
      |2,_=>rfl
      |3,_=>rfl
      |4,_=>rfl
      |5,_=>rfl
      |6,_=>rfl
      |7,_=>rfl
      |8,_=>rfl
      |9,_=>rfl
      |10,_=>rfl
      |11,_=>rfl
      |12,_=>rfl
      |13,_=>rfl)⟩,World.rowIs.of_block HSt.out (hbm.block _ HSt.out.lt),zac HOu.out hbm,fun z hz=>Nat.lt_of_lt_of_le (hul z hz) HH0.out.2.2.1,World.ownsRow_nil _ _ _ _,fun i hi=>absurd hi (by omega),fun i hi=>absurd hi (by omega)⟩
     have HAb:Hid (wb.heap.size<=A):=by rw [hA];exact Lib.hid (Nat.le_refl _)
     rw [<- hA,<- hwm];clear hwm hA hbm hHeld HSt HOu
     go_wp2
     go_meet
     exact ⟨A,S1,bp,bq,cu,H0,Au,wb,rfl,HI,HBm,HBWm,HAb,HH0,HK,HLS,Lib.hid hS1c,Lib.hid hul⟩
    ·go_simp
     refine Calls.mono (HBN.out _) ?_
     rintro e wb ⟨bp,bq,rfl,hbk,hbp,hbq,hbb⟩
     have hul0:=fun z (hz:(Value.slice Au nv cu).ownBlock=some z)=>(HOu.out.lt z hz).2
     have HOu:=Lib.hid (zac HOu.out hbb);have HK:=Lib.hid hbk;have hBwb:Below w0.heap.size w0 wb:=hBwu.trans (hbb.mono hBwu.size);obtain ⟨H0,hH0⟩:∃ o,o=wu.heap.size:=⟨_,rfl⟩;rw [<- hH0] at HK
     have HH0:Hid (H0<=bp/\H0<=bq/\H0<=wb.heap.size/\w0.heap.size<=H0):=by rw [hH0];exact ⟨hbp,hbq,hbb.size,hBwu.size⟩
     have hul:∀ z,(Value.slice Au nv cu).ownBlock=some z->z<H0:=fun z hz=>by rw [hH0];exact hul0 z hz
     clear hbk hbp hbq hbb hH0 hul0
     refine hK.out _ _ ?_ (fun hHeld=>?_)
     ·(try dsimp only)
      exact HBOX.out _ hBwb
     clear hK K
     (try simp only [Act.put,sqA,sqB,sqC])
     refine wpAnyH_ready (rs:=[3]) (by kernel_rfl) (by simp) ?_
     refine ac1 rfl fun K hK=>?_
     go_simp
     refine hK.out _ _ ?_ (fun hHeld=>?_)
     ·(try dsimp only)
      exact HBOX.out _ (hBwb.alloc hBwb.size _)
     clear hK K
     (try simp only [Act.put,sqA,sqB,sqC])
     obtain ⟨S1,hS1⟩:∃ o,o=wb.heap.size:=⟨_,rfl⟩;obtain ⟨ws,hws⟩:∃ x,x=wb.alloc (.cells (mkC (.agg #[.int .i64 0,.int .u32 0]) 2 P) 76):=⟨_,rfl⟩
     have hbs:Below wb.heap.size wb ws:=by rw [hws];exact (Below.refl _ _).alloc (Nat.le_refl _) _
     have HOu:=Lib.hid (zac HOu.out hbs)
     have HSt:Hid (ws.rowIs S1 76 (P*2) (rowS fun _=>(0,0))):=by rw [hws,hS1];exact zb5
     have hBws:Below w0.heap.size w0 ws:=hBwb.trans (hbs.mono hBwb.size)
     have HLS:Hid (w.heap.size<=S1):=by rw [hS1];exact Lib.hid (Nat.le_trans HB0.out.size hBwb.size)
     have hS1c:S1<H0\/wb.heap.size<=S1:=.inr (by rw [hS1];exact Nat.le_refl _)
     have hb1x:Below wb.heap.size wb ws:=hbs;rw [<- hS1,<- hws]
     (try rw [<- hws] at hHeld)
     clear hws hS1 hbs;refine tk 11 ?_
     refine wpAnyH_ready (rs:=[12]) (by kernel_rfl) (by simp) ?_
     refine ac1 rfl fun K hK=>?_
     go_simp
     refine hK.out _ _ ?_ (fun hHeld=>?_)
     ·(try dsimp only)
      exact HBOX.out _ (hBws.alloc hBws.size _)
     clear hK K;refine tk 13 ?_
     refine dnR ?_
     obtain ⟨A,hA⟩:∃ o,o=ws.heap.size:=⟨_,rfl⟩;obtain ⟨wm,hwm⟩:∃ x,x=ws.alloc (.cells #[.int .i64 (P:Nat),.slice Ar nr cr,.slice Av nv cv,.int .i64 (S:Nat),.int .i64 (B:Nat),.int .i64 (n:Nat),.int .i64 t,.int .i64 (r:Nat),.int .u32 nm,.int .u32 sh,.slice (some ⟨S1,0,none⟩) P P,.slice Au nv cu,.pointer (some ⟨bp,0,none⟩),.slice none 0 0] 81):=⟨_,rfl⟩
     have hbm:Below ws.heap.size ws wm:=by rw [hwm];exact (Below.refl _ _).alloc (Nat.le_refl _) _
     have HBm:Hid (Below wb.heap.size wb wm):=hb1x.trans (hbm.mono hb1x.size);have HBWm:Hid (Below w0.heap.size w0 wm):=hBws.trans (hbm.mono hBws.size)
     have HI:Hid (NewR wm A S1 (plF P (.slice Ar nr cr) (.slice Av nv cv) S B n t r nm sh) P 0 w0.heap.size wb.heap.size nv lv (.slice Au nv cu) (.pointer (some ⟨bp,0,none⟩)) (.slice none 0 0) [] (fun _=>0) (fun _=>.slice none 0 0)):=⟨⟨_,by rw [hwm,hA];exact heap_alloc_new _ _,rfl,fun i hi=>(by
      match i,hi with
      |0,_=>rfl
      |1,_=>rfl
      |2,_=>rfl
      |3,_=>rfl
      |4,_=>rfl
      |5,_=>rfl
      |6,_=>rfl
      |7,_=>rfl
      |8,_=>rfl
      |9,_=>rfl
      |10,_=>rfl
      |11,_=>rfl
      |12,_=>rfl
      |13,_=>rfl)⟩,World.rowIs.of_block HSt.out (hbm.block _ HSt.out.lt),zac HOu.out hbm,fun z hz=>Nat.lt_of_lt_of_le (hul z hz) HH0.out.2.2.1,World.ownsRow_nil _ _ _ _,fun i hi=>absurd hi (by omega),fun i hi=>absurd hi (by omega)⟩
     have HAb:Hid (wb.heap.size<=A):=by rw [hA];exact Lib.hid (hb1x.size)
     rw [<- hA,<- hwm];clear hwm hA hbm hHeld HSt HOu
     go_wp2
     go_meet
     exact ⟨A,S1,bp,bq,cu,H0,Au,wb,rfl,HI,HBm,HBWm,HAb,HH0,HK,HLS,Lib.hid hS1c,Lib.hid hul⟩
 case rest =>
  obtain ⟨A,S1,bp,bq,cu,H0,Au,wb,rfl,HX⟩:=hcut;obtain ⟨HI,HBm,HBWm,HAb,HH0,HK,HLS,HS1c,HUL⟩:=HX.out;clear HX
  go_wp2
  go_loopw [4] (fun iv wr=>∃ (k:Nat) (R:Nat->Nat) (G:Nat->Value) (vs:List Value) (QV:Value) (wx:World),wx=wr/\k<=P/\iv=.int .i64 k/\Hid (NewR wr A S1 (plF P (.slice Ar nr cr) (.slice Av nv cv) S B n t r nm sh) P k w0.heap.size wb.heap.size nv lv (.slice Au nv cu) (.pointer (some ⟨bp,0,none⟩)) QV vs R G/\Below wb.heap.size wb wr/\Below w0.heap.size w0 wr)) (fun iv _=>P - (intOf iv).toNat)
  case atStart=>exact ⟨0,_,_,_,_,_,rfl,by omega,rfl,Lib.hid ⟨HI.out,HBm.out,HBWm.out⟩⟩
  case round =>
   obtain ⟨k,R,G,vs,QV,wr,rfl,hk,rfl,HJ⟩:=hrel;obtain ⟨q0,q1,q2,q3,q4,q5,q6,q7,q8,q9⟩:=HBOX.out _ HJ.out.2.2;clear q1 q2 q3 q4 q5 q6 q7 q8 q9
   by_cases hlt:k<P
   ·have d1:decide (k<P)=true:=decide_eq_true hlt
    obtain ⟨AQ,cQ,hQV,_,_⟩:=(Sl.of_own HJ.out.1.own).form;subst hQV;have hAw:A<wr.heap.size:=HJ.out.1.cells.lt
    have hww:w.heap.size<wr.heap.size:=by have:=HJ.out.2.2.size;have:=HWW.out;omega
    go_wp2_with fail
    refine wp_region_held_drew (S:=fun w'=>w'.cell? ⟨w.heap.size,0,none⟩=some (.int .i64 (P:Nat))) (by kernel_rfl) ?_ (fun hHeld=>?_)
    ·exact q0
    obtain ⟨v5,hv0⟩:∃ w',w'=wr.drew:=⟨_,rfl⟩
    have hBv5:Below wr.heap.size wr v5:=by rw [hv0];exact (Below.refl _ _).drew
    have hk5:=fun W=>zby (P:=Tryz.prog) W stQuR P (by omega)
    rw [<- hv0] at hHeld |-;clear hv0;refine tk 0 ?_;refine tk 1 ?_;refine tk 2 ?_;refine tk 3 ?_;refine tk 5 ?_;refine tk 6 ?_
    refine wpAnyH_ready (rs:=[4,7]) (by kernel_rfl) (by simp) ?_
    refine (acR rfl (fun K hK=>?_) (acR rfl (fun K hK=>?_) AllReadyH.nil))
    ·have erx:v5.cell? ⟨A,13,none⟩=some (.slice AQ k cQ):=World.rowIs.cell (World.rowIs.of_block HJ.out.1.cells (hBv5.block _ hAw)) (by omega)
     go_simp;clear erx
     refine hK.out _ _ ?_ (fun hHeld=>?_)
     ·(try dsimp only)
      exact (HBOX.out _ (HJ.out.2.2.trans ((hBv5).mono HJ.out.2.2.size))).1
     clear hK K
     (try simp only [Act.put,sqA,sqB,sqC])
     refine wpAnyH_ready (rs:=[7]) (by kernel_rfl) (by simp) ?_
     refine ac1 rfl fun K hK=>?_
     go_simp
     refine hK.out _ _ ?_ (fun hHeld=>?_)
     ·(try dsimp only)
      exact (HBOX.out _ (HJ.out.2.2.trans ((hBv5.alloc hBv5.size _).mono HJ.out.2.2.size))).1
     clear hK K
     (try simp only [Act.put,sqA,sqB,sqC])
     obtain ⟨b,hbd⟩:∃ o,o=v5.heap.size:=⟨_,rfl⟩;obtain ⟨wr1,hw1⟩:∃ x,x=v5.alloc (.cells (mkC (.slice none 0 0) 1 P) 47):=⟨_,rfl⟩
     have hBwr1:Below wr.heap.size wr wr1:=by rw [hw1];exact hBv5.alloc hBv5.size _
     have HRO:Hid (wr1.rowIs b 47 P (fun _=>.slice none 0 0)):=by rw [hw1];exact zcw rfl hbd.symm
     have hbz:wr.heap.size<=b:=by rw [hbd];exact hBv5.size
     rw [<- hbd,<- hw1]
     (try rw [<- hw1] at hHeld)
     clear hw1 hbd
     refine wpAnyH_ready (rs:=[8]) (by kernel_rfl) (by simp) ?_
     refine ac1 rfl fun K hK=>?_
     go_simp
     refine hK.out _ _ ?_ (fun hHeld=>?_)
     ·(try dsimp only)
      exact (HBOX.out _ (HJ.out.2.2.trans ((hBwr1.alloc hBwr1.size _).mono HJ.out.2.2.size))).1
     clear hK K
     (try simp only [Act.put,sqA,sqB,sqC])
     obtain ⟨zl,hzl⟩:∃ o,o=wr1.heap.size:=⟨_,rfl⟩;obtain ⟨wr2,hw2⟩:∃ x,x=wr1.alloc (.cells #[.slice (some ⟨b,0,none⟩) P P] 109):=⟨_,rfl⟩
     have hb12:Below wr1.heap.size wr1 wr2:=by rw [hw2];exact (Below.refl _ _).alloc (Nat.le_refl _) _
     have hBwr2:Below wr.heap.size wr wr2:=hBwr1.trans (hb12.mono hBwr1.size);have HRO:=Lib.hid (World.rowIs.of_block HRO.out (hb12.block _ HRO.out.lt))
     have hzc:wr2.cell? ⟨zl,0,none⟩=some (.slice (some ⟨b,0,none⟩) P P):=by rw [hw2,hzl];simp [go_sem]
     rw [<- hzl,<- hw2]
     (try rw [<- hw2] at hHeld)
     clear hw2 hzl hb12
     refine wpAnyH_ready (rs:=[9]) (by kernel_rfl) (by simp) ?_
     refine ac1 rfl fun K hK=>?_
     have hso:Sl wr2 (zl+1) 1 (.slice (some ⟨zl,0,none⟩) 1 1) 1 [.slice (some ⟨b,0,none⟩) P P]:=⟨rfl,_,_,rfl,Nat.le_refl _,by decide,fun _=>⟨zl,0,rfl,by omega,fun i9 hi9=>(by have e9:i9=0:=(by omega);subst e9;exact hzc)⟩⟩
     refine zam _ (by rfl) zqu _ _ (by rfl) wb.heap.size (.slice AQ k cQ) k vs (by rfl) (zac HJ.out.1.own hBwr2) (zl+1) _ 1 [.slice (some ⟨b,0,none⟩) P P] (by rfl) hso (by simp [Value.oneCell']) (by omega) (Nat.le_trans HJ.out.2.1.size hBwr2.size) ?_
     intro v9 wr3 hown9 hgr9 hat9 hbel9;obtain ⟨A9,c9,hv9,_,_⟩:=(Sl.of_own hown9).form;subst hv9;have HST:=Lib.hid (HJ.out.1.step hBwr2 (Nat.le_trans HJ.out.2.1.size hbz) hbz HRO.out hown9 hgr9);have HBB:Hid (Below wb.heap.size wb wr3):=(HJ.out.2.1.trans (hBwr2.mono HJ.out.2.1.size)).trans hbel9;have hWr3:Below w0.heap.size w0 wr3:=(HJ.out.2.2.trans (hBwr2.mono HJ.out.2.2.size)).trans (hbel9.mono (Nat.le_trans HH0.out.2.2.2 HH0.out.2.2.1))
     have y1:wr3.cell? ⟨A,13,none⟩=some (.slice AQ k cQ):=by
      have hr2:=World.rowIs.of_block HJ.out.1.cells (hBwr2.block _ hAw)
      exact World.rowIs.cell (World.rowIs.of_block hr2 (hgr9.block _ hr2.lt (fun e=>zad hr2 (zac HJ.out.1.own hBwr2) (by decide) e.symm))) (by omega)
     have y2:wr3.frozen? ⟨A,13,none⟩=false:=by
      have hr2:=World.rowIs.of_block HJ.out.1.cells (hBwr2.block _ hAw)
      exact World.rowIs.frozen (World.rowIs.of_block hr2 (hgr9.block _ hr2.lt (fun e=>zad hr2 (zac HJ.out.1.own hBwr2) (by decide) e.symm))) _
     clear hown9 hgr9 hat9 hbel9 hzc hso
     refine hK.out _ _ ?_ (fun hHeld=>?_)
     ·(try dsimp only)
      exact (HBOX.out _ hWr3).1
     clear hK K;refine tk 10 ?_;refine tk 11 ?_
     refine wpAnyH_ready (rs:=[12]) (by kernel_rfl) (by simp) ?_
     refine ac1 rfl fun K hK=>?_
     go_simp
     refine hK.out _ _ ?_ (fun hHeld=>?_)
     ·(try dsimp only)
      exact ((But.set _ _).cell (show w.heap.size<wr3.heap.size by have:=hWr3.size;have:=HWW.out;omega) (show w.heap.size≠A by have:=HAb.out;have:=HH0.out;have:=HWW.out;omega)).trans (HBOX.out _ hWr3).1
     clear hK K
     (try simp only [Act.put,sqA,sqB,sqC])
     refine dnR ?_
     have HFB:Hid (Below wb.heap.size wb (wr3.setCell ⟨A,13,none⟩ (.slice A9 (k+1) c9))/\Below w0.heap.size w0 (wr3.setCell ⟨A,13,none⟩ (.slice A9 (k+1) c9))):=⟨HBB.out.setCell HAb.out _,hWr3.setCell (show w0.heap.size<=A by have:=HAb.out;have:=HH0.out;omega) _⟩
     clear hHeld y1 y2 hWr3
     go_wp2
     go_roundw
     case rel=>exact ⟨k+1,_,_,_,_,_,rfl,by omega,by go_num,Lib.hid ⟨HST.out,HFB.out.1,HFB.out.2⟩⟩
     case measure=>simp [intOf];omega
    ·go_simp
     refine hK.out _ _ ?_ (fun hHeld=>?_)
     ·(try dsimp only)
      exact (HBOX.out _ (HJ.out.2.2.trans ((hBv5.alloc hBv5.size _).mono HJ.out.2.2.size))).1
     clear hK K
     (try simp only [Act.put,sqA,sqB,sqC])
     obtain ⟨b,hbd⟩:∃ o,o=v5.heap.size:=⟨_,rfl⟩;obtain ⟨wr1,hw1⟩:∃ x,x=v5.alloc (.cells (mkC (.slice none 0 0) 1 P) 47):=⟨_,rfl⟩
     have hBwr1:Below wr.heap.size wr wr1:=by rw [hw1];exact hBv5.alloc hBv5.size _
     have HRO:Hid (wr1.rowIs b 47 P (fun _=>.slice none 0 0)):=by rw [hw1];exact zcw rfl hbd.symm
     have hbz:wr.heap.size<=b:=by rw [hbd];exact hBv5.size
     rw [<- hbd,<- hw1]
     (try rw [<- hw1] at hHeld)
     clear hw1 hbd
     refine wpAnyH_ready (rs:=[4,8]) (by kernel_rfl) (by simp) ?_
     refine (acR rfl (fun K hK=>?_) (acR rfl (fun K hK=>?_) AllReadyH.nil))
     ·have erx:wr1.cell? ⟨A,13,none⟩=some (.slice AQ k cQ):=World.rowIs.cell (World.rowIs.of_block HJ.out.1.cells (hBwr1.block _ hAw)) (by omega)
      go_simp;clear erx
      refine hK.out _ _ ?_ (fun hHeld=>?_)
      ·(try dsimp only)
       exact (HBOX.out _ (HJ.out.2.2.trans ((hBwr1).mono HJ.out.2.2.size))).1
      clear hK K
      (try simp only [Act.put,sqA,sqB,sqC])
      refine wpAnyH_ready (rs:=[8]) (by kernel_rfl) (by simp) ?_
      refine ac1 rfl fun K hK=>?_
      go_simp
      refine hK.out _ _ ?_ (fun hHeld=>?_)
      ·(try dsimp only)
       exact (HBOX.out _ (HJ.out.2.2.trans ((hBwr1.alloc hBwr1.size _).mono HJ.out.2.2.size))).1
      clear hK K
      (try simp only [Act.put,sqA,sqB,sqC])
      obtain ⟨zl,hzl⟩:∃ o,o=wr1.heap.size:=⟨_,rfl⟩;obtain ⟨wr2,hw2⟩:∃ x,x=wr1.alloc (.cells #[.slice (some ⟨b,0,none⟩) P P] 109):=⟨_,rfl⟩
      have hb12:Below wr1.heap.size wr1 wr2:=by rw [hw2];exact (Below.refl _ _).alloc (Nat.le_refl _) _
      have hBwr2:Below wr.heap.size wr wr2:=hBwr1.trans (hb12.mono hBwr1.size);have HRO:=Lib.hid (World.rowIs.of_block HRO.out (hb12.block _ HRO.out.lt))
      have hzc:wr2.cell? ⟨zl,0,none⟩=some (.slice (some ⟨b,0,none⟩) P P):=by rw [hw2,hzl];simp [go_sem]
      rw [<- hzl,<- hw2]
      (try rw [<- hw2] at hHeld)
      clear hw2 hzl hb12
      refine wpAnyH_ready (rs:=[9]) (by kernel_rfl) (by simp) ?_
      refine ac1 rfl fun K hK=>?_
      have hso:Sl wr2 (zl+1) 1 (.slice (some ⟨zl,0,none⟩) 1 1) 1 [.slice (some ⟨b,0,none⟩) P P]:=⟨rfl,_,_,rfl,Nat.le_refl _,by decide,fun _=>⟨zl,0,rfl,by omega,fun i9 hi9=>(by have e9:i9=0:=(by omega);subst e9;exact hzc)⟩⟩
      refine zam _ (by rfl) zqu _ _ (by rfl) wb.heap.size (.slice AQ k cQ) k vs (by rfl) (zac HJ.out.1.own hBwr2) (zl+1) _ 1 [.slice (some ⟨b,0,none⟩) P P] (by rfl) hso (by simp [Value.oneCell']) (by omega) (Nat.le_trans HJ.out.2.1.size hBwr2.size) ?_
      intro v9 wr3 hown9 hgr9 hat9 hbel9;obtain ⟨A9,c9,hv9,_,_⟩:=(Sl.of_own hown9).form;subst hv9;have HST:=Lib.hid (HJ.out.1.step hBwr2 (Nat.le_trans HJ.out.2.1.size hbz) hbz HRO.out hown9 hgr9);have HBB:Hid (Below wb.heap.size wb wr3):=(HJ.out.2.1.trans (hBwr2.mono HJ.out.2.1.size)).trans hbel9;have hWr3:Below w0.heap.size w0 wr3:=(HJ.out.2.2.trans (hBwr2.mono HJ.out.2.2.size)).trans (hbel9.mono (Nat.le_trans HH0.out.2.2.2 HH0.out.2.2.1))
      have y1:wr3.cell? ⟨A,13,none⟩=some (.slice AQ k cQ):=by
       have hr2:=World.rowIs.of_block HJ.out.1.cells (hBwr2.block _ hAw)
       exact World.rowIs.cell (World.rowIs.of_block hr2 (hgr9.block _ hr2.lt (fun e=>zad hr2 (zac HJ.out.1.own hBwr2) (by decide) e.symm))) (by omega)
      have y2:wr3.frozen? ⟨A,13,none⟩=false:=by
       have hr2:=World.rowIs.of_block HJ.out.1.cells (hBwr2.block _ hAw)
       exact World.rowIs.frozen (World.rowIs.of_block hr2 (hgr9.block _ hr2.lt (fun e=>zad hr2 (zac HJ.out.1.own hBwr2) (by decide) e.symm))) _
      clear hown9 hgr9 hat9 hbel9 hzc hso
      refine hK.out _ _ ?_ (fun hHeld=>?_)
      ·(try dsimp only)
       exact (HBOX.out _ hWr3).1
      clear hK K;refine tk 10 ?_;refine tk 11 ?_
      refine wpAnyH_ready (rs:=[12]) (by kernel_rfl) (by simp) ?_
      refine ac1 rfl fun K hK=>?_
      go_simp
      refine hK.out _ _ ?_ (fun hHeld=>?_)
      ·(try dsimp only)
       exact ((But.set _ _).cell (show w.heap.size<wr3.heap.size by have:=hWr3.size;have:=HWW.out;omega) (show w.heap.size≠A by have:=HAb.out;have:=HH0.out;have:=HWW.out;omega)).trans (HBOX.out _ hWr3).1
      clear hK K
      (try simp only [Act.put,sqA,sqB,sqC])
      refine dnR ?_
      have HFB:Hid (Below wb.heap.size wb (wr3.setCell ⟨A,13,none⟩ (.slice A9 (k+1) c9))/\Below w0.heap.size w0 (wr3.setCell ⟨A,13,none⟩ (.slice A9 (k+1) c9))):=⟨HBB.out.setCell HAb.out _,hWr3.setCell (show w0.heap.size<=A by have:=HAb.out;have:=HH0.out;omega) _⟩
      clear hHeld y1 y2 hWr3
      go_wp2
      go_roundw
      case rel=>exact ⟨k+1,_,_,_,_,_,rfl,by omega,by go_num,Lib.hid ⟨HST.out,HFB.out.1,HFB.out.2⟩⟩
      case measure=>simp [intOf];omega
     ·go_simp
      refine hK.out _ _ ?_ (fun hHeld=>?_)
      ·(try dsimp only)
       exact (HBOX.out _ (HJ.out.2.2.trans ((hBwr1.alloc hBwr1.size _).mono HJ.out.2.2.size))).1
      clear hK K
      (try simp only [Act.put,sqA,sqB,sqC])
      obtain ⟨zl,hzl⟩:∃ o,o=wr1.heap.size:=⟨_,rfl⟩;obtain ⟨wr2,hw2⟩:∃ x,x=wr1.alloc (.cells #[.slice (some ⟨b,0,none⟩) P P] 109):=⟨_,rfl⟩
      have hb12:Below wr1.heap.size wr1 wr2:=by rw [hw2];exact (Below.refl _ _).alloc (Nat.le_refl _) _
      have hBwr2:Below wr.heap.size wr wr2:=hBwr1.trans (hb12.mono hBwr1.size);have HRO:=Lib.hid (World.rowIs.of_block HRO.out (hb12.block _ HRO.out.lt))
      have hzc:wr2.cell? ⟨zl,0,none⟩=some (.slice (some ⟨b,0,none⟩) P P):=by rw [hw2,hzl];simp [go_sem]
      rw [<- hzl,<- hw2]
      (try rw [<- hw2] at hHeld)
      clear hw2 hzl hb12
      refine wpAnyH_ready (rs:=[4]) (by kernel_rfl) (by simp) ?_
      refine ac1 rfl fun K hK=>?_
      have erx:wr2.cell? ⟨A,13,none⟩=some (.slice AQ k cQ):=World.rowIs.cell (World.rowIs.of_block HJ.out.1.cells (hBwr2.block _ hAw)) (by omega)
      go_simp;clear erx
      refine hK.out _ _ ?_ (fun hHeld=>?_)
      ·(try dsimp only)
       exact (HBOX.out _ (HJ.out.2.2.trans ((hBwr2).mono HJ.out.2.2.size))).1
      clear hK K
      (try simp only [Act.put,sqA,sqB,sqC])
      refine wpAnyH_ready (rs:=[9]) (by kernel_rfl) (by simp) ?_
      refine ac1 rfl fun K hK=>?_
      have hso:Sl wr2 (zl+1) 1 (.slice (some ⟨zl,0,none⟩) 1 1) 1 [.slice (some ⟨b,0,none⟩) P P]:=⟨rfl,_,_,rfl,Nat.le_refl _,by decide,fun _=>⟨zl,0,rfl,by omega,fun i9 hi9=>(by have e9:i9=0:=(by omega);subst e9;exact hzc)⟩⟩
      refine zam _ (by rfl) zqu _ _ (by rfl) wb.heap.size (.slice AQ k cQ) k vs (by rfl) (zac HJ.out.1.own hBwr2) (zl+1) _ 1 [.slice (some ⟨b,0,none⟩) P P] (by rfl) hso (by simp [Value.oneCell']) (by omega) (Nat.le_trans HJ.out.2.1.size hBwr2.size) ?_
      intro v9 wr3 hown9 hgr9 hat9 hbel9;obtain ⟨A9,c9,hv9,_,_⟩:=(Sl.of_own hown9).form;subst hv9;have HST:=Lib.hid (HJ.out.1.step hBwr2 (Nat.le_trans HJ.out.2.1.size hbz) hbz HRO.out hown9 hgr9);have HBB:Hid (Below wb.heap.size wb wr3):=(HJ.out.2.1.trans (hBwr2.mono HJ.out.2.1.size)).trans hbel9;have hWr3:Below w0.heap.size w0 wr3:=(HJ.out.2.2.trans (hBwr2.mono HJ.out.2.2.size)).trans (hbel9.mono (Nat.le_trans HH0.out.2.2.2 HH0.out.2.2.1))
      have y1:wr3.cell? ⟨A,13,none⟩=some (.slice AQ k cQ):=by
       have hr2:=World.rowIs.of_block HJ.out.1.cells (hBwr2.block _ hAw)
       exact World.rowIs.cell (World.rowIs.of_block hr2 (hgr9.block _ hr2.lt (fun e=>zad hr2 (zac HJ.out.1.own hBwr2) (by decide) e.symm))) (by omega)
      have y2:wr3.frozen? ⟨A,13,none⟩=false:=by
       have hr2:=World.rowIs.of_block HJ.out.1.cells (hBwr2.block _ hAw)
       exact World.rowIs.frozen (World.rowIs.of_block hr2 (hgr9.block _ hr2.lt (fun e=>zad hr2 (zac HJ.out.1.own hBwr2) (by decide) e.symm))) _
      clear hown9 hgr9 hat9 hbel9 hzc hso
      refine hK.out _ _ ?_ (fun hHeld=>?_)
      ·(try dsimp only)
       exact (HBOX.out _ hWr3).1
      clear hK K;refine tk 10 ?_;refine tk 11 ?_
      refine wpAnyH_ready (rs:=[12]) (by kernel_rfl) (by simp) ?_
      refine ac1 rfl fun K hK=>?_
      go_simp
      refine hK.out _ _ ?_ (fun hHeld=>?_)
      ·(try dsimp only)
       exact ((But.set _ _).cell (show w.heap.size<wr3.heap.size by have:=hWr3.size;have:=HWW.out;omega) (show w.heap.size≠A by have:=HAb.out;have:=HH0.out;have:=HWW.out;omega)).trans (HBOX.out _ hWr3).1
      clear hK K
      (try simp only [Act.put,sqA,sqB,sqC])
      refine dnR ?_
      have HFB:Hid (Below wb.heap.size wb (wr3.setCell ⟨A,13,none⟩ (.slice A9 (k+1) c9))/\Below w0.heap.size w0 (wr3.setCell ⟨A,13,none⟩ (.slice A9 (k+1) c9))):=⟨HBB.out.setCell HAb.out _,hWr3.setCell (show w0.heap.size<=A by have:=HAb.out;have:=HH0.out;omega) _⟩
      clear hHeld y1 y2 hWr3
      go_wp2
      go_roundw
      case rel=>exact ⟨k+1,_,_,_,_,_,rfl,by omega,by go_num,Lib.hid ⟨HST.out,HFB.out.1,HFB.out.2⟩⟩
      case measure=>simp [intOf];omega
   ·have d1:decide (k<P)=false:=decide_eq_false hlt
    obtain rfl:k=P:=by omega
    obtain ⟨Qb,cQ,F,hQV,hcq,hqb,hrow,hF⟩:=zeq HJ.out.1.own (by omega)
    subst hQV
    have hFG:∀ i,i<k->F i=G i:=fun i hi=>by
     have h1:=hF i hi;rw [HJ.out.1.vsG i hi] at h1
     injection h1 with h1
     exact h1.symm
    have hqn:zjd wr wb.heap.size k k R F:=fun i hi=>by
     obtain ⟨h1,h2,h3,h4⟩:=HJ.out.1.row i hi
     exact ⟨h1,(hFG i hi).trans h2,h3,h4⟩
    have hL0:w.heap.size<=w0.heap.size:=HB0.out.size
    have hmd:RfAt wr w.heap.size A S1 Qb cQ (plF k (.slice Ar nr cr) (.slice Av nv cv) S B n t r nm sh) (.slice Au nv cu) (.pointer (some ⟨bp,0,none⟩)) k r nv lv (fun _=>(0,0)) F:=⟨by have:=HAb.out;have:=HH0.out;omega,HLS.out,by have:=HH0.out;omega,hcq,rfl,rfl,HJ.out.1.cells,rowH.of HJ.out.1.stands,zas HJ.out.1.vlans hL0,hrow,(by (show k<=k/\k<=maxLen;unfold maxLen;omega)),⟨Ar,nr,cr,Av,nv,cv,_,_,_,_,_,_,rfl,rfl,rfl,rfl,rfl,rfl,rfl,rfl⟩⟩
    have HF:=Lib.hid (RfAll.of_parts hmd hqn HK.out HJ.out.2.1 (by have:=HH0.out;omega) HH0.out.2.2.1 HH0.out.1 HH0.out.2.1 (.inr HAb.out) HS1c.out (.inr hqb) (fun z hz=>.inl (HUL.out z hz)))
    have HBF:=Lib.hid (HB0.out.trans (HJ.out.2.2.mono HB0.out.size));clear hmd hqn hrow hF hFG
    go_wp2
    go_ret
    exact ⟨A,S1,Qb,cQ,_,bp,bq,_,R,F,by first|rfl|(simp;done),HF.out,HBF.out⟩
end Go.Proofs.YtfekhdgjgjodlaaGreat
