/-
  Words and contracts that a statement's proof rests on (MoT). No statement is proved here.
-/
import Derived.Deep.DeepCutAuto
import Derived.Deep.OwnRows
import Derived.Test.YtfekhdgjgjodlaaGreatKeyA
import Derived.Test.YtfekhdgjgjodlaaGreatBkD
import Derived.Test.YtfekhdgjgjodlaaGreatBkE
import Derived.Test.YtfekhdgjgjodlaaGreatSrC
set_option linter.unusedVariables false
set_option linter.unusedSimpArgs false
namespace Go.Proofs.YtfekhdgjgjodlaaGreat
open Go.RowKit
theorem zbd (w:World) (cs:Array Value) (t:TypeId):(w.alloc (.cells cs t)).heap[w.heap.size]?=some (.cells cs t):=heap_alloc_new w _
theorem tgt_on {W:World} {g:Nat} {cs:Array Value} {t:TypeId} (h:W.heap[g]?=some (.cells cs t)) (i:Nat) (v:Value) (hv:cs[i]?=some v):W.cell? ⟨g,i,none⟩=some v:=by
 simp [World.cell?,h,hv]
theorem zly {W:World} {g:Nat} {cs:Array Value} {t:TypeId} (h:W.heap[g]?=some (.cells cs t)) (i:Nat):W.frozen? ⟨g,i,none⟩=false:=by
 simp [World.frozen?,h]
theorem zb6 {W:World} {g:Nat} {cs:Array Value} {t:TypeId} (h:W.heap[g]?=some (.cells cs t)):W.there g 0 cs.size:=by
 intro j hj;rw [Nat.zero_add]
 refine ⟨?_,zly h j⟩
 rw [tgt_on h j _ (Array.getElem?_eq_getElem hj)]
 rfl
theorem za2 {w w':World} {b n:Nat} (h:w.there b 0 n) (hb:Below w.heap.size w w') (hl:b<w.heap.size):w'.there b 0 n:=fun j hj=>by
 obtain ⟨h1,h2⟩:=h j hj
 exact ⟨by rw [hb.cell (by exact hl)];exact h1,(hb.frozen (by exact hl)).trans h2⟩
def zdn (P:Int) (vr vv:Value) (S B n t r nm sh:Int):Nat->Value
 |0=>.int .i64 P|1=>vr|2=>vv|3=>.int .i64 S|4=>.int .i64 B|5=>.int .i64 n|6=>.int .i64 t|7=>.int .i64 r|8=>.int .u32 nm|_=>.int .u32 sh
def za7 (w:World) (b:Nat) (f:Nat->Value):Prop:=b<w.heap.size/\∀ i,i<10->w.cell? ⟨b,i,none⟩=some (f i)/\w.frozen? ⟨b,i,none⟩=false
theorem za7.of {X wz:World} {b:Nat} {P S B n t r nm sh:Int} {vr vv:Value} (hst:Stored X b 0 [.int .i64 P,vr,vv,.int .i64 S,.int .i64 B,.int .i64 n,.int .i64 t,.int .i64 r,.int .u32 nm,.int .u32 sh] wz) (ht:X.there b 0 10) (hl:b<X.heap.size):za7 wz b (zdn P vr vv S B n t r nm sh):=by
 refine ⟨by rw [hst.size];exact hl,fun i hi=>⟨?_,?_⟩⟩
 ·have key:∀ j v,[Value.int .i64 P,vr,vv,.int .i64 S,.int .i64 B,.int .i64 n,.int .i64 t,.int .i64 r,.int .u32 nm,.int .u32 sh][j]?=some v->wz.cell? ⟨b,j,none⟩=some v:=fun j v h=>by
   have:=hst.cells j v h
   rw [Nat.zero_add] at this
   exact this
  match i,hi with
  |0,_=>exact key 0 _ rfl
  |1,_=>exact key 1 _ rfl
  |2,_=>exact key 2 _ rfl
  |3,_=>exact key 3 _ rfl
  |4,_=>exact key 4 _ rfl
  |5,_=>exact key 5 _ rfl
  |6,_=>exact key 6 _ rfl
  |7,_=>exact key 7 _ rfl
  |8,_=>exact key 8 _ rfl
  |9,_=>exact key 9 _ rfl
 ·rw [hst.marks]
  have:=(ht i hi).2
  rw [Nat.zero_add] at this
  exact this
theorem zcb {X X':World} {base size n:Nat} {e:TypeId} {v:Value} {xs:List Value} (h:X.ownsRow base e size v n xs) (hk:∀ g,v.ownBlock=some g->X'.heap[g]?=X.heap[g]?):X'.ownsRow base e size v n xs:=by
 refine ⟨h.1,?_⟩
 rcases h.2 with hn|⟨g,cap,cur,hv,hg,hh,r⟩
 ·exact .inl hn
 ·refine .inr ⟨g,cap,cur,hv,hg,(hk g ?_).trans hh,r⟩
  rw [hv]
  rfl
theorem zqa:ST Tryz.prog 37 101 (.agg #[.int .i64 0,.int .i64 0]) 2 16:=ST.mk Tryz.underlying37 (by kernel_rfl) rfl (by omega) (by omega)
theorem rlc_snoc (l:List Rl) (k:Nat) (h:k<l.length):rlc (l.take (k+1))=rlc (l.take k) ++ [.int .i64 (l.getD k rl0).pv,.int .i64 (l.getD k rl0).ac]:=by
 rw [List.take_add_one,List.getElem?_eq_getElem h,ze0,List.getD_eq_getElem?_getD,List.getElem?_eq_getElem h]
 rfl
theorem za7.set1 {w:World} {b:Nat} {P S B n t r nm sh:Int} {vr vr' vv:Value} (h:za7 w b (zdn P vr vv S B n t r nm sh)):za7 (w.setCell ⟨b,1,none⟩ vr') b (zdn P vr' vv S B n t r nm sh):=by
 refine ⟨by rw [World.size_setCell];exact h.1,fun i hi=>⟨?_,?_⟩⟩
 ·by_cases e:i=1
  ·subst e
   exact World.cell?_setCell_same _ _ _ (h.2 1 (by omega)).1
  ·rw [World.cell?_setCell_other _ _ _ _ (by intro e2;injection e2 with e3 e4;omega)]
   rw [(h.2 i hi).1]
   match i,hi,e with
   |0,_,_=>rfl
   |2,_,_=>rfl
   |3,_,_=>rfl
   |4,_,_=>rfl
   |5,_,_=>rfl
   |6,_,_=>rfl
   |7,_,_=>rfl
   |8,_,_=>rfl
   |9,_,_=>rfl
 ·rw [World.frozen?_setCell]
  exact (h.2 i hi).2
theorem za7.keep {w w':World} {b B:Nat} {f:Nat->Value} (h:za7 w b f) (hb:Below B w w') (hB:b<B):za7 w' b f :=
 ⟨Nat.lt_of_lt_of_le h.1 hb.size,fun i hi=>⟨(hb.cell (p:=⟨b,i,none⟩) hB).trans (h.2 i hi).1,(hb.frozen (p:=⟨b,i,none⟩) hB).trans (h.2 i hi).2⟩⟩
theorem za1 {X wz:World} {b base size n:Nat} {e:TypeId} {v:Value} {xs vs:List Value} (h:X.ownsRow base e size v n xs) (hst:Stored X b 0 vs wz) (hne:v.ownBlock≠some b):wz.ownsRow base e size v n xs:=by
 refine ⟨h.1,?_⟩
 rcases h.2 with hn|⟨g,cap,cur,hv,hg,hh,r⟩
 ·exact .inl hn
 ·refine .inr ⟨g,cap,cur,hv,hg,(hst.far g (fun e=>hne ?_)).trans hh,r⟩
  rw [hv,e]
  rfl
set_option maxRecDepth 20000 in
set_option maxHeartbeats 3200000 in
theorem zlt {w:World} {Bo nr nv:Nat} {vr vv:Value} {lr:List Rl} {lv:List Vl} (hr:Sl w Bo 2 vr nr (rlc lr)) (hv:Sl w Bo 3 vv nv (vlc lv)) (hB:Bo<=w.heap.size) (hnv:nv<=20) (hnr:nr<=1000) (P S B n t r nm sh:Int) :
  Calls Tryz.prog 10 #[zbb P vr vv S B n t r nm sh] w fun e w'=>∃ ur uv,e=.returned (zbb P ur uv S B n t r nm sh)/\w'.ownsRow w.heap.size 101 2 ur nr (rlc lr)/\w'.ownsRow w.heap.size 135 3 uv nv (vlc lv)/\Below w.heap.size w w':=by
 obtain ⟨Ar,cr,rfl,hcr,hcm⟩:=hr.form;obtain ⟨Av,cv,rfl,hcv,hcw⟩:=hv.form;unfold maxLen at hcm hcw
 have H3:=Lib.hid fun w' (hb:Below w.heap.size w w')=>law3_To hnv (hv.below (hb.mono hB)) (Nat.le_trans hB hb.size)
 have H11:=Lib.hid fun W=>law11_To S B n W
 have HR:=Lib.hid hr;clear hr hv;unfold zbb
 have HBOX:Hid (∀ w',Below (w.heap.size+2) ((w.alloc (.cells #[.int .i64 P,.slice Ar nr cr,.slice Av nv cv,.int .i64 S,.int .i64 B,.int .i64 n,.int .i64 t,.int .i64 r,.int .u32 nm,.int .u32 sh] 28)).alloc (.cells #[.int .i64 0,.slice none 0 0,.slice none 0 0,.int .i64 0,.int .i64 0,.int .i64 0,.int .i64 0,.int .i64 0,.int .u32 0,.int .u32 0] 41)) w'->w'.cell? ⟨w.heap.size,0,none⟩=some (.int .i64 P)/\w'.cell? ⟨w.heap.size,1,none⟩=some (.slice Ar nr cr)/\w'.cell? ⟨w.heap.size,2,none⟩=some (.slice Av nv cv)/\w'.cell? ⟨w.heap.size,3,none⟩=some (.int .i64 S)/\w'.cell? ⟨w.heap.size,4,none⟩=some (.int .i64 B)/\w'.cell? ⟨w.heap.size,5,none⟩=some (.int .i64 n)/\w'.cell? ⟨w.heap.size,6,none⟩=some (.int .i64 t)/\w'.cell? ⟨w.heap.size,7,none⟩=some (.int .i64 r)/\w'.cell? ⟨w.heap.size,8,none⟩=some (.int .u32 nm)/\w'.cell? ⟨w.heap.size,9,none⟩=some (.int .u32 sh)):=fun w' hb=>by
  refine ⟨?_,?_,?_,?_,?_,?_,?_,?_,?_,?_⟩ <;>
  ·rw [hb.cell (by show w.heap.size<_;omega)]
   simp [go_sem]
 have HRES:Hid (∀ w',Below (w.heap.size+2) ((w.alloc (.cells #[.int .i64 P,.slice Ar nr cr,.slice Av nv cv,.int .i64 S,.int .i64 B,.int .i64 n,.int .i64 t,.int .i64 r,.int .u32 nm,.int .u32 sh] 28)).alloc (.cells #[.int .i64 0,.slice none 0 0,.slice none 0 0,.int .i64 0,.int .i64 0,.int .i64 0,.int .i64 0,.int .i64 0,.int .u32 0,.int .u32 0] 41)) w'->w'.cell? ⟨w.heap.size+1,0,none⟩=some (.int .i64 0)/\w'.cell? ⟨w.heap.size+1,1,none⟩=some (.slice none 0 0)/\w'.cell? ⟨w.heap.size+1,2,none⟩=some (.slice none 0 0)/\w'.cell? ⟨w.heap.size+1,3,none⟩=some (.int .i64 0)/\w'.cell? ⟨w.heap.size+1,4,none⟩=some (.int .i64 0)/\w'.cell? ⟨w.heap.size+1,5,none⟩=some (.int .i64 0)/\w'.cell? ⟨w.heap.size+1,6,none⟩=some (.int .i64 0)/\w'.cell? ⟨w.heap.size+1,7,none⟩=some (.int .i64 0)/\w'.cell? ⟨w.heap.size+1,8,none⟩=some (.int .u32 0)/\w'.cell? ⟨w.heap.size+1,9,none⟩=some (.int .u32 0)/\∀ o,w'.frozen? ⟨w.heap.size+1,o,none⟩=false):=fun w' hb=>by
  refine ⟨?_,?_,?_,?_,?_,?_,?_,?_,?_,?_,fun o=>?_⟩
  all_goals first
   |(rw [hb.cell (by show w.heap.size+1<_;omega)];simp [go_sem];done)
   |(rw [hb.frozen (p:=⟨w.heap.size+1,o,none⟩) (by show w.heap.size+1<_;omega)];simp [go_sem];done)
 have HLOW:Hid (∀ w',Below (w.heap.size+2) ((w.alloc (.cells #[.int .i64 P,.slice Ar nr cr,.slice Av nv cv,.int .i64 S,.int .i64 B,.int .i64 n,.int .i64 t,.int .i64 r,.int .u32 nm,.int .u32 sh] 28)).alloc (.cells #[.int .i64 0,.slice none 0 0,.slice none 0 0,.int .i64 0,.int .i64 0,.int .i64 0,.int .i64 0,.int .i64 0,.int .u32 0,.int .u32 0] 41)) w'->Below w.heap.size w w'):=fun w' hb=>(((Below.refl w.heap.size w).alloc (Nat.le_refl _) _).alloc (by simp) _).trans (hb.mono (by omega))
 have HSZ:Hid (∀ w',Below (w.heap.size+2) ((w.alloc (.cells #[.int .i64 P,.slice Ar nr cr,.slice Av nv cv,.int .i64 S,.int .i64 B,.int .i64 n,.int .i64 t,.int .i64 r,.int .u32 nm,.int .u32 sh] 28)).alloc (.cells #[.int .i64 0,.slice none 0 0,.slice none 0 0,.int .i64 0,.int .i64 0,.int .i64 0,.int .i64 0,.int .i64 0,.int .u32 0,.int .u32 0] 41)) w'->w.heap.size+2<=w'.heap.size):=fun w' hb=>by have:=hb.size;simp at this;omega
 have hq:Below (w.heap.size+2) ((w.alloc (.cells #[.int .i64 P,.slice Ar nr cr,.slice Av nv cv,.int .i64 S,.int .i64 B,.int .i64 n,.int .i64 t,.int .i64 r,.int .u32 nm,.int .u32 sh] 28)).alloc (.cells #[.int .i64 0,.slice none 0 0,.slice none 0 0,.int .i64 0,.int .i64 0,.int .i64 0,.int .i64 0,.int .i64 0,.int .u32 0,.int .u32 0] 41)) ((w.alloc (.cells #[.int .i64 P,.slice Ar nr cr,.slice Av nv cv,.int .i64 S,.int .i64 B,.int .i64 n,.int .i64 t,.int .i64 r,.int .u32 nm,.int .u32 sh] 28)).alloc (.cells #[.int .i64 0,.slice none 0 0,.slice none 0 0,.int .i64 0,.int .i64 0,.int .i64 0,.int .i64 0,.int .i64 0,.int .u32 0,.int .u32 0] 41)):=Below.refl _ _
 go_enter Tryz.func10,Tryz.ntmps10
 go_upto_region 1 with fail
 go_cut [3] (fun p3 wx=>∃ (ob:Nat) (uv:Value),p3=.pointer (some ⟨ob,0,none⟩)/\Hid (za7 wx ob (zdn P (.slice none 0 0) uv S B n t r nm sh)/\w.heap.size+2<=ob/\wx.ownsRow (w.heap.size+2) 135 3 uv nv (vlc lv)/\uv.ownBlock≠some ob/\Below (w.heap.size+2) ((w.alloc (.cells #[.int .i64 P,.slice Ar nr cr,.slice Av nv cv,.int .i64 S,.int .i64 B,.int .i64 n,.int .i64 t,.int .i64 r,.int .u32 nm,.int .u32 sh] 28)).alloc (.cells #[.int .i64 0,.slice none 0 0,.slice none 0 0,.int .i64 0,.int .i64 0,.int .i64 0,.int .i64 0,.int .i64 0,.int .u32 0,.int .u32 0] 41)) wx))
 case first =>
  refine wp_region_held_drew (S:=fun w'=>w'.cell? ⟨w.heap.size,0,none⟩=some (.int .i64 P)/\w'.cell? ⟨w.heap.size,1,none⟩=some (.slice Ar nr cr)/\w'.cell? ⟨w.heap.size,2,none⟩=some (.slice Av nv cv)/\w'.cell? ⟨w.heap.size,3,none⟩=some (.int .i64 S)/\w'.cell? ⟨w.heap.size,4,none⟩=some (.int .i64 B)/\w'.cell? ⟨w.heap.size,5,none⟩=some (.int .i64 n)/\w'.cell? ⟨w.heap.size,6,none⟩=some (.int .i64 t)/\w'.cell? ⟨w.heap.size,7,none⟩=some (.int .i64 r)/\w'.cell? ⟨w.heap.size,8,none⟩=some (.int .u32 nm)/\w'.cell? ⟨w.heap.size,9,none⟩=some (.int .u32 sh)) (by kernel_rfl) ?_ (fun hHeld=>?_)
  ·exact HBOX.out _ bq2
  refine tk 0 ?_;refine tk 1 ?_;refine tk 2 ?_;refine tk 3 ?_;refine tk 5 ?_;refine tk 6 ?_;refine tk 8 ?_;refine tk 9 ?_;refine tk 10 ?_;refine tk 11 ?_;refine tk 12 ?_;refine tk 13 ?_;refine tk 14 ?_;refine tk 15 ?_
  refine wpAnyH_ready (rs:=[4,17]) (by kernel_rfl) (by simp) ?_
  refine (acR rfl (fun K hK=>?_) (acR rfl (fun K hK=>?_) AllReadyH.nil))
  ·go_simp
   refine Calls.mono (H3.out _ (HLOW.out _ bq2)) ?_
   rintro e wa ⟨uv,rfl,hown,hba⟩;obtain ⟨Au,cu,hue,_,_⟩:=(Sl.of_own hown).form;subst hue;have hqa:Below (w.heap.size+2) ((w.alloc (.cells #[.int .i64 P,.slice Ar nr cr,.slice Av nv cv,.int .i64 S,.int .i64 B,.int .i64 n,.int .i64 t,.int .i64 r,.int .u32 nm,.int .u32 sh] 28)).alloc (.cells #[.int .i64 0,.slice none 0 0,.slice none 0 0,.int .i64 0,.int .i64 0,.int .i64 0,.int .i64 0,.int .i64 0,.int .u32 0,.int .u32 0] 41)) wa:=Below.trans bq2 (hba.mono (HSZ.out _ bq2));have hza:=HSZ.out _ hqa;have HOW:=Lib.hid hown;have HBA:=Lib.hid hba;clear hown hba
   refine hK.out _ _ ?_ (fun hHeld=>?_)
   ·(try dsimp only)
    exact HBOX.out _ bq2
   clear hK K
   (try simp only [Act.put,sqA,sqB,sqC])
   refine wpAnyH_ready (rs:=[7,17]) (by kernel_rfl) (by simp) ?_
   refine (acR rfl (fun K hK=>?_) (acR rfl (fun K hK=>?_) AllReadyH.nil))
   ·go_simp
    refine Calls.mono (H11.out _) ?_
    rintro e wb ⟨rfl,hbb⟩;have hqb:Below (w.heap.size+2) ((w.alloc (.cells #[.int .i64 P,.slice Ar nr cr,.slice Av nv cv,.int .i64 S,.int .i64 B,.int .i64 n,.int .i64 t,.int .i64 r,.int .u32 nm,.int .u32 sh] 28)).alloc (.cells #[.int .i64 0,.slice none 0 0,.slice none 0 0,.int .i64 0,.int .i64 0,.int .i64 0,.int .i64 0,.int .i64 0,.int .u32 0,.int .u32 0] 41)) wb:=Below.trans bq2 (hbb.mono (HSZ.out _ bq2));have hzb:=HSZ.out _ hqb;have HBB:=Lib.hid hbb;clear hbb
    refine hK.out _ _ ?_ (fun hHeld=>?_)
    ·(try dsimp only)
     exact HBOX.out _ bq2
    clear hK K;refine tk 16 ?_
    refine wpAnyH_ready (rs:=[17]) (by kernel_rfl) (by simp) ?_
    refine ac1 rfl fun K hK=>?_
    go_simp
    refine hK.out _ _ ?_ (fun hHeld=>?_)
    ·(try dsimp only)
     exact HBOX.out _ bq2
    clear hK K
    (try simp only [Act.put,sqA,sqB,sqC])
    obtain ⟨ob,hob⟩:∃ o,o=(wb).heap.size:=⟨_,rfl⟩;obtain ⟨wc,hwc⟩:∃ x,x=(wb).alloc (.cells #[.int .i64 0,.slice none 0 0,.slice none 0 0,.int .i64 0,.int .i64 0,.int .i64 0,.int .i64 0,.int .i64 0,.int .u32 0,.int .u32 0] 41):=⟨_,rfl⟩
    have HTH:Hid (wc.there ob 0 10):=by
     rw [hwc,hob]
     exact zb6 (cs:=#[.int .i64 0,.slice none 0 0,.slice none 0 0,.int .i64 0,.int .i64 0,.int .i64 0,.int .i64 0,.int .i64 0,.int .u32 0,.int .u32 0]) (zbd _ _ _)
    have hqc:Below (w.heap.size+2) ((w.alloc (.cells #[.int .i64 P,.slice Ar nr cr,.slice Av nv cv,.int .i64 S,.int .i64 B,.int .i64 n,.int .i64 t,.int .i64 r,.int .u32 nm,.int .u32 sh] 28)).alloc (.cells #[.int .i64 0,.slice none 0 0,.slice none 0 0,.int .i64 0,.int .i64 0,.int .i64 0,.int .i64 0,.int .i64 0,.int .u32 0,.int .u32 0] 41)) wc:=by rw [hwc];exact bq2
    have hzc:=HSZ.out _ hqc
    have hob1:w.heap.size+2<=ob:=by rw [hob];exact HSZ.out _ bq2
    have hob2:ob<wc.heap.size:=by rw [hob,hwc];simp
    rw [<- hwc]
    (try rw [<- hob])
    have HWC:=Lib.hid (And.intro hob hwc)
    have HBC:Hid (Below (wb).heap.size (wb) wc):=by rw [hwc];exact (Below.refl _ _).alloc (Nat.le_refl _) _
    clear hwc hob
    refine wpAnyH_ready (rs:=[18]) (by kernel_rfl) (by simp) ?_
    refine ac1 rfl fun K hK=>?_
    refine zb3 (by rfl) 41 _ _ (by rfl) ob 0 #[.int .i64 P,.slice none 0 0,.slice Au nv cu,.int .i64 S,.int .i64 B,.int .i64 n,.int .i64 t,.int .i64 r,.int .u32 nm,.int .u32 sh] (by rfl) (by rfl) HTH.out (by kernel_rfl) (by simp [Value.oneCell']) ?_
    intro wz hst
    refine hK.out _ _ ?_ (fun hHeld=>?_)
    ·(try dsimp only)
     exact HBOX.out _ (Below.trans bq2 (hst.below _ hob1))
    clear hK K
    (try simp only [Act.put,sqA,sqB,sqC])
    refine dnR ?_
    have HT9:=Lib.hid HTH.out;have ho9:=(zac (zac HOW.out HBB.out) HBC.out)
    have HP9:=za7.of hst HT9.out (by first|omega|(have:=HBA.out.size;omega)|(have:=HBB.out.size;omega)|(have:=HBA.out.size;have:=HBB.out.size;omega))
    have HO9:=zas (za1 ho9 hst (fun e=>by have h1:=(HOW.out.lt _ e).2;have h2:=HWC.out.1;first|omega|(have:=HBB.out.size;omega))) (base':=w.heap.size+2) (by first|omega|(simp;done)|(simp;omega)|(have:=HBB.out.size;omega))
    have HQ9:=hqc.trans (hst.below _ hob1)
    go_wp2
    go_meet
    exact ⟨ob,_,rfl,HP9,hob1,HO9,fun e=>by have h1:=(HOW.out.lt _ e).2;have h2:=HWC.out.1;first|omega|(have:=HBB.out.size;omega),HQ9⟩
   ·go_simp
    refine hK.out _ _ ?_ (fun hHeld=>?_)
    ·(try dsimp only)
     exact HBOX.out _ bq2
    clear hK K
    (try simp only [Act.put,sqA,sqB,sqC])
    obtain ⟨ob,hob⟩:∃ o,o=(wa).heap.size:=⟨_,rfl⟩;obtain ⟨wc,hwc⟩:∃ x,x=(wa).alloc (.cells #[.int .i64 0,.slice none 0 0,.slice none 0 0,.int .i64 0,.int .i64 0,.int .i64 0,.int .i64 0,.int .i64 0,.int .u32 0,.int .u32 0] 41):=⟨_,rfl⟩
    have HTH:Hid (wc.there ob 0 10):=by
     rw [hwc,hob]
     exact zb6 (cs:=#[.int .i64 0,.slice none 0 0,.slice none 0 0,.int .i64 0,.int .i64 0,.int .i64 0,.int .i64 0,.int .i64 0,.int .u32 0,.int .u32 0]) (zbd _ _ _)
    have hqc:Below (w.heap.size+2) ((w.alloc (.cells #[.int .i64 P,.slice Ar nr cr,.slice Av nv cv,.int .i64 S,.int .i64 B,.int .i64 n,.int .i64 t,.int .i64 r,.int .u32 nm,.int .u32 sh] 28)).alloc (.cells #[.int .i64 0,.slice none 0 0,.slice none 0 0,.int .i64 0,.int .i64 0,.int .i64 0,.int .i64 0,.int .i64 0,.int .u32 0,.int .u32 0] 41)) wc:=by rw [hwc];exact bq2
    have hzc:=HSZ.out _ hqc
    have hob1:w.heap.size+2<=ob:=by rw [hob];exact HSZ.out _ bq2
    have hob2:ob<wc.heap.size:=by rw [hob,hwc];simp
    rw [<- hwc]
    (try rw [<- hob])
    have HWC:=Lib.hid (And.intro hob hwc)
    have HBC:Hid (Below (wa).heap.size (wa) wc):=by rw [hwc];exact (Below.refl _ _).alloc (Nat.le_refl _) _
    clear hwc hob
    refine wpAnyH_ready (rs:=[7]) (by kernel_rfl) (by simp) ?_
    refine ac1 rfl fun K hK=>?_
    go_simp
    refine Calls.mono (H11.out _) ?_
    rintro e wb ⟨rfl,hbb⟩;have hqb:Below (w.heap.size+2) ((w.alloc (.cells #[.int .i64 P,.slice Ar nr cr,.slice Av nv cv,.int .i64 S,.int .i64 B,.int .i64 n,.int .i64 t,.int .i64 r,.int .u32 nm,.int .u32 sh] 28)).alloc (.cells #[.int .i64 0,.slice none 0 0,.slice none 0 0,.int .i64 0,.int .i64 0,.int .i64 0,.int .i64 0,.int .i64 0,.int .u32 0,.int .u32 0] 41)) wb:=Below.trans bq2 (hbb.mono (HSZ.out _ bq2));have hzb:=HSZ.out _ hqb;have HBB:=Lib.hid hbb;clear hbb
    refine hK.out _ _ ?_ (fun hHeld=>?_)
    ·(try dsimp only)
     exact HBOX.out _ bq2
    clear hK K;refine tk 16 ?_
    refine wpAnyH_ready (rs:=[18]) (by kernel_rfl) (by simp) ?_
    refine ac1 rfl fun K hK=>?_
    refine zb3 (by rfl) 41 _ _ (by rfl) ob 0 #[.int .i64 P,.slice none 0 0,.slice Au nv cu,.int .i64 S,.int .i64 B,.int .i64 n,.int .i64 t,.int .i64 r,.int .u32 nm,.int .u32 sh] (by rfl) (by rfl) (za2 HTH.out HBB.out (by first|omega|(have:=HBA.out.size;omega)|(have:=HBB.out.size;omega))) (by kernel_rfl) (by simp [Value.oneCell']) ?_
    intro wz hst
    refine hK.out _ _ ?_ (fun hHeld=>?_)
    ·(try dsimp only)
     exact HBOX.out _ (Below.trans bq2 (hst.below _ hob1))
    clear hK K
    (try simp only [Act.put,sqA,sqB,sqC])
    refine dnR ?_
    have HT9:=Lib.hid (za2 HTH.out HBB.out (by first|omega|(have:=HBA.out.size;omega)|(have:=HBB.out.size;omega)))
    have ho9:=(zac (zac HOW.out HBC.out) HBB.out)
    have HP9:=za7.of hst HT9.out (by first|omega|(have:=HBA.out.size;omega)|(have:=HBB.out.size;omega)|(have:=HBA.out.size;have:=HBB.out.size;omega))
    have HO9:=zas (za1 ho9 hst (fun e=>by have h1:=(HOW.out.lt _ e).2;have h2:=HWC.out.1;first|omega|(have:=HBB.out.size;omega))) (base':=w.heap.size+2) (by first|omega|(simp;done)|(simp;omega)|(have:=HBB.out.size;omega))
    have HQ9:=hqb.trans (hst.below _ hob1)
    go_wp2
    go_meet
    exact ⟨ob,_,rfl,HP9,hob1,HO9,fun e=>by have h1:=(HOW.out.lt _ e).2;have h2:=HWC.out.1;first|omega|(have:=HBB.out.size;omega),HQ9⟩
  ·go_simp
   refine hK.out _ _ ?_ (fun hHeld=>?_)
   ·(try dsimp only)
    exact HBOX.out _ bq2
   clear hK K
   (try simp only [Act.put,sqA,sqB,sqC])
   obtain ⟨ob,hob⟩:∃ o,o=w.heap.size+1+1:=⟨_,rfl⟩
   have hob':ob=(((w.alloc (.cells #[.int .i64 P,.slice Ar nr cr,.slice Av nv cv,.int .i64 S,.int .i64 B,.int .i64 n,.int .i64 t,.int .i64 r,.int .u32 nm,.int .u32 sh] 28)).alloc (.cells #[.int .i64 0,.slice none 0 0,.slice none 0 0,.int .i64 0,.int .i64 0,.int .i64 0,.int .i64 0,.int .i64 0,.int .u32 0,.int .u32 0] 41))).heap.size:=by rw [hob];simp
   obtain ⟨wc,hwc⟩:∃ x,x=((((w.alloc (.cells #[.int .i64 P,.slice Ar nr cr,.slice Av nv cv,.int .i64 S,.int .i64 B,.int .i64 n,.int .i64 t,.int .i64 r,.int .u32 nm,.int .u32 sh] 28)).alloc (.cells #[.int .i64 0,.slice none 0 0,.slice none 0 0,.int .i64 0,.int .i64 0,.int .i64 0,.int .i64 0,.int .i64 0,.int .u32 0,.int .u32 0] 41))).alloc (.cells #[.int .i64 0,.slice none 0 0,.slice none 0 0,.int .i64 0,.int .i64 0,.int .i64 0,.int .i64 0,.int .i64 0,.int .u32 0,.int .u32 0] 41)).drew:=⟨_,rfl⟩
   have HTH:Hid (wc.there ob 0 10):=by
    rw [hwc,World.there_drew,hob']
    exact zb6 (cs:=#[.int .i64 0,.slice none 0 0,.slice none 0 0,.int .i64 0,.int .i64 0,.int .i64 0,.int .i64 0,.int .i64 0,.int .u32 0,.int .u32 0]) (zbd _ _ _)
   have hqc:Below (w.heap.size+2) ((w.alloc (.cells #[.int .i64 P,.slice Ar nr cr,.slice Av nv cv,.int .i64 S,.int .i64 B,.int .i64 n,.int .i64 t,.int .i64 r,.int .u32 nm,.int .u32 sh] 28)).alloc (.cells #[.int .i64 0,.slice none 0 0,.slice none 0 0,.int .i64 0,.int .i64 0,.int .i64 0,.int .i64 0,.int .i64 0,.int .u32 0,.int .u32 0] 41)) wc:=by rw [hwc];exact bq2
   have hzc:=HSZ.out _ hqc
   have hob1:w.heap.size+2<=ob:=by omega
   have hob2:ob<wc.heap.size:=by rw [hob,hwc];simp
   rw [<- hwc,<- hob];clear hwc hob hob'
   refine wpAnyH_ready (rs:=[4]) (by kernel_rfl) (by simp) ?_
   refine ac1 rfl fun K hK=>?_
   go_simp
   refine Calls.mono (H3.out _ (HLOW.out _ bq2)) ?_
   rintro e wa ⟨uv,rfl,hown,hba⟩;obtain ⟨Au,cu,hue,_,_⟩:=(Sl.of_own hown).form;subst hue;have hqa:Below (w.heap.size+2) ((w.alloc (.cells #[.int .i64 P,.slice Ar nr cr,.slice Av nv cv,.int .i64 S,.int .i64 B,.int .i64 n,.int .i64 t,.int .i64 r,.int .u32 nm,.int .u32 sh] 28)).alloc (.cells #[.int .i64 0,.slice none 0 0,.slice none 0 0,.int .i64 0,.int .i64 0,.int .i64 0,.int .i64 0,.int .i64 0,.int .u32 0,.int .u32 0] 41)) wa:=Below.trans bq2 (hba.mono (HSZ.out _ bq2));have hza:=HSZ.out _ hqa;have HOW:=Lib.hid hown;have HBA:=Lib.hid hba;clear hown hba
   refine hK.out _ _ ?_ (fun hHeld=>?_)
   ·(try dsimp only)
    exact HBOX.out _ bq2
   clear hK K
   (try simp only [Act.put,sqA,sqB,sqC])
   refine wpAnyH_ready (rs:=[7]) (by kernel_rfl) (by simp) ?_
   refine ac1 rfl fun K hK=>?_
   go_simp
   refine Calls.mono (H11.out _) ?_
   rintro e wb ⟨rfl,hbb⟩;have hqb:Below (w.heap.size+2) ((w.alloc (.cells #[.int .i64 P,.slice Ar nr cr,.slice Av nv cv,.int .i64 S,.int .i64 B,.int .i64 n,.int .i64 t,.int .i64 r,.int .u32 nm,.int .u32 sh] 28)).alloc (.cells #[.int .i64 0,.slice none 0 0,.slice none 0 0,.int .i64 0,.int .i64 0,.int .i64 0,.int .i64 0,.int .i64 0,.int .u32 0,.int .u32 0] 41)) wb:=Below.trans bq2 (hbb.mono (HSZ.out _ bq2));have hzb:=HSZ.out _ hqb;have HBB:=Lib.hid hbb;clear hbb
   refine hK.out _ _ ?_ (fun hHeld=>?_)
   ·(try dsimp only)
    exact HBOX.out _ bq2
   clear hK K;refine tk 16 ?_
   refine wpAnyH_ready (rs:=[18]) (by kernel_rfl) (by simp) ?_
   refine ac1 rfl fun K hK=>?_
   refine zb3 (by rfl) 41 _ _ (by rfl) ob 0 #[.int .i64 P,.slice none 0 0,.slice Au nv cu,.int .i64 S,.int .i64 B,.int .i64 n,.int .i64 t,.int .i64 r,.int .u32 nm,.int .u32 sh] (by rfl) (by rfl) (za2 (za2 HTH.out HBA.out (by first|omega|(have:=HBA.out.size;omega)|(have:=HBB.out.size;omega))) HBB.out (by first|omega|(have:=HBA.out.size;omega)|(have:=HBB.out.size;omega))) (by kernel_rfl) (by simp [Value.oneCell']) ?_
   intro wz hst
   refine hK.out _ _ ?_ (fun hHeld=>?_)
   ·(try dsimp only)
    exact HBOX.out _ (Below.trans bq2 (hst.below _ hob1))
   clear hK K
   (try simp only [Act.put,sqA,sqB,sqC])
   refine dnR ?_
   have HT9:=Lib.hid (za2 (za2 HTH.out HBA.out (by first|omega|(have:=HBA.out.size;omega)|(have:=HBB.out.size;omega))) HBB.out (by first|omega|(have:=HBA.out.size;omega)|(have:=HBB.out.size;omega)))
   have ho9:=(zac HOW.out HBB.out)
   have HP9:=za7.of hst HT9.out (by first|omega|(have:=HBA.out.size;omega)|(have:=HBB.out.size;omega)|(have:=HBA.out.size;have:=HBB.out.size;omega))
   have HO9:=zas (za1 ho9 hst (fun e=>by have h1:=(HOW.out.lt _ e).1;first|omega|(have:=HBB.out.size;omega)|(simp at h1;omega))) (base':=w.heap.size+2) (by first|omega|(simp;done)|(simp;omega)|(have:=HBB.out.size;omega))
   have HQ9:=hqb.trans (hst.below _ hob1)
   go_wp2
   go_meet
   exact ⟨ob,_,rfl,HP9,hob1,HO9,fun e=>by have h1:=(HOW.out.lt _ e).1;first|omega|(have:=HBB.out.size;omega)|(simp at h1;omega),HQ9⟩
 case rest =>
  obtain ⟨ob,uv,rfl,HC⟩:=hcut;obtain ⟨Aq,cq,huv,_,_⟩:=(Sl.of_own HC.out.2.2.1).form;subst huv;clear hq H3 H11;have hobl:=HC.out.2.1;have hnull:=HC.out.1
  go_wp2
  go_loopw [4] (fun iv wr=>∃ (k:Nat) (Au:Option Addr) (cu:Nat),iv=.int .i64 k/\k<=nr/\Hid (za7 wr ob (zdn P (.slice Au k cu) (.slice Aq nv cq) S B n t r nm sh)/\wr.ownsRow wc.heap.size 101 2 (.slice Au k cu) k (rlc (lr.take k))/\wr.ownsRow (w.heap.size+2) 135 3 (.slice Aq nv cq) nv (vlc lv)/\Below (w.heap.size+2) ((w.alloc (.cells #[.int .i64 P,.slice Ar nr cr,.slice Av nv cv,.int .i64 S,.int .i64 B,.int .i64 n,.int .i64 t,.int .i64 r,.int .u32 nm,.int .u32 sh] 28)).alloc (.cells #[.int .i64 0,.slice none 0 0,.slice none 0 0,.int .i64 0,.int .i64 0,.int .i64 0,.int .i64 0,.int .i64 0,.int .u32 0,.int .u32 0] 41)) wr/\wc.heap.size<=wr.heap.size)) (fun iv _=>nr - (intOf iv).toNat)
  case atStart=>exact ⟨0,none,0,rfl,by omega,hnull,World.ownsRow_nil _ _ _ _,HC.out.2.2.1,HC.out.2.2.2.2,Nat.le_refl _⟩
  case round =>
   obtain ⟨k,Au,cu,rfl,hk,HI⟩:=hrel;obtain ⟨q0,q1,q2,q3,q4,q5,q6,q7,q8,q9⟩:=HBOX.out _ HI.out.2.2.2.1;have hszr:=HSZ.out _ HI.out.2.2.2.1;have hobc:ob<wc.heap.size:=hnull.1;have hgr:=HI.out.2.2.2.2
   by_cases hlt:k<nr
   ·have d1:decide (k<nr)=true:=by simp;omega
    obtain ⟨b,off,cap',e,hc1,hc2,hb,hlen,hcell⟩:=HR.out.rlAt (by omega)
    cases e
    obtain ⟨c0,c1⟩:=hcell k hlt;have hbl:=HLOW.out _ HI.out.2.2.2.1
    have k0:=(hbl.cell (p:=⟨b,off+k*2,none⟩) (by show b<_;omega)).trans c0
    have k1:=(hbl.cell (p:=⟨b,off+k*2+1,none⟩) (by show b<_;omega)).trans c1
    have HSN:=Lib.hid (rlc_snoc lr k (by omega))
    have ck:=(HI.out.1.2 1 (by omega)).1
    have cf:=(HI.out.1.2 1 (by omega)).2
    have ck:wr.cell? ⟨ob,1,none⟩=some (.slice Au k cu):=ck
    have hbw:b<w.heap.size:=by omega
    clear hcell c0 c1 hbl
    generalize (lr.getD k rl0).pv=P1 at *
    generalize (lr.getD k rl0).ac=P2 at *
    have HOBW:Hid (ob<wr.heap.size):=by show ob<_;omega
    have hal1:∀ w7 o,Below wr.heap.size wr w7->(w7.alloc o).cell? ⟨ob,1,none⟩=some (.slice Au k cu):=fun w7 o hb=>(((hb.alloc hb.size o)).cell (p:=⟨ob,1,none⟩) HOBW.out).trans ck
    have hal2:∀ w7 o,Below wr.heap.size wr w7->(w7.alloc o).frozen? ⟨ob,1,none⟩=false:=fun w7 o hb=>(((hb.alloc hb.size o)).frozen (p:=⟨ob,1,none⟩) HOBW.out).trans cf
    have HK5:Hid (∀ w',Below ob wr w'->w'.cell? ⟨w.heap.size,1,none⟩=some (.slice (some ⟨b,off,none⟩) nr cr)/\w'.cell? ⟨b,off+k*2,none⟩=some (.int .i64 P1)/\w'.cell? ⟨b,off+k*2+1,none⟩=some (.int .i64 P2)):=fun w' hb=>⟨(hb.cell (p:=⟨w.heap.size,1,none⟩) (by show w.heap.size<_;omega)).trans q1,(hb.cell (p:=⟨b,off+k*2,none⟩) (by show b<_;omega)).trans k0,(hb.cell (p:=⟨b,off+k*2+1,none⟩) (by show b<_;omega)).trans k1⟩
    go_wp2_with fail
    refine wp_region_held_drew (S:=fun w'=>w'.cell? ⟨w.heap.size,1,none⟩=some (.slice (some ⟨b,off,none⟩) nr cr)/\w'.cell? ⟨b,off+k*2,none⟩=some (.int .i64 P1)/\w'.cell? ⟨b,off+k*2+1,none⟩=some (.int .i64 P2)) (by kernel_rfl) ?_ (fun hHeld=>?_)
    ·exact HK5.out _ bq3
    refine tk 0 ?_;refine tk 2 ?_;refine tk 3 ?_;refine tk 4 ?_;refine tk 5 ?_;refine tk 6 ?_;refine tk 7 ?_;refine tk 8 ?_;refine tk 9 ?_;refine tk 10 ?_;refine tk 11 ?_;refine tk 12 ?_;refine tk 13 ?_;refine tk 14 ?_
    refine wpAnyH_ready (rs:=[1,15]) (by kernel_rfl) (by simp) ?_
    refine (acR rfl (fun K hK=>?_) (acR rfl (fun K hK=>?_) AllReadyH.nil))
    ·go_simp
     (try (rw [hal1 _ _ bq3];go_simp))
     refine hK.out _ _ ?_ (fun hHeld=>?_)
     ·(try dsimp only)
      exact HK5.out _ bq3
     clear hK K
     (try simp only [Act.put,sqA,sqB,sqC])
     refine wpAnyH_ready (rs:=[15]) (by kernel_rfl) (by simp) ?_
     refine ac1 rfl fun K hK=>?_
     go_simp
     refine hK.out _ _ ?_ (fun hHeld=>?_)
     ·(try dsimp only)
      exact HK5.out _ bq3
     clear hK K
     (try simp only [Act.put,sqA,sqB,sqC])
     refine wpAnyH_ready (rs:=[16]) (by kernel_rfl) (by simp) ?_
     refine ac1 rfl fun K hK=>?_
     refine zam _ (by rfl) zqa _ _ (by rfl) wc.heap.size (.slice Au k cu) k (rlc (lr.take k)) (by rfl) (zac HI.out.2.1 bq3) (wr.heap.size+1) _ 1 [.int .i64 P1,.int .i64 P2] (by rfl) ((Sl.litN wr #[.int .i64 P1,.int .i64 P2] _ 1 2 rfl (by decide)).drew) (by simp [Value.oneCell']) (by omega) (by simp;omega) ?_
     intro v9 w9 hown9 hgr9 hat9 hbel9;obtain ⟨A9,c9,hv9,_,_⟩:=(Sl.of_own hown9).form;subst hv9
     have h9f:w9.frozen? ⟨ob,1,none⟩=false:=(hbel9.frozen (p:=⟨ob,1,none⟩) (by show ob<_;omega)).trans (hal2 _ _ bq3)
     have h9g:=(hbel9.cell (p:=⟨ob,1,none⟩) (by show ob<_;omega)).trans (hal1 _ _ bq3)
     have hb9c:Below wc.heap.size wr w9:=Below.trans bq3 hbel9
     have hb9:Below ob wr w9:=hb9c.mono (by omega)
     have HN9:=Lib.hid hown9;have HB9:=Lib.hid hbel9;clear hown9 hgr9 hat9 hbel9
     refine hK.out _ _ ?_ (fun hHeld=>?_)
     ·(try dsimp only)
      exact HK5.out _ bq3
     clear hK K;refine tk 17 ?_
     refine wpAnyH_ready (rs:=[18]) (by kernel_rfl) (by simp) ?_
     refine ac1 rfl fun K hK=>?_
     go_simp
     refine hK.out _ _ ?_ (fun hHeld=>?_)
     ·(try dsimp only)
      exact HK5.out _ bq3
     clear hK K
     (try simp only [Act.put,sqA,sqB,sqC])
     refine dnR ?_
     obtain ⟨wz,hwz⟩:∃ wz,wz=w9.setCell ⟨ob,1,none⟩ (.slice A9 (k+1) c9):=⟨_,rfl⟩;rw [<- hwz];have hown:=HC.out.2.2.1
     have HZ:Hid (za7 wz ob (zdn P (.slice A9 (k+1) c9) (.slice Aq nv cq) S B n t r nm sh)/\wz.ownsRow wc.heap.size 101 2 (.slice A9 (k+1) c9) (k+1) (rlc (lr.take (k+1)))/\wz.ownsRow (w.heap.size+2) 135 3 (.slice Aq nv cq) nv (vlc lv)/\Below (w.heap.size+2) ((w.alloc (.cells #[.int .i64 P,.slice (some ⟨b,off,none⟩) nr cr,.slice Av nv cv,.int .i64 S,.int .i64 B,.int .i64 n,.int .i64 t,.int .i64 r,.int .u32 nm,.int .u32 sh] 28)).alloc (.cells #[.int .i64 0,.slice none 0 0,.slice none 0 0,.int .i64 0,.int .i64 0,.int .i64 0,.int .i64 0,.int .i64 0,.int .u32 0,.int .u32 0] 41)) wz/\wc.heap.size<=wz.heap.size):=by
      refine ⟨?_,?_,?_,?_,?_⟩
      ·rw [hwz];exact (HI.out.1.keep hb9c hobc).set1
      ·rw [hwz,HSN.out];exact zcb HN9.out (fun g e=>zab _ _ _ (by have:=(HN9.out.lt g e).1;show g≠ob;omega))
      ·rw [hwz]
       refine zcb (zcb HI.out.2.2.1 (fun g e=>hb9c.block g (hown.lt g e).2)) (fun g e=>zab _ _ _ (fun e2=>?_))
       exact HC.out.2.2.2.1 (by rw [e,e2])
      ·rw [hwz];exact (HI.out.2.2.2.1.trans (hb9c.mono (by omega))).setCell (p:=⟨ob,1,none⟩) hobl _
      ·rw [hwz,World.size_setCell];have:=hb9c.size;omega
     clear hwz hHeld HN9 HB9 hb9 hb9c h9g h9f hown ck cf hal1 hal2 HK5 k0 k1 q0 q1 q2 q3 q4 q5 q6 q7 q8 q9
     go_wp2
     go_roundw
     case rel=>exact ⟨k+1,A9,c9,by go_num,by omega,HZ.out⟩
     case measure=>simp [intOf];omega
    ·go_simp
     refine hK.out _ _ ?_ (fun hHeld=>?_)
     ·(try dsimp only)
      exact HK5.out _ bq3
     clear hK K
     (try simp only [Act.put,sqA,sqB,sqC])
     refine wpAnyH_ready (rs:=[1]) (by kernel_rfl) (by simp) ?_
     refine ac1 rfl fun K hK=>?_
     go_simp
     (try (rw [hal1 _ _ bq3];go_simp))
     refine hK.out _ _ ?_ (fun hHeld=>?_)
     ·(try dsimp only)
      exact HK5.out _ bq3
     clear hK K
     (try simp only [Act.put,sqA,sqB,sqC])
     refine wpAnyH_ready (rs:=[16]) (by kernel_rfl) (by simp) ?_
     refine ac1 rfl fun K hK=>?_
     refine zam _ (by rfl) zqa _ _ (by rfl) wc.heap.size (.slice Au k cu) k (rlc (lr.take k)) (by rfl) (zac HI.out.2.1 bq3) (wr.heap.size+1) _ 1 [.int .i64 P1,.int .i64 P2] (by rfl) ((Sl.litN wr #[.int .i64 P1,.int .i64 P2] _ 1 2 rfl (by decide)).drew) (by simp [Value.oneCell']) (by omega) (by simp;omega) ?_
     intro v9 w9 hown9 hgr9 hat9 hbel9;obtain ⟨A9,c9,hv9,_,_⟩:=(Sl.of_own hown9).form;subst hv9
     have h9f:w9.frozen? ⟨ob,1,none⟩=false:=(hbel9.frozen (p:=⟨ob,1,none⟩) (by show ob<_;omega)).trans (hal2 _ _ bq3)
     have h9g:=(hbel9.cell (p:=⟨ob,1,none⟩) (by show ob<_;omega)).trans (hal1 _ _ bq3)
     have hb9c:Below wc.heap.size wr w9:=Below.trans bq3 hbel9
     have hb9:Below ob wr w9:=hb9c.mono (by omega)
     have HN9:=Lib.hid hown9;have HB9:=Lib.hid hbel9;clear hown9 hgr9 hat9 hbel9
     refine hK.out _ _ ?_ (fun hHeld=>?_)
     ·(try dsimp only)
      exact HK5.out _ bq3
     clear hK K;refine tk 17 ?_
     refine wpAnyH_ready (rs:=[18]) (by kernel_rfl) (by simp) ?_
     refine ac1 rfl fun K hK=>?_
     go_simp
     refine hK.out _ _ ?_ (fun hHeld=>?_)
     ·(try dsimp only)
      exact HK5.out _ bq3
     clear hK K
     (try simp only [Act.put,sqA,sqB,sqC])
     refine dnR ?_
     obtain ⟨wz,hwz⟩:∃ wz,wz=w9.setCell ⟨ob,1,none⟩ (.slice A9 (k+1) c9):=⟨_,rfl⟩;rw [<- hwz];have hown:=HC.out.2.2.1
     have HZ:Hid (za7 wz ob (zdn P (.slice A9 (k+1) c9) (.slice Aq nv cq) S B n t r nm sh)/\wz.ownsRow wc.heap.size 101 2 (.slice A9 (k+1) c9) (k+1) (rlc (lr.take (k+1)))/\wz.ownsRow (w.heap.size+2) 135 3 (.slice Aq nv cq) nv (vlc lv)/\Below (w.heap.size+2) ((w.alloc (.cells #[.int .i64 P,.slice (some ⟨b,off,none⟩) nr cr,.slice Av nv cv,.int .i64 S,.int .i64 B,.int .i64 n,.int .i64 t,.int .i64 r,.int .u32 nm,.int .u32 sh] 28)).alloc (.cells #[.int .i64 0,.slice none 0 0,.slice none 0 0,.int .i64 0,.int .i64 0,.int .i64 0,.int .i64 0,.int .i64 0,.int .u32 0,.int .u32 0] 41)) wz/\wc.heap.size<=wz.heap.size):=by
      refine ⟨?_,?_,?_,?_,?_⟩
      ·rw [hwz];exact (HI.out.1.keep hb9c hobc).set1
      ·rw [hwz,HSN.out];exact zcb HN9.out (fun g e=>zab _ _ _ (by have:=(HN9.out.lt g e).1;show g≠ob;omega))
      ·rw [hwz]
       refine zcb (zcb HI.out.2.2.1 (fun g e=>hb9c.block g (hown.lt g e).2)) (fun g e=>zab _ _ _ (fun e2=>?_))
       exact HC.out.2.2.2.1 (by rw [e,e2])
      ·rw [hwz];exact (HI.out.2.2.2.1.trans (hb9c.mono (by omega))).setCell (p:=⟨ob,1,none⟩) hobl _
      ·rw [hwz,World.size_setCell];have:=hb9c.size;omega
     clear hwz hHeld HN9 HB9 hb9 hb9c h9g h9f hown ck cf hal1 hal2 HK5 k0 k1 q0 q1 q2 q3 q4 q5 q6 q7 q8 q9
     go_wp2
     go_roundw
     case rel=>exact ⟨k+1,A9,c9,by go_num,by omega,HZ.out⟩
     case measure=>simp [intOf];omega
   ·have d1:decide (k<nr)=false:=by simp;omega
    obtain rfl:k=nr:=by omega
    have y0:wr.cell? ⟨ob,0,none⟩=some (.int .i64 P):=(HI.out.1.2 0 (by omega)).1
    have y1:wr.cell? ⟨ob,1,none⟩=some (.slice Au k cu):=(HI.out.1.2 1 (by omega)).1
    have y2:wr.cell? ⟨ob,2,none⟩=some (.slice Aq nv cq):=(HI.out.1.2 2 (by omega)).1
    have y3:wr.cell? ⟨ob,3,none⟩=some (.int .i64 S):=(HI.out.1.2 3 (by omega)).1
    have y4:wr.cell? ⟨ob,4,none⟩=some (.int .i64 B):=(HI.out.1.2 4 (by omega)).1
    have y5:wr.cell? ⟨ob,5,none⟩=some (.int .i64 n):=(HI.out.1.2 5 (by omega)).1
    have y6:wr.cell? ⟨ob,6,none⟩=some (.int .i64 t):=(HI.out.1.2 6 (by omega)).1
    have y7:wr.cell? ⟨ob,7,none⟩=some (.int .i64 r):=(HI.out.1.2 7 (by omega)).1
    have y8:wr.cell? ⟨ob,8,none⟩=some (.int .u32 nm):=(HI.out.1.2 8 (by omega)).1
    have y9:wr.cell? ⟨ob,9,none⟩=some (.int .u32 sh):=(HI.out.1.2 9 (by omega)).1
    obtain ⟨z0,z1,z2,z3,z4,z5,z6,z7,z8,z9,zf⟩:=HRES.out _ HI.out.2.2.2.1;have hbz:=HLOW.out _ HI.out.2.2.2.1;have HO1:=Lib.hid HI.out.2.1;have HO2:=Lib.hid HI.out.2.2.1
    have htk:lr.take k=lr:=List.take_of_length_le (by have:=HR.out.rlLen;omega)
    rw [htk] at HO1;have f0:=zf 0;have f1:=zf 1;have f2:=zf 2;have f3:=zf 3;have f4:=zf 4;have f5:=zf 5;have f6:=zf 6;have f7:=zf 7;have f8:=zf 8;have f9:=zf 9
    have hne:ob≠w.heap.size+1:=by omega
    have hne':¬ w.heap.size+1=ob:=by omega
    clear htk zf hnull HI HR HSZ HBOX HLOW HRES HC
    go_upto_region 6 with fail
    clear q0 q1 q2 q3 q4 q5 q6 q7 q8 q9
    go_wp2
    exact bodyPost_ret (v:=zbb P (.slice Au k cu) (.slice Aq nv cq) S B n t r nm sh) (by simp [results,Tryz.results10,go_sem,zbb,z0,z1,z2,z3,z4,z5,z6,z7,z8,z9]) rfl ⟨_,_,rfl,zas (zcb HO1.out (fun g e=>by
     have h1:=(HO1.out.lt g e).1
     have hg:g≠w.heap.size+1:=by omega
     iterate 10 (refine (zab _ _ _ (by exact hg)).trans ?_)
     rfl)) (by omega),zas (zcb HO2.out (fun g e=>by
     have h1:=(HO2.out.lt g e).1
     have hg:g≠w.heap.size+1:=by omega
     iterate 10 (refine (zab _ _ _ (by exact hg)).trans ?_)
     rfl)) (by omega),(by (repeat' (first|(with_reducible assumption)|(with_reducible refine Below.setCell ?_ ?_ _)|go_size)))⟩
end Go.Proofs.YtfekhdgjgjodlaaGreat
