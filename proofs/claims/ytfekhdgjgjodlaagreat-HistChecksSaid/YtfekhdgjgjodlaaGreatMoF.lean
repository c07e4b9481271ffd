/-
  Words and contracts that a statement's proof rests on (MoF). No statement is proved here.
-/
import Derived.Test.YtfekhdgjgjodlaaGreatBkC
import Derived.Test.YtfekhdgjgjodlaaGreatMoT
import Derived.Test.YtfekhdgjgjodlaaGreatPlainFx
set_option linter.unusedVariables false
set_option linter.unusedSimpArgs false
namespace Go.Proofs.YtfekhdgjgjodlaaGreat
open Go.RowKit
theorem za7.set2 {w:World} {b:Nat} {P S B n t r nm sh:Int} {vr vv vv':Value} (h:za7 w b (zdn P vr vv S B n t r nm sh)):za7 (w.setCell ⟨b,2,none⟩ vv') b (zdn P vr vv' S B n t r nm sh):=by
 refine ⟨by rw [World.size_setCell];exact h.1,fun i hi=>⟨?_,?_⟩⟩
 ·by_cases e:i=2
  ·subst e
   exact World.cell?_setCell_same _ _ _ (h.2 2 (by omega)).1
  ·rw [World.cell?_setCell_other _ _ _ _ (by intro e2;injection e2 with e3 e4;omega)]
   rw [(h.2 i hi).1]
   match i,hi,e with
   |0,_,_=>rfl
   |1,_,_=>rfl
   |3,_,_=>rfl
   |4,_,_=>rfl
   |5,_,_=>rfl
   |6,_,_=>rfl
   |7,_,_=>rfl
   |8,_,_=>rfl
   |9,_,_=>rfl
 ·rw [World.frozen?_setCell]
  exact (h.2 i hi).2
theorem zlf:ST Tryz.prog 22 85 (.agg #[.int .i64 0,.int .i64 0]) 2 16:=ST.mk Tryz.underlying22 (by kernel_rfl) rfl (by omega) (by omega)
set_option maxRecDepth 20000 in
set_option maxHeartbeats 6400000 in
theorem ziz {w:World} {Bo nr nv:Nat} {vr vv:Value} {lr:List Rl} {lv:List Vl} (hr:Sl w Bo 2 vr nr (rlc lr)) (hv:Sl w Bo 3 vv nv (vlc lv)) (hok:∀ x∈lv,x.ok) (hB:Bo<=w.heap.size) (P0 a b c t r nm sh:Int) (P S B n T G:Nat)
  (hP:P=2+fx 7 P0) (hT:T=1+fx 8 t) (hG:G=1+fx 64 r) (hS:S=1+fx 8 a) (hBn:B=1+fx 16 b) (hn:n=1+fx 8 c) :
  Calls Tryz.prog 7 #[zbb P0 vr vv a b c t r nm sh] w fun e w'=>∃ ur uv,e=.returned (zbb (P:Nat) ur uv (S:Nat) (B:Nat) (n:Nat) (T:Nat) (G:Nat) nm sh)/\w'.ownsRow w.heap.size 85 2 ur P (rlc (zck lr P))/\w'.ownsRow w.heap.size 88 3 uv (min nv 8) (vlc (zcj (allN P) lv (min nv 8)))/\Below w.heap.size w w':=by
 obtain ⟨Ar,cr,rfl,hcr,hcm⟩:=hr.form;obtain ⟨Av,cv,rfl,hcv,hcw⟩:=hv.form;unfold maxLen at hcm hcw
 have H11:=Lib.hid fun W=>zp4 a b c S B n (by rw [hS];exact zqc (by omega) (by omega) a 1 (by omega)) (by rw [hBn];exact zqc (by omega) (by omega) b 1 (by omega)) (by rw [hn];exact zqc (by omega) (by omega) c 1 (by omega)) W
 have HP':IntKind.i64.wrap (2+IntKind.i64.wrap ((IntKind.u64.wrap P0).tmod 7))=(P:Int):=by rw [hP];exact zh5 (k:=7) (by omega) (by omega) P0 2 (by omega)
 have HT':IntKind.i64.wrap (1+IntKind.i64.wrap ((IntKind.u64.wrap t).tmod 8))=(T:Int):=by rw [hT];exact zh5 (k:=8) (by omega) (by omega) t 1 (by omega)
 have HG':IntKind.i64.wrap (1+IntKind.i64.wrap ((IntKind.u64.wrap r).tmod 64))=(G:Int):=by rw [hG];exact zh5 (k:=64) (by omega) (by omega) r 1 (by omega)
 have hP2:2<=P/\P<=8:=by have:=zdd (k:=7) (by omega) P0;omega
 have HR:=Lib.hid hr;have HV:=Lib.hid hv;have HOK:=Lib.hid hok;clear hr hv hok hP hT hG hS hBn hn;unfold zbb
 have HBOX:Hid (∀ w',Below (w.heap.size+2) ((w.alloc (.cells #[.int .i64 P0,.slice Ar nr cr,.slice Av nv cv,.int .i64 a,.int .i64 b,.int .i64 c,.int .i64 t,.int .i64 r,.int .u32 nm,.int .u32 sh] 28)).alloc (.cells #[.int .i64 0,.slice none 0 0,.slice none 0 0,.int .i64 0,.int .i64 0,.int .i64 0,.int .i64 0,.int .i64 0,.int .u32 0,.int .u32 0] 28)) w'->w'.cell? ⟨w.heap.size,0,none⟩=some (.int .i64 P0)/\w'.cell? ⟨w.heap.size,1,none⟩=some (.slice Ar nr cr)/\w'.cell? ⟨w.heap.size,2,none⟩=some (.slice Av nv cv)/\w'.cell? ⟨w.heap.size,3,none⟩=some (.int .i64 a)/\w'.cell? ⟨w.heap.size,4,none⟩=some (.int .i64 b)/\w'.cell? ⟨w.heap.size,5,none⟩=some (.int .i64 c)/\w'.cell? ⟨w.heap.size,6,none⟩=some (.int .i64 t)/\w'.cell? ⟨w.heap.size,7,none⟩=some (.int .i64 r)/\w'.cell? ⟨w.heap.size,8,none⟩=some (.int .u32 nm)/\w'.cell? ⟨w.heap.size,9,none⟩=some (.int .u32 sh)):=fun w' hb=>by
  refine ⟨?_,?_,?_,?_,?_,?_,?_,?_,?_,?_⟩ <;>
  ·rw [hb.cell (by show w.heap.size<_;omega)]
   simp [go_sem]
 have HRES:Hid (∀ w',Below (w.heap.size+2) ((w.alloc (.cells #[.int .i64 P0,.slice Ar nr cr,.slice Av nv cv,.int .i64 a,.int .i64 b,.int .i64 c,.int .i64 t,.int .i64 r,.int .u32 nm,.int .u32 sh] 28)).alloc (.cells #[.int .i64 0,.slice none 0 0,.slice none 0 0,.int .i64 0,.int .i64 0,.int .i64 0,.int .i64 0,.int .i64 0,.int .u32 0,.int .u32 0] 28)) w'->w'.cell? ⟨w.heap.size+1,0,none⟩=some (.int .i64 0)/\w'.cell? ⟨w.heap.size+1,1,none⟩=some (.slice none 0 0)/\w'.cell? ⟨w.heap.size+1,2,none⟩=some (.slice none 0 0)/\w'.cell? ⟨w.heap.size+1,3,none⟩=some (.int .i64 0)/\w'.cell? ⟨w.heap.size+1,4,none⟩=some (.int .i64 0)/\w'.cell? ⟨w.heap.size+1,5,none⟩=some (.int .i64 0)/\w'.cell? ⟨w.heap.size+1,6,none⟩=some (.int .i64 0)/\w'.cell? ⟨w.heap.size+1,7,none⟩=some (.int .i64 0)/\w'.cell? ⟨w.heap.size+1,8,none⟩=some (.int .u32 0)/\w'.cell? ⟨w.heap.size+1,9,none⟩=some (.int .u32 0)/\∀ o,w'.frozen? ⟨w.heap.size+1,o,none⟩=false):=fun w' hb=>by
  refine ⟨?_,?_,?_,?_,?_,?_,?_,?_,?_,?_,fun o=>?_⟩
  all_goals first
   |(rw [hb.cell (by show w.heap.size+1<_;omega)];simp [go_sem];done)
   |(rw [hb.frozen (p:=⟨w.heap.size+1,o,none⟩) (by show w.heap.size+1<_;omega)];simp [go_sem];done)
 have HLOW:Hid (∀ w',Below (w.heap.size+2) ((w.alloc (.cells #[.int .i64 P0,.slice Ar nr cr,.slice Av nv cv,.int .i64 a,.int .i64 b,.int .i64 c,.int .i64 t,.int .i64 r,.int .u32 nm,.int .u32 sh] 28)).alloc (.cells #[.int .i64 0,.slice none 0 0,.slice none 0 0,.int .i64 0,.int .i64 0,.int .i64 0,.int .i64 0,.int .i64 0,.int .u32 0,.int .u32 0] 28)) w'->Below w.heap.size w w'):=fun w' hb=>(((Below.refl w.heap.size w).alloc (Nat.le_refl _) _).alloc (by simp) _).trans (hb.mono (by omega))
 have HSZ:Hid (∀ w',Below (w.heap.size+2) ((w.alloc (.cells #[.int .i64 P0,.slice Ar nr cr,.slice Av nv cv,.int .i64 a,.int .i64 b,.int .i64 c,.int .i64 t,.int .i64 r,.int .u32 nm,.int .u32 sh] 28)).alloc (.cells #[.int .i64 0,.slice none 0 0,.slice none 0 0,.int .i64 0,.int .i64 0,.int .i64 0,.int .i64 0,.int .i64 0,.int .u32 0,.int .u32 0] 28)) w'->w.heap.size+2<=w'.heap.size):=fun w' hb=>by have:=hb.size;simp at this;omega
 have hq:Below (w.heap.size+2) ((w.alloc (.cells #[.int .i64 P0,.slice Ar nr cr,.slice Av nv cv,.int .i64 a,.int .i64 b,.int .i64 c,.int .i64 t,.int .i64 r,.int .u32 nm,.int .u32 sh] 28)).alloc (.cells #[.int .i64 0,.slice none 0 0,.slice none 0 0,.int .i64 0,.int .i64 0,.int .i64 0,.int .i64 0,.int .i64 0,.int .u32 0,.int .u32 0] 28)) ((w.alloc (.cells #[.int .i64 P0,.slice Ar nr cr,.slice Av nv cv,.int .i64 a,.int .i64 b,.int .i64 c,.int .i64 t,.int .i64 r,.int .u32 nm,.int .u32 sh] 28)).alloc (.cells #[.int .i64 0,.slice none 0 0,.slice none 0 0,.int .i64 0,.int .i64 0,.int .i64 0,.int .i64 0,.int .i64 0,.int .u32 0,.int .u32 0] 28)):=Below.refl _ _
 go_enter Tryz.func7,Tryz.ntmps7
 go_upto_region 1 with fail
 go_cut [3] (fun p3 wx=>∃ (ob:Nat),p3=.pointer (some ⟨ob,0,none⟩)/\Hid (za7 wx ob (zdn (P:Nat) (.slice none 0 0) (.slice none 0 0) (S:Nat) (B:Nat) (n:Nat) (T:Nat) (G:Nat) nm sh)/\w.heap.size+2<=ob/\Below (w.heap.size+2) ((w.alloc (.cells #[.int .i64 P0,.slice Ar nr cr,.slice Av nv cv,.int .i64 a,.int .i64 b,.int .i64 c,.int .i64 t,.int .i64 r,.int .u32 nm,.int .u32 sh] 28)).alloc (.cells #[.int .i64 0,.slice none 0 0,.slice none 0 0,.int .i64 0,.int .i64 0,.int .i64 0,.int .i64 0,.int .i64 0,.int .u32 0,.int .u32 0] 28)) wx))
 case first =>
  refine wp_region_held_drew (S:=fun w'=>w'.cell? ⟨w.heap.size,0,none⟩=some (.int .i64 P0)/\w'.cell? ⟨w.heap.size,1,none⟩=some (.slice Ar nr cr)/\w'.cell? ⟨w.heap.size,2,none⟩=some (.slice Av nv cv)/\w'.cell? ⟨w.heap.size,3,none⟩=some (.int .i64 a)/\w'.cell? ⟨w.heap.size,4,none⟩=some (.int .i64 b)/\w'.cell? ⟨w.heap.size,5,none⟩=some (.int .i64 c)/\w'.cell? ⟨w.heap.size,6,none⟩=some (.int .i64 t)/\w'.cell? ⟨w.heap.size,7,none⟩=some (.int .i64 r)/\w'.cell? ⟨w.heap.size,8,none⟩=some (.int .u32 nm)/\w'.cell? ⟨w.heap.size,9,none⟩=some (.int .u32 sh)) (by kernel_rfl) ?_ (fun hHeld=>?_)
  ·exact HBOX.out _ (by (repeat' (first|(with_reducible exact Below.refl _ _)|(with_reducible assumption)|(with_reducible refine Below.alloc ?_ ?_ _)|(with_reducible refine zaa ?_ _)|(with_reducible refine Below.drew ?_)|(exact HSZ.out _ (by assumption))|go_size|omega)))
  obtain ⟨v0,hv0⟩:∃ w',w'=(((w.alloc (.cells #[.int .i64 P0,.slice Ar nr cr,.slice Av nv cv,.int .i64 a,.int .i64 b,.int .i64 c,.int .i64 t,.int .i64 r,.int .u32 nm,.int .u32 sh] 28)).alloc (.cells #[.int .i64 0,.slice none 0 0,.slice none 0 0,.int .i64 0,.int .i64 0,.int .i64 0,.int .i64 0,.int .i64 0,.int .u32 0,.int .u32 0] 28))).drew:=⟨_,rfl⟩
  have hqv0:Below (w.heap.size+2) ((w.alloc (.cells #[.int .i64 P0,.slice Ar nr cr,.slice Av nv cv,.int .i64 a,.int .i64 b,.int .i64 c,.int .i64 t,.int .i64 r,.int .u32 nm,.int .u32 sh] 28)).alloc (.cells #[.int .i64 0,.slice none 0 0,.slice none 0 0,.int .i64 0,.int .i64 0,.int .i64 0,.int .i64 0,.int .i64 0,.int .u32 0,.int .u32 0] 28)) v0:=by rw [hv0];exact (by (repeat' (first|(with_reducible exact Below.refl _ _)|(with_reducible assumption)|(with_reducible refine Below.alloc ?_ ?_ _)|(with_reducible refine zaa ?_ _)|(with_reducible refine Below.drew ?_)|(exact HSZ.out _ (by assumption))|go_size|omega)))
  (try rw [<- hv0] at hHeld |-)
  clear hv0;refine tk 0 ?_;refine tk 1 ?_;refine tk 2 ?_;refine tk 3 ?_;refine tk 4 ?_;refine tk 5 ?_;refine tk 6 ?_;refine tk 7 ?_;refine tk 9 ?_;refine tk 10 ?_;refine tk 11 ?_;refine tk 12 ?_;refine tk 13 ?_;refine tk 14 ?_;refine tk 15 ?_;refine tk 16 ?_;refine tk 17 ?_;refine tk 18 ?_;refine tk 19 ?_;refine tk 20 ?_;refine tk 21 ?_;refine tk 22 ?_;refine tk 23 ?_;refine tk 24 ?_
  refine wpAnyH_ready (rs:=[8,26]) (by kernel_rfl) (by simp) ?_
  refine (acR rfl (fun K hK=>?_) (acR rfl (fun K hK=>?_) AllReadyH.nil))
  ·go_simp
   refine Calls.mono (H11.out _) ?_
   rintro e wb ⟨rfl,hbb⟩;have hqwb:Below (w.heap.size+2) ((w.alloc (.cells #[.int .i64 P0,.slice Ar nr cr,.slice Av nv cv,.int .i64 a,.int .i64 b,.int .i64 c,.int .i64 t,.int .i64 r,.int .u32 nm,.int .u32 sh] 28)).alloc (.cells #[.int .i64 0,.slice none 0 0,.slice none 0 0,.int .i64 0,.int .i64 0,.int .i64 0,.int .i64 0,.int .i64 0,.int .u32 0,.int .u32 0] 28)) wb:=Below.trans hqv0 (hbb.mono (HSZ.out _ hqv0));have HBB:Hid (Below (v0).heap.size v0 wb):=hbb;clear hbb
   refine hK.out _ _ ?_ (fun hHeld=>?_)
   ·(try dsimp only)
    exact HBOX.out _ (by (repeat' (first|(with_reducible exact Below.refl _ _)|(with_reducible assumption)|(with_reducible refine Below.alloc ?_ ?_ _)|(with_reducible refine zaa ?_ _)|(with_reducible refine Below.drew ?_)|(exact HSZ.out _ (by assumption))|go_size|omega)))
   clear hK K;refine tk 25 ?_
   refine wpAnyH_ready (rs:=[26]) (by kernel_rfl) (by simp) ?_
   refine ac1 rfl fun K hK=>?_
   go_simp
   refine hK.out _ _ ?_ (fun hHeld=>?_)
   ·(try dsimp only)
    exact HBOX.out _ (by (repeat' (first|(with_reducible exact Below.refl _ _)|(with_reducible assumption)|(with_reducible refine Below.alloc ?_ ?_ _)|(with_reducible refine zaa ?_ _)|(with_reducible refine Below.drew ?_)|(exact HSZ.out _ (by assumption))|go_size|omega)))
   clear hK K
   (try simp only [Act.put,sqA,sqB,sqC])
   obtain ⟨ob,hob⟩:∃ o,o=(wb).heap.size:=⟨_,rfl⟩;obtain ⟨wc,hwc⟩:∃ x,x=(wb).alloc (.cells #[.int .i64 0,.slice none 0 0,.slice none 0 0,.int .i64 0,.int .i64 0,.int .i64 0,.int .i64 0,.int .i64 0,.int .u32 0,.int .u32 0] 28):=⟨_,rfl⟩
   have HTH:Hid (wc.there ob 0 10):=by
    rw [hwc,hob]
    exact zb6 (cs:=#[.int .i64 0,.slice none 0 0,.slice none 0 0,.int .i64 0,.int .i64 0,.int .i64 0,.int .i64 0,.int .i64 0,.int .u32 0,.int .u32 0]) (zbd _ _ _)
   have HBC:Hid (Below (wb).heap.size wb wc):=by rw [hwc];exact (Below.refl _ _).alloc (Nat.le_refl _) _
   have hqwc:Below (w.heap.size+2) ((w.alloc (.cells #[.int .i64 P0,.slice Ar nr cr,.slice Av nv cv,.int .i64 a,.int .i64 b,.int .i64 c,.int .i64 t,.int .i64 r,.int .u32 nm,.int .u32 sh] 28)).alloc (.cells #[.int .i64 0,.slice none 0 0,.slice none 0 0,.int .i64 0,.int .i64 0,.int .i64 0,.int .i64 0,.int .i64 0,.int .u32 0,.int .u32 0] 28)) wc:=Below.trans hqwb (HBC.out.mono (HSZ.out _ hqwb))
   have hob1:w.heap.size+2<=ob:=by rw [hob];exact HSZ.out _ hqwb
   have hob2:ob<wc.heap.size:=by rw [hob,hwc];simp
   rw [<- hwc]
   (try rw [<- hob])
   (try rw [<- hwc] at hHeld)
   clear hwc hob
   refine wpAnyH_ready (rs:=[27]) (by kernel_rfl) (by simp) ?_
   refine ac1 rfl fun K hK=>?_
   refine zb3 (by rfl) 28 _ _ (by rfl) ob 0 #[.int .i64 (P:Nat),.slice none 0 0,.slice none 0 0,.int .i64 (S:Nat),.int .i64 (B:Nat),.int .i64 (n:Nat),.int .i64 (T:Nat),.int .i64 (G:Nat),.int .u32 nm,.int .u32 sh] (by rfl) (by rfl) HTH.out (by kernel_rfl) (by simp [Value.oneCell']) ?_
   intro wz hst
   refine hK.out _ _ ?_ (fun hHeld=>?_)
   ·(try dsimp only)
    exact HBOX.out _ (Below.trans (by assumption) (hst.below _ hob1))
   clear hK K
   (try simp only [Act.put,sqA,sqB,sqC])
   refine dnR ?_
   have HP9:=za7.of hst HTH.out (by first|omega|(have:=HBB.out.size;omega))
   have HQ9:=hqwc.trans (hst.below _ hob1)
   go_wp2
   go_meet
   exact ⟨ob,rfl,HP9,hob1,HQ9⟩
  ·go_simp
   refine hK.out _ _ ?_ (fun hHeld=>?_)
   ·(try dsimp only)
    exact HBOX.out _ (by (repeat' (first|(with_reducible exact Below.refl _ _)|(with_reducible assumption)|(with_reducible refine Below.alloc ?_ ?_ _)|(with_reducible refine zaa ?_ _)|(with_reducible refine Below.drew ?_)|(exact HSZ.out _ (by assumption))|go_size|omega)))
   clear hK K
   (try simp only [Act.put,sqA,sqB,sqC])
   obtain ⟨ob,hob⟩:∃ o,o=(v0).heap.size:=⟨_,rfl⟩;obtain ⟨wc,hwc⟩:∃ x,x=(v0).alloc (.cells #[.int .i64 0,.slice none 0 0,.slice none 0 0,.int .i64 0,.int .i64 0,.int .i64 0,.int .i64 0,.int .i64 0,.int .u32 0,.int .u32 0] 28):=⟨_,rfl⟩
   have HTH:Hid (wc.there ob 0 10):=by
    rw [hwc,hob]
    exact zb6 (cs:=#[.int .i64 0,.slice none 0 0,.slice none 0 0,.int .i64 0,.int .i64 0,.int .i64 0,.int .i64 0,.int .i64 0,.int .u32 0,.int .u32 0]) (zbd _ _ _)
   have HBC:Hid (Below (v0).heap.size v0 wc):=by rw [hwc];exact (Below.refl _ _).alloc (Nat.le_refl _) _
   have hqwc:Below (w.heap.size+2) ((w.alloc (.cells #[.int .i64 P0,.slice Ar nr cr,.slice Av nv cv,.int .i64 a,.int .i64 b,.int .i64 c,.int .i64 t,.int .i64 r,.int .u32 nm,.int .u32 sh] 28)).alloc (.cells #[.int .i64 0,.slice none 0 0,.slice none 0 0,.int .i64 0,.int .i64 0,.int .i64 0,.int .i64 0,.int .i64 0,.int .u32 0,.int .u32 0] 28)) wc:=Below.trans hqv0 (HBC.out.mono (HSZ.out _ hqv0))
   have hob1:w.heap.size+2<=ob:=by rw [hob];exact HSZ.out _ hqv0
   have hob2:ob<wc.heap.size:=by rw [hob,hwc];simp
   rw [<- hwc]
   (try rw [<- hob])
   (try rw [<- hwc] at hHeld)
   clear hwc hob
   refine wpAnyH_ready (rs:=[8]) (by kernel_rfl) (by simp) ?_
   refine ac1 rfl fun K hK=>?_
   go_simp
   refine Calls.mono (H11.out _) ?_
   rintro e wb ⟨rfl,hbb⟩;have hqwb:Below (w.heap.size+2) ((w.alloc (.cells #[.int .i64 P0,.slice Ar nr cr,.slice Av nv cv,.int .i64 a,.int .i64 b,.int .i64 c,.int .i64 t,.int .i64 r,.int .u32 nm,.int .u32 sh] 28)).alloc (.cells #[.int .i64 0,.slice none 0 0,.slice none 0 0,.int .i64 0,.int .i64 0,.int .i64 0,.int .i64 0,.int .i64 0,.int .u32 0,.int .u32 0] 28)) wb:=Below.trans hqwc (hbb.mono (HSZ.out _ hqwc));have HBB:Hid (Below (wc).heap.size wc wb):=hbb;clear hbb
   refine hK.out _ _ ?_ (fun hHeld=>?_)
   ·(try dsimp only)
    exact HBOX.out _ (by (repeat' (first|(with_reducible exact Below.refl _ _)|(with_reducible assumption)|(with_reducible refine Below.alloc ?_ ?_ _)|(with_reducible refine zaa ?_ _)|(with_reducible refine Below.drew ?_)|(exact HSZ.out _ (by assumption))|go_size|omega)))
   clear hK K;refine tk 25 ?_
   refine wpAnyH_ready (rs:=[27]) (by kernel_rfl) (by simp) ?_
   refine ac1 rfl fun K hK=>?_
   refine zb3 (by rfl) 28 _ _ (by rfl) ob 0 #[.int .i64 (P:Nat),.slice none 0 0,.slice none 0 0,.int .i64 (S:Nat),.int .i64 (B:Nat),.int .i64 (n:Nat),.int .i64 (T:Nat),.int .i64 (G:Nat),.int .u32 nm,.int .u32 sh] (by rfl) (by rfl) (za2 HTH.out HBB.out (by omega)) (by kernel_rfl) (by simp [Value.oneCell']) ?_
   intro wz hst
   refine hK.out _ _ ?_ (fun hHeld=>?_)
   ·(try dsimp only)
    exact HBOX.out _ (Below.trans (by assumption) (hst.below _ hob1))
   clear hK K
   (try simp only [Act.put,sqA,sqB,sqC])
   refine dnR ?_
   have HP9:=za7.of hst (za2 HTH.out HBB.out (by omega)) (by first|omega|(have:=HBB.out.size;omega))
   have HQ9:=hqwb.trans (hst.below _ hob1)
   go_wp2
   go_meet
   exact ⟨ob,rfl,HP9,hob1,HQ9⟩
 case rest =>
  obtain ⟨ob,rfl,HC⟩:=hcut;clear hq H11 HP' HT' HG';have hobl:=HC.out.2.1;have hobc:ob<wc.heap.size:=HC.out.1.1
  go_wp2
  go_loopw [4] (fun iv wr=>∃ (k:Nat) (Au:Option Addr) (cu:Nat),iv=.int .i64 k/\k<=P/\Hid (za7 wr ob (zdn (P:Nat) (.slice Au k cu) (.slice none 0 0) (S:Nat) (B:Nat) (n:Nat) (T:Nat) (G:Nat) nm sh)/\wr.ownsRow wc.heap.size 85 2 (.slice Au k cu) k (rlc (zck lr k))/\Below (w.heap.size+2) ((w.alloc (.cells #[.int .i64 P0,.slice Ar nr cr,.slice Av nv cv,.int .i64 a,.int .i64 b,.int .i64 c,.int .i64 t,.int .i64 r,.int .u32 nm,.int .u32 sh] 28)).alloc (.cells #[.int .i64 0,.slice none 0 0,.slice none 0 0,.int .i64 0,.int .i64 0,.int .i64 0,.int .i64 0,.int .i64 0,.int .u32 0,.int .u32 0] 28)) wr/\wc.heap.size<=wr.heap.size)) (fun iv _=>P - (intOf iv).toNat)
  case atStart=>exact ⟨0,none,0,rfl,by omega,HC.out.1,World.ownsRow_nil _ _ _ _,HC.out.2.2,Nat.le_refl _⟩
  case round =>
   obtain ⟨k,Au,cu,rfl,hk,HI⟩:=hrel;obtain ⟨q0,q1,q2,q3,q4,q5,q6,q7,q8,q9⟩:=HBOX.out _ HI.out.2.2.1
   have y0:wr.cell? ⟨ob,0,none⟩=some (.int .i64 (P:Nat)):=(HI.out.1.2 0 (by omega)).1
   have hgr:=HI.out.2.2.2
   have hwwc:w.heap.size+2<=wc.heap.size:=HSZ.out _ HC.out.2.2
   clear q0 q2 q3 q4 q5 q6 q7 q8 q9
   by_cases hlt:k<P
   ·have d1:decide (k<P)=true:=by simp;omega
    have q1':∀ o,(wr.alloc o).cell? ⟨w.heap.size,1,none⟩=some (.slice Ar nr cr):=fun o=>(World.cell?_alloc_lt _ _ _ (by show w.heap.size<wr.heap.size;omega)).trans q1
    by_cases hrl:k<nr
    ·have d2:decide (k<nr)=true:=by simp;omega
     obtain ⟨b0,off,cap',e,hc1,hc2,hb,hlen,hcell⟩:=HR.out.rlAt (by omega)
     cases e
     obtain ⟨c0,c1⟩:=hcell k hrl;have hbl:=HLOW.out _ HI.out.2.2.1
     have k0:=(hbl.cell (p:=⟨b0,off+k*2,none⟩) (by show b0<_;omega)).trans c0
     have k1:=(hbl.cell (p:=⟨b0,off+k*2+1,none⟩) (by show b0<_;omega)).trans c1
     have HFX:Hid (zgl lr k=⟨((1+fx 4094 (lr.getD k rl0).pv:Nat):Int),((fx 3 (lr.getD k rl0).ac:Nat):Int)⟩):=by
      show zgl lr k=_
      unfold zgl
      rw [if_pos (by have:=hlen;omega)]
     have hbw:b0<w.heap.size:=by omega
     clear hcell c0 c1 hbl
     generalize (lr.getD k rl0).pv=V1 at *
     generalize (lr.getD k rl0).ac=V2 at *
     obtain ⟨x1,hx1⟩:∃ x,x=1+fx 4094 V1:=⟨_,rfl⟩;obtain ⟨x2,hx2⟩:∃ x,x=fx 3 V2:=⟨_,rfl⟩
     have z1:IntKind.i64.wrap (1+IntKind.i64.wrap ((IntKind.u64.wrap V1).tmod 4094))=(x1:Int):=by rw [hx1];exact zh5 (k:=4094) (by omega) (by omega) V1 1 (by omega)
     have z2:IntKind.i64.wrap ((IntKind.u64.wrap V2).tmod 3)=(x2:Int):=by rw [hx2];exact fx_mod' (k:=3) (by omega) (by omega) V2
     rw [<- hx1,<- hx2] at HFX;clear hx1 hx2
     go_wp2_with fail
     obtain ⟨w1,hw1⟩:∃ x,x=wr.alloc (.cells #[.int .i64 1,.int .i64 0] 85):=⟨_,rfl⟩
     have HB1:Hid (Below wr.heap.size wr w1):=by rw [hw1];exact (Below.refl _ _).alloc (Nat.le_refl _) _
     have HT1:Hid (w1.there wr.heap.size 0 2):=by rw [hw1];exact zb6 (cs:=#[.int .i64 1,.int .i64 0]) (zbd _ _ _)
     have hz1:w1.heap.size=wr.heap.size+1:=by rw [hw1,World.size_alloc]
     have HK7:Hid (∀ w',Below wr.heap.size w1 w'->w'.cell? ⟨w.heap.size,1,none⟩=some (.slice (some ⟨b0,off,none⟩) nr cr)/\w'.cell? ⟨b0,off+k*2,none⟩=some (.int .i64 V1)/\w'.cell? ⟨b0,off+k*2+1,none⟩=some (.int .i64 V2)):=fun w' hb=>by
      have hb':=HB1.out.trans hb
      exact ⟨(hb'.cell (p:=⟨w.heap.size,1,none⟩) (by show w.heap.size<_;omega)).trans q1,(hb'.cell (p:=⟨b0,off+k*2,none⟩) (by show b0<_;omega)).trans k0,(hb'.cell (p:=⟨b0,off+k*2+1,none⟩) (by show b0<_;omega)).trans k1⟩
     rw [<- hw1];clear hw1 q1' k0 k1
     refine wp_region_held_drew (S:=fun w'=>w'.cell? ⟨w.heap.size,1,none⟩=some (.slice (some ⟨b0,off,none⟩) nr cr)/\w'.cell? ⟨b0,off+k*2,none⟩=some (.int .i64 V1)/\w'.cell? ⟨b0,off+k*2+1,none⟩=some (.int .i64 V2)) (by kernel_rfl) ?_ (fun hHeld=>?_)
     ·exact HK7.out _ ((Below.refl _ _).drew)
     refine tk 0 ?_;refine tk 1 ?_;refine tk 2 ?_;refine tk 3 ?_;refine tk 4 ?_;refine tk 5 ?_;refine tk 6 ?_;refine tk 7 ?_;refine tk 8 ?_;refine tk 9 ?_;refine tk 10 ?_;refine tk 11 ?_;refine tk 12 ?_;refine tk 13 ?_;refine tk 14 ?_;refine tk 15 ?_;refine tk 16 ?_;refine tk 17 ?_;refine tk 18 ?_;refine tk 19 ?_
     refine clR 20 rfl fun K hK=>?_
     refine zb3 (by rfl) 85 _ _ (by rfl) wr.heap.size 0 #[.int .i64 (x1:Nat),.int .i64 (x2:Nat)] (by rfl) (by rfl) ((World.there_drew _ _ _ _).mpr HT1.out) (by kernel_rfl) (by simp [Value.oneCell']) ?_
     intro w2 hst
     refine hK.out _ _ ?_ (fun hHeld=>?_)
     ·(try dsimp only)
      exact HK7.out _ (((Below.refl _ _).drew).trans (hst.below _ (Nat.le_refl _)))
     clear hK K
     (try simp only [Act.put,sqA,sqB,sqC])
     refine dnR ?_
     have hbZ:Below wr.heap.size wr w2:=HB1.out.trans (((Below.refl _ _).drew).trans (hst.below _ (Nat.le_refl _)))
     have e0:w2.cell? ⟨wr.heap.size,0,none⟩=some (.int .i64 (x1:Nat)):=hst.cells 0 _ rfl
     have e1:w2.cell? ⟨wr.heap.size,1,none⟩=some (.int .i64 (x2:Nat)):=hst.cells 1 _ rfl
     clear hst HB1 HT1 HK7 hHeld
     have y1:(w2).cell? ⟨ob,1,none⟩=some (.slice Au k cu):=(hbZ.cell (p:=⟨ob,1,none⟩) (by show ob<_;omega)).trans (HI.out.1.2 1 (by omega)).1
     have HOZ:Hid ((w2).ownsRow wc.heap.size 85 2 (.slice Au k cu) k (rlc (zck lr k))):=zac HI.out.2.1 hbZ;have HBZ:=Lib.hid hbZ
     have HY:Hid (∀ w7,Below (w2).heap.size (w2) w7->za7 w7 ob (zdn (P:Nat) (.slice Au k cu) (.slice none 0 0) (S:Nat) (B:Nat) (n:Nat) (T:Nat) (G:Nat) nm sh)):=fun w7 h7=>(HI.out.1.keep (hbZ.trans (h7.mono hbZ.size)) (by omega))
     have hzZ:=hbZ.size;clear hbZ
     go_wp2_with (first
      |(at_builtin;refine zcm _ rfl zlf _ _ rfl wc.heap.size (.slice Au k cu) k (rlc (zck lr k)) rfl (zac HOZ.out ((Below.refl _ _).alloc (Nat.le_refl _) _)) ((w2).heap.size+1) _ 1 [.int .i64 (x1:Nat),.int .i64 (x2:Nat)] rfl (Sl.litN (w2) #[.int .i64 (x1:Nat),.int .i64 (x2:Nat)] _ 1 2 rfl (by decide)) (by simp [Value.oneCell']) (by omega) (by first|go_size|(simp;omega)) ?_;intro A9 c9 w9 hown9 hgr9 hat9 hbel9;(have HB9:Hid (Below wc.heap.size wr w9):=(HBZ.out.mono (by omega)).trans (Below.trans (((Below.refl _ _).alloc (by omega) _)) hbel9));(have HPP:=Lib.hid (HI.out.1.keep HB9.out hobc));(have y9:w9.cell? ⟨ob,1,none⟩=some (.slice Au k cu):=(HPP.out.2 1 (by omega)).1);(have f9:=(HPP.out.2 1 (by omega)).2);(have HO9:=Lib.hid hown9);clear hown9 hgr9 hat9 hbel9))
     have HZ:Hid (za7 (w9.setCell ⟨ob,1,none⟩ (.slice A9 (k+1) c9)) ob (zdn (P:Nat) (.slice A9 (k+1) c9) (.slice none 0 0) (S:Nat) (B:Nat) (n:Nat) (T:Nat) (G:Nat) nm sh)/\(w9.setCell ⟨ob,1,none⟩ (.slice A9 (k+1) c9)).ownsRow wc.heap.size 85 2 (.slice A9 (k+1) c9) (k+1) (rlc (zck lr (k+1)))/\Below (w.heap.size+2) ((w.alloc (.cells #[.int .i64 P0,.slice (some ⟨b0,off,none⟩) nr cr,.slice Av nv cv,.int .i64 a,.int .i64 b,.int .i64 c,.int .i64 t,.int .i64 r,.int .u32 nm,.int .u32 sh] 28)).alloc (.cells #[.int .i64 0,.slice none 0 0,.slice none 0 0,.int .i64 0,.int .i64 0,.int .i64 0,.int .i64 0,.int .i64 0,.int .u32 0,.int .u32 0] 28)) (w9.setCell ⟨ob,1,none⟩ (.slice A9 (k+1) c9))/\wc.heap.size<=(w9.setCell ⟨ob,1,none⟩ (.slice A9 (k+1) c9)).heap.size):=by
      refine ⟨HPP.out.set1,?_,?_,?_⟩
      ·rw [zg7,HFX.out]
       exact zcb HO9.out (fun g e=>zab _ _ _ (by have:=(HO9.out.lt g e).1;show g≠ob;omega))
      ·exact (HI.out.2.2.1.trans (HB9.out.mono (by omega))).setCell (by show w.heap.size+2<=ob;omega) _
      ·rw [World.size_setCell];have:=HB9.out.size;omega
     go_roundw
     case rel=>exact ⟨k+1,A9,c9,by go_num,by omega,HZ.out⟩
     case measure=>simp [intOf];omega
    ·have d2:decide (k<nr)=false:=by simp;omega
     have HFX:Hid (zgl lr k=⟨1,0⟩):=by
      show zgl lr k=_
      unfold zgl
      rw [if_neg (by have:=HR.out.rlLen;omega)]
     go_upto_region 8 with fail
     obtain ⟨w2,hw2⟩:∃ x,x=wr.alloc (.cells #[.int .i64 1,.int .i64 0] 85):=⟨_,rfl⟩
     have hbZ:Below wr.heap.size wr w2:=by rw [hw2];exact (Below.refl _ _).alloc (Nat.le_refl _) _
     have e0:w2.cell? ⟨wr.heap.size,0,none⟩=some (.int .i64 1):=by rw [hw2];simp [go_sem]
     have e1:w2.cell? ⟨wr.heap.size,1,none⟩=some (.int .i64 0):=by rw [hw2];simp [go_sem]
     rw [<- hw2];clear hw2 q1' y0 d2
     have y1:(w2).cell? ⟨ob,1,none⟩=some (.slice Au k cu):=(hbZ.cell (p:=⟨ob,1,none⟩) (by show ob<_;omega)).trans (HI.out.1.2 1 (by omega)).1
     have HOZ:Hid ((w2).ownsRow wc.heap.size 85 2 (.slice Au k cu) k (rlc (zck lr k))):=zac HI.out.2.1 hbZ;have HBZ:=Lib.hid hbZ
     have HY:Hid (∀ w7,Below (w2).heap.size (w2) w7->za7 w7 ob (zdn (P:Nat) (.slice Au k cu) (.slice none 0 0) (S:Nat) (B:Nat) (n:Nat) (T:Nat) (G:Nat) nm sh)):=fun w7 h7=>(HI.out.1.keep (hbZ.trans (h7.mono hbZ.size)) (by omega))
     have hzZ:=hbZ.size;clear hbZ
     go_wp2_with (first
      |(at_builtin;refine zcm _ rfl zlf _ _ rfl wc.heap.size (.slice Au k cu) k (rlc (zck lr k)) rfl (zac HOZ.out ((Below.refl _ _).alloc (Nat.le_refl _) _)) ((w2).heap.size+1) _ 1 [.int .i64 1,.int .i64 0] rfl (Sl.litN (w2) #[.int .i64 1,.int .i64 0] _ 1 2 rfl (by decide)) (by simp [Value.oneCell']) (by omega) (by first|go_size|(simp;omega)) ?_;intro A9 c9 w9 hown9 hgr9 hat9 hbel9;(have HB9:Hid (Below wc.heap.size wr w9):=(HBZ.out.mono (by omega)).trans (Below.trans (((Below.refl _ _).alloc (by omega) _)) hbel9));(have HPP:=Lib.hid (HI.out.1.keep HB9.out hobc));(have y9:w9.cell? ⟨ob,1,none⟩=some (.slice Au k cu):=(HPP.out.2 1 (by omega)).1);(have f9:=(HPP.out.2 1 (by omega)).2);(have HO9:=Lib.hid hown9);clear hown9 hgr9 hat9 hbel9))
     have HZ:Hid (za7 (w9.setCell ⟨ob,1,none⟩ (.slice A9 (k+1) c9)) ob (zdn (P:Nat) (.slice A9 (k+1) c9) (.slice none 0 0) (S:Nat) (B:Nat) (n:Nat) (T:Nat) (G:Nat) nm sh)/\(w9.setCell ⟨ob,1,none⟩ (.slice A9 (k+1) c9)).ownsRow wc.heap.size 85 2 (.slice A9 (k+1) c9) (k+1) (rlc (zck lr (k+1)))/\Below (w.heap.size+2) ((w.alloc (.cells #[.int .i64 P0,.slice Ar nr cr,.slice Av nv cv,.int .i64 a,.int .i64 b,.int .i64 c,.int .i64 t,.int .i64 r,.int .u32 nm,.int .u32 sh] 28)).alloc (.cells #[.int .i64 0,.slice none 0 0,.slice none 0 0,.int .i64 0,.int .i64 0,.int .i64 0,.int .i64 0,.int .i64 0,.int .u32 0,.int .u32 0] 28)) (w9.setCell ⟨ob,1,none⟩ (.slice A9 (k+1) c9))/\wc.heap.size<=(w9.setCell ⟨ob,1,none⟩ (.slice A9 (k+1) c9)).heap.size):=by
      refine ⟨HPP.out.set1,?_,?_,?_⟩
      ·rw [zg7,HFX.out]
       exact zcb HO9.out (fun g e=>zab _ _ _ (by have:=(HO9.out.lt g e).1;show g≠ob;omega))
      ·exact (HI.out.2.2.1.trans (HB9.out.mono (by omega))).setCell (by show w.heap.size+2<=ob;omega) _
      ·rw [World.size_setCell];have:=HB9.out.size;omega
     go_roundw
     case rel=>exact ⟨k+1,A9,c9,by go_num,by omega,HZ.out⟩
     case measure=>simp [intOf];omega
   ·obtain rfl:k=P:=by omega
    obtain ⟨ur,hur⟩:∃ x,x=Value.slice Au k cu:=⟨_,rfl⟩
    have hrb:∀ g,(Value.slice Au k cu).ownBlock=some g->g<wr.heap.size:=fun g e=>(HI.out.2.1.lt g e).2
    have HI1:=Lib.hid HI.out.1;have HIR:=Lib.hid HI.out.2.1;have HIB:=Lib.hid HI.out.2.2.1
    have HALL:=Lib.hid fun W=>zih (k:Int) W
    have hall:=zd8 (k:Int);obtain ⟨all,hal⟩:∃ x,x=allN (k:Int):=⟨_,rfl⟩;rw [<- hal] at HALL hall;have HEA:=Lib.hid hal;rw [<- hur] at HI1 HIR hrb;have HUR:=Lib.hid hur;clear hal HI HR q1 hur;have hobr:ob<wr.heap.size:=HI1.out.1;obtain ⟨dz,hdz⟩:∃ x,x=wr.heap.size:=⟨_,rfl⟩;rw [<- hdz] at hobr hgr hrb;have HDZ:=Lib.hid hdz;clear hdz
    go_wp2_with (first|(go_at_call 21;(with_reducible refine Calls.mono (HALL.out _) ?_);rintro e wx ⟨rfl,rfl⟩))
    go_loopw [6,8] (fun pv iv wq=>∃ (j:Nat) (Aq:Option Addr) (cq:Nat),pv=.int .i64 (vidF lv j:Nat)/\iv=.int .i64 j/\j<=min nv 8/\Hid (za7 wq ob (zdn (k:Nat) ur (.slice Aq j cq) (S:Nat) (B:Nat) (n:Nat) (T:Nat) (G:Nat) nm sh)/\wq.ownsRow wc.heap.size 85 2 ur k (rlc (zck lr k))/\wq.ownsRow dz 88 3 (.slice Aq j cq) j (vlc (zcj all lv j))/\Below (w.heap.size+2) ((w.alloc (.cells #[.int .i64 P0,.slice Ar nr cr,.slice Av nv cv,.int .i64 a,.int .i64 b,.int .i64 c,.int .i64 t,.int .i64 r,.int .u32 nm,.int .u32 sh] 28)).alloc (.cells #[.int .i64 0,.slice none 0 0,.slice none 0 0,.int .i64 0,.int .i64 0,.int .i64 0,.int .i64 0,.int .i64 0,.int .u32 0,.int .u32 0] 28)) wq/\dz<=wq.heap.size)) (fun _ iv _=>8 - (intOf iv).toNat)
    case atStart=>exact ⟨0,none,0,rfl,rfl,by omega,HI1.out,HIR.out,World.ownsRow_nil _ _ _ _,HIB.out,Nat.le_of_eq HDZ.out⟩
    case round =>
     obtain ⟨j,Aq,cq,rfl,rfl,hj,HJ⟩:=hrel;have q2:=(HBOX.out _ HJ.out.2.2.2.1).2.2.1;have hgq:=HJ.out.2.2.2.2;have hvj:=zie lv j
     by_cases hjn:j<nv/\j<8
     ·have d1:decide (j<nv)=true:=by simp;omega
      have d2:decide (j<8)=true:=by simp;omega
      have d3:decide ((j:Int)<(nv:Int))=true:=by simp;omega
      have d4:decide ((j:Int)<8)=true:=by simp;omega
      obtain ⟨b0,off,cap',e,hc1,hc2,hb,hlen,hcell⟩:=HV.out.vlAt (by omega)
      cases e
      obtain ⟨c0,c1,c2⟩:=hcell j hjn.1;have hbl:=HLOW.out _ HJ.out.2.2.2.1
      have k0:=(hbl.cell (p:=⟨b0,off+j*3,none⟩) (by show b0<_;omega)).trans c0
      have hbw:b0<w.heap.size:=by omega
      have HCL:=Lib.hid (And.intro c1 c2);obtain ⟨xv,hxv⟩:∃ x,x=(lv.getD j vl0).vid:=⟨_,rfl⟩;obtain ⟨M,hM⟩:∃ x,x=(lv.getD j vl0).mem:=⟨_,rfl⟩;obtain ⟨U,hU⟩:∃ x,x=(lv.getD j vl0).unt:=⟨_,rfl⟩;have hokj:=vl_ok HOK.out j
      have hM64:M<18446744073709551616:=by rw [hM];exact hokj.2.1
      have hU64:U<18446744073709551616:=by rw [hU];exact hokj.2.2
      rw [<- hxv] at k0;rw [<- hM,<- hU] at HCL;obtain ⟨v,hvv⟩:∃ x,x=vidF lv j:=⟨_,rfl⟩
      have hvb:v<=100:=by omega
      obtain ⟨f,hf⟩:∃ x,x=fx 3 xv:=⟨_,rfl⟩
      have hf3:f<3:=by rw [hf];exact zdd (by omega) xv
      have hvs:vidF lv (j+1)=v+1+f:=by rw [hvv,hf,hxv];rfl
      have HVS:=Lib.hid hvs
      have HXF:Hid (vlc (zcj all lv (j+1))=vlc (zcj all lv j) ++ [.int .i64 ((v+1+f:Nat):Int),.int .u64 ((all &&& M:Nat):Int),.int .u64 ((all &&& M &&& U:Nat):Int)]):=by
       show _=_
       rw [zmq,hvs,<- hM,<- hU]
      rw [<- hvv]
      have hz:wrap64 ((IntKind.u64.wrap xv).tmod 3)=(f:Int):=by rw [hf];exact zqb (k:=3) (by omega) (by omega) xv
      obtain ⟨vn,hvn⟩:∃ x,x=v+1+f:=⟨_,rfl⟩
      have hvS:wrap64 (wrap64 ((v:Int)+1)+(f:Int))=(vn:Int):=by rw [hvn];exact vid_sum v f hvb hf3
      have hvS':wrap64 ((v:Int)+1+(f:Int))=(vn:Int):=by rw [hvn];exact vid_sum' v f hvb hf3
      rw [<- hvn] at HVS;have HVN:=Lib.hid hvn;clear hcell c0 c1 c2 hbl hokj hxv hM hU hvs hf hvj hvv hvn
      have hwj:w.heap.size<wr.heap.size:=by omega
      have HPK:=Lib.hid (And.intro hP2 (And.intro hobl (And.intro hobc (And.intro hwwc (And.intro hgr (And.intro hobr (And.intro hgq (And.intro hM64 (And.intro hU64 (And.intro hall (And.intro hvb (And.intro hf3 (And.intro hbw hwj)))))))))))));clear hP2 hobl hobc hwwc hgr hobr hgq hM64 hU64 hall hvb hf3 hcr hcm hcv hcw hB hk hlt hc1 hc2 hb hlen hj d3 hwj
      go_wp2_with fail
      simp only [hvS]
      clear hvS hvS' hz
      try simp only [d4]
      clear d2 d4;obtain ⟨vb,hvb⟩:∃ x,x=wr.heap.size:=⟨_,rfl⟩;obtain ⟨we,hwe⟩:∃ x,x=wr.alloc (.cells #[.int .i64 (vn:Nat),.int .u64 0,.int .u64 0] 88):=⟨_,rfl⟩
      have HBE:Hid (Below vb wr we):=by rw [hwe,hvb];exact (Below.refl _ _).alloc (Nat.le_refl _) _
      have hE1:∀ i v',#[Value.int .i64 (vn:Nat),.int .u64 0,.int .u64 0][i]?=some v'->we.cell? ⟨vb,i,none⟩=some v':=fun i v' h=>by rw [hwe,hvb];exact tgt_on (zbd _ _ _) i v' h
      have hE2:∀ o,we.frozen? ⟨vb,o,none⟩=false:=fun o=>by rw [hwe,hvb];exact zly (zbd _ _ _) o
      have hvz:vb<we.heap.size:=by rw [hwe,hvb,World.size_alloc];omega
      obtain ⟨X,hX⟩:∃ x,x=all &&& M:=⟨_,rfl⟩;obtain ⟨Y,hY⟩:∃ x,x=all &&& M &&& U:=⟨_,rfl⟩
      have HE:Hid (we.cell? ⟨vb,0,none⟩=some (.int .i64 (vn:Nat))/\we.cell? ⟨vb,1,none⟩=some (.int .u64 (lowB X 0:Nat))/\we.cell? ⟨vb,2,none⟩=some (.int .u64 (lowB Y 0:Nat))/\(∀ o,we.frozen? ⟨vb,o,none⟩=false)/\But vb we we) :=
       ⟨hE1 0 _ rfl,by rw [zep];exact hE1 1 _ rfl,by rw [zep];exact hE1 2 _ rfl,hE2,But.of (Below.refl _ _) (by omega)⟩
      have HXY:=Lib.hid (And.intro hX hY)
      have HJB:=Lib.hid ((HLOW.out _ HJ.out.2.2.2.1).trans (HBE.out.mono (by have:=HPK.out.2.2.2.2.2.2.2.2.2.2.2.2.2;omega)))
      have hnw:w.heap.size<vb:=by have:=HPK.out.2.2.2.2.2.2.2.2.2.2.2.2.2;omega
      have hq2e:we.cell? ⟨w.heap.size,2,none⟩=some (.slice (some ⟨b0,off,none⟩) nv cv):=(HBE.out.cell (p:=⟨w.heap.size,2,none⟩) hnw).trans q2
      have HVB:Hid (vb=wr.heap.size):=hvb
      have HBK:Hid (∀ wz,But vb we wz->Below wr.heap.size wr wz):=fun wz h=>by
       have h1:=HBE.out.trans h.below;rw [HVB.out] at h1
       exact h1
      have hobz:ob<wr.heap.size:=HJ.out.1.1
      have HPZ:=Lib.hid fun wz (h:But vb we wz)=>HJ.out.1.keep (HBK.out wz h) hobz
      have HRZ:=Lib.hid fun wz (h:But vb we wz)=>zac HJ.out.2.1 (HBK.out wz h)
      have HVZ:=Lib.hid fun wz (h:But vb we wz)=>zac HJ.out.2.2.1 (HBK.out wz h)
      have HWZ:=Lib.hid fun wz (h:But vb we wz)=>HJ.out.2.2.2.1.trans ((HBK.out wz h).mono (HSZ.out _ HJ.out.2.2.2.1))
      have HDW:=Lib.hid fun wz (h:But vb we wz)=>Nat.le_trans HJ.out.2.2.2.2 (HBK.out wz h).size
      rw [<- hwe,<- hvb];clear hobz;clear hwe hvb hE1 hE2 hX hY q2 k0
      go_loopw [10] (fun iv wz=>∃ (i:Nat),i<=64/\iv=.int .i64 i/\Hid (wz.cell? ⟨vb,0,none⟩=some (.int .i64 (vn:Nat))/\wz.cell? ⟨vb,1,none⟩=some (.int .u64 (lowB X i:Nat))/\wz.cell? ⟨vb,2,none⟩=some (.int .u64 (lowB Y i:Nat))/\(∀ o,wz.frozen? ⟨vb,o,none⟩=false)/\But vb we wz)) (fun iv _=>64 - (intOf iv).toNat)
      case atStart=>exact ⟨0,by omega,rfl,HE⟩
      case round =>
       obtain ⟨i,hi,rfl,HZ⟩:=hrel;obtain ⟨m0,m1,m2,mf,hbut⟩:=HZ.out
       by_cases hi64:i<64
       ·have HBT:=Lib.hid hbut
        have HMF:=Lib.hid mf
        have q2:=(hbut.cell (p:=⟨w.heap.size,2,none⟩) (by show w.heap.size<_;omega) (by show w.heap.size≠vb;omega)).trans hq2e
        have hbw:b0<w.heap.size:=HPK.out.2.2.2.2.2.2.2.2.2.2.2.2.1
        have hcm:=fun (o:Nat)=>(hbut.cell (p:=⟨b0,o,none⟩) (by show b0<_;omega) (by show b0≠vb;omega)).trans (HJB.out.cell (p:=⟨b0,o,none⟩) hbw)
        have c1:=(hcm _).trans HCL.out.1;have c2:=(hcm _).trans HCL.out.2
        have hf1:wr.frozen? ⟨vb,1,none⟩=false:=mf 1
        have hf2:wr.frozen? ⟨vb,2,none⟩=false:=mf 2
        have n1:w.heap.size≠vb:=by omega
        have n1':¬ vb=w.heap.size:=by omega
        have n2:b0≠vb:=by omega
        have n2':¬ vb=b0:=by omega
        have hall:=HPK.out.2.2.2.2.2.2.2.2.2.1;have hM64:=HPK.out.2.2.2.2.2.2.2.1;have hU64:=HPK.out.2.2.2.2.2.2.2.2.1
        have h1:=fun W=>zbo all hall (i:Int) W
        have h2:=fun W=>zbo M hM64 (i:Int) W
        have h3:=fun W=>zbo U hU64 (i:Int) W
        have h4:=fun W=>zdm (lowB X i) (zic X hi) (i:Int) W
        have h5:=fun W=>zdm (lowB Y i) (zic Y hi) (i:Int) W
        have hbX:X.testBit i=(all.testBit i && M.testBit i):=by rw [HXY.out.1,Nat.testBit_and]
        have hbY:Y.testBit i=(all.testBit i && M.testBit i && U.testBit i):=by rw [HXY.out.2,Nat.testBit_and,Nat.testBit_and]
        rw [zcn all hi64] at h1;rw [zcn M hi64] at h2;rw [zcn U hi64] at h3;rw [zdz _ hi64] at h4 h5
        generalize all.testBit i=ta at *
        generalize M.testBit i=tm at *
        generalize U.testBit i=tu at *
        have d1:decide ((i:Int)<64)=true:=by simp;omega
        have g0:(0:Int)<=(i:Int):=Int.natCast_nonneg _
        have g1:(i:Int)<64:=by omega
        have d2:decide (j<nv)=true:=by simp;omega
        have HI64:=Lib.hid (And.intro hi (And.intro hi64 (And.intro hnw (And.intro hvz hbw))));have M0:=Lib.hid m0;clear hi hi64 hnw hvz hbw hbut mf hcm m0 hall hM64 hU64
        cases ta
        ·rw [Bool.false_and] at hbX
         rw [Bool.false_and,Bool.false_and] at hbY
         have HZN:Hid (wr.cell? ⟨vb,0,none⟩=some (.int .i64 (vn:Nat))/\wr.cell? ⟨vb,1,none⟩=some (.int .u64 (lowB X (i+1):Nat))/\wr.cell? ⟨vb,2,none⟩=some (.int .u64 (lowB Y (i+1):Nat))/\(∀ o,wr.frozen? ⟨vb,o,none⟩=false)/\But vb we wr):=⟨M0.out,by rw [<- zc1 hbX];exact m1,by rw [<- zc1 hbY];exact m2,HMF.out,HBT.out⟩
         have H1:=Lib.hid h1;clear h1 h2 h3 h4 h5 hbX hbY
         go_wp2_with (first|(go_at_call 22;(with_reducible refine Calls.mono (H1.out _) ?_);rintro e wx ⟨rfl,rfl⟩))
         go_roundw
         case rel=>exact ⟨i+1,by have:=HI64.out.2.1;omega,by go_num,HZN.out⟩
         case measure=>simp [intOf];have:=HI64.out.2.1;omega
        ·cases tm
         ·rw [Bool.and_false] at hbX
          rw [Bool.and_false,Bool.false_and] at hbY
          have HZN:Hid (wr.cell? ⟨vb,0,none⟩=some (.int .i64 (vn:Nat))/\wr.cell? ⟨vb,1,none⟩=some (.int .u64 (lowB X (i+1):Nat))/\wr.cell? ⟨vb,2,none⟩=some (.int .u64 (lowB Y (i+1):Nat))/\(∀ o,wr.frozen? ⟨vb,o,none⟩=false)/\But vb we wr):=⟨M0.out,by rw [<- zc1 hbX];exact m1,by rw [<- zc1 hbY];exact m2,HMF.out,HBT.out⟩
          have H1:=Lib.hid h1;have H2:=Lib.hid h2;clear h1 h2 h3 h4 h5 hbX hbY
          go_wp2_with (first
           |(go_at_call 22;(with_reducible refine Calls.mono (H1.out _) ?_);rintro e wx ⟨rfl,rfl⟩)
           |(go_at_call 22;(with_reducible refine Calls.mono (H2.out _) ?_);rintro e wx ⟨rfl,rfl⟩))
          go_roundw
          case rel=>exact ⟨i+1,by have:=HI64.out.2.1;omega,by go_num,HZN.out⟩
          case measure=>simp [intOf];have:=HI64.out.2.1;omega
         ·rw [Bool.and_true] at hbX
          rw [Bool.and_true,Bool.true_and] at hbY;rw [zfn hbX] at h4;have H1:=Lib.hid h1;have H2:=Lib.hid h2;have H3:=Lib.hid h3;have H4:=Lib.hid h4;obtain ⟨mx,hmx⟩:∃ x,x=lowB X (i+1):=⟨_,rfl⟩;rw [<- hmx] at H4;have HMX:=Lib.hid hmx;clear h1 h2 h3 h4 hbX hmx
          cases tu
          ·have HZN:Hid ((wr.setCell ⟨vb,1,none⟩ (.int .u64 (mx:Nat))).cell? ⟨vb,0,none⟩=some (.int .i64 (vn:Nat))/\(wr.setCell ⟨vb,1,none⟩ (.int .u64 (mx:Nat))).cell? ⟨vb,1,none⟩=some (.int .u64 (lowB X (i+1):Nat))/\(wr.setCell ⟨vb,1,none⟩ (.int .u64 (mx:Nat))).cell? ⟨vb,2,none⟩=some (.int .u64 (lowB Y (i+1):Nat))/\(∀ o,(wr.setCell ⟨vb,1,none⟩ (.int .u64 (mx:Nat))).frozen? ⟨vb,o,none⟩=false)/\But vb we (wr.setCell ⟨vb,1,none⟩ (.int .u64 (mx:Nat)))) :=
            ⟨(World.cell?_setCell_other _ _ _ _ (by intro e;injection e with e1 e2;omega)).trans M0.out,by rw [<- HMX.out];exact World.cell?_setCell_same _ _ _ m1,by rw [<- zc1 hbY];exact (World.cell?_setCell_other _ _ _ _ (by intro e;injection e with e1 e2;omega)).trans m2,fun o=>by rw [World.frozen?_setCell];exact HMF.out o,HBT.out.trans (But.set 1 _)⟩
           clear h5 hbY
           go_wp2_with (first
            |(go_at_call 22;(with_reducible refine Calls.mono (H1.out _) ?_);rintro e wx ⟨rfl,rfl⟩)
            |(go_at_call 22;(with_reducible refine Calls.mono (H2.out _) ?_);rintro e wx ⟨rfl,rfl⟩)
            |(go_at_call 22;(with_reducible refine Calls.mono (H3.out _) ?_);rintro e wx ⟨rfl,rfl⟩)
            |(go_at_call 23;(with_reducible refine Calls.mono (H4.out _) ?_);rintro e wx ⟨rfl,rfl⟩))
           go_roundw
           case rel=>exact ⟨i+1,by have:=HI64.out.2.1;omega,by go_num,HZN.out⟩
           case measure=>simp [intOf];have:=HI64.out.2.1;omega
          ·rw [zfn hbY] at h5
           have H5:=Lib.hid h5;obtain ⟨my,hmy⟩:∃ x,x=lowB Y (i+1):=⟨_,rfl⟩;rw [<- hmy] at H5;have HMY:=Lib.hid hmy
           have HZN:Hid (((wr.setCell ⟨vb,1,none⟩ (.int .u64 (mx:Nat))).setCell ⟨vb,2,none⟩ (.int .u64 (my:Nat))).cell? ⟨vb,0,none⟩=some (.int .i64 (vn:Nat))/\((wr.setCell ⟨vb,1,none⟩ (.int .u64 (mx:Nat))).setCell ⟨vb,2,none⟩ (.int .u64 (my:Nat))).cell? ⟨vb,1,none⟩=some (.int .u64 (lowB X (i+1):Nat))/\((wr.setCell ⟨vb,1,none⟩ (.int .u64 (mx:Nat))).setCell ⟨vb,2,none⟩ (.int .u64 (my:Nat))).cell? ⟨vb,2,none⟩=some (.int .u64 (lowB Y (i+1):Nat))/\(∀ o,((wr.setCell ⟨vb,1,none⟩ (.int .u64 (mx:Nat))).setCell ⟨vb,2,none⟩ (.int .u64 (my:Nat))).frozen? ⟨vb,o,none⟩=false)/\But vb we ((wr.setCell ⟨vb,1,none⟩ (.int .u64 (mx:Nat))).setCell ⟨vb,2,none⟩ (.int .u64 (my:Nat)))):=by
            have m2':(wr.setCell ⟨vb,1,none⟩ (.int .u64 (mx:Nat))).cell? ⟨vb,2,none⟩=some (.int .u64 (lowB Y i:Nat)):=(World.cell?_setCell_other _ _ _ _ (by intro e;injection e with e1 e2;omega)).trans m2
            refine ⟨(World.cell?_setCell_other _ _ _ _ (by intro e;injection e with e1 e2;omega)).trans ((World.cell?_setCell_other _ _ _ _ (by intro e;injection e with e1 e2;omega)).trans M0.out),?_,?_,fun o=>by rw [World.frozen?_setCell,World.frozen?_setCell];exact HMF.out o,(HBT.out.trans (But.set 1 _)).trans (But.set 2 _)⟩
            ·rw [<- HMX.out]
             exact (World.cell?_setCell_other _ _ _ _ (by intro e;injection e with e1 e2;omega)).trans (World.cell?_setCell_same _ _ _ m1)
            ·rw [<- HMY.out]
             exact World.cell?_setCell_same _ _ _ m2'
           clear h5 hbY hmy
           go_wp2_with (first
            |(go_at_call 22;(with_reducible refine Calls.mono (H1.out _) ?_);rintro e wx ⟨rfl,rfl⟩)
            |(go_at_call 22;(with_reducible refine Calls.mono (H2.out _) ?_);rintro e wx ⟨rfl,rfl⟩)
            |(go_at_call 22;(with_reducible refine Calls.mono (H3.out _) ?_);rintro e wx ⟨rfl,rfl⟩)
            |(go_at_call 23;(with_reducible refine Calls.mono (H4.out _) ?_);rintro e wx ⟨rfl,rfl⟩)
            |(go_at_call 23;(with_reducible refine Calls.mono (H5.out _) ?_);rintro e wx ⟨rfl,rfl⟩))
           go_roundw
           case rel=>exact ⟨i+1,by have:=HI64.out.2.1;omega,by go_num,HZN.out⟩
           case measure=>simp [intOf];have:=HI64.out.2.1;omega
       ·obtain rfl:i=64:=by omega
        rw [zfp (Nat.lt_of_le_of_lt (by rw [HXY.out.1];exact Nat.and_le_left) HPK.out.2.2.2.2.2.2.2.2.2.1)] at m1
        rw [zfp (Nat.lt_of_le_of_lt (by rw [HXY.out.2];exact Nat.le_trans Nat.and_le_left Nat.and_le_left) HPK.out.2.2.2.2.2.2.2.2.2.1)] at m2
        have HBT:=Lib.hid hbut;have HPW:=Lib.hid (HPZ.out wr hbut);have HRW:=Lib.hid (HRZ.out wr hbut);have HVW:=Lib.hid (HVZ.out wr hbut);have HWW:=Lib.hid (HWZ.out wr hbut);have hdw:=HDW.out wr hbut
        have y2:wr.cell? ⟨ob,2,none⟩=some (.slice Aq j cq):=(HPW.out.2 2 (by omega)).1
        have hobl:=HPK.out.2.1;have hobc:=HPK.out.2.2.1;have hobr:=HPK.out.2.2.2.2.2.1;have hwwc:=HPK.out.2.2.2.1;have hgr:=HPK.out.2.2.2.2.1
        have hvnb:vidF lv (j+1)=vn:=HVS.out
        have hj8:=hjn.2;clear hbut mf hnw hvz hvnb
        go_wp2_with (first
         |(at_builtin;refine zcm _ rfl stVls3 _ _ rfl dz (.slice Aq j cq) j (vlc (zcj all lv j)) rfl (zac HVW.out ((Below.refl _ _).alloc (Nat.le_refl _) _)) (wr.heap.size+1) _ 1 [.int .i64 (vn:Nat),.int .u64 (X:Nat),.int .u64 (Y:Nat)] rfl (Sl.litN wr #[.int .i64 (vn:Nat),.int .u64 (X:Nat),.int .u64 (Y:Nat)] _ 1 3 rfl (by decide)) (by simp [Value.oneCell']) (by omega) (by first|go_size|(simp;omega)) ?_;intro A9 c9 w9 hown9 hgr9 hat9 hbel9;(have HB9:Hid (Below dz wr w9):=Below.trans (((Below.refl _ _).alloc (by omega) _)) hbel9);(have HPP:=Lib.hid (HPW.out.keep HB9.out hobr));(have y9:w9.cell? ⟨ob,2,none⟩=some (.slice Aq j cq):=(HPP.out.2 2 (by omega)).1);(have f9:=(HPP.out.2 2 (by omega)).2);(have HO9:=Lib.hid hown9);clear hown9 hgr9 hat9 hbel9))
        have HZ9:Hid (za7 (w9.setCell ⟨ob,2,none⟩ (.slice A9 (j+1) c9)) ob (zdn (k:Nat) ur (.slice A9 (j+1) c9) (S:Nat) (B:Nat) (n:Nat) (T:Nat) (G:Nat) nm sh)/\(w9.setCell ⟨ob,2,none⟩ (.slice A9 (j+1) c9)).ownsRow wc.heap.size 85 2 ur k (rlc (zck lr k))/\(w9.setCell ⟨ob,2,none⟩ (.slice A9 (j+1) c9)).ownsRow dz 88 3 (.slice A9 (j+1) c9) (j+1) (vlc (zcj all lv (j+1)))/\Below (w.heap.size+2) ((w.alloc (.cells #[.int .i64 P0,.slice Ar nr cr,.slice (some ⟨b0,off,none⟩) nv cv,.int .i64 a,.int .i64 b,.int .i64 c,.int .i64 t,.int .i64 r,.int .u32 nm,.int .u32 sh] 28)).alloc (.cells #[.int .i64 0,.slice none 0 0,.slice none 0 0,.int .i64 0,.int .i64 0,.int .i64 0,.int .i64 0,.int .i64 0,.int .u32 0,.int .u32 0] 28)) (w9.setCell ⟨ob,2,none⟩ (.slice A9 (j+1) c9))/\dz<=(w9.setCell ⟨ob,2,none⟩ (.slice A9 (j+1) c9)).heap.size):=by
         refine ⟨HPP.out.set2,?_,?_,?_,?_⟩
         ·refine zcb (zcb HRW.out (fun g e=>HB9.out.block g (hrb g e))) (fun g e=>zab _ _ _ (by have:=(HRW.out.lt g e).1;show g≠ob;omega))
         ·rw [HXF.out,<- HVN.out,<- HXY.out.2,<- HXY.out.1]
          exact zcb HO9.out (fun g e=>zab _ _ _ (by have:=(HO9.out.lt g e).1;show g≠ob;omega))
         ·exact (HWW.out.trans (HB9.out.mono (by omega))).setCell (by show w.heap.size+2<=ob;omega) _
         ·rw [World.size_setCell];have:=HB9.out.size;omega
        go_roundw
        case rel=>exact ⟨j+1,A9,c9,by rw [HVS.out],by go_num,by omega,HZ9.out⟩
        case measure=>simp [intOf];omega
     ·have hD1:j<nv->decide ((j:Int)<8)=false:=fun h=>decide_eq_false (by omega)
      have hD2:j<nv->¬ (j:Int)<8:=fun h=>by omega
      have hmin:min nv 8=j:=by omega
      have hne:ob≠w.heap.size+1:=by omega
      have hne':¬ w.heap.size+1=ob:=by omega
      have HDZ2:Hid (w.heap.size<=dz):=by show _<=_;omega
      have y0:wr.cell? ⟨ob,0,none⟩=some (.int .i64 (k:Nat)):=(HJ.out.1.2 0 (by omega)).1
      have y1:wr.cell? ⟨ob,1,none⟩=some ur:=(HJ.out.1.2 1 (by omega)).1
      have y2:wr.cell? ⟨ob,2,none⟩=some (.slice Aq j cq):=(HJ.out.1.2 2 (by omega)).1
      have y3:wr.cell? ⟨ob,3,none⟩=some (.int .i64 (S:Nat)):=(HJ.out.1.2 3 (by omega)).1
      have y4:wr.cell? ⟨ob,4,none⟩=some (.int .i64 (B:Nat)):=(HJ.out.1.2 4 (by omega)).1
      have y5:wr.cell? ⟨ob,5,none⟩=some (.int .i64 (n:Nat)):=(HJ.out.1.2 5 (by omega)).1
      have y6:wr.cell? ⟨ob,6,none⟩=some (.int .i64 (T:Nat)):=(HJ.out.1.2 6 (by omega)).1
      have y7:wr.cell? ⟨ob,7,none⟩=some (.int .i64 (G:Nat)):=(HJ.out.1.2 7 (by omega)).1
      have y8:wr.cell? ⟨ob,8,none⟩=some (.int .u32 nm):=(HJ.out.1.2 8 (by omega)).1
      have y9:wr.cell? ⟨ob,9,none⟩=some (.int .u32 sh):=(HJ.out.1.2 9 (by omega)).1
      rw [HUR.out] at y1
      have HTH:Hid (wr.there (w.heap.size+1) 0 10):=by
       obtain ⟨z0,z1,z2,z3,z4,z5,z6,z7,z8,z9,zf⟩:=HRES.out _ HJ.out.2.2.2.1;intro i hi;rw [Nat.zero_add]
       refine ⟨?_,zf i⟩
       match i,hi with
       |0,_=>rw [z0];rfl
       |1,_=>rw [z1];rfl
       |2,_=>rw [z2];rfl
       |3,_=>rw [z3];rfl
       |4,_=>rw [z4];rfl
       |5,_=>rw [z5];rfl
       |6,_=>rw [z6];rfl
       |7,_=>rw [z7];rfl
       |8,_=>rw [z8];rfl
       |9,_=>rw [z9];rfl
      have hbz:=HLOW.out _ HJ.out.2.2.2.1;have HO1:=Lib.hid HJ.out.2.1;have HO2:=Lib.hid HJ.out.2.2.1;rw [HEA.out] at HO2;rw [HUR.out] at HO1;have HPK:=Lib.hid (And.intro hP2 (And.intro hobl (And.intro hobc (And.intro hwwc (And.intro hgr (And.intro hobr (And.intro hgq hmin)))))));clear hP2 hobl hobc hwwc hgr hobr hgq hall hcr hcm hcv hcw hB hk hlt hj hmin hvj HJ HI1 HIR HIB HALL HV HOK HBOX HLOW HSZ HRES HC HUR HDZ HEA
      by_cases hjv:j<nv
      ·have d1:decide (j<nv)=true:=decide_eq_true hjv
       have d2:=hD1 hjv;have hj8:=hD2 hjv;clear hjn hD1 hD2
       go_upto_region 24 with fail
       clear q2 d1 d2
       go_wp2_with (first
        |(refine zak (by rfl) 28 _ _ (by rfl) (w.heap.size+1) 0 #[.int .i64 (k:Nat),.slice Au k cu,.slice Aq j cq,.int .i64 (S:Nat),.int .i64 (B:Nat),.int .i64 (n:Nat),.int .i64 (T:Nat),.int .i64 (G:Nat),.int .u32 nm,.int .u32 sh] (by rfl) (by rfl) HTH.out (by kernel_rfl) (by simp [Value.oneCell']) ?_;intro wz hst;(have HST:=Lib.hid hst);clear y0 y1 y2 y3 y4 y5 y6 y7 y8 y9;(have z0:wz.cell? ⟨w.heap.size+1,0,none⟩=some (.int .i64 (k:Nat)):=hst.cells 0 _ rfl);(have z1:wz.cell? ⟨w.heap.size+1,1,none⟩=some (.slice Au k cu):=hst.cells 1 _ rfl);(have z2:wz.cell? ⟨w.heap.size+1,2,none⟩=some (.slice Aq j cq):=hst.cells 2 _ rfl);(have z3:wz.cell? ⟨w.heap.size+1,3,none⟩=some (.int .i64 (S:Nat)):=hst.cells 3 _ rfl);(have z4:wz.cell? ⟨w.heap.size+1,4,none⟩=some (.int .i64 (B:Nat)):=hst.cells 4 _ rfl);(have z5:wz.cell? ⟨w.heap.size+1,5,none⟩=some (.int .i64 (n:Nat)):=hst.cells 5 _ rfl);(have z6:wz.cell? ⟨w.heap.size+1,6,none⟩=some (.int .i64 (T:Nat)):=hst.cells 6 _ rfl);(have z7:wz.cell? ⟨w.heap.size+1,7,none⟩=some (.int .i64 (G:Nat)):=hst.cells 7 _ rfl);(have z8:wz.cell? ⟨w.heap.size+1,8,none⟩=some (.int .u32 nm):=hst.cells 8 _ rfl);(have z9:wz.cell? ⟨w.heap.size+1,9,none⟩=some (.int .u32 sh):=hst.cells 9 _ rfl);clear hst;rename_i hA;refine hA _ _ (Hid.out ?_);clear hA))
       refine Lib.hid ?_
       refine wp_ret ?_
       exact bodyPost_ret (v:=zbb (k:Nat) (.slice Au k cu) (.slice Aq j cq) (S:Nat) (B:Nat) (n:Nat) (T:Nat) (G:Nat) nm sh) (by simp [results,Tryz.results7,go_sem,zbb,z0,z1,z2,z3,z4,z5,z6,z7,z8,z9]) rfl ⟨_,_,rfl,zas (za1 HO1.out HST.out (fun e=>by have h1:=(HO1.out.lt _ e).1;have:=HPK.out.2.2.2.1;omega)) (by have:=HPK.out.2.2.2.1;omega),(by rw [HPK.out.2.2.2.2.2.2.2];exact zas (za1 HO2.out HST.out (fun e=>by have h1:=(HO2.out.lt _ e).1;have:=HPK.out.2.2.2.1;have:=HPK.out.2.2.2.2.1;have:=HPK.out.2.2.1;have:=HPK.out.2.2.2.2.2.1;have:=HPK.out.2.1;omega)) HDZ2.out),hbz.trans (HST.out.below _ (by omega))⟩
      ·have d1:decide (j<nv)=false:=decide_eq_false hjv
       clear hjn hD1 hD2
       go_upto_region 24 with fail
       clear q2 d1
       go_wp2_with (first
        |(refine zak (by rfl) 28 _ _ (by rfl) (w.heap.size+1) 0 #[.int .i64 (k:Nat),.slice Au k cu,.slice Aq j cq,.int .i64 (S:Nat),.int .i64 (B:Nat),.int .i64 (n:Nat),.int .i64 (T:Nat),.int .i64 (G:Nat),.int .u32 nm,.int .u32 sh] (by rfl) (by rfl) HTH.out (by kernel_rfl) (by simp [Value.oneCell']) ?_;intro wz hst;(have HST:=Lib.hid hst);clear y0 y1 y2 y3 y4 y5 y6 y7 y8 y9;(have z0:wz.cell? ⟨w.heap.size+1,0,none⟩=some (.int .i64 (k:Nat)):=hst.cells 0 _ rfl);(have z1:wz.cell? ⟨w.heap.size+1,1,none⟩=some (.slice Au k cu):=hst.cells 1 _ rfl);(have z2:wz.cell? ⟨w.heap.size+1,2,none⟩=some (.slice Aq j cq):=hst.cells 2 _ rfl);(have z3:wz.cell? ⟨w.heap.size+1,3,none⟩=some (.int .i64 (S:Nat)):=hst.cells 3 _ rfl);(have z4:wz.cell? ⟨w.heap.size+1,4,none⟩=some (.int .i64 (B:Nat)):=hst.cells 4 _ rfl);(have z5:wz.cell? ⟨w.heap.size+1,5,none⟩=some (.int .i64 (n:Nat)):=hst.cells 5 _ rfl);(have z6:wz.cell? ⟨w.heap.size+1,6,none⟩=some (.int .i64 (T:Nat)):=hst.cells 6 _ rfl);(have z7:wz.cell? ⟨w.heap.size+1,7,none⟩=some (.int .i64 (G:Nat)):=hst.cells 7 _ rfl);(have z8:wz.cell? ⟨w.heap.size+1,8,none⟩=some (.int .u32 nm):=hst.cells 8 _ rfl);(have z9:wz.cell? ⟨w.heap.size+1,9,none⟩=some (.int .u32 sh):=hst.cells 9 _ rfl);clear hst;rename_i hA;refine hA _ _ (Hid.out ?_);clear hA))
       refine Lib.hid ?_
       refine wp_ret ?_
       exact bodyPost_ret (v:=zbb (k:Nat) (.slice Au k cu) (.slice Aq j cq) (S:Nat) (B:Nat) (n:Nat) (T:Nat) (G:Nat) nm sh) (by simp [results,Tryz.results7,go_sem,zbb,z0,z1,z2,z3,z4,z5,z6,z7,z8,z9]) rfl ⟨_,_,rfl,zas (za1 HO1.out HST.out (fun e=>by have h1:=(HO1.out.lt _ e).1;have:=HPK.out.2.2.2.1;omega)) (by have:=HPK.out.2.2.2.1;omega),(by rw [HPK.out.2.2.2.2.2.2.2];exact zas (za1 HO2.out HST.out (fun e=>by have h1:=(HO2.out.lt _ e).1;have:=HPK.out.2.2.2.1;have:=HPK.out.2.2.2.2.1;have:=HPK.out.2.2.1;have:=HPK.out.2.2.2.2.2.1;have:=HPK.out.2.1;omega)) HDZ2.out),hbz.trans (HST.out.below _ (by omega))⟩
end Go.Proofs.YtfekhdgjgjodlaaGreat
