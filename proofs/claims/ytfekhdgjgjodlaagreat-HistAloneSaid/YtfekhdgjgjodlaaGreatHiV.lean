/-
  Words and contracts that a statement's proof rests on (HiV). No statement is proved here.
-/
import Derived.Test.YtfekhdgjgjodlaaGreatHiC
import Derived.Test.YtfekhdgjgjodlaaGreatMoK
import Derived.Test.YtfekhdgjgjodlaaGreatPlainHl
set_option linter.unusedVariables false
set_option linter.unusedSimpArgs false
namespace Go.Proofs.YtfekhdgjgjodlaaGreat
open Go.RowKit
def OpRow (w:World) (B n:Nat) (v:Value) (Q:Nat→Od):Prop :=
 ∃ A cap,v=.slice A n cap∧n≤cap∧cap≤maxLen∧(0 < n→∃ b off,A=some ⟨b,off,none⟩∧b < B∧∀ i,i < n→w.rangeAt b (off + i * 14) (Q i).cells)
theorem OpRow.below {w w':World} {B n:Nat} {v:Value} {Q:Nat→Od} (h:OpRow w B n v Q) (hb:Below B w w'):OpRow w' B n v Q:=by
 obtain ⟨A,cap,hv,h1,h2,h3⟩:=h
 refine ⟨A,cap,hv,h1,h2,fun hn => ?_⟩
 obtain ⟨b,off,e,hb',hc⟩:=h3 hn
 exact ⟨b,off,e,hb',fun j hj => rangeAt_below (hc j hj) hb hb'⟩
theorem OpRow.mono {w:World} {B B' n:Nat} {v:Value} {Q:Nat→Od} (h:OpRow w B n v Q) (hB:B≤B'):OpRow w B' n v Q:=by
 obtain ⟨A,cap,hv,h1,h2,h3⟩:=h
 refine ⟨A,cap,hv,h1,h2,fun hn => ?_⟩
 obtain ⟨b,off,e,hb',hc⟩:=h3 hn
 exact ⟨b,off,e,Nat.lt_of_lt_of_le hb' hB,hc⟩
theorem ops_of (w:World) (b off:Nat):∀ n,(∀ i,i < n→∃ x:Od,w.rangeAt b (off + i * 14) x.cells∧x.ok)→∃ Q:Nat→Od,∀ i,i < n→w.rangeAt b (off + i * 14) (Q i).cells∧(Q i).ok
 | 0,_ => ⟨fun _ => ⟨0,0,0,0,0,0,0,0,0,0,0,0,0,0⟩,fun i hi => absurd hi (by omega)⟩
 | n + 1,h => by
  obtain ⟨Q,hQ⟩:=ops_of w b off n fun i hi => h i (by omega)
  obtain ⟨x,hx⟩:=h n (by omega)
  refine ⟨fun i => if i=n then x else Q i,fun i hi => ?_⟩
  by_cases e:i=n
  ·subst e
   simp only [if_true]
   exact hx
  ·simp only [if_neg e]
   exact hQ i (by omega)
theorem Ops17.row {w:World} {v:Value} (h:Ops17 w v):∃ (n:Nat) (Q:Nat→Od),OpRow w w.heap.size n v Q∧∀ i,i < n→(Q i).ok:=by
 obtain ⟨A,n,cap,rfl,h1,h2,h3⟩:=h
 rcases Nat.eq_zero_or_pos n with h0 | h0
 ·subst h0
  exact ⟨0,fun _ => ⟨0,0,0,0,0,0,0,0,0,0,0,0,0,0⟩,⟨A,cap,rfl,h1,h2,fun h => absurd h (by omega)⟩,fun i hi => absurd hi (by omega)⟩
 obtain ⟨b,off,rfl,hb,hc⟩:=h3 h0
 obtain ⟨Q,hQ⟩:=ops_of w b off n fun i hi => by
  obtain ⟨kd,po,tt,vi,sx,kv,km,me,un,nw,li,sh,bu,id,⟨k1,k2,k3,k4,k5,k6⟩,e0,e1,e2,e3,e4,e5,e6,e7,e8,e9,e10,e11,e12,e13⟩:=hc i hi
  refine ⟨⟨kd,po,tt,vi,sx,kv,km,me,un,nw,li,sh,bu,id⟩,fun j v hv => ?_,k1,k2,k3,k4,k5⟩
  have hj:j < 14:=(List.getElem?_eq_some_iff.1 hv).1
  rw [← hv]
  match j,hj with
  | 0,_ => exact e0
  | 1,_ => exact e1
  | 2,_ => exact e2
  | 3,_ => exact e3
  | 4,_ => exact e4
  | 5,_ => exact e5
  | 6,_ => exact e6
  | 7,_ => exact e7
  | 8,_ => exact e8
  | 9,_ => exact e9
  | 10,_ => exact e10
  | 11,_ => exact e11
  | 12,_ => exact e12
  | 13,_ => exact e13
  | _ + 14,hh => omega
 exact ⟨n,Q,⟨_,cap,rfl,h1,h2,fun _ => ⟨b,off,rfl,hb,fun i hi => (hQ i hi).1⟩⟩,fun i hi => (hQ i hi).2⟩
section
variable {w:World} {N Bo nr nv m:Nat} {vr vv v:Value} {lr:List Rl} {lv:List Vl} {QO:Nat→Od} {P S B n r:Nat} {t:Int}
set_option maxRecDepth 20000 in
set_option maxHeartbeats 12800000 in
theorem law18_alone (hr:Sl w Bo 2 vr nr (rlc lr)) (hv:Sl w Bo 3 vv nv (vlc lv)) (hB:Bo≤w.heap.size) (hp:PlanOk lr lv nr nv m P S B n r t) (hl:OpRow w Bo N v QO) (hop:∀ i,i < N→(QO i).ok) (nm sh:Int) :
  Calls Tryz.prog 17 #[planV P vr vv S B n t r nm sh,v] w fun e w' => ∃ u,e=.returned u∧w'.ownsRow w.heap.size 57 19 u (min N 60) (encE (listE (aloE P r S B n nv QO (ms0 lv)) (min N 60)))∧Below w.heap.size w w':=by
 have HNW:Hid (∀ w',Below w.heap.size w w'→Calls Tryz.prog 18 #[planV P vr vv S B n t r nm sh] w' fun e w2 => ∃ (A S1 Q cQ:Nat) (X:Nat→Value) (bp bq:Nat) (uv:Value) (R:Nat→Nat) (G:Nat→Value),e=.returned (.pointer (some ⟨A,0,none⟩))∧RfAll (fun b => b < w'.heap.size) w2 w'.heap.size A S1 Q cQ X bp bq P r S B n nv uv (ms0 lv).lv (ms0 lv).st (ms0 lv).g G R (fun _ _ => .slice none 0 0) (ms0 lv).qs∧Below w'.heap.size w' w2):=fun w' hb => ref17_New (hr.below (hb.mono hB)) (hv.below (hb.mono hB)) (Nat.le_trans hB hb.size) hp.hv P S B n r t nm sh hp.hP hp.hS hp.hB hp.hn
 obtain ⟨s0,hs0⟩:∃ s,s=ms0 lv:=⟨_,rfl⟩
 have HGD:Hid (s0.good∧∀ i j,(s0.qs i j).length≤r):=by rw [hs0]; exact ⟨ms0_good hp.ok,fun _ _ => Nat.zero_le _⟩
 rw [← hs0] at HNW ⊢
 clear hs0
 obtain ⟨Ar,cr,rfl,hcr,hcm⟩:=hr.form
 obtain ⟨Av,cv,rfl,hcv,hcw⟩:=hv.form
 obtain ⟨Al,cl,rfl,hcl,hcx,hlc⟩:=hl
 unfold maxLen at hcx
 have HC:=Lib.hid hlc
 have HPK:=Lib.hid (And.intro hp (And.intro hB (And.intro hop hcl)))
 obtain ⟨M,hM⟩:∃ M,M=min N 60:=⟨_,rfl⟩
 rw [← hM]
 have HMM:=Lib.hid hM
 clear hr hv hB hp hop hcr hcm hcv hcw hlc hcl hM
 unfold planV at HNW ⊢
 go_enter Tryz.func17,Tryz.ntmps17
 go_upto_region 1 with fail
 obtain ⟨w0,hw0⟩:∃ w0,w0=w.alloc (.cells #[.int .i64 (P:Nat),.slice Ar nr cr,.slice Av nv cv,.int .i64 (S:Nat),.int .i64 (B:Nat),.int .i64 (n:Nat),.int .i64 t,.int .i64 (r:Nat),.int .u32 nm,.int .u32 sh] 28):=⟨_,rfl⟩
 have HW0:=Lib.hid (box_below hw0)
 have HRP:Hid (w0.rangeAt w.heap.size 0 [.int .i64 (P:Nat),.slice Ar nr cr,.slice Av nv cv,.int .i64 (S:Nat),.int .i64 (B:Nat),.int .i64 (n:Nat),.int .i64 t,.int .i64 (r:Nat),.int .u32 nm,.int .u32 sh]):=rng10 hw0
 (try rw [← hw0])
 clear hw0
 go_wp2_with (first
  | (refine wpList_load_mid (by rfl) 28 _ (by rfl) w.heap.size 0 (by rfl) [.int .i64 (P:Nat),.slice Ar nr cr,.slice Av nv cv,.int .i64 (S:Nat),.int .i64 (B:Nat),.int .i64 (n:Nat),.int .i64 t,.int .i64 (r:Nat),.int .u32 nm,.int .u32 sh] _ HRP.out Tryz.underlying28 (by rfl) (by kernel_rfl) ?_; clear HRP)
  | (go_at_call 18; (with_reducible refine Calls.mono (HNW.out _ HW0.out.1) ?_); rintro e w1 ⟨A,S1,Q,cQ,X,bp,bq,uv,Rf,G,rfl,hm,hb1⟩; (have HM1:=Lib.hid hm); (have HB1:=Lib.hid hb1); clear hm hb1)
  | fail)
 clear HNW
 go_loopw [6,7] (fun pv iv wr => ∃ (k:Nat) (E:Nat→Prop) (qv':Nat→Nat→Value) (pw:Value) (wx:World),pw=pv∧wx=wr∧k≤M∧k≤60∧iv=.int .i64 k∧Hid (RfAll E wr w0.heap.size A S1 Q cQ X bp bq P r S B n nv uv (stN P r S B n nv QO s0 k).lv (stN P r S B n nv QO s0 k).st (stN P r S B n nv QO s0 k).g G Rf qv' (stN P r S B n nv QO s0 k).qs∧(stN P r S B n nv QO s0 k).good∧wr.ownsRow w0.heap.size 57 19 pv k (encE (listE (aloE P r S B n nv QO s0) k))∧(∀ z,pv.ownBlock=some z→E z)∧Below w0.heap.size w0 wr∧∀ i j,i < P→j < P→((stN P r S B n nv QO s0 k).qs i j).length≤r)) (fun _ iv _ => 60 - (intOf iv).toNat)
 case atStart => exact ⟨0,_,_,_,_,rfl,rfl,Nat.zero_le _,Nat.zero_le _,rfl,HM1.out,HGD.out.1,⟨rfl,.inl ⟨rfl,rfl⟩⟩,fun z hz => (by cases hz),HB1.out,fun i j _ _ => HGD.out.2 i j⟩
 case round =>
  obtain ⟨k,E,qv',pv,wr,rfl,rfl,hk,hk6,rfl,HI⟩:=hrel
  by_cases hlt:k < N∧k < 60
  ·have d1:decide (k < N)=true:=decide_eq_true hlt.1
   have d2:decide ((k:Int) < 60)=true:=decide_eq_true (by omega)
   have d2':decide (k < 60)=true:=decide_eq_true (by omega)
   have g0:(0:Int)≤(k:Int):=Int.natCast_nonneg _
   have g1:(k:Int) < (N:Int):=by omega
   have hkM:k < M:=by have:=HMM.out; omega
   obtain ⟨b,off,rfl,hb,hc⟩:=HC.out (by omega)
   have HSP:Hid (∀ w',Below w0.heap.size w0 w'→w'.rangeAt b (off + k * 14) (QO k).cells):=fun w' hb9 => rangeAt_below (hc k hlt.1) (HW0.out.1.trans (hb9.mono HW0.out.1.size)) (by have:=HPK.out.2.1; omega)
   have hdo:∀ E2 w',RfAll E2 w' w0.heap.size A S1 Q cQ X bp bq P r S B n nv uv (stN P r S B n nv QO s0 k).lv (stN P r S B n nv QO s0 k).st (stN P r S B n nv QO s0 k).g G Rf qv' (stN P r S B n nv QO s0 k).qs→Calls Tryz.prog 19 #[.pointer (some ⟨A,0,none⟩),.agg (QO k).cells.toArray] w' (DoneR E2 w' w0.heap.size A S1 Q cQ X bp bq P r S B n nv uv G Rf (stN P r S B n nv QO s0 (k + 1)) (doA P r S B n nv (stN P r S B n nv QO s0 k) (QO k))):=fun E2 w' hrf => ref17_DoAll hrf HPK.out.1.hr HPK.out.1.hS HPK.out.1.hB HPK.out.1.hn HI.out.2.1 (fun i j hi hj => Nat.le_trans (HI.out.2.2.2.2.2 i j hi hj) (by have:=HPK.out.1.hr; omega)) (QO k) (HPK.out.2.2.1 k hlt.1)
   have HQL:Hid (∀ i2 j2,i2 < P→j2 < P→((stN P r S B n nv QO s0 (k + 1)).qs i2 j2).length≤r):=doS_len HI.out.2.2.2.2.2
   obtain ⟨av,hav⟩:∃ a,a=doA P r S B n nv (stN P r S B n nv QO s0 k) (QO k):=⟨_,rfl⟩
   obtain ⟨x,hx⟩:∃ x,x=QO k:=⟨_,rfl⟩
   have HX:Hid (encE (listE (aloE P r S B n nv QO s0) (k + 1))=encE (listE (aloE P r S B n nv QO s0) k) ++ (⟨3,3 * (k:Int),3 * (k:Int) + 2,3 * (k:Int) + 3,x,av⟩:Ent).cells):=Lib.hid (by
    rw [listE_succ,encE_append,encE_one,hx,hav]
    rfl)
   rw [← hav] at hdo
   rw [← hx] at HSP hdo
   clear hx hav hc hb
   obtain ⟨kd,po,tt,vi,sx,kv,km,me,un,nw,li,sh',bu,id⟩:=x
   unfold Od.cells at HSP hdo
   unfold Ent.cells at HX
   simp only [] at HSP hdo HX
   have HDO:=Lib.hid hdo
   obtain ⟨b3,hb3⟩:∃ z:Int,z=3 * (k:Int):=⟨_,rfl⟩
   obtain ⟨m3,hm3⟩:∃ z:Int,z=b3 + 2:=⟨_,rfl⟩
   obtain ⟨f3,hf3⟩:∃ z:Int,z=b3 + 3:=⟨_,rfl⟩
   rw [← hb3,← hm3,← hf3] at HX
   have y1:IntKind.i64.wrap (3 * (k:Int))=b3:=by rw [IntKind.wrap_i64]; omega
   have y2:IntKind.i64.wrap (b3 + 2)=m3:=by rw [IntKind.wrap_i64]; omega
   have y3:IntKind.i64.wrap (b3 + 3)=f3:=by rw [IntKind.wrap_i64]; omega
   clear hdo hb3 hm3 hf3
   go_wp2_with fail
   refine wp_region_held_drew (S:=fun w' => w'.rangeAt b (off + k * 14) [.int .i64 kd,.int .i64 po,.int .i64 tt,.int .i64 vi,.int .i64 sx,.int .i64 kv,.int .u64 (km:Nat),.int .u64 (me:Nat),.int .u64 (un:Nat),.int .u32 (nw:Nat),.int .u32 (li:Nat),.int .i64 sh',.int .i64 bu,.int .i64 id]) (by kernel_rfl) ?_ (fun hHeld => ?_)
   ·exact HSP.out _ (HI.out.2.2.2.2.1.drew)
   obtain ⟨v0,hv0⟩:∃ w',w'=wr.drew:=⟨_,rfl⟩
   have hvb:Below wr.heap.size wr v0:=by rw [hv0]; exact (Below.refl _ _).drew
   rw [← hv0] at hHeld ⊢
   clear hv0
   refine tkR 0 rfl ?_
   refine tkR 1 rfl ?_
   refine tkR 2 rfl ?_
   refine tkR 3 rfl ?_
   refine tkR 4 rfl ?_
   refine tkR 5 rfl ?_
   refine tkR 6 rfl ?_
   refine tkR 7 rfl ?_
   refine tkR 8 rfl ?_
   refine tkR 9 rfl ?_
   refine tkR 10 rfl ?_
   refine tkR 11 rfl ?_
   refine tkL 12 rfl ?_ (yieldsIf_load_mid (by rfl) _ _ rfl b (off + k * 14) rfl [.int .i64 kd,.int .i64 po,.int .i64 tt,.int .i64 vi,.int .i64 sx,.int .i64 kv,.int .u64 (km:Nat),.int .u64 (me:Nat),.int .u64 (un:Nat),.int .u32 (nw:Nat),.int .u32 (li:Nat),.int .i64 sh',.int .i64 bu,.int .i64 id] _ (fun _ h => h) Tryz.underlying55 (by rfl) (by kernel_rfl))
   refine tkR 13 rfl ?_
   refine tkR 14 rfl ?_
   refine tkR 15 rfl ?_
   refine tkR 16 rfl ?_
   refine tkL 17 rfl ?_ (yieldsIf_load_mid (by rfl) _ _ rfl b (off + k * 14) rfl [.int .i64 kd,.int .i64 po,.int .i64 tt,.int .i64 vi,.int .i64 sx,.int .i64 kv,.int .u64 (km:Nat),.int .u64 (me:Nat),.int .u64 (un:Nat),.int .u32 (nw:Nat),.int .u32 (li:Nat),.int .i64 sh',.int .i64 bu,.int .i64 id] _ (fun _ h => h) Tryz.underlying55 (by rfl) (by kernel_rfl))
   refine clR 18 rfl fun K hK => ?_
   go_simp
   refine Calls.mono (HDO.out _ _ (HI.out.1.call hvb)) ?_
   rintro e wd ⟨qv2,rfl,hm2,hg2,hf2⟩
   have HM3:=Lib.hid (And.intro hm2 (And.intro hg2 hf2))
   have HO4:Hid (wd.ownsRow w0.heap.size 57 19 pv k (encE (listE (aloE P r S B n nv QO s0) k))):=own_low' (own_below HI.out.2.2.1 hvb) fun z hz => (hf2.kp z (HI.out.2.2.2.1 z hz))
   have HB4:Hid (Below w0.heap.size w0 wd):=(HI.out.2.2.2.2.1.trans (hvb.mono HI.out.2.2.2.2.1.size)).trans hf2.low
   clear hm2 hg2 hf2
   refine hK.out _ _ ?_ (fun hHeld => ?_)
   ·(try dsimp only)
    exact HSP.out _ HB4.out
   clear hK K
   refine tkR 19 rfl ?_
   refine clR 20 rfl fun K hK => ?_
   go_simp
   refine hK.out _ _ ?_ (fun hHeld => ?_)
   ·(try dsimp only)
    exact HSP.out _ (HB4.out.alloc HB4.out.size _)
   clear hK K
   (try simp only [Act.put,sqA,sqB,sqC])
   refine clR 21 rfl fun K hK => ?_
   refine step_app _ (by rfl) stEnR18 _ _ (by rfl) w0.heap.size _ k _ (by rfl) (own_below HO4.out ((Below.refl _ _).alloc (Nat.le_refl _) (.cells #[.int .i64 3,.int .i64 b3,.int .i64 m3,.int .i64 f3,.int .i64 kd,.int .i64 po,.int .i64 tt,.int .i64 vi,.int .i64 sx,.int .i64 kv,.int .u64 (km:Nat),.int .u64 (me:Nat),.int .u64 (un:Nat),.int .u32 (nw:Nat),.int .u32 (li:Nat),.int .i64 sh',.int .i64 bu,.int .i64 id,.int .i64 av] 57))) (wd.heap.size + 1) _ 1 [.int .i64 3,.int .i64 b3,.int .i64 m3,.int .i64 f3,.int .i64 kd,.int .i64 po,.int .i64 tt,.int .i64 vi,.int .i64 sx,.int .i64 kv,.int .u64 (km:Nat),.int .u64 (me:Nat),.int .u64 (un:Nat),.int .u32 (nw:Nat),.int .u32 (li:Nat),.int .i64 sh',.int .i64 bu,.int .i64 id,.int .i64 av] (by rfl) (Sl.litN wd #[.int .i64 3,.int .i64 b3,.int .i64 m3,.int .i64 f3,.int .i64 kd,.int .i64 po,.int .i64 tt,.int .i64 vi,.int .i64 sx,.int .i64 kv,.int .u64 (km:Nat),.int .u64 (me:Nat),.int .u64 (un:Nat),.int .u32 (nw:Nat),.int .u32 (li:Nat),.int .i64 sh',.int .i64 bu,.int .i64 id,.int .i64 av] _ 1 19 rfl (by decide)) (by simp [Value.oneCell']) (by omega) (by have:=HB4.out.size; simp; omega) ?_
   intro v2 w2 hown2 hgr2 hat2 hbel2
   refine hK.out _ _ ?_ (fun hHeld => ?_)
   ·(try dsimp only)
    exact HSP.out _ ((HB4.out.alloc HB4.out.size _).trans hbel2)
   clear hK K
   refine tkR 22 rfl ?_
   refine wpAnyH_done (by kernel_rfl) ?_ _
   have HO2:Hid (w2.ownsRow w0.heap.size 57 19 v2 (k + 1) (encE (listE (aloE P r S B n nv QO s0) (k + 1)))):=by
    rw [HX.out]; exact hown2
   have HB2:Hid (Below w0.heap.size w0 w2):=(HB4.out.alloc HB4.out.size _).trans hbel2
   have hzz:wd.heap.size≤w2.heap.size:=by have:=hgr2.size; simp at this; omega
   have HG2:=Lib.hid (HM3.out.1.grow hzz fun b9 hlt9 hn9 => (hgr2.block b9 (by simp; omega) (fun e9 => hn9 (HI.out.2.2.2.1 b9 e9.symm))).trans (Below.heap_alloc _ _ _ hlt9))
   have HE2:Hid (∀ z,v2.ownBlock=some z→E z ∨ (wd.heap.size≤z∧z < w2.heap.size)):=fun z hz => by
    rcases hat2 with h9 | h9
    ·exact .inl (HI.out.2.2.2.1 z (by rw [← h9]; exact hz))
    ·have h8:=(HO2.out.lt z hz).2
     rw [hz] at h9
     injection h9 with h9
     simp at h9
     exact .inr ⟨by omega,h8⟩
   clear hown2 hbel2 hgr2 hat2 hzz
   go_wp2
   go_roundw
   case rel => exact ⟨k + 1,_,qv2,_,_,rfl,rfl,by omega,by omega,by go_num,HG2.out,HM3.out.2.1,HO2.out,HE2.out,HB2.out,HQL.out⟩
   case measure => simp [intOf]; omega
  ·have hkM:k=M:=by have:=HMM.out; omega
   by_cases hkn:k < N
   ·have d1:decide (k < N)=true:=decide_eq_true hkn
    have d2:decide ((k:Int) < 60)=false:=decide_eq_false (by omega)
    have d2':decide (k < 60)=false:=decide_eq_false (by omega)
    go_wp2
    go_ret
    refine ⟨_,rfl,?_,HW0.out.1.trans (HI.out.2.2.2.2.1.mono HW0.out.1.size)⟩
    rw [← hkM]
    exact own_base HI.out.2.2.1 HW0.out.1.size
   ·have d1:decide (k < N)=false:=decide_eq_false hkn
    go_wp2_with (first | go_big_skip | fail)
    go_ret
    refine ⟨_,rfl,?_,HW0.out.1.trans (HI.out.2.2.2.2.1.mono HW0.out.1.size)⟩
    rw [← hkM]
    exact own_base HI.out.2.2.1 HW0.out.1.size
end
end Go.Proofs.YtfekhdgjgjodlaaGreat
