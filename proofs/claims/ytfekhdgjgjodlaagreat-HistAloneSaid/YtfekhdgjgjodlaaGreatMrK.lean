/-
  Words and contracts that a statement's proof rests on (MrK). No statement is proved here.
-/
import Derived.Test.YtfekhdgjgjodlaaGreatMoJ
import Derived.Test.YtfekhdgjgjodlaaGreatMoF
set_option linter.unusedVariables false
set_option linter.unusedSimpArgs false
namespace Go.Proofs.YtfekhdgjgjodlaaGreat
open Go.RowKit
set_option maxRecDepth 20000 in
set_option maxHeartbeats 6400000 in
theorem ref17_Do9No {E:Nat→Prop} {w:World} {L A S1 Q cQ:Nat} {X:Nat→Value} {bp bq P r S B n nv:Nat} {uv:Value} {lv:List Vl} {st:Nat→Int × Nat} {g:Nat→Nat→Pl} {G:Nat→Value} {R:Nat→Nat} {qv:Nat→Nat→Value} {qs:Nat→Nat→List Int} (h:RfAll E w L A S1 Q cQ X bp bq P r S B n nv uv lv st g G R qv qs) (vi:Int) (me:Nat) (un:Nat) (hneg:findN lv vi nv < 0) (po tt sx kv km nw li sh bu id:Int):Calls Tryz.prog 19 #[.pointer (some ⟨A,0,none⟩),opV 9 po tt vi sx kv km ((me:Nat)) ((un:Nat)) nw li sh bu id] w (Says (.int .i64 0) w):=by
 have hm:findN lv vi nv=-1:=by have h1:=(firstI_bd (vidAt lv vi) nv).1; unfold findN at hneg ⊢; omega
 have hfd:=fun w' (hb:Below w.heap.size w w') => ref3_Find (Sl.of_own (h.call hb).md.vlans) (Nat.le_refl _) vi
 rw [hm] at hfd
 have HFD:=Lib.hid hfd
 obtain ⟨w0,hw0⟩:∃ z,z=(w.alloc (.cells #[.int .i64 (9),.int .i64 (po),.int .i64 (tt),.int .i64 (vi),.int .i64 (sx),.int .i64 (kv),.int .u64 (km),.int .u64 ((me:Nat)),.int .u64 ((un:Nat)),.int .u32 (nw),.int .u32 (li),.int .i64 (sh),.int .i64 (bu),.int .i64 (id)] 55)):=⟨_,rfl⟩
 have HB0:Hid (Below w.heap.size w w0):=by rw [hw0]; exact (Below.refl _ _).alloc (Nat.le_refl _) _
 have HBOX:=Lib.hid (box14 hw0)
 have hwz:w.heap.size < w0.heap.size:=by rw [hw0]; simp
 have HH:=Lib.hid h
 have hAz:A < w.heap.size:=h.md.cells.lt
 clear h hfd
 unfold opV
 go_enter Tryz.func19,Tryz.ntmps19
 go_wp2_with (first
  | fail)
 rw [← hw0]
 clear hw0
 obtain ⟨q0,q1,q2,q3,q4,q5,q6,q7,q8,q9,q10,q11,q12,q13⟩:=HBOX.out _ (Below.refl _ _)
 have c11:w0.cell? ⟨A,11,none⟩=some uv:=(HH.out.call HB0.out).md.cells.cell (by omega)
 refine wp_region_held_drew (S:=fun w' => w'.cell? ⟨A,11,none⟩=some uv∧w'.cell? ⟨w.heap.size,3,none⟩=some (.int .i64 (vi))) (by kernel_rfl) ?_ (fun hHeld => ?_)
 ·exact ⟨c11,q3⟩
 obtain ⟨v0,hv0⟩:∃ w',w'=w0.drew:=⟨_,rfl⟩
 have hvb:Below w0.heap.size w0 v0:=by rw [hv0]; exact (Below.refl _ _).drew
 have HVZ:Hid (v0.heap.size=w0.heap.size):=by show _=_; rw [hv0]; rfl
 rw [← hv0] at hHeld ⊢
 clear hv0
 refine tkR 0 rfl ?_
 refine tkR 1 rfl ?_
 refine tkR 2 rfl ?_
 refine tkR 3 rfl ?_
 refine tkR 4 rfl ?_
 refine tkR 5 rfl ?_
 refine clR 6 rfl fun K hK => ?_
 go_simp
 refine Calls.mono (HFD.out _ (HB0.out.trans (hvb.mono HB0.out.size))) ?_
 rintro e w1 ⟨rfl,hb1⟩
 have HB1':Hid (Below w0.heap.size w0 w1):=hvb.trans (hb1.mono (by rw [HVZ.out]; exact Nat.le_refl _))
 have hz1:w0.heap.size≤w1.heap.size:=HB1'.out.size
 refine hK.out _ _ ?_ (fun hHeld => ?_)
 ·(try dsimp only)
  obtain ⟨x0,x1⟩:=hHeld
  exact ⟨(hb1.cell (p:=⟨A,11,none⟩) (by show A < v0.heap.size; rw [HVZ.out]; omega)).trans x0,(hb1.cell (p:=⟨w.heap.size,3,none⟩) (by show w.heap.size < v0.heap.size; rw [HVZ.out]; omega)).trans x1⟩
 clear hK K
 refine tkR 7 rfl ?_
 refine wpAnyH_done (by kernel_rfl) ?_ _
 have HB1:Hid (Below w.heap.size w w1):=HB0.out.trans (HB1'.out.mono HB0.out.size)
 have HM:=Lib.hid (HH.out.call HB1.out)
 clear hHeld c11 q0 q1 q2 q3 q4 q5 q6 q7 q8 q9 q10 q11 q12 q13 hb1 hvb
 obtain ⟨q0,q1,q2,q3,q4,q5,q6,q7,q8,q9,q10,q11,q12,q13⟩:=HBOX.out _ HB1'.out
 go_wp2
 go_ret
 exact ⟨by first | rfl | (simp; done),HB1.out⟩
set_option maxRecDepth 20000 in
set_option maxHeartbeats 6400000 in
theorem ref17_Do9 {E:Nat→Prop} {w:World} {L A S1 Q cQ:Nat} {X:Nat→Value} {bp bq P r S B n nv:Nat} {uv:Value} {lv:List Vl} {st:Nat→Int × Nat} {g:Nat→Nat→Pl} {G:Nat→Value} {R:Nat→Nat} {qv:Nat→Nat→Value} {qs:Nat→Nat→List Int} (h:RfAll E w L A S1 Q cQ X bp bq P r S B n nv uv lv st g G R qv qs) (vi:Int) (me:Nat) (un:Nat) (hme:me < 18446744073709551616) (hun:un < 18446744073709551616) (j:Nat) (hj:findN lv vi nv=(j:Int)) (po tt sx kv km nw li sh bu id:Int):Calls Tryz.prog 19 #[.pointer (some ⟨A,0,none⟩),opV 9 po tt vi sx kv km ((me:Nat)) ((un:Nat)) nw li sh bu id] w fun e w' => e=.returned (.int .i64 1)∧RfAll E w' L A S1 Q cQ X bp bq P r S B n nv uv (lv.set j ⟨vi,me &&& allN P,un &&& (me &&& allN P)⟩) st g G R qv qs∧MdFr E w w' L:=by
 have hjn:j < nv:=by have h1:=(firstI_bd (vidAt lv vi) nv).2; unfold findN at hj; omega
 have hsl:=Sl.of_own h.md.vlans
 obtain ⟨b0,off,cap,e,hc1,hc2,hb0,hlen,hcell⟩:=hsl.vlAt (by omega)
 obtain ⟨k0,k1,k2⟩:=hcell j hjn
 obtain ⟨xv,hxv⟩:∃ x,x=lv.getD j vl0:=⟨_,rfl⟩
 rw [← hxv] at k1 k2
 have hsl9:=hlen
 subst e
 have HK:=Lib.hid fun w' (hb:Below w.heap.size w w') => And.intro ((hb.cell (p:=⟨b0,off + j * 3 + 1,none⟩) hb0).trans k1) ((hb.cell (p:=⟨b0,off + j * 3 + 2,none⟩) hb0).trans k2)
 have d2:decide (j < nv)=true:=decide_eq_true hjn
 have g0:(0:Int)≤(j:Int):=Int.natCast_nonneg _
 have d3:decide ((j:Int) < 0)=false:=by simp
 clear hcell k0 k1 k2 hlen hsl
 have hoff:off=0:=own_some h.md.vlans
 subst hoff
 have hlv:lv.length=nv:=hsl9
 clear hsl9
 have hxvid:xv.vid=vi:=by
  have h9:=firstI_hit (vidAt lv vi) nv (by unfold findN at hj; omega)
  unfold findN at hj
  rw [hj,Int.toNat_natCast] at h9
  have h8:=h9.2
  unfold vidAt at h8
  rw [← hxv] at h8
  simpa using h8
 obtain ⟨XX,hXX⟩:∃ x,x=me &&& allN (P:Int):=⟨_,rfl⟩
 obtain ⟨YY,hYY⟩:∃ y,y=un &&& (me &&& allN (P:Int)):=⟨_,rfl⟩
 rw [← hYY,← hXX]
 have hall:=allN_lt (P:Int)
 have HXY:=Lib.hid (And.intro hXX hYY)
 have HXV:=Lib.hid (And.intro hxv (And.intro hxvid hlv))
 have HAL:=Lib.hid fun w => ref3_All (P:Int) w
 obtain ⟨all,hal⟩:∃ x,x=allN (P:Int):=⟨_,rfl⟩
 rw [← hal] at HAL hall
 have HALL:=Lib.hid hal
 have hA0:Hid (∀ w',Below w.heap.size w w'→w'.cell? ⟨A,0,none⟩=some (.int .i64 (P:Nat))∧w'.cell? ⟨A,11,none⟩=some (.slice (some ⟨b0,0,none⟩) nv cap)):=fun w' hb => by
  have hm:=(h.call hb).md
  exact ⟨(hm.cells.cell (by omega)).trans (congrArg some hm.x0),hm.cells.cell (by omega)⟩
 have hbA:b0 ≠ A:=fun e => rowIs_own_ne h.md.cells h.md.vlans (by decide) (by rw [e]; rfl)
 have HBA:=Lib.hid (And.intro hbA hb0)
 clear hxv hxvid hlv hXX hYY hal hbA
 have hfd:=fun w' (hb:Below w.heap.size w w') => ref3_Find (Sl.of_own (h.call hb).md.vlans) (Nat.le_refl _) vi
 rw [hj] at hfd
 have HFD:=Lib.hid hfd
 obtain ⟨w0,hw0⟩:∃ z,z=(w.alloc (.cells #[.int .i64 (9),.int .i64 (po),.int .i64 (tt),.int .i64 (vi),.int .i64 (sx),.int .i64 (kv),.int .u64 (km),.int .u64 ((me:Nat)),.int .u64 ((un:Nat)),.int .u32 (nw),.int .u32 (li),.int .i64 (sh),.int .i64 (bu),.int .i64 (id)] 55)):=⟨_,rfl⟩
 have HB0:Hid (Below w.heap.size w w0):=by rw [hw0]; exact (Below.refl _ _).alloc (Nat.le_refl _) _
 have HBOX:=Lib.hid (box14 hw0)
 have hwz:w.heap.size < w0.heap.size:=by rw [hw0]; simp
 have HH:=Lib.hid h
 have hAz:A < w.heap.size:=h.md.cells.lt
 clear h hfd
 unfold opV
 go_enter Tryz.func19,Tryz.ntmps19
 go_wp2_with (first
  | fail)
 rw [← hw0]
 clear hw0
 obtain ⟨q0,q1,q2,q3,q4,q5,q6,q7,q8,q9,q10,q11,q12,q13⟩:=HBOX.out _ (Below.refl _ _)
 have c11:w0.cell? ⟨A,11,none⟩=some (.slice (some ⟨b0,0,none⟩) nv cap):=(HH.out.call HB0.out).md.cells.cell (by omega)
 refine wp_region_held_drew (S:=fun w' => w'.cell? ⟨A,11,none⟩=some (.slice (some ⟨b0,0,none⟩) nv cap)∧w'.cell? ⟨w.heap.size,3,none⟩=some (.int .i64 (vi))) (by kernel_rfl) ?_ (fun hHeld => ?_)
 ·exact ⟨c11,q3⟩
 obtain ⟨v0,hv0⟩:∃ w',w'=w0.drew:=⟨_,rfl⟩
 have hvb:Below w0.heap.size w0 v0:=by rw [hv0]; exact (Below.refl _ _).drew
 have HVZ:Hid (v0.heap.size=w0.heap.size):=by show _=_; rw [hv0]; rfl
 rw [← hv0] at hHeld ⊢
 clear hv0
 refine tkR 0 rfl ?_
 refine tkR 1 rfl ?_
 refine tkR 2 rfl ?_
 refine tkR 3 rfl ?_
 refine tkR 4 rfl ?_
 refine tkR 5 rfl ?_
 refine clR 6 rfl fun K hK => ?_
 go_simp
 refine Calls.mono (HFD.out _ (HB0.out.trans (hvb.mono HB0.out.size))) ?_
 rintro e w1 ⟨rfl,hb1⟩
 have HB1':Hid (Below w0.heap.size w0 w1):=hvb.trans (hb1.mono (by rw [HVZ.out]; exact Nat.le_refl _))
 have hz1:w0.heap.size≤w1.heap.size:=HB1'.out.size
 refine hK.out _ _ ?_ (fun hHeld => ?_)
 ·(try dsimp only)
  obtain ⟨x0,x1⟩:=hHeld
  exact ⟨(hb1.cell (p:=⟨A,11,none⟩) (by show A < v0.heap.size; rw [HVZ.out]; omega)).trans x0,(hb1.cell (p:=⟨w.heap.size,3,none⟩) (by show w.heap.size < v0.heap.size; rw [HVZ.out]; omega)).trans x1⟩
 clear hK K
 refine tkR 7 rfl ?_
 refine wpAnyH_done (by kernel_rfl) ?_ _
 have HB1:Hid (Below w.heap.size w w1):=HB0.out.trans (HB1'.out.mono HB0.out.size)
 have HM:=Lib.hid (HH.out.call HB1.out)
 clear hHeld c11 q0 q1 q2 q3 q4 q5 q6 q7 q8 q9 q10 q11 q12 q13 hb1 hvb
 obtain ⟨q0,q1,q2,q3,q4,q5,q6,q7,q8,q9,q10,q11,q12,q13⟩:=HBOX.out _ HB1'.out
 obtain ⟨a0,a11⟩:=hA0.out _ HB1.out
 go_wp2_with (first
  | (go_at_call 21; (with_reducible refine Calls.mono (HAL.out _) ?_); rintro e _ ⟨rfl,rfl⟩)
  | fail)
 go_loopw [10,11,12] (fun xv' yv' pv wr => ∃ i:Nat,i≤64∧pv=.int .i64 i∧xv'=.int .u64 (lowB XX i:Nat)∧yv'=.int .u64 (lowB YY i:Nat)∧w1=wr) (fun _ _ pv _ => 64 - (intOf pv).toNat)
 case atStart => exact ⟨0,by omega,rfl,by rw [lowB_zero]; rfl,by rw [lowB_zero]; rfl,rfl⟩
 case round =>
  obtain ⟨i,hi,rfl,rfl,rfl,rfl⟩:=hrel
  by_cases hi64:i < 64
  ·have h1:=fun W => ref3_Has me hme (i:Int) W
   have h2:=fun W => ref3_Has all hall (i:Int) W
   have h3:=fun W => ref3_Has un hun (i:Int) W
   have h4:=fun W => ref3_With (lowB XX i) (lowB_lt XX hi) (i:Int) W
   have h5:=fun W => ref3_With (lowB YY i) (lowB_lt YY hi) (i:Int) W
   have hbX:XX.testBit i=(me.testBit i && all.testBit i):=by rw [HXY.out.1,HALL.out,Nat.testBit_and]
   have hbY:YY.testBit i=(un.testBit i && (me.testBit i && all.testBit i)):=by rw [HXY.out.2,HALL.out,Nat.testBit_and,Nat.testBit_and]
   rw [hasB_in me hi64] at h1
   rw [hasB_in all hi64] at h2
   rw [hasB_in un hi64] at h3
   rw [withN_in _ hi64] at h4 h5
   generalize me.testBit i=tm at *
   generalize all.testBit i=ta at *
   generalize un.testBit i=tu at *
   have d1':decide ((i:Int) < 64)=true:=by simp; omega
   have g0':(0:Int)≤(i:Int):=Int.natCast_nonneg _
   have g1':(i:Int) < 64:=by omega
   have HI64:=Lib.hid (And.intro hi hi64)
   clear hi hi64
   cases tm
   ·rw [Bool.false_and] at hbX
    rw [Bool.false_and,Bool.and_false] at hbY
    have HX1:=Lib.hid (lowB_no hbX)
    have HY1:=Lib.hid (lowB_no hbY)
    have H1:=Lib.hid h1
    clear h1 h2 h3 h4 h5 hbX hbY
    go_wp2_with (first | (go_at_call 22; (with_reducible refine Calls.mono (H1.out _) ?_); rintro e wx ⟨rfl,rfl⟩) | fail)
    go_roundw
    case rel => exact ⟨i + 1,by have:=HI64.out.2; omega,by go_num,by rw [HX1.out],by rw [HY1.out],by first | trivial | rfl⟩
    case measure => simp [intOf]; have:=HI64.out.2; omega
   ·cases ta
    ·rw [Bool.and_false] at hbX
     rw [Bool.and_false,Bool.and_false] at hbY
     have HX1:=Lib.hid (lowB_no hbX)
     have HY1:=Lib.hid (lowB_no hbY)
     have H1:=Lib.hid h1
     have H2:=Lib.hid h2
     clear h1 h2 h3 h4 h5 hbX hbY
     go_wp2_with (first
      | (go_at_call 22; (with_reducible refine Calls.mono (H1.out _) ?_); rintro e wx ⟨rfl,rfl⟩)
      | (go_at_call 22; (with_reducible refine Calls.mono (H2.out _) ?_); rintro e wx ⟨rfl,rfl⟩)
      | fail)
     go_roundw
     case rel => exact ⟨i + 1,by have:=HI64.out.2; omega,by go_num,by rw [HX1.out],by rw [HY1.out],by first | trivial | rfl⟩
     case measure => simp [intOf]; have:=HI64.out.2; omega
    ·rw [Bool.and_true] at hbX
     rw [Bool.and_true,Bool.and_true] at hbY
     rw [lowB_yes hbX] at h4
     have H1:=Lib.hid h1
     have H2:=Lib.hid h2
     have H3:=Lib.hid h3
     have H4:=Lib.hid h4
     clear h1 h2 h3 h4 hbX
     cases tu
     ·have HY1:=Lib.hid (lowB_no hbY)
      clear h5 hbY
      go_wp2_with (first
       | (go_at_call 22; (with_reducible refine Calls.mono (H1.out _) ?_); rintro e wx ⟨rfl,rfl⟩)
       | (go_at_call 22; (with_reducible refine Calls.mono (H2.out _) ?_); rintro e wx ⟨rfl,rfl⟩)
       | (go_at_call 22; (with_reducible refine Calls.mono (H3.out _) ?_); rintro e wx ⟨rfl,rfl⟩)
       | (go_at_call 23; (with_reducible refine Calls.mono (H4.out _) ?_); rintro e wx ⟨rfl,rfl⟩)
       | fail)
      go_roundw
      case rel => exact ⟨i + 1,by have:=HI64.out.2; omega,by go_num,by first | rfl | trivial,by rw [HY1.out],by first | trivial | rfl⟩
      case measure => simp [intOf]; have:=HI64.out.2; omega
     ·rw [lowB_yes hbY] at h5
      have H5:=Lib.hid h5
      clear h5 hbY
      go_wp2_with (first
       | (go_at_call 22; (with_reducible refine Calls.mono (H1.out _) ?_); rintro e wx ⟨rfl,rfl⟩)
       | (go_at_call 22; (with_reducible refine Calls.mono (H2.out _) ?_); rintro e wx ⟨rfl,rfl⟩)
       | (go_at_call 22; (with_reducible refine Calls.mono (H3.out _) ?_); rintro e wx ⟨rfl,rfl⟩)
       | (go_at_call 23; (with_reducible refine Calls.mono (H4.out _) ?_); rintro e wx ⟨rfl,rfl⟩)
       | (go_at_call 23; (with_reducible refine Calls.mono (H5.out _) ?_); rintro e wx ⟨rfl,rfl⟩)
       | fail)
      go_roundw
      case rel => exact ⟨i + 1,by have:=HI64.out.2; omega,by go_num,by first | rfl | trivial,by first | rfl | trivial,by first | trivial | rfl⟩
      case measure => simp [intOf]; have:=HI64.out.2; omega
  ·obtain rfl:i=64:=by omega
   have hX:=lowB_all (s:=XX) (by rw [HXY.out.1]; exact Nat.lt_of_le_of_lt Nat.and_le_left hme)
   have hY:=lowB_all (s:=YY) (by rw [HXY.out.2]; exact Nat.lt_of_le_of_lt Nat.and_le_left hun)
   rw [hX,hY]
   clear hX hY
   go_wp2_with fail
   refine wp_region_held_drew (S:=fun w' => w'.cell? ⟨A,11,none⟩=some (.slice (some ⟨b0,0,none⟩) nv cap)) (by kernel_rfl) ?_ (fun hHeld => ?_)
   ·exact a11
   obtain ⟨v3,hv0⟩:∃ w',w'=w1.drew:=⟨_,rfl⟩
   have HB3:Hid (Below w.heap.size w v3):=by rw [hv0]; exact HB1.out.trans (Below.refl _ _).drew
   rw [← hv0] at hHeld ⊢
   clear hv0
   have a11':=(hA0.out _ HB3.out).2
   have hA3:A < v3.heap.size:=by have:=HB3.out.size; omega
   have h3:=HH.out.call HB3.out
   obtain ⟨r1,r2⟩:=HK.out _ HB3.out
   have f1:v3.frozen? ⟨b0,j * 3 + 1,none⟩=false:=h3.md.vlans.frozenAt _
   have f2:v3.frozen? ⟨b0,j * 3 + 2,none⟩=false:=h3.md.vlans.frozenAt _
   simp only [Nat.zero_add] at r1 r2
   have H3:=Lib.hid h3
   clear h3 a0 a11
   refine tkR 0 rfl ?_
   refine tkR 1 rfl ?_
   refine tkR 2 rfl ?_
   refine tkR 3 rfl ?_
   refine tkR 4 rfl ?_
   refine tkR 5 rfl ?_
   refine tkR 6 rfl ?_
   refine tkR 7 rfl ?_
   refine tkR 8 rfl ?_
   refine tkR 9 rfl ?_
   refine tkR 10 rfl ?_
   refine tkR 11 rfl ?_
   refine tkR 12 rfl ?_
   refine tkR 13 rfl ?_
   refine clR 14 rfl fun K hK => ?_
   go_simp
   refine hK.out _ _ ?_ (fun hHeld => ?_)
   ·(try dsimp only)
    exact ((But.set _ _).cell (show A < v3.heap.size by omega) (Ne.symm HBA.out.1)).trans a11'
   clear hK K
   refine tkR 15 rfl ?_
   refine tkR 16 rfl ?_
   refine clR 17 rfl fun K hK => ?_
   go_simp
   refine hK.out _ _ ?_ (fun hHeld => ?_)
   ·(try dsimp only)
    exact (((But.set _ _).trans (But.set _ _)).cell (show A < v3.heap.size by omega) (Ne.symm HBA.out.1)).trans a11'
   clear hK K
   (try simp only [Act.put,sqA,sqB,sqC])
   refine wpAnyH_done (by kernel_rfl) ?_ _
   obtain ⟨wl,hwl⟩:∃ z,z=(v3.setCell ⟨b0,j * 3 + 1,none⟩ (.int .u64 (XX:Nat))).setCell ⟨b0,j * 3 + 2,none⟩ (.int .u64 (YY:Nat)):=⟨_,rfl⟩
   have HBL:Hid (But b0 v3 wl):=by rw [hwl]; exact (But.set _ _).trans (But.set _ _)
   have HML:Hid (RfAll E wl L A S1 Q cQ X bp bq P r S B n nv (.slice (some ⟨b0,0,none⟩) nv cap) (lv.set j ⟨vi,XX,YY⟩) st g G R qv qs∧MdFr E w wl L):=by
    have hm:RfAt wl L A S1 Q cQ X (.slice (some ⟨b0,0,none⟩) nv cap) (.pointer (some ⟨bp,0,none⟩)) P r nv (lv.set j ⟨vi,XX,YY⟩) st G:=by
     rw [hwl,show (⟨vi,XX,YY⟩:Vl)=⟨(lv.getD j vl0).vid,XX,YY⟩ by rw [← HXV.out.1,HXV.out.2.1]]
     exact H3.out.md.setV j (by rw [HXV.out.2.2]; exact hjn) XX YY
    exact ⟨H3.out.but hm HBL.out (.inr rfl),RfFr.of_but HH.out HB3.out HBL.out (.inl (.inl (.inr (.inr (.inr rfl))))) (HH.out.md.vlans.lt b0 rfl).1⟩
   rw [← hwl]
   clear hwl hHeld r1 r2 f1 f2 a11'
   go_wp2
   go_ret
   exact ⟨by first | rfl | (simp; done),HML.out.1,HML.out.2⟩
end Go.Proofs.YtfekhdgjgjodlaaGreat
