/-
  Words and contracts that a statement's proof rests on (MsE). No statement is proved here.
-/
import Derived.Test.YtpcapdpglpgcbaaGreatMrU
import Derived.Test.YtpcapdpglpgcbaaGreatMsD
set_option linter.unusedVariables false
set_option linter.unusedSimpArgs false
namespace Go.Proofs.YtpcapdpglpgcbaaGreat
open Go.RowKit
theorem PlRow.mono9 {w w':World} {B n:Nat} {v:Value} {f:Nat→Pl} (h:PlRow w B v n f) (hb:Below B w w'):PlRow w' B v n f:=by
 obtain ⟨A,cap,e1,e2,e3,e4⟩:=h
 refine ⟨A,cap,e1,e2,e3,fun hn => ?_⟩
 obtain ⟨b,off,f1,f2,f3⟩:=e4 hn
 exact ⟨b,off,f1,f2,fun j hj => (f3 j hj).keep fun p hp => hb.cell (by rw [hp]; exact f2)⟩
section
variable {E:Nat→Prop} {w:World} {L A S1 Q cQ:Nat} {X:Nat→Value} {bp bq P r S B n nv base:Nat} {uv sv u2 bv:Value} {Z:Nat} {R2:Nat→Nat} {G2:Nat→Value} {q2:Nat→Nat→Value} {lv:List Vl} {st:Nat→Int × Nat} {g:Nat→Nat→Pl} {G:Nat→Value} {R:Nat→Nat} {qv:Nat→Nat→Value} {qs:Nat→Nat→List Int}
structure RfRd (w:World) (A bp bq S1 Q cQ P nv M n:Nat) (Au:Option Addr) (cu cb:Nat) (st:Nat→Int × Nat) (G:Nat→Value) (R:Nat→Nat) (qv:Nat→Nat→Value):Prop where
 c0:w.cell? ⟨A,0,none⟩=some (.int .i64 (P:Nat))
 c10:w.cell? ⟨A,10,none⟩=some (.slice (some ⟨S1,0,none⟩) P (capV (X 10)))
 c11:w.cell? ⟨A,11,none⟩=some (.slice Au nv cu)
 c12:w.cell? ⟨A,12,none⟩=some (.pointer (some ⟨bp,0,none⟩))
 c13:w.cell? ⟨A,13,none⟩=some (.slice (some ⟨Q,0,none⟩) P cQ)
 b3:w.cell? ⟨bp,3,none⟩=some (.slice (some ⟨bq,0,none⟩) M cb)
set_option maxRecDepth 20000 in
set_option maxHeartbeats 12800000 in
theorem law17_Shaped (hs:ShAt w base P S B n nv sv u2 bv Z R2 G2 q2 lv st g qs) (h:RfAll E w L A S1 Q cQ X bp bq P r S B n nv uv lv st g G R qv qs) (hP:1≤P∧P≤64) (hnv:nv≤1000) (hS:1≤S∧S≤8) (hB:1≤B∧B≤16) (hn:1≤n∧n≤8) :
  Calls Tryz.prog 53 #[.agg #[sv,u2,bv,.slice (some ⟨Z,0,none⟩) P P],.pointer (some ⟨A,0,none⟩)] w (Says (.bool true) w):=by
 obtain ⟨M,hM⟩:∃ M,M=S * B:=⟨_,rfl⟩
 have hMB:M≤128:=by rw [hM]; exact Nat.mul_le_mul hS.2 hB.2
 obtain ⟨As,cs,hsv,_,_⟩:=(Sl.of_own hs.sv).form
 obtain ⟨Au2,cu2,hu2,_,_⟩:=(Sl.of_own hs.uv).form
 obtain ⟨Au,cu,huv,_,_⟩:=(Sl.of_own h.md.vlans).form
 obtain ⟨vs,hvs1,hvs2⟩:=hs.bv
 obtain ⟨Ab,cb,hbv,_,hcbm⟩:=(Sl.of_own hvs1).form
 obtain ⟨D,hD⟩:=h.bk
 obtain ⟨_,hbq1,_,_,_,_,⟨cap,hcap1,hcap2,hcap3⟩,_,hrows⟩:=hD.1
 have HRD:Hid (∀ w',Below w.heap.size w w'→RfRd w' A bp bq S1 Q cQ P nv M n Au cu cap st G R qv):=fun w' hb => by
  have hm:=(h.md.call hb)
  exact ⟨(hm.cells.cell (by omega)).trans (congrArg some hm.x0),hm.cells.cell (by omega),(hm.cells.cell (by omega)).trans (by rw [huv]; rfl),hm.cells.cell (by omega),hm.cells.cell (by omega),(hb.cell (p:=⟨bp,3,none⟩) hD.1.1).trans (by rw [hM]; exact hcap3)⟩
 have HPZ:Hid (bp < w.heap.size):=Lib.hid hD.1.1
 have HSH:=Lib.hid hs
 have HRF:=Lib.hid h
 subst hsv
 subst hu2
 subst hbv
 obtain ⟨w0,hw0⟩:∃ z,z=w.alloc (.cells #[.slice As P cs,.slice Au2 nv cu2,.slice Ab (S * B) cb,.slice (some ⟨Z,0,none⟩) P P] 123):=⟨_,rfl⟩
 have HB0:Hid (Below w.heap.size w w0):=by rw [hw0]; exact (Below.refl _ _).alloc (Nat.le_refl _) _
 have HBOX:Hid (∀ w',Below w0.heap.size w0 w'→w'.cell? ⟨w.heap.size,0,none⟩=some (.slice As P cs)∧w'.cell? ⟨w.heap.size,1,none⟩=some (.slice Au2 nv cu2)∧w'.cell? ⟨w.heap.size,2,none⟩=some (.slice Ab M cb)∧w'.cell? ⟨w.heap.size,3,none⟩=some (.slice (some ⟨Z,0,none⟩) P P)):=fun w' hb => by
  rw [hw0] at hb
  refine ⟨?_,?_,?_,?_⟩ <;>
  ·rw [hb.cell (by show w.heap.size < _; simp)]
   simp [go_sem,hM]
 have hwz:w.heap.size < w0.heap.size:=by rw [hw0]; simp
 have HROWS:=Lib.hid hrows
 have HV2:=Lib.hid hvs2
 have HV1:=Lib.hid hvs1
 have HMM:=Lib.hid hM
 clear hD hrows hvs1 hvs2 hcap1 hcap2 hcap3 h hs hM
 go_enter Tryz.func53,Tryz.ntmps53
 have rd0:=HRD.out w0 HB0.out
 have d12:=fun o => (HRD.out (w.alloc o) ((Below.refl _ _).alloc (Nat.le_refl _) o)).c12
 go_wp2_with fail
 rw [← hw0]
 clear hw0
 obtain ⟨q0,q1,q2',q3⟩:=HBOX.out _ (Below.refl _ _)
 have r0:=rd0.c0
 have r11:=rd0.c11
 have rb3:=rd0.b3
 refine wp_region_held_drew (S:=fun w' => w'.cell? ⟨w.heap.size,0,none⟩=some (.slice As P cs)∧w'.cell? ⟨w.heap.size,1,none⟩=some (.slice Au2 nv cu2)∧w'.cell? ⟨w.heap.size,2,none⟩=some (.slice Ab M cb)∧w'.cell? ⟨w.heap.size,3,none⟩=some (.slice (some ⟨Z,0,none⟩) P P)∧w'.cell? ⟨A,0,none⟩=some (.int .i64 (P:Nat))∧w'.cell? ⟨A,11,none⟩=some (.slice Au nv cu)∧w'.cell? ⟨bp,3,none⟩=some (.slice (some ⟨bq,0,none⟩) M cap)) (by kernel_rfl) ?_ (fun hHeld => ?_)
 ·exact ⟨q0,q1,q2',q3,r0,r11,rb3⟩
 obtain ⟨v2,hv0⟩:∃ w',w'=w0.drew:=⟨_,rfl⟩
 have hvb:Below w0.heap.size w0 v2:=by rw [hv0]; exact (Below.refl _ _).drew
 have HV2':Hid (Below w0.heap.size w0 v2):=(Lib.hid (Below.refl w0.heap.size w0)).out.trans (hvb.mono (Lib.hid (Below.refl w0.heap.size w0)).out.size)
 rw [← hv0] at hHeld ⊢
 clear hv0
 refine tkR 0 rfl ?_
 refine tkR 1 rfl ?_
 refine tkR 2 rfl ?_
 refine tkR 3 rfl ?_
 refine tkR 4 rfl ?_
 refine tkR 5 rfl ?_
 refine tkR 6 rfl ?_
 refine tkR 7 rfl ?_
 refine tkR 8 rfl ?_
 refine tkR 9 rfl ?_
 refine tkR 10 rfl ?_
 refine tkR 11 rfl ?_
 refine tkR 12 rfl ?_
 refine tkR 13 rfl ?_
 refine tkR 14 rfl ?_
 refine tkR 15 rfl ?_
 refine tkR 16 rfl ?_
 refine tkR 17 rfl ?_
 refine tkR 18 rfl ?_
 refine tkR 19 rfl ?_
 refine tkR 20 rfl ?_
 refine tkR 21 rfl ?_
 refine tkR 22 rfl ?_
 refine tkR 23 rfl ?_
 refine tkR 24 rfl ?_
 refine tkR 25 rfl ?_
 refine tkR 26 rfl ?_
 refine tkR 27 rfl ?_
 refine tkR 28 rfl ?_
 refine tkR 29 rfl ?_
 refine tkR 30 rfl ?_
 refine tkR 31 rfl ?_
 refine tkR 32 rfl ?_
 refine tkR 33 rfl ?_
 refine tkR 34 rfl ?_
 refine tkR 35 rfl ?_
 refine tkR 36 rfl ?_
 refine tkR 37 rfl ?_
 refine tkR 38 rfl ?_
 refine tkR 39 rfl ?_
 refine tkR 40 rfl ?_
 refine tkR 41 rfl ?_
 refine wpAnyH_done (by kernel_rfl) ?_ _
 clear hHeld
 obtain ⟨q0,q1,q2',q3⟩:=HBOX.out _ HV2'.out
 clear r0 r11 rb3 rd0 d12 hvb q0 q2' q3
 go_wp2
 go_loopw [6] (fun jv wr => ∃ j:Nat,j≤nv∧jv=.int .i64 j∧∃ wx:World,wx=wr∧Hid (Below w0.heap.size w0 wx)) (fun jv _ => nv - (intOf jv).toNat)
 case atStart => exact ⟨0,by omega,rfl,_,rfl,HV2'⟩
 case round =>
  obtain ⟨j,hj,rfl,wr,rfl,HBW⟩:=hrel
  have HBR:Hid (Below w.heap.size w wr):=HB0.out.trans (HBW.out.mono HB0.out.size)
  obtain ⟨q0,q1,q2',q3⟩:=HBOX.out _ HBW.out
  by_cases hlt:j < nv
  ·have e1:decide (j < nv)=true:=decide_eq_true hlt
   obtain ⟨b2,off2,cap2,hx2,_,_,hb2,_,hc2⟩:=(Sl.of_own HSH.out.uv).vlAt (by omega)
   obtain ⟨b1,off1,cap1,hx1,_,_,hb1,_,hc1⟩:=(Sl.of_own HRF.out.md.vlans).vlAt (by omega)
   rw [huv] at hx1
   injection hx2 with hy1 hy2 hy3
   injection hx1 with hz1 hz2 hz3
   subst hy1
   subst hy3
   subst hz1
   subst hz3
   obtain ⟨k0,k1,k2⟩:=hc2 j hlt
   obtain ⟨l0,l1,l2⟩:=hc1 j hlt
   obtain ⟨x,hx⟩:∃ x,x=lv.getD j vl0:=⟨_,rfl⟩
   rw [← hx] at k0 k1 k2 l0 l1 l2
   have hbw:=(bcell HBR.out).1
   have k0':=(hbw b2 (off2 + j * 3) hb2).trans k0
   have k1':=(hbw b2 (off2 + j * 3 + 1) hb2).trans k1
   have k2':=(hbw b2 (off2 + j * 3 + 2) hb2).trans k2
   have l0':=(hbw b1 (off1 + j * 3) hb1).trans l0
   have l1':=(hbw b1 (off1 + j * 3 + 1) hb1).trans l1
   have l2':=(hbw b1 (off1 + j * 3 + 2) hb1).trans l2
   have rd:=(HRD.out wr HBR.out).c11
   clear hbw k0 k1 k2 l0 l1 l2 hc1 hc2 hx
   go_wp2_with fail
   refine wp_region_held_drew (S:=fun w' => w'.cell? ⟨w.heap.size,1,none⟩=some (.slice (some ⟨b2,off2,none⟩) nv cu2)∧w'.cell? ⟨A,11,none⟩=some (.slice (some ⟨b1,off1,none⟩) nv cu)∧w'.cell? ⟨b2,off2 + j * 3,none⟩=some (.int .i64 x.vid)∧w'.cell? ⟨b2,off2 + j * 3 + 1,none⟩=some (.int .u64 (x.mem:Nat))∧w'.cell? ⟨b2,off2 + j * 3 + 2,none⟩=some (.int .u64 (x.unt:Nat))∧w'.cell? ⟨b1,off1 + j * 3,none⟩=some (.int .i64 x.vid)∧w'.cell? ⟨b1,off1 + j * 3 + 1,none⟩=some (.int .u64 (x.mem:Nat))∧w'.cell? ⟨b1,off1 + j * 3 + 2,none⟩=some (.int .u64 (x.unt:Nat))) (by kernel_rfl) ?_ (fun hHeld => ?_)
   ·exact ⟨q1,rd,k0',k1',k2',l0',l1',l2'⟩
   obtain ⟨v7,hv0⟩:∃ w',w'=wr.drew:=⟨_,rfl⟩
   have hvb:Below wr.heap.size wr v7:=by rw [hv0]; exact (Below.refl _ _).drew
   have HBV:Hid (Below w0.heap.size w0 v7):=HBW.out.trans (hvb.mono HBW.out.size)
   rw [← hv0] at hHeld ⊢
   clear hv0
   refine tkR 0 rfl ?_
   refine tkR 1 rfl ?_
   refine tkR 2 rfl ?_
   refine tkR 3 rfl ?_
   refine tkR 4 rfl ?_
   refine tkR 5 rfl ?_
   refine tkR 6 rfl ?_
   refine tkR 7 rfl ?_
   refine tkR 8 rfl ?_
   refine tkR 9 rfl ?_
   refine tkR 10 rfl ?_
   refine tkR 11 rfl ?_
   refine tkR 12 rfl ?_
   refine tkR 13 rfl ?_
   refine tkR 14 rfl ?_
   refine tkR 15 rfl ?_
   refine tkR 16 rfl ?_
   refine tkR 17 rfl ?_
   refine tkR 18 rfl ?_
   refine tkR 19 rfl ?_
   refine tkR 20 rfl ?_
   refine tkR 21 rfl ?_
   refine tkR 22 rfl ?_
   refine tkR 23 rfl ?_
   refine tkR 24 rfl ?_
   refine tkR 25 rfl ?_
   refine tkR 26 rfl ?_
   refine tkR 27 rfl ?_
   refine tkR 28 rfl ?_
   refine tkR 29 rfl ?_
   refine tkR 30 rfl ?_
   refine tkR 31 rfl ?_
   refine tkR 32 rfl ?_
   refine tkR 33 rfl ?_
   refine tkR 34 rfl ?_
   refine tkR 35 rfl ?_
   refine tkR 36 rfl ?_
   refine tkR 37 rfl ?_
   refine tkR 38 rfl ?_
   refine tkR 39 rfl ?_
   refine tkR 40 rfl ?_
   refine tkR 41 rfl ?_
   refine tkR 42 rfl ?_
   refine tkR 43 rfl ?_
   refine tkR 44 rfl ?_
   refine tkR 45 rfl ?_
   refine tkR 46 rfl ?_
   refine tkR 47 rfl ?_
   refine tkR 48 rfl ?_
   refine wpAnyH_done (by kernel_rfl) ?_ _
   clear hHeld
   clear hvb q0 q1 q2' q3 rd k0' k1' k2' l0' l1' l2'
   go_wp2
   go_roundw
   case rel => exact ⟨j + 1,by omega,by go_num,_,rfl,HBV⟩
   case measure => simp [intOf]; omega
  ·have e1:decide (j < nv)=false:=decide_eq_false hlt
   clear q2' q3
   go_wp2
   go_loopw [7] (fun pv wr => ∃ p:Nat,p≤P∧pv=.int .i64 p∧∃ wx:World,wx=wr∧Hid (Below w0.heap.size w0 wx)) (fun pv _ => P - (intOf pv).toNat)
   case atStart => exact ⟨0,by omega,rfl,_,rfl,HBW⟩
   case round =>
    clear q0 q1
    obtain ⟨p,hp,rfl,wp,rfl,HBP⟩:=hrel
    have HBRP:Hid (Below w.heap.size w wp):=HB0.out.trans (HBP.out.mono HB0.out.size)
    obtain ⟨q0,q1,q2',q3⟩:=HBOX.out _ HBP.out
    have rd:=HRD.out wp HBRP.out
    have r0:=rd.c0
    have r10:=rd.c10
    by_cases hltp:p < P
    ·have e2:decide (p < P)=true:=decide_eq_true hltp
     obtain ⟨bs,rfl⟩:∃ bs,As=some ⟨bs,0,none⟩:=by
      rcases HSH.out.sv.2 with hn | ⟨z,cap,cur,hv,_⟩
      ·have:=hn.1
       injection this with h1 h2
       omega
      ·injection hv with h1 _ _
       exact ⟨z,h1⟩
     have hbsz:bs < w.heap.size:=(HSH.out.sv.lt bs rfl).2
     have s0:wp.cell? ⟨bs,p * 2,none⟩=some (.int .i64 (st p).1):=(HBRP.out.cell (p:=⟨bs,p * 2,none⟩) hbsz).trans ((HSH.out.sv.cellAt (p * 2) (by omega)).trans (by rw [stc_at st (by omega),rowS_0]))
     have s1:wp.cell? ⟨bs,p * 2 + 1,none⟩=some (.int .u32 ((st p).2:Nat)):=(HBRP.out.cell (p:=⟨bs,p * 2 + 1,none⟩) hbsz).trans ((HSH.out.sv.cellAt (p * 2 + 1) (by omega)).trans (by rw [stc_at st (by omega),rowS_1]))
     have hmp:=(HRF.out.call HBRP.out).md.stands
     have t0:wp.cell? ⟨S1,p * 2,none⟩=some (.int .i64 (st p).1):=(hmp.cell (by omega)).trans (by rw [rowS_0])
     have t1:wp.cell? ⟨S1,p * 2 + 1,none⟩=some (.int .u32 ((st p).2:Nat)):=(hmp.cell (by omega)).trans (by rw [rowS_1])
     obtain ⟨_,hG2,hR2,_⟩:=(HSH.out.wt.call HBRP.out).row p hltp
     have zp:wp.cell? ⟨Z,p,none⟩=some (.slice (some ⟨R2 p,0,none⟩) P P):=((HSH.out.wt.call HBRP.out).z.cell hltp).trans (by rw [hG2])
     obtain ⟨x0,z0,hxz⟩:∃ (x:Int) (z:Nat),st p=(x,z):=⟨_,_,rfl⟩
     rw [hxz] at s0 s1 t0 t1
     simp only [] at s0 s1 t0 t1
     clear hmp hG2 hR2 rd
     go_wp2_with fail
     refine wp_region_held_drew (S:=fun w' => w'.cell? ⟨w.heap.size,0,none⟩=some (.slice (some ⟨bs,0,none⟩) P cs)∧w'.cell? ⟨A,10,none⟩=some (.slice (some ⟨S1,0,none⟩) P (capV (X 10)))∧w'.cell? ⟨w.heap.size,3,none⟩=some (.slice (some ⟨Z,0,none⟩) P P)∧w'.cell? ⟨A,0,none⟩=some (.int .i64 (P:Nat))∧w'.cell? ⟨bs,p * 2,none⟩=some (.int .i64 x0)∧w'.cell? ⟨bs,p * 2 + 1,none⟩=some (.int .u32 (z0:Nat))∧w'.cell? ⟨S1,p * 2,none⟩=some (.int .i64 x0)∧w'.cell? ⟨S1,p * 2 + 1,none⟩=some (.int .u32 (z0:Nat))∧w'.cell? ⟨Z,p,none⟩=some (.slice (some ⟨R2 p,0,none⟩) P P)) (by kernel_rfl) ?_ (fun hHeld => ?_)
     ·exact ⟨q0,r10,q3,r0,s0,s1,t0,t1,zp⟩
     obtain ⟨v12,hv0⟩:∃ w',w'=wp.drew:=⟨_,rfl⟩
     have hvb:Below wp.heap.size wp v12:=by rw [hv0]; exact (Below.refl _ _).drew
     have HBV:Hid (Below w0.heap.size w0 v12):=HBP.out.trans (hvb.mono HBP.out.size)
     rw [← hv0] at hHeld ⊢
     clear hv0
     refine tkR 0 rfl ?_
     refine tkR 1 rfl ?_
     refine tkR 2 rfl ?_
     refine tkR 3 rfl ?_
     refine tkR 4 rfl ?_
     refine tkR 5 rfl ?_
     refine tkR 6 rfl ?_
     refine tkR 7 rfl ?_
     refine tkR 8 rfl ?_
     refine tkR 9 rfl ?_
     refine tkR 10 rfl ?_
     refine tkR 11 rfl ?_
     refine tkR 12 rfl ?_
     refine tkR 13 rfl ?_
     refine tkR 14 rfl ?_
     refine tkR 15 rfl ?_
     refine tkR 16 rfl ?_
     refine tkR 17 rfl ?_
     refine tkR 18 rfl ?_
     refine tkR 19 rfl ?_
     refine tkR 20 rfl ?_
     refine tkR 21 rfl ?_
     refine tkR 22 rfl ?_
     refine tkR 23 rfl ?_
     refine tkR 24 rfl ?_
     refine tkR 25 rfl ?_
     refine tkR 26 rfl ?_
     refine tkR 27 rfl ?_
     refine tkR 28 rfl ?_
     refine tkR 29 rfl ?_
     refine tkR 30 rfl ?_
     refine tkR 31 rfl ?_
     refine tkR 32 rfl ?_
     refine tkR 33 rfl ?_
     refine tkR 34 rfl ?_
     refine tkR 35 rfl ?_
     refine tkR 36 rfl ?_
     refine tkR 37 rfl ?_
     refine tkR 38 rfl ?_
     refine tkR 39 rfl ?_
     refine tkR 40 rfl ?_
     refine tkR 41 rfl ?_
     refine tkR 42 rfl ?_
     refine tkR 43 rfl ?_
     refine tkR 44 rfl ?_
     refine tkR 45 rfl ?_
     refine wpAnyH_done (by kernel_rfl) ?_ _
     clear hHeld
     clear hvb q0 q1 q2' q3 r0 r10 s0 s1 t0 t1 zp
     go_wp2
     go_loopw [8] (fun qv' wr => ∃ t:Nat,t≤P∧qv'=.int .i64 t∧∃ wx:World,wx=wr∧Hid (Below w0.heap.size w0 wx)) (fun qv' _ => P - (intOf qv').toNat)
     case atStart => exact ⟨0,by omega,rfl,_,rfl,HBV⟩
     case round =>
      obtain ⟨t,ht,rfl,wt,rfl,HBT⟩:=hrel
      have HBRT:Hid (Below w.heap.size w wt):=HB0.out.trans (HBT.out.mono HB0.out.size)
      obtain ⟨q0,q1,q2',q3⟩:=HBOX.out _ HBT.out
      have rd:=HRD.out wt HBRT.out
      have r0:=rd.c0
      have r13:=rd.c13
      by_cases hltt:t < P
      ·have e3:decide (t < P)=true:=decide_eq_true hltt
       have hpcq:p < cQ:=Nat.lt_of_lt_of_le hltp HRF.out.md.pq
       have e4:decide (p < cQ)=true:=decide_eq_true hpcq
       have hwt:=HSH.out.wt.call HBRT.out
       have hrf:=HRF.out.call HBRT.out
       obtain ⟨_,hG2,hR2,_⟩:=hwt.row p hltp
       have zp:wt.cell? ⟨Z,p,none⟩=some (.slice (some ⟨R2 p,0,none⟩) P P):=(hwt.z.cell hltp).trans (by rw [hG2])
       have zq:wt.cell? ⟨R2 p,t,none⟩=some (q2 p t):=hR2.cell hltt
       have dp:wt.cell? ⟨Q,p,none⟩=some (.slice (some ⟨R p,0,none⟩) P (capV (G p))):=(hrf.md.queues.cell hpcq).trans (congrArg some (hrf.qu.at_ p hltp))
       have dq:wt.cell? ⟨R p,t,none⟩=some (qv p t):=(hrf.qu.row p hltp).cell (Nat.lt_of_lt_of_le hltt (hrf.qu.cq p hltp))
       have HIN:Hid (∀ w',Below wt.heap.size wt w'→Calls Tryz.prog 56 #[q2 p t,qv p t] w' (Quiet (.bool true) w')):=fun w' hb => law3_IntsEq (Sl.of_own (own_below (hwt.own p t hltp hltt trivial) hb)) (Sl.of_own (own_below (hrf.qu.own p t hltp hltt) hb))
       clear hwt hrf hG2 hR2 rd
       go_wp2_with fail
       refine wp_region_held_drew (S:=fun w' => w'.cell? ⟨w.heap.size,3,none⟩=some (.slice (some ⟨Z,0,none⟩) P P)∧w'.cell? ⟨Z,p,none⟩=some (.slice (some ⟨R2 p,0,none⟩) P P)∧w'.cell? ⟨R2 p,t,none⟩=some (q2 p t)∧w'.cell? ⟨A,13,none⟩=some (.slice (some ⟨Q,0,none⟩) P cQ)∧w'.cell? ⟨Q,p,none⟩=some (.slice (some ⟨R p,0,none⟩) P (capV (G p)))∧w'.cell? ⟨R p,t,none⟩=some (qv p t)) (by kernel_rfl) ?_ (fun hHeld => ?_)
       ·exact ⟨q3,zp,zq,r13,dp,dq⟩
       obtain ⟨v17,hv0⟩:∃ w',w'=wt.drew:=⟨_,rfl⟩
       have hvb:Below wt.heap.size wt v17:=by rw [hv0]; exact (Below.refl _ _).drew
       have HBV:Hid (Below w0.heap.size w0 v17):=HBT.out.trans (hvb.mono HBT.out.size)
       rw [← hv0] at hHeld ⊢
       clear hv0
       refine tkR 0 rfl ?_
       refine tkR 1 rfl ?_
       refine tkR 2 rfl ?_
       refine tkR 3 rfl ?_
       refine tkR 4 rfl ?_
       refine tkR 5 rfl ?_
       refine tkR 6 rfl ?_
       refine tkR 7 rfl ?_
       refine tkR 8 rfl ?_
       refine tkR 9 rfl ?_
       refine tkR 10 rfl ?_
       refine tkR 11 rfl ?_
       refine tkR 12 rfl ?_
       refine tkR 13 rfl ?_
       refine tkR 14 rfl ?_
       refine tkR 15 rfl ?_
       refine tkR 16 rfl ?_
       refine tkR 17 rfl ?_
       refine clR 18 rfl fun K hK => ?_
       go_simp
       refine Calls.mono (HIN.out _ hvb) ?_
       rintro e w9 ⟨rfl,n9,rfl⟩
       have HBV:Hid (Below w0.heap.size w0 (v17.drewN n9)):=below_drewN HBV.out n9
       refine hK.out _ _ ?_ (fun hHeld => ?_)
       ·(try dsimp only)
        exact hHeld
       clear hK K
       refine tkR 19 rfl ?_
       refine wpAnyH_done (by kernel_rfl) ?_ _
       clear hHeld
       clear hvb q0 q1 q2' q3 r0 r13 zp zq dp dq
       go_wp2
       go_roundw
       case rel => exact ⟨t + 1,by omega,by go_num,_,rfl,HBV⟩
       case measure => simp [intOf]; omega
      ·have e3:decide (t < P)=false:=decide_eq_false hltt
       go_wp2
       go_roundw
       case rel => exact ⟨p + 1,by omega,by go_num,_,rfl,HBT⟩
       case measure => simp [intOf]; omega
    ·have e2:decide (p < P)=false:=decide_eq_false hltp
     go_wp2
     go_loopw [9] (fun iv wr => ∃ i:Nat,i≤M∧iv=.int .i64 i∧∃ wx:World,wx=wr∧Hid (Below w0.heap.size w0 wx)) (fun iv _ => M - (intOf iv).toNat)
     case atStart => exact ⟨0,by omega,rfl,_,rfl,HBP⟩
     case round =>
      clear q0 q1 q2' q3 r0 r10 rd
      obtain ⟨i,hi,rfl,wi,rfl,HBI⟩:=hrel
      have HBRI:Hid (Below w.heap.size w wi):=HB0.out.trans (HBI.out.mono HB0.out.size)
      obtain ⟨q0,q1,q2',q3⟩:=HBOX.out _ HBI.out
      have rb3:=(HRD.out wi HBRI.out).b3
      by_cases hlti:i < M
      ·have e5:decide (i < M)=true:=decide_eq_true hlti
       obtain ⟨bb,rfl⟩:∃ bb,Ab=some ⟨bb,0,none⟩:=by
        rcases HV1.out.2 with hn | ⟨z,cap9,cur,hv,_⟩
        ·have:=hn.1
         injection this with h1 h2
         rw [← HMM.out] at h2
         omega
        ·injection hv with h1 _ _
         exact ⟨z,h1⟩
       have hbbz:bb < w.heap.size:=(HV1.out.lt bb rfl).2
       obtain ⟨x,hx,hxr⟩:=HV2.out i (by rw [← HMM.out]; exact hlti)
       have x0:wi.cell? ⟨bb,i,none⟩=some x:=(HBRI.out.cell (p:=⟨bb,i,none⟩) hbbz).trans ((HV1.out.cellAt i (by rw [← HMM.out]; omega)).trans hx)
       obtain ⟨v,hv,hvr⟩:=HROWS.out i (by rw [← HMM.out]; exact hlti)
       have v0':wi.cell? ⟨bq,i,none⟩=some v:=(HBRI.out.cell (p:=⟨bq,i,none⟩) hbq1).trans hv
       have HFR:Hid (∀ w',Below w.heap.size w w'→Calls Tryz.prog 58 #[x] w' (Gives 176 n (g i) id w')):=fun w' hb => law10_From (by omega) ((hxr.row).mono9 hb) hb.size
       have HSM:Hid (∀ (w':World) (y:Value) (B':Nat),Below w.heap.size w w'→PlRow w' B' y n (g i)→Calls Tryz.prog 57 #[y,v] w' (Says (.bool true) w')):=fun w' y B' hb hy => ref10_SameEq hy (hvr.row.mono9 hb)
       clear hv hvr hx hxr
       go_wp2_with fail
       refine wp_region_held_drew (S:=fun w' => w'.cell? ⟨w.heap.size,2,none⟩=some (.slice (some ⟨bb,0,none⟩) M cb)∧w'.cell? ⟨bb,i,none⟩=some x∧w'.cell? ⟨bp,3,none⟩=some (.slice (some ⟨bq,0,none⟩) M cap)∧w'.cell? ⟨bq,i,none⟩=some v) (by kernel_rfl) ?_ (fun hHeld => ?_)
       ·exact ⟨q2',x0,rb3,v0'⟩
       obtain ⟨v22,hv0⟩:∃ w',w'=wi.drew:=⟨_,rfl⟩
       have hvb:Below wi.heap.size wi v22:=by rw [hv0]; exact (Below.refl _ _).drew
       have HBV:Hid (Below w0.heap.size w0 v22):=HBI.out.trans (hvb.mono HBI.out.size)
       rw [← hv0] at hHeld ⊢
       clear hv0
       refine tkR 0 rfl ?_
       refine tkR 1 rfl ?_
       refine tkR 2 rfl ?_
       refine tkR 3 rfl ?_
       refine tkR 4 rfl ?_
       refine tkR 6 rfl ?_
       refine tkR 7 rfl ?_
       refine tkR 8 rfl ?_
       refine tkR 9 rfl ?_
       refine tkR 10 rfl ?_
       refine tkR 11 rfl ?_
       refine tkR 12 rfl ?_
       refine clR 5 rfl fun K hK => ?_
       go_simp
       refine Calls.mono (HFR.out _ (HBRI.out.trans (hvb.mono HBRI.out.size))) ?_
       rintro e w8 ⟨y,rfl,hy8,hb8⟩
       have HB8:Hid (Below w0.heap.size w0 w8):=HBV.out.trans (hb8.mono HBV.out.size)
       have HY8:=Lib.hid hy8
       refine hK.out _ _ ?_ (fun hHeld => ?_)
       ·(try dsimp only)
        obtain ⟨a1,a2,a3,a4⟩:=hHeld
        exact ⟨(hb8.cell (p:=⟨w.heap.size,2,none⟩) (by show w.heap.size < _; have:=HBV.out.size; omega)).trans a1,(hb8.cell (p:=⟨bb,i,none⟩) (by show bb < _; have:=HBV.out.size; omega)).trans a2,(hb8.cell (p:=⟨bp,3,none⟩) (by show bp < _; have:=HBV.out.size; have:=HPZ.out; omega)).trans a3,(hb8.cell (p:=⟨bq,i,none⟩) (by show bq < _; have:=HBV.out.size; omega)).trans a4⟩
       clear hK K
       (try simp only [Act.put,sqA,sqB,sqC])
       refine clR 13 rfl fun K hK => ?_
       go_simp
       refine Calls.mono (HSM.out _ _ _ (HB0.out.trans (HB8.out.mono HB0.out.size)) HY8.out.row) ?_
       rintro e w9 ⟨rfl,hb9⟩
       have HBV:Hid (Below w0.heap.size w0 w9):=HB8.out.trans (hb9.mono HB8.out.size)
       refine hK.out _ _ ?_ (fun hHeld => ?_)
       ·(try dsimp only)
        obtain ⟨a1,a2,a3,a4⟩:=hHeld
        exact ⟨(hb9.cell (p:=⟨w.heap.size,2,none⟩) (by show w.heap.size < _; have:=HB8.out.size; omega)).trans a1,(hb9.cell (p:=⟨bb,i,none⟩) (by show bb < _; have:=HB8.out.size; omega)).trans a2,(hb9.cell (p:=⟨bp,3,none⟩) (by show bp < _; have:=HB8.out.size; have:=HPZ.out; omega)).trans a3,(hb9.cell (p:=⟨bq,i,none⟩) (by show bq < _; have:=HB8.out.size; omega)).trans a4⟩
       clear hK K
       refine tkR 14 rfl ?_
       refine wpAnyH_done (by kernel_rfl) ?_ _
       clear hHeld
       clear hvb q0 q1 q2' q3 rb3 x0 v0'
       go_wp2
       go_roundw
       case rel => exact ⟨i + 1,by omega,by go_num,_,rfl,HBV⟩
       case measure => simp [intOf]; omega
      ·have e5:decide (i < M)=false:=decide_eq_false hlti
       go_wp2
       go_ret
       exact ⟨by first | rfl | (simp; done),HBRI.out⟩
end
end Go.Proofs.YtpcapdpglpgcbaaGreat
