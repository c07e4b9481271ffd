/-
  Words and contracts that a statement's proof rests on (MsF). No statement is proved here.
-/
import Derived.Test.YtpcapdpglpgcbaaGreatOpenOp
import Derived.Test.YtpcapdpglpgcbaaGreatBkF
import Derived.Test.YtpcapdpglpgcbaaGreatMsE
set_option linter.unusedVariables false
set_option linter.unusedSimpArgs false
namespace Go.Proofs.YtpcapdpglpgcbaaGreat
open Go.RowKit
theorem at_quo {S B i:Nat} (hB:1≤B∧B≤16) (hi:i < S * B) (h128:S * B≤128):atI S B (IntKind.i64.wrap ((i:Int) / (B:Int))) ((i:Int).tmod (B:Int))=(i:Int):=by
 have e1:(i:Int) / (B:Int)=((i / B:Nat):Int):=by first | rfl | simp | exact (Int.natCast_ediv i B).symm
 have e2:(i:Int).tmod (B:Int)=((i % B:Nat):Int):=by first | rfl | simp
 have h1:i / B < S:=Nat.div_lt_of_lt_mul (by rw [Nat.mul_comm]; exact hi)
 have h2:i % B < B:=Nat.mod_lt _ (by omega)
 have h3:=Nat.div_add_mod i B
 rw [Nat.mul_comm] at h3
 have h4:i / B≤i:=Nat.div_le_self _ _
 rw [e1,e2,IntKind.wrap_i64]
 clear e1 e2
 generalize i / B=q at *
 generalize i % B=m at *
 have hq:q < 128:=by omega
 have e3:((q:Int) + 9223372036854775808) % 18446744073709551616 - 9223372036854775808=(q:Int):=by omega
 rw [e3]
 unfold atI
 rw [if_pos ⟨by omega,by omega,by omega,by omega⟩,← Int.natCast_mul,← Int.natCast_add,h3]
section
variable {Ep:Nat→Prop} {Lp Ap Sp Qp bpp bqp:Nat} {up:Value} {Gp:Nat→Value} {Rp:Nat→Nat} {vp:Nat→Nat→Value} {E:Nat→Prop} {w:World} {L A S1 Q cQ:Nat} {X:Nat→Value} {bp bq P r S B n nv:Nat} {uv:Value} {lv:List Vl} {st:Nat→Int × Nat} {g:Nat→Nat→Pl} {G:Nat→Value} {R:Nat→Nat} {qv:Nat→Nat→Value} {qs:Nat→Nat→List Int}
set_option maxRecDepth 20000 in
set_option maxHeartbeats 12800000 in
theorem law17_Same (h1:MdAll Ep w Lp Ap Sp Qp bpp bqp P r S B n nv up lv st g Gp Rp vp qs) (h2:RfAll E w L A S1 Q cQ X bp bq P r S B n nv uv lv st g G R qv qs) (hP:1≤P∧P≤64) (hnv:nv≤1000) (hS:1≤S∧S≤8) (hB:1≤B∧B≤16) (hn:1≤n∧n≤8) (hlen:∀ i j,i < P→j < P→(qs i j).length≤1000000) :
  Calls Tryz.prog 13 #[.pointer (some ⟨Ap,0,none⟩),.pointer (some ⟨A,0,none⟩)] w (Says (.bool true) w):=by
 obtain ⟨M,hM⟩:∃ M,M=S * B:=⟨_,rfl⟩
 have hMB:M≤128:=by rw [hM]; exact Nat.mul_le_mul hS.2 hB.2
 obtain ⟨Au,cu,huv,_,_⟩:=(Sl.of_own h2.md.vlans).form
 obtain ⟨D,hD⟩:=h2.bk
 obtain ⟨_,hbq1,_,_,_,_,⟨cap,hcap1,hcap2,hcap3⟩,_,hrows⟩:=hD.1
 have HRD:Hid (∀ w',Below w.heap.size w w'→RfRd w' A bp bq S1 Q cQ P nv M n Au cu cap st G R qv):=fun w' hb => by
  have hm:=(h2.md.call hb)
  exact ⟨(hm.cells.cell (by omega)).trans (congrArg some hm.x0),hm.cells.cell (by omega),(hm.cells.cell (by omega)).trans (by rw [huv]; rfl),hm.cells.cell (by omega),hm.cells.cell (by omega),(hb.cell (p:=⟨bp,3,none⟩) hD.1.1).trans (by rw [hM]; exact hcap3)⟩
 have HSHP:=Lib.hid fun w' (hb:Below w.heap.size w w') => model_Shape (h1.call hb) hP.2 hnv hS hB hn hlen
 have HSHD:=Lib.hid fun w' (hb:Below w.heap.size w w') (base:Nat) (sv u2 bv:Value) (Z:Nat) (R2:Nat→Nat) (G2:Nat→Value) (q2:Nat→Nat→Value) (hs:ShAt w' base P S B n nv sv u2 bv Z R2 G2 q2 lv st g qs) => law17_Shaped hs (h2.call hb) hP hnv hS hB hn
 have HVL:=Lib.hid fun w' (hb:Below w.heap.size w w') => model_Vlans (h1.call hb).md hnv
 have HSD:=Lib.hid fun w' (hb:Below w.heap.size w w') (p:Nat) (hp:p < P) => model_Stand (h1.call hb).md p hp
 have HQU:=Lib.hid fun w' (hb:Below w.heap.size w w') (i j:Nat) (hi:i < P) (hj:j < P) => model_Queue (h1.call hb).md (h1.call hb).qu i j hi hj (hlen i j hi hj)
 have HRF:=Lib.hid h2
 have HPZ:Hid (bp < w.heap.size):=Lib.hid hD.1.1
 have HROWS:=Lib.hid hrows
 have HMM:=Lib.hid hM
 have HMP:=Lib.hid h1
 have HBK1:Hid (∀ w',Below w.heap.size w w'→w'.cell? ⟨bp,1,none⟩=some (.int .i64 (B:Nat))):=fun w' hb => (hb.cell (p:=⟨bp,1,none⟩) hD.1.1).trans hD.1.2.2.2.2.1
 have HLIP:=Lib.hid fun w' (hb:Below w.heap.size w w') => model_List (h1.call hb) (by rw [← hM]; exact hMB) hn.2
 have HLDP:Hid (∀ w',Below w.heap.size w w'→Calls Tryz.prog 63 #[.pointer (some ⟨bp,0,none⟩)] w' fun e w2 => ∃ v,e=.returned v∧w2.ownsRow w'.heap.size 139 5 v (bookL g n (S * B)).length (encs (bookL g n (S * B)))∧Below w'.heap.size w' w2):=fun w' hb => by
  obtain ⟨D',hd',_⟩:=(h2.call hb).bk
  exact ref11_List hd' (by rw [← hM]; exact hMB) hn.2
 have HBU:=Lib.hid fun w' (hb:Below w.heap.size w w') (s t:Int) (H:Nat) (hh:H < S * B) (ha:atI S B s t=(H:Int)) => model_Bucket (h1.call hb) hS hB hn s t H hh ha
 clear hD hrows hcap1 hcap2 hcap3 h1 h2 hlen hM
 go_enter Tryz.func13,Tryz.ntmps13
 go_wp2_with (first
  | (go_at_call 54; (with_reducible refine Calls.mono (HSHP.out _ (Below.refl _ _)) ?_); rintro e w1 ⟨sv,u2,bv,Z,R2,G2,q2,rfl,hs,hb⟩; (have HS1:=Lib.hid hs); (have HB1:=Lib.hid hb); clear hs hb)
  | (go_at_call 53; (with_reducible refine Calls.mono (HSHD.out _ HB1.out _ _ _ _ _ _ _ _ HS1.out) ?_); rintro e w2 ⟨rfl,hb⟩; (have HB2:=Lib.hid (HB1.out.trans (hb.mono HB1.out.size))); clear hb)
  | (go_at_call 55; (with_reducible refine Calls.mono (HVL.out _ HB2.out) ?_); rintro e w3 ⟨uV,rfl,ho,hb⟩; (obtain ⟨Av,cv,hx,_,_⟩:=(Sl.of_own ho).form); subst hx; (have HO3:=Lib.hid (Sl.of_own ho)); (have HB3:=Lib.hid (HB2.out.trans (hb.mono HB2.out.size))); clear ho hb)
  | fail)
 clear HS1 HB1 HB2
 go_loopw [6] (fun jv wr => ∃ j:Nat,j≤nv∧jv=.int .i64 j∧∃ wx:World,wx=wr∧Hid (Below w3.heap.size w3 wx)) (fun jv _ => nv - (intOf jv).toNat)
 case atStart => exact ⟨0,by omega,rfl,_,rfl,Below.refl _ _⟩
 case round =>
  obtain ⟨j,hj,rfl,wr,rfl,HBW⟩:=hrel
  have HBR:Hid (Below w.heap.size w wr):=HB3.out.trans (HBW.out.mono HB3.out.size)
  by_cases hlt:j < nv
  ·have e1:decide (j < nv)=true:=decide_eq_true hlt
   have e1':decide (j ≥ nv)=false:=decide_eq_false (by omega)
   have e1'':decide (nv≤j)=false:=decide_eq_false (by omega)
   obtain ⟨b2,off2,cap2,hx2,_,_,hb2,_,hc2⟩:=HO3.out.vlAt (by omega)
   obtain ⟨b1,off1,cap1,hx1,_,_,hb1,_,hc1⟩:=(Sl.of_own HRF.out.md.vlans).vlAt (by omega)
   rw [huv] at hx1
   injection hx2 with hy1 hy2 hy3
   injection hx1 with hz1 hz2 hz3
   subst hy1
   subst hy3
   subst hz1
   subst hz3
   obtain ⟨k0,k1,k2⟩:=hc2 j hlt
   obtain ⟨l0,l1,l2⟩:=hc1 j hlt
   obtain ⟨x,hx⟩:∃ x,x=lv.getD j vl0:=⟨_,rfl⟩
   rw [← hx] at k1 l1
   have k1':=((bcell HBW.out).1 b2 (off2 + j * 3 + 1) hb2).trans k1
   have l1':=((bcell HBR.out).1 b1 (off1 + j * 3 + 1) hb1).trans l1
   have rd:=(HRD.out wr HBR.out).c11
   clear k0 k1 k2 l0 l1 l2 hc1 hc2 hx
   go_wp2_with fail
   refine wp_region_held_drew (S:=fun w' => w'.cell? ⟨A,11,none⟩=some (.slice (some ⟨b1,off1,none⟩) nv cu)∧w'.cell? ⟨b2,off2 + j * 3 + 1,none⟩=some (.int .u64 (x.mem:Nat))∧w'.cell? ⟨b1,off1 + j * 3 + 1,none⟩=some (.int .u64 (x.mem:Nat))) (by kernel_rfl) ?_ (fun hHeld => ?_)
   ·exact ⟨rd,k1',l1'⟩
   obtain ⟨v7,hv0⟩:∃ w',w'=wr.drew:=⟨_,rfl⟩
   have hvb:Below wr.heap.size wr v7:=by rw [hv0]; exact (Below.refl _ _).drew
   have HBV:Hid (Below w3.heap.size w3 v7):=HBW.out.trans (hvb.mono HBW.out.size)
   rw [← hv0] at hHeld ⊢
   clear hv0
   refine tkR 0 rfl ?_
   refine tkR 1 rfl ?_
   refine tkR 2 rfl ?_
   refine tkR 3 rfl ?_
   refine tkR 4 rfl ?_
   refine tkR 5 rfl ?_
   refine tkR 6 rfl ?_
   refine tkR 7 rfl ?_
   refine tkR 8 rfl ?_
   refine tkR 9 rfl ?_
   refine tkR 10 rfl ?_
   refine tkR 11 rfl ?_
   refine tkR 12 rfl ?_
   refine tkR 13 rfl ?_
   refine tkR 14 rfl ?_
   refine tkR 15 rfl ?_
   refine tkR 16 rfl ?_
   refine tkR 17 rfl ?_
   refine tkR 18 rfl ?_
   refine tkR 19 rfl ?_
   refine tkR 20 rfl ?_
   refine tkR 21 rfl ?_
   refine tkR 22 rfl ?_
   refine wpAnyH_done (by kernel_rfl) ?_ _
   clear hHeld
   clear hvb rd k1' l1'
   go_wp2
   go_roundw
   case rel => exact ⟨j + 1,by omega,by go_num,_,rfl,HBV⟩
   case measure => simp [intOf]; omega
  ·have e1:decide (j < nv)=false:=decide_eq_false hlt
   go_wp2
   go_loopw [7] (fun pv wr => ∃ p:Nat,p≤P∧pv=.int .i64 p∧∃ wx:World,wx=wr∧Hid (Below w3.heap.size w3 wx)) (fun pv _ => P - (intOf pv).toNat)
   case atStart => exact ⟨0,by omega,rfl,_,rfl,HBW⟩
   case round =>
    obtain ⟨p,hp,rfl,wp,rfl,HBP⟩:=hrel
    have HBRP:Hid (Below w.heap.size w wp):=HB3.out.trans (HBP.out.mono HB3.out.size)
    have r0:=(HRD.out wp HBRP.out).c0
    by_cases hltp:p < P
    ·have e2:decide (p < P)=true:=decide_eq_true hltp
     obtain ⟨x0,z0,hxz⟩:∃ (x:Int) (z:Nat),st p=(x,z):=⟨_,_,rfl⟩
     have hsd:=HSD.out wp HBRP.out p hltp
     rw [hxz] at hsd
     simp only [] at hsd
     have HSDP:=Lib.hid hsd
     clear hsd
     go_wp2_with (first
      | (go_at_call 14; (with_reducible refine Calls.mono HSDP.out ?_); rintro e ws ⟨rfl,hbs⟩; (have HBS:=Lib.hid hbs); clear hbs)
      | fail)
     obtain ⟨xb,hxb⟩:∃ o,o=ws.heap.size:=⟨_,rfl⟩
     obtain ⟨wy,hwy⟩:∃ z,z=ws.alloc (.cells #[.int .i64 x0,.int .u32 (z0:Nat)] 60):=⟨_,rfl⟩
     have HBs:Hid (Below w3.heap.size w3 ws):=HBP.out.trans (HBS.out.mono HBP.out.size)
     have HBY:Hid (Below w3.heap.size w3 wy):=by rw [hwy]; exact HBs.out.alloc HBs.out.size _
     have y0:wy.cell? ⟨xb,0,none⟩=some (.int .i64 x0):=by rw [hwy,hxb]; simp [go_sem]
     have y1:wy.cell? ⟨xb,1,none⟩=some (.int .u32 (z0:Nat)):=by rw [hwy,hxb]; simp [go_sem]
     rw [← hxb,← hwy]
     clear hxb hwy r0
     have HBRY:Hid (Below w.heap.size w wy):=HB3.out.trans (HBY.out.mono HB3.out.size)
     have r10:=(HRD.out wy HBRY.out).c10
     have hmp:=(HRF.out.call HBRY.out).md.stands
     have t0:wy.cell? ⟨S1,p * 2,none⟩=some (.int .i64 x0):=(hmp.cell (by omega)).trans (by rw [rowS_0,hxz])
     have t1:wy.cell? ⟨S1,p * 2 + 1,none⟩=some (.int .u32 (z0:Nat)):=(hmp.cell (by omega)).trans (by rw [rowS_1,hxz])
     clear hmp
     go_wp2_with fail
     refine wp_region_held_drew (S:=fun w' => w'.cell? ⟨xb,0,none⟩=some (.int .i64 x0)∧w'.cell? ⟨xb,1,none⟩=some (.int .u32 (z0:Nat))∧w'.cell? ⟨A,10,none⟩=some (.slice (some ⟨S1,0,none⟩) P (capV (X 10)))∧w'.cell? ⟨S1,p * 2,none⟩=some (.int .i64 x0)∧w'.cell? ⟨S1,p * 2 + 1,none⟩=some (.int .u32 (z0:Nat))) (by kernel_rfl) ?_ (fun hHeld => ?_)
     ·exact ⟨y0,y1,r10,t0,t1⟩
     obtain ⟨v13,hv0⟩:∃ w',w'=wy.drew:=⟨_,rfl⟩
     have hvb:Below wy.heap.size wy v13:=by rw [hv0]; exact (Below.refl _ _).drew
     have HBV:Hid (Below w3.heap.size w3 v13):=HBY.out.trans (hvb.mono HBY.out.size)
     rw [← hv0] at hHeld ⊢
     clear hv0
     refine tkR 0 rfl ?_
     refine tkR 1 rfl ?_
     refine tkR 2 rfl ?_
     refine tkR 3 rfl ?_
     refine tkR 4 rfl ?_
     refine tkR 5 rfl ?_
     refine tkR 6 rfl ?_
     refine tkR 7 rfl ?_
     refine tkR 8 rfl ?_
     refine tkR 9 rfl ?_
     refine tkR 10 rfl ?_
     refine tkR 11 rfl ?_
     refine tkR 12 rfl ?_
     refine tkR 13 rfl ?_
     refine tkR 14 rfl ?_
     refine tkR 15 rfl ?_
     refine tkR 16 rfl ?_
     refine tkR 17 rfl ?_
     refine tkR 18 rfl ?_
     refine tkR 19 rfl ?_
     refine tkR 20 rfl ?_
     refine tkR 21 rfl ?_
     refine tkR 22 rfl ?_
     refine tkR 23 rfl ?_
     refine wpAnyH_done (by kernel_rfl) ?_ _
     clear hHeld
     clear hvb y0 y1 r10 t0 t1
     go_wp2
     go_loopw [9] (fun qv' wr => ∃ t:Nat,t≤P∧qv'=.int .i64 t∧∃ wx:World,wx=wr∧Hid (Below w3.heap.size w3 wx)) (fun qv' _ => P - (intOf qv').toNat)
     case atStart => exact ⟨0,by omega,rfl,_,rfl,HBV⟩
     case round =>
      obtain ⟨t,ht,rfl,wt,rfl,HBT⟩:=hrel
      have HBRT:Hid (Below w.heap.size w wt):=HB3.out.trans (HBT.out.mono HB3.out.size)
      have rd:=HRD.out wt HBRT.out
      have r0:=rd.c0
      have r13:=rd.c13
      by_cases hltt:t < P
      ·have e3:decide (t < P)=true:=decide_eq_true hltt
       have hpcq:p < cQ:=Nat.lt_of_lt_of_le hltp HRF.out.md.pq
       have e4:decide (p < cQ)=true:=decide_eq_true hpcq
       have hrf:=HRF.out.call HBRT.out
       have dp:wt.cell? ⟨Q,p,none⟩=some (.slice (some ⟨R p,0,none⟩) P (capV (G p))):=(hrf.md.queues.cell hpcq).trans (congrArg some (hrf.qu.at_ p hltp))
       have dq:wt.cell? ⟨R p,t,none⟩=some (qv p t):=(hrf.qu.row p hltp).cell (Nat.lt_of_lt_of_le hltt (hrf.qu.cq p hltp))
       have HRT:=Lib.hid hrf
       have HLT:Hid (Q < wt.heap.size∧A < wt.heap.size∧R p < wt.heap.size):=⟨hrf.md.queues.lt,hrf.md.cells.lt,(hrf.qu.row p hltp).lt⟩
       clear hrf rd
       go_wp2_with fail
       refine wp_region_held_drew (S:=fun w' => w'.cell? ⟨A,13,none⟩=some (.slice (some ⟨Q,0,none⟩) P cQ)∧w'.cell? ⟨Q,p,none⟩=some (.slice (some ⟨R p,0,none⟩) P (capV (G p)))∧w'.cell? ⟨R p,t,none⟩=some (qv p t)) (by kernel_rfl) ?_ (fun hHeld => ?_)
       ·exact ⟨r13,dp,dq⟩
       obtain ⟨v18,hv0⟩:∃ w',w'=wt.drew:=⟨_,rfl⟩
       have hvb:Below wt.heap.size wt v18:=by rw [hv0]; exact (Below.refl _ _).drew
       have HBV:Hid (Below w3.heap.size w3 v18):=HBT.out.trans (hvb.mono HBT.out.size)
       rw [← hv0] at hHeld ⊢
       clear hv0
       refine tkR 0 rfl ?_
       refine tkR 1 rfl ?_
       refine tkR 2 rfl ?_
       refine tkR 4 rfl ?_
       refine tkR 5 rfl ?_
       refine tkR 6 rfl ?_
       refine tkR 7 rfl ?_
       refine tkR 8 rfl ?_
       refine tkR 9 rfl ?_
       refine tkR 10 rfl ?_
       refine tkR 11 rfl ?_
       refine tkR 12 rfl ?_
       refine tkR 13 rfl ?_
       refine clR 3 rfl fun K hK => ?_
       go_simp
       refine Calls.mono (HQU.out _ (HBRT.out.trans (hvb.mono HBRT.out.size)) p t hltp hltt) ?_
       rintro e w8 ⟨u8,rfl,ho8,hb8⟩
       have HB8:Hid (Below wt.heap.size wt w8):=hvb.trans (hb8.mono hvb.size)
       have HBV:Hid (Below w3.heap.size w3 w8):=HBT.out.trans (HB8.out.mono HBT.out.size)
       have HIN:Hid (Calls Tryz.prog 56 #[u8,qv p t] w8 (Quiet (.bool true) w8)):=law3_IntsEq (Sl.of_own ho8) (Sl.of_own (own_below (HRT.out.qu.own p t hltp hltt) HB8.out))
       clear ho8
       refine hK.out _ _ ?_ (fun hHeld => ?_)
       ·(try dsimp only)
        obtain ⟨a1,a2,a3⟩:=hHeld
        exact ⟨(hb8.cell (p:=⟨A,13,none⟩) (by show A < v18.heap.size; have:=hvb.size; have:=HLT.out; omega)).trans a1,(hb8.cell (p:=⟨Q,p,none⟩) (by show Q < v18.heap.size; have:=hvb.size; have:=HLT.out; omega)).trans a2,(hb8.cell (p:=⟨R p,t,none⟩) (by show R p < v18.heap.size; have:=hvb.size; have:=HLT.out; omega)).trans a3⟩
       clear hK K
       (try simp only [Act.put,sqA,sqB,sqC])
       refine clR 14 rfl fun K hK => ?_
       go_simp
       refine Calls.mono HIN.out ?_
       rintro e w9 ⟨rfl,n9,rfl⟩
       have HBV:Hid (Below w3.heap.size w3 (w8.drewN n9)):=below_drewN HBV.out n9
       refine hK.out _ _ ?_ (fun hHeld => ?_)
       ·(try dsimp only)
        exact hHeld
       clear hK K
       refine tkR 15 rfl ?_
       refine wpAnyH_done (by kernel_rfl) ?_ _
       clear hHeld
       clear hvb r0 r13 dp dq
       go_wp2
       go_roundw
       case rel => exact ⟨t + 1,by omega,by go_num,_,rfl,HBV⟩
       case measure => simp [intOf]; omega
      ·have e3:decide (t < P)=false:=decide_eq_false hltt
       go_wp2
       go_roundw
       case rel => exact ⟨p + 1,by omega,by go_num,_,rfl,HBT⟩
       case measure => simp [intOf]; omega
    ·have e2:decide (p < P)=false:=decide_eq_false hltp
     have d12:=(HRD.out wp HBRP.out).c12
     go_wp2
     go_loopw [11] (fun iv wr => ∃ i:Nat,i≤M∧iv=.int .i64 i∧∃ wx:World,wx=wr∧Hid (Below w3.heap.size w3 wx)) (fun iv _ => M - (intOf iv).toNat)
     case atStart => exact ⟨0,by omega,rfl,_,rfl,HBP⟩
     case round =>
      clear r0 d12
      obtain ⟨i,hi,rfl,wi,rfl,HBI⟩:=hrel
      have HBRI:Hid (Below w.heap.size w wi):=HB3.out.trans (HBI.out.mono HB3.out.size)
      have rb3:=(HRD.out wi HBRI.out).b3
      by_cases hlti:i < M
      ·have e5:decide (i < M)=true:=decide_eq_true hlti
       have rb1:=HBK1.out wi HBRI.out
       obtain ⟨v,hv,hvr⟩:=HROWS.out i (by rw [← HMM.out]; exact hlti)
       have v0':wi.cell? ⟨bq,i,none⟩=some v:=(HBRI.out.cell (p:=⟨bq,i,none⟩) hbq1).trans hv
       have HSM:Hid (∀ (w':World) (y:Value) (B':Nat),Below w.heap.size w w'→PlRow w' B' y n (g i)→Calls Tryz.prog 57 #[y,v] w' (Says (.bool true) w')):=fun w' y B' hb hy => ref10_SameEq hy (hvr.row.mono9 hb)
       have hB0:¬ B=0:=by omega
       have hB0':(B:Int) ≠ 0:=by omega
       have hB0'':((B:Int) == 0)=false:=by simp; omega
       clear hv hvr
       go_wp2_with fail
       refine wp_region_held_drew (S:=fun w' => w'.cell? ⟨bp,1,none⟩=some (.int .i64 (B:Nat))∧w'.cell? ⟨bp,3,none⟩=some (.slice (some ⟨bq,0,none⟩) M cap)∧w'.cell? ⟨bq,i,none⟩=some v) (by kernel_rfl) ?_ (fun hHeld => ?_)
       ·exact ⟨rb1,rb3,v0'⟩
       obtain ⟨v24,hv0⟩:∃ w',w'=wi.drew:=⟨_,rfl⟩
       have hvb:Below wi.heap.size wi v24:=by rw [hv0]; exact (Below.refl _ _).drew
       have HBV:Hid (Below w3.heap.size w3 v24):=HBI.out.trans (hvb.mono HBI.out.size)
       rw [← hv0] at hHeld ⊢
       clear hv0
       refine tkR 0 rfl ?_
       refine tkR 1 rfl ?_
       refine tkR 2 rfl ?_
       refine tkR 3 rfl ?_
       refine tkR 4 rfl ?_
       refine tkR 5 rfl ?_
       refine tkR 6 rfl ?_
       refine tkR 7 rfl ?_
       refine tkR 8 rfl ?_
       refine tkR 9 rfl ?_
       refine tkR 10 rfl ?_
       refine tkR 11 rfl ?_
       refine tkR 12 rfl ?_
       refine tkR 13 rfl ?_
       refine tkR 14 rfl ?_
       refine tkR 17 rfl ?_
       refine tkR 18 rfl ?_
       refine tkR 19 rfl ?_
       refine tkR 20 rfl ?_
       refine tkR 21 rfl ?_
       refine tkR 22 rfl ?_
       refine tkR 23 rfl ?_
       refine clR 15 rfl fun K hK => ?_
       go_simp
       refine Calls.mono (HBU.out _ (HBRI.out.trans (hvb.mono HBRI.out.size)) _ _ i (by rw [← HMM.out]; exact hlti) (at_quo hB (by rw [← HMM.out]; exact hlti) (by rw [← HMM.out]; exact hMB))) ?_
       rintro e w7 ⟨x7,rfl,hx7,hb7⟩
       have HB7:Hid (Below w.heap.size w w7):=(HBRI.out.trans (hvb.mono HBRI.out.size)).trans (hb7.mono (HBRI.out.trans (hvb.mono HBRI.out.size)).size)
       have HBV7:Hid (Below w3.heap.size w3 w7):=HBV.out.trans (hb7.mono HBV.out.size)
       have HFR:=Lib.hid (law10_From (by omega) hx7.row (Nat.le_refl _))
       clear hx7
       refine hK.out _ _ ?_ (fun hHeld => ?_)
       ·(try dsimp only)
        obtain ⟨a1,a2,a3⟩:=hHeld
        exact ⟨(hb7.cell (p:=⟨bp,1,none⟩) (by show bp < _; have:=(HBRI.out.trans (hvb.mono HBRI.out.size)).size; have:=HPZ.out; omega)).trans a1,(hb7.cell (p:=⟨bp,3,none⟩) (by show bp < _; have:=(HBRI.out.trans (hvb.mono HBRI.out.size)).size; have:=HPZ.out; omega)).trans a2,(hb7.cell (p:=⟨bq,i,none⟩) (by show bq < _; have:=(HBRI.out.trans (hvb.mono HBRI.out.size)).size; omega)).trans a3⟩
       clear hK K
       (try simp only [Act.put,sqA,sqB,sqC])
       refine clR 16 rfl fun K hK => ?_
       go_simp
       refine Calls.mono HFR.out ?_
       rintro e w8 ⟨y8,rfl,hy8,hb8⟩
       have HB8:Hid (Below w.heap.size w w8):=HB7.out.trans (hb8.mono HB7.out.size)
       have HBV8:Hid (Below w3.heap.size w3 w8):=HBV7.out.trans (hb8.mono HBV7.out.size)
       have HSM8:=Lib.hid (HSM.out _ _ _ HB8.out hy8.row)
       clear hy8
       refine hK.out _ _ ?_ (fun hHeld => ?_)
       ·(try dsimp only)
        obtain ⟨a1,a2,a3⟩:=hHeld
        exact ⟨(hb8.cell (p:=⟨bp,1,none⟩) (by show bp < _; have:=HB7.out.size; have:=HPZ.out; omega)).trans a1,(hb8.cell (p:=⟨bp,3,none⟩) (by show bp < _; have:=HB7.out.size; have:=HPZ.out; omega)).trans a2,(hb8.cell (p:=⟨bq,i,none⟩) (by show bq < _; have:=HB7.out.size; omega)).trans a3⟩
       clear hK K
       (try simp only [Act.put,sqA,sqB,sqC])
       refine clR 24 rfl fun K hK => ?_
       go_simp
       refine Calls.mono HSM8.out ?_
       rintro e w9 ⟨rfl,hb9⟩
       have HBV:Hid (Below w3.heap.size w3 w9):=HBV8.out.trans (hb9.mono HBV8.out.size)
       refine hK.out _ _ ?_ (fun hHeld => ?_)
       ·(try dsimp only)
        obtain ⟨a1,a2,a3⟩:=hHeld
        exact ⟨(hb9.cell (p:=⟨bp,1,none⟩) (by show bp < _; have:=HB8.out.size; have:=HPZ.out; omega)).trans a1,(hb9.cell (p:=⟨bp,3,none⟩) (by show bp < _; have:=HB8.out.size; have:=HPZ.out; omega)).trans a2,(hb9.cell (p:=⟨bq,i,none⟩) (by show bq < _; have:=HB8.out.size; omega)).trans a3⟩
       clear hK K
       refine tkR 25 rfl ?_
       refine wpAnyH_done (by kernel_rfl) ?_ _
       clear hHeld
       clear hvb rb1 rb3 v0'
       go_wp2
       go_roundw
       case rel => exact ⟨i + 1,by omega,by go_num,_,rfl,HBV⟩
       case measure => simp [intOf]; omega
      ·have e5:decide (i < M)=false:=decide_eq_false hlti
       obtain ⟨Ls,hLs⟩:∃ l,l=bookL g n (S * B):=⟨_,rfl⟩
       have hlenL:Ls.length≤1024:=by
        have h9:=bookL_le g n (S * B)
        have h8:S * B * n≤128 * 8:=Nat.mul_le_mul (by rw [← HMM.out]; exact hMB) hn.2
        rw [hLs]
        omega
       have HLI:=HLIP.out wi HBRI.out
       have HLD9:=HLDP
       rw [← hLs] at HLI HLD9
       obtain ⟨N,hN⟩:∃ N,N=Ls.length:=⟨_,rfl⟩
       rw [← hN] at HLI HLD9 hlenL
       have HN:=Lib.hid hN
       have HLC:=Lib.hid HLI
       have HLN:Hid (∀ k,k≤N→(encs (Ls.take k)).length=k * 5):=fun k hk => by
        have:∀ M:List En,(encs M).length=M.length * 5:=fun M => by
         induction M with
         | nil => rfl
         | cons y r ih => show (enCells y ++ encs r).length=_; rw [List.length_append,ih]; simp [enCells]; omega
        rw [this,List.length_take,HN.out.symm.trans rfl]; omega
       have HTK:Hid (∀ k (x:En),k < N→Ls[k]?=some x→encs (Ls.take (k + 1))=encs (Ls.take k) ++ enCells x):=fun k x hk hx => by
        rw [List.take_add_one,hx]
        show encs (Ls.take k ++ [x])=_
        rw [encs_append,encs_one]
       have HTN:Hid (encs (Ls.take N)=encs Ls):=by show _=_; rw [HN.out,List.take_length]
       clear hN hLs HLI
       go_wp2_with (first
        | (go_at_call 60; (with_reducible refine Calls.mono HLC.out ?_); rintro e wl ⟨v1,rfl,ho1,hb1⟩; (have O1:=Lib.hid ho1); (have B1:=Lib.hid (HBRI.out.trans (hb1.mono HBRI.out.size))); (have B3:=Lib.hid (HBI.out.trans (hb1.mono HBI.out.size))); (obtain ⟨A1,cp1,hv1,hn1,hm1⟩:=(Sl.of_own ho1).form); subst hv1; unfold maxLen at hm1; clear ho1 hb1)
        | fail)
       clear HLC
       go_loopw [13,14] (fun out iv wr => ∃ k:Nat,k≤N∧iv=.int .i64 k∧Hid (wr.ownsRow wl.heap.size 139 5 out k (encs (Ls.take k)))∧Hid (Below wl.heap.size wl wr)) (fun _ iv _ => N - (intOf iv).toNat)
       case atStart => exact ⟨0,by omega,rfl,⟨by simp [encs],.inl ⟨rfl,rfl⟩⟩,Below.refl _ _⟩
       case round =>
        obtain ⟨k,hk,rfl,HO,HB⟩:=hrel
        have g0:(0:Int)≤(k:Int):=Int.natCast_nonneg _
        by_cases hltk:k < N
        ·have g1:(k:Int) < (N:Int):=by omega
         obtain ⟨bz,off,capz,x,hv,_,_,hbz,hx,hc⟩:=encs_at ((Sl.of_own O1.out).below HB.out) HN.out.symm k hltk
         injection hv with e1 _ e2
         subst e1
         have hT:=Lib.hid (HTK.out k x hltk hx)
         obtain ⟨a,m,pt,st',s⟩:=x
         simp only at hc
         obtain ⟨c0,c1,c2,c3,c4⟩:=hc
         obtain ⟨A3,cq',hout,_,_⟩:=(Sl.of_own HO.out).form
         subst hout
         have hz:=HB.out.size
         clear hx e2
         go_wp2_with fail
         refine (law9_From a (m:Int) pt st' (s:Int) _).mono ?_
         rintro e w2 ⟨rfl,hb2⟩
         have HO2:=Lib.hid (own_below HO.out hb2)
         have HB2:Hid (Below wl.heap.size wl w2):=HB.out.trans (hb2.mono hz)
         have hz2:=HB2.out.size
         clear hb2 c0 c1 c2 c3 c4 HO HB
         go_wp2_with (first
          | (at_builtin; refine wpList_apv _ rfl stEntsR _ _ rfl wl.heap.size _ k _ rfl (own_below HO2.out ((Below.refl w2.heap.size w2).alloc (Nat.le_refl _) (.cells #[.int .i64 a,.int .u64 (m:Int),.int .i64 pt,.bool st',.int .u32 (s:Int)] 139))) _ _ 1 [.int .i64 a,.int .u64 (m:Int),.int .i64 pt,.bool st',.int .u32 (s:Int)] rfl (litN5g (w:=w2) (g:=w2.heap.size) #[.int .i64 a,.int .u64 (m:Int),.int .i64 pt,.bool st',.int .u32 (s:Int)] _ rfl rfl) (by simp [Value.oneCell']) (by omega) (by go_size) ?_; intro A2 cc w9 hown2 hgr2 hat2 hbel2; clear hgr2 hat2))
         have HO3:Hid (w9.ownsRow wl.heap.size 139 5 (.slice A2 (k + 1) cc) (k + 1) (encs (Ls.take (k + 1)))):=by rw [hT.out]; exact hown2
         have HB3':Hid (Below wl.heap.size wl w9):=(HB2.out.alloc hz2 _).trans hbel2
         clear hown2 hbel2 hT
         go_wp2
         go_roundw
         case rel => exact ⟨k + 1,by omega,by go_num,HO3.out,HB3'.out⟩
         case measure => simp [intOf]; omega
        ·have hkM:N=k:=by omega
         subst hkM
         obtain ⟨Ao,co,hout,_,_⟩:=(Sl.of_own HO.out).form
         subst hout
         have HBz:=Lib.hid (B1.out.trans (HB.out.mono B1.out.size))
         have h9:=Sl.of_own HO.out
         rw [HTN.out] at h9
         have HOZ:=Lib.hid (fun (w':World) (hb':Below _ _ w') => h9.below hb')
         clear h9
         have r11:=(HRD.out _ HBz.out).c11
         have dnv:((nv:Int) == (nv:Int))=true:=by simp
         have HLD8:=Lib.hid (HLD9.out _ HBz.out)
         clear HO HTK HTN HLN
         go_wp2_with (first
          | (go_at_call 63; (with_reducible refine Calls.mono HLD8.out ?_); rintro e w8 ⟨v8,rfl,ho8,hb8⟩; (have HEN:=Lib.hid (law11_Entries HN.out.symm (HOZ.out _ hb8) (Sl.of_own ho8))); (have HB8:=Lib.hid (HBz.out.trans (hb8.mono HBz.out.size))); clear ho8 hb8)
          | (go_at_call 62; (with_reducible refine Calls.mono HEN.out ?_); rintro e _ ⟨rfl,n9,rfl⟩)
          | fail)
         go_ret
         exact ⟨by first | rfl | (simp; done),below_drewN HB8.out n9⟩
end
end Go.Proofs.YtpcapdpglpgcbaaGreat
