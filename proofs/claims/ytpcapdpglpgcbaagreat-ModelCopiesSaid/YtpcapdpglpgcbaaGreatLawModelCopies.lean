/-
  A copy has the same, and goes its own way: for every plan, every two rows of Ops. No condition.
-/
import Derived.Test.YtpcapdpglpgcbaaGreatRows
import Derived.Test.YtpcapdpglpgcbaaGreatOpenOp
import Derived.Test.YtpcapdpglpgcbaaGreatMoQ
import Derived.Test.YtpcapdpglpgcbaaGreatMoK
import Derived.Test.YtpcapdpglpgcbaaGreatMsB
import Derived.Test.YtpcapdpglpgcbaaGreatMrO
import Derived.Test.YtpcapdpglpgcbaaGreatMsF
import Derived.Test.YtpcapdpglpgcbaaGreatMsD
import Derived.Test.YtpcapdpglpgcbaaGreatMcR
import Derived.WalkKit
import Derived.ProofKit
import Derived.OpenShut
namespace Go.Proofs.YtpcapdpglpgcbaaGreat.modelCopies
open Go.ChangeShapes Go.WideShapes Go.ChangeAt Go.RowKit
open Go.ChangeMaps (open_string)
set_option linter.unusedVariables false

theorem own:ownKnob Tryz.prog.godebug=none:=by kernel_rfl

set_option maxRecDepth 20000 in
set_option maxHeartbeats 6400000 in
theorem walk (W:World) (P0:Int) (vr0 vv0:Value) (a0 b0 c0 T0 R0:Int) (nm0 sh0:Nat) (lr0:List Rl) (lv0:List Vl) (hr0:Sl W W.heap.size 2 vr0 lr0.length (rlc lr0)) (hv0:Sl W W.heap.size 3 vv0 lv0.length (vlc lv0)) (ho0:∀ x ∈ lv0,x.ok) (a1:Value) (b1:Ops17 W a1) (a2:Value) (b2:Ops17 W a2) :
    Calls Tryz.prog 4 #[planV P0 vr0 vv0 a0 b0 c0 T0 R0 nm0 sh0,a1,a2] W (Says (.bool true) W):=by
  obtain ⟨Ao,no,co,rfl,hno,hcom,hops⟩:=b1
  have HOPS:=Lib.hid hops
  clear hops
  obtain ⟨Am,nm,cm,rfl,hnm,hcmm,hmore⟩:=b2
  have HMORE:=Lib.hid hmore
  clear hmore
  obtain ⟨Ar,cr,rfl,hcr,hcm⟩:=hr0.form
  obtain ⟨Av,cv,rfl,hcv,hcw⟩:=hv0.form
  obtain ⟨P,hP⟩:∃ x,x=2 + fx 7 P0:=⟨_,rfl⟩
  obtain ⟨S,hS⟩:∃ x,x=1 + fx 8 a0:=⟨_,rfl⟩
  obtain ⟨B,hB⟩:∃ x,x=1 + fx 16 b0:=⟨_,rfl⟩
  obtain ⟨n,hn⟩:∃ x,x=1 + fx 8 c0:=⟨_,rfl⟩
  obtain ⟨T,hT⟩:∃ x,x=1 + fx 8 T0:=⟨_,rfl⟩
  obtain ⟨Rg,hG⟩:∃ x,x=1 + fx 64 R0:=⟨_,rfl⟩
  have hfix:=fun w' (hb:Below W.heap.size W w') => ref17_Fix (hr0.below hb) (hv0.below hb) ho0 hb.size P0 a0 b0 c0 T0 R0 nm0 sh0 P S B n T Rg hP hT hG hS hB hn
  unfold planV at hfix ⊢
  have HFX:=Lib.hid hfix
  have HN:=Lib.hid (And.intro hP (And.intro hS (And.intro hB (And.intro hn (And.intro hT hG)))))
  clear hfix hr0 hv0 ho0 hP hS hB hn hT hG hcr hcm hcv hcw
  go_enter Tryz.func4,Tryz.ntmps4
  go_upto_region 2 with (first
    | (go_at_call 5; (with_reducible refine Calls.mono (HFX.out _ ((Below.refl _ _).alloc (Nat.le_refl _) _)) ?_); rintro e wa ⟨ur,uw,rfl,h1,h2,hba⟩; (obtain ⟨Ax,cx,hx,_,_⟩:=(Sl.of_own h1).form); (obtain ⟨Ay,cy,hy,_,_⟩:=(Sl.of_own h2).form); subst hx; subst hy; (have H1:=Lib.hid h1); (have H2:=Lib.hid h2); (have HBA:=Lib.hid hba); (have HTH:Hid (wa.there W.heap.size 0 10):=there_below (there_of (cs:=#[.int .i64 P0,.slice Ar lr0.length cr,.slice Av lv0.length cv,.int .i64 a0,.int .i64 b0,.int .i64 c0,.int .i64 T0,.int .i64 R0,.int .u32 (nm0:Int),.int .u32 (sh0:Int)]) (heap_self W _ 28)) hba (by simp)); clear h1 h2 hba)
    | (refine wpList_store (by rfl) 28 _ _ (by rfl) W.heap.size 0 #[.int .i64 (P:Nat),.slice Ax P cx,.slice Ay (min lv0.length 8) cy,.int .i64 (S:Nat),.int .i64 (B:Nat),.int .i64 (n:Nat),.int .i64 (T:Nat),.int .i64 (Rg:Nat),.int .u32 (nm0:Int),.int .u32 (sh0:Int)] (by rfl) (by rfl) HTH.out (by kernel_rfl) (by simp [Value.oneCell']) ?_; intro wz hst; (have hWz:W.heap.size < wa.heap.size:=by have:=HBA.out.size; simp at this; omega); (have HBX:Hid (∀ w',Below wz.heap.size wz w'→w'.cell? ⟨W.heap.size,0,none⟩=some (.int .i64 (P:Nat))∧w'.cell? ⟨W.heap.size,1,none⟩=some (.slice Ax P cx)∧w'.cell? ⟨W.heap.size,2,none⟩=some (.slice Ay (min lv0.length 8) cy)∧w'.cell? ⟨W.heap.size,3,none⟩=some (.int .i64 (S:Nat))∧w'.cell? ⟨W.heap.size,4,none⟩=some (.int .i64 (B:Nat))∧w'.cell? ⟨W.heap.size,5,none⟩=some (.int .i64 (n:Nat))∧w'.cell? ⟨W.heap.size,6,none⟩=some (.int .i64 (T:Nat))∧w'.cell? ⟨W.heap.size,7,none⟩=some (.int .i64 (Rg:Nat))∧w'.cell? ⟨W.heap.size,8,none⟩=some (.int .u32 (nm0:Int))∧w'.cell? ⟨W.heap.size,9,none⟩=some (.int .u32 (sh0:Int))):=fun w' hb => ⟨(hb.cell (p:=⟨W.heap.size,0,none⟩) (by show W.heap.size < _; rw [hst.size]; omega)).trans (hst.cells 0 _ rfl),(hb.cell (p:=⟨W.heap.size,1,none⟩) (by show W.heap.size < _; rw [hst.size]; omega)).trans (hst.cells 1 _ rfl),(hb.cell (p:=⟨W.heap.size,2,none⟩) (by show W.heap.size < _; rw [hst.size]; omega)).trans (hst.cells 2 _ rfl),(hb.cell (p:=⟨W.heap.size,3,none⟩) (by show W.heap.size < _; rw [hst.size]; omega)).trans (hst.cells 3 _ rfl),(hb.cell (p:=⟨W.heap.size,4,none⟩) (by show W.heap.size < _; rw [hst.size]; omega)).trans (hst.cells 4 _ rfl),(hb.cell (p:=⟨W.heap.size,5,none⟩) (by show W.heap.size < _; rw [hst.size]; omega)).trans (hst.cells 5 _ rfl),(hb.cell (p:=⟨W.heap.size,6,none⟩) (by show W.heap.size < _; rw [hst.size]; omega)).trans (hst.cells 6 _ rfl),(hb.cell (p:=⟨W.heap.size,7,none⟩) (by show W.heap.size < _; rw [hst.size]; omega)).trans (hst.cells 7 _ rfl),(hb.cell (p:=⟨W.heap.size,8,none⟩) (by show W.heap.size < _; rw [hst.size]; omega)).trans (hst.cells 8 _ rfl),(hb.cell (p:=⟨W.heap.size,9,none⟩) (by show W.heap.size < _; rw [hst.size]; omega)).trans (hst.cells 9 _ rfl)⟩); (have HLZ:Hid (Below W.heap.size W wz):=(((Below.refl _ _).alloc (Nat.le_refl _) _).trans (HBA.out.mono (by simp))).trans (hst.below _ (Nat.le_refl _))); (have HR:=Lib.hid (Sl.of_own (own_stored H1.out hst (fun e => by have:=(H1.out.lt _ e).1; simp at this; omega)))); (have HV:=Lib.hid (Sl.of_own (own_stored H2.out hst (fun e => by have:=(H2.out.lt _ e).1; simp at this; omega)))); clear hst H1 H2 HBA HTH))
  have HFG:=Lib.hid (fix_good lr0 lv0 P0 a0 b0 c0 T0 R0 P S B n T Rg lv0.length HN.out.1 HN.out.2.2.2.2.1 HN.out.2.2.2.2.2 HN.out.2.1 HN.out.2.2.1 HN.out.2.2.2.1)
  have HBD:Hid ((2≤P∧P≤8)∧(1≤S∧S≤8)∧(1≤B∧B≤16)∧(1≤n∧n≤8)∧(1≤Rg∧Rg≤64)):=by
    obtain ⟨e1,e2,e3,e4,e5,e6⟩:=HN.out
    have k1:=fx_lt (k:=7) (by omega) P0
    have k2:=fx_lt (k:=8) (by omega) a0
    have k3:=fx_lt (k:=16) (by omega) b0
    have k4:=fx_lt (k:=8) (by omega) c0
    have k5:=fx_lt (k:=64) (by omega) R0
    exact ⟨by omega,by omega,by omega,by omega,by omega⟩
  have hto:=fun w' (hb:Below wz.heap.size wz w') => law17_To (HR.out.below hb) (HV.out.below hb) hb.size (by omega) (by have:=HBD.out.1.2; omega) (P:Nat) (S:Nat) (B:Nat) (n:Nat) (T:Nat) (Rg:Nat) nm0 sh0
  have hnw:=fun (w':World) (Bo:Nat) (vr vv:Value) (h1:Sl w' Bo 2 vr P (rlc (fixRs lr0 P))) (h2:Sl w' Bo 3 vv (min lv0.length 8) (vlc (fixVs (allN P) lv0 (min lv0.length 8)))) (hB:Bo≤w'.heap.size) => model_New h1 h2 (fixVs_ok _ _ (allN_lt _) _ (by omega)) hB (fixRs_first lr0 P) P S B n Rg T nm0 sh0 (by have:=HBD.out.1; omega) HBD.out.2.1 HBD.out.2.2.1 HBD.out.2.2.2.1 (by omega) HFG.out
  unfold planV at hto hnw
  have HTO:=Lib.hid hto
  have HNW:=Lib.hid hnw
  have HTD:=Lib.hid fun w => law17_told w
  have hq:Below wz.heap.size wz wz:=Below.refl _ _
  obtain ⟨z0,z1,z2,z3,z4,z5,z6,z7,z8,z9⟩:=HBX.out _ hq
  clear hto hnw
  go_upto_region 5 with (first
    | (go_at_call 7; (with_reducible refine Calls.mono (HTO.out _ hq) ?_); rintro e w3 ⟨ur,uw,rfl,h1,h2,hba⟩; (obtain ⟨Az,cz,hx,_,_⟩:=(Sl.of_own h1).form); (obtain ⟨Ay',cy',hy,_,_⟩:=(Sl.of_own h2).form); subst hx; subst hy; (have HT1:=Lib.hid (Sl.of_own h1)); (have HT2:=Lib.hid (Sl.of_own h2)); (have hq:=hq.trans (hba.mono hq.size)); (have HZ3:=Lib.hid hq.size); clear h1 h2 hba)
    | (go_at_call 6; (with_reducible refine Calls.mono (HNW.out _ _ _ _ HT1.out HT2.out (Nat.le_refl _)) ?_); rintro e w4 ⟨A,S1,Q,bp,bq,hN,uv,Rf,G,rfl,hm,hk,o1,o2,o3,o4,o5,hu,hqn,hbn⟩; (have HM4:=Lib.hid (MdAll.of_new (E:=fun _ => False) hm hk o1 o2 o3 o4 o5 hu hqn (fun _ h => h.elim))); (have hq:=hq.trans (hbn.mono hq.size)); clear hm hk o1 o2 o3 o4 o5 hu hqn hbn)
    | (go_at_call 8; (with_reducible refine Calls.mono (HTD.out _) ?_); rintro e w5 ⟨rfl,hbn⟩; (have HM5:=Lib.hid (HM4.out.call hbn)); (have hq:=hq.trans (hbn.mono hq.size)); clear hbn))
  have hrn:=fun w' (hb:Below wz.heap.size wz w') => ref17_New (HR.out.below hb) (HV.out.below hb) hb.size (by omega) P S B n Rg T nm0 sh0 (by have:=HBD.out.1; omega) HBD.out.2.1 HBD.out.2.2.1 HBD.out.2.2.2.1
  unfold planV at hrn
  have HRN:=Lib.hid hrn
  obtain ⟨y0,y1,y2,y3,y4,y5,y6,y7,y8,y9⟩:=HBX.out _ hq
  have HZ5:=Lib.hid hq.size
  clear hrn
  go_wp2_with (first
    | (go_at_call 9; (with_reducible refine Calls.mono (HRN.out _ hq) ?_); rintro e w6 ⟨Aw,Sw,Qw,cQ,X,bpw,bqw,uw,Rw,Gw,rfl,hr6,hb6⟩; (have HBo:=Lib.hid (Both.start (s':=⟨fixVs (allN P) lv0 (min lv0.length 8),fun _ => (0,0),fun _ _ => pl0,fun _ _ => []⟩) HM5.out hb6 hr6)); (have HQ6:=Lib.hid (hq.trans (hb6.mono hq.size))); clear hr6 hb6)
    | fail)
  clear hq y0 y1 y2 y3 y4 y5 y6 y7 y8 y9 z0 z1 z2 z3 z4 z5 z6 z7 z8 z9
  go_loopw [10] (fun iv wr => ∃ (k:Nat) (s:Ms) (Ep E:Nat→Prop) (qvp qv':Nat→Nat→Value),k≤no∧k≤80∧iv=.int .i64 k∧Hid (Both Ep E wr w3.heap.size A S1 Q bp bq uv G Rf qvp w5.heap.size Aw Sw Qw cQ X bpw bqw uw Gw Rw qv' P Rg S B n (min lv0.length 8) s∧s.good∧Below wz.heap.size wz wr∧(∀ i j,i < P→j < P→(s.qs i j).length≤Rg)∧clG s.g)) (fun iv _ => 80 - (intOf iv).toNat)
  case atStart => exact ⟨0,⟨fixVs (allN P) lv0 (min lv0.length 8),fun _ => (0,0),fun _ _ => pl0,fun _ _ => []⟩,_,_,_,_,by omega,by omega,rfl,HBo.out,⟨fun _ _ => by show (0:Nat) < _; omega,fixVs_ok _ _ (allN_lt _) _ (by omega)⟩,HQ6.out,fun _ _ _ _ => Nat.zero_le _,fun _ _ => rfl⟩
  case round =>
    obtain ⟨k,s,Ep,E,qvp,qv',hk1,hk2,rfl,HI⟩:=hrel
    clear HBo HQ6
    by_cases hlt:k < no∧k < 80
    · have d1:decide (k < no)=true:=decide_eq_true hlt.1
      have d2:decide ((k:Int) < 80)=true:=decide_eq_true (by omega)
      have d2':decide (k < 80)=true:=decide_eq_true (by omega)
      obtain ⟨b,off,rfl,hb,hcell⟩:=HOPS.out (by omega)
      obtain ⟨kd,po,tt,vi,sx,kv,km,me,un,nw,li,sh,bu,id,⟨bv,bkm,bme,bun,bnw,bli⟩,e0,e1,e2,e3,e4,e5,e6,e7,e8,e9,e10,e11,e12,e13⟩:=hcell k hlt.1
      have hWz:W.heap.size≤wz.heap.size:=HLZ.out.size
      have HCL:Hid (∀ w',Below wz.heap.size wz w'→w'.cell? ⟨b,off + k * 14,none⟩=some (.int .i64 kd)∧w'.cell? ⟨b,off + k * 14 + 1,none⟩=some (.int .i64 po)∧w'.cell? ⟨b,off + k * 14 + 2,none⟩=some (.int .i64 tt)∧w'.cell? ⟨b,off + k * 14 + 3,none⟩=some (.int .i64 vi)∧w'.cell? ⟨b,off + k * 14 + 4,none⟩=some (.int .i64 sx)∧w'.cell? ⟨b,off + k * 14 + 5,none⟩=some (.int .i64 kv)∧w'.cell? ⟨b,off + k * 14 + 6,none⟩=some (.int .u64 (km:Nat))∧w'.cell? ⟨b,off + k * 14 + 7,none⟩=some (.int .u64 (me:Nat))∧w'.cell? ⟨b,off + k * 14 + 8,none⟩=some (.int .u64 (un:Nat))∧w'.cell? ⟨b,off + k * 14 + 9,none⟩=some (.int .u32 (nw:Nat))∧w'.cell? ⟨b,off + k * 14 + 10,none⟩=some (.int .u32 (li:Nat))∧w'.cell? ⟨b,off + k * 14 + 11,none⟩=some (.int .i64 sh)∧w'.cell? ⟨b,off + k * 14 + 12,none⟩=some (.int .i64 bu)∧w'.cell? ⟨b,off + k * 14 + 13,none⟩=some (.int .i64 id)):=fun w' hb9 => by
        have hbw:=HLZ.out.trans (hb9.mono hWz)
        exact ⟨(hbw.cell (p:=⟨b,off + k * 14 + 0,none⟩) (by show b < _; omega)).trans e0,(hbw.cell (p:=⟨b,off + k * 14 + 1,none⟩) (by show b < _; omega)).trans e1,(hbw.cell (p:=⟨b,off + k * 14 + 2,none⟩) (by show b < _; omega)).trans e2,(hbw.cell (p:=⟨b,off + k * 14 + 3,none⟩) (by show b < _; omega)).trans e3,(hbw.cell (p:=⟨b,off + k * 14 + 4,none⟩) (by show b < _; omega)).trans e4,(hbw.cell (p:=⟨b,off + k * 14 + 5,none⟩) (by show b < _; omega)).trans e5,(hbw.cell (p:=⟨b,off + k * 14 + 6,none⟩) (by show b < _; omega)).trans e6,(hbw.cell (p:=⟨b,off + k * 14 + 7,none⟩) (by show b < _; omega)).trans e7,(hbw.cell (p:=⟨b,off + k * 14 + 8,none⟩) (by show b < _; omega)).trans e8,(hbw.cell (p:=⟨b,off + k * 14 + 9,none⟩) (by show b < _; omega)).trans e9,(hbw.cell (p:=⟨b,off + k * 14 + 10,none⟩) (by show b < _; omega)).trans e10,(hbw.cell (p:=⟨b,off + k * 14 + 11,none⟩) (by show b < _; omega)).trans e11,(hbw.cell (p:=⟨b,off + k * 14 + 12,none⟩) (by show b < _; omega)).trans e12,(hbw.cell (p:=⟨b,off + k * 14 + 13,none⟩) (by show b < _; omega)).trans e13⟩
      have HQ2:=Lib.hid HI.out.2.2.1
      obtain ⟨c0,c1,c2,c3,c4,c5,c6,c7,c8,c9,c10,c11,c12,c13⟩:=HCL.out _ HQ2.out
      have hop:=fun w => law17_Op kd po tt vi sx kv km me un nw li sh bu id w
      have hdo:=fun w' (hb:Below wr.heap.size wr w') => model_DoAll (HI.out.1.md.call hb) (by have:=HBD.out.1; omega) HBD.out.2.2.2.2.2 HBD.out.2.1 HBD.out.2.2.1 HBD.out.2.2.2.1 HI.out.2.1 ⟨kd,po,tt,vi,sx,kv,km,me,un,nw,li,sh,bu,id⟩ ⟨bv,bkm,bme,bun,bnw⟩
      have hdr:=fun E2 w' (h:RfAll E2 w' w5.heap.size Aw Sw Qw cQ X bpw bqw P Rg S B n (min lv0.length 8) uw s.lv s.st s.g Gw Rw qv' s.qs) => ref17_DoAll h HBD.out.2.2.2.2.2 HBD.out.2.1 HBD.out.2.2.1 HBD.out.2.2.2.1 HI.out.2.1 (fun i j hi hj => Nat.le_trans (HI.out.2.2.2.1 i j hi hj) (by have:=HBD.out.2.2.2.2; omega)) ⟨kd,po,tt,vi,sx,kv,km,me,un,nw,li,sh,bu,id⟩ ⟨bv,bkm,bme,bun,bnw⟩
      have hln:∀ i j,i < P→j < P→((doS P Rg S B n (min lv0.length 8) s ⟨kd,po,tt,vi,sx,kv,km,me,un,nw,li,sh,bu,id⟩).qs i j).length≤Rg:=doS_len HI.out.2.2.2.1
      have hcl:clG (doS P Rg S B n (min lv0.length 8) s ⟨kd,po,tt,vi,sx,kv,km,me,un,nw,li,sh,bu,id⟩).g:=doS_cl HI.out.2.2.2.2
      obtain ⟨s2,hs2⟩:∃ x,x=doS P Rg S B n (min lv0.length 8) s ⟨kd,po,tt,vi,sx,kv,km,me,un,nw,li,sh,bu,id⟩:=⟨_,rfl⟩
      obtain ⟨av,hav⟩:∃ x,x=doA P Rg S B n (min lv0.length 8) s ⟨kd,po,tt,vi,sx,kv,km,me,un,nw,li,sh,bu,id⟩:=⟨_,rfl⟩
      rw [← hs2] at hdo hdr hln hcl
      rw [← hav] at hdo hdr
      unfold Od.val at hdo hdr
      simp only [] at hdo hdr
      unfold opV at hop hdo hdr
      have HOP:=Lib.hid hop
      have HDO:=Lib.hid hdo
      have HDR:=Lib.hid hdr
      have HLN:=Lib.hid hln
      have HCLN:=Lib.hid hcl
      clear hop hdo hdr hln hcl hcell bv bkm bme bun bnw bli e0 e1 e2 e3 e4 e5 e6 e7 e8 e9 e10 e11 e12 e13 hs2 hav
      go_wp2_with (first
        | (go_at_call 11; (with_reducible refine Calls.mono (HOP.out _) ?_); rintro e wo ⟨rfl,hbo⟩; (have HBO:=Lib.hid hbo); clear hbo)
        | (go_at_call 10; (with_reducible refine Calls.mono (HDO.out _ HBO.out) ?_); rintro e wd ⟨qv2,rfl,hm2,hg2,hf2⟩; (have HPR:=Lib.hid ((HI.out.1.call HBO.out).prog hm2 hf2)); (have HG2:=Lib.hid hg2); (have hq3:=(HQ2.out.trans (HBO.out.mono HQ2.out.size)).trans (hf2.low.mono HZ3.out)); (obtain ⟨k0,k1',k2',k3,k4,k5,k6,k7,k8,k9,k10,k11,k12,k13⟩:=HCL.out _ hq3); (have HQ3:=Lib.hid hq3); clear hm2 hg2 hf2 hq3)
        | (go_at_call 12; (with_reducible refine Calls.mono (HDR.out _ _ HPR.out.2.1) ?_); rintro e we ⟨qv3,rfl,hm3,hg3,hf3⟩; (have HBB:=Lib.hid (Both.doc HPR.out.1 HPR.out.2.2 hm3 hf3)); (have HQ4:=Lib.hid (HQ3.out.trans (hf3.low.mono HZ5.out))); clear hm3 hg3 hf3)
        | fail)
      go_roundw
      case rel => exact ⟨k + 1,s2,_,_,_,_,by omega,by omega,by go_num,Lib.hid ⟨HBB.out,HG2.out,HQ4.out,HLN.out,HCLN.out⟩⟩
      case measure => simp [intOf]; omega
    · by_cases hkn:k < no
      · have d1:decide (k < no)=true:=decide_eq_true hkn
        have d2:decide ((k:Int) < 80)=false:=decide_eq_false (by omega)
        have d2':¬ (k:Int) < 80:=by omega
        have hq9:=HI.out.2.2.1
        have HZR:Hid (wz.heap.size≤wr.heap.size):=Lib.hid hq9.size
        have hcm:=model_Copy HI.out.1.md (by have:=HBD.out.1; omega) (by omega) HBD.out.2.1 HBD.out.2.2.1 HBD.out.2.2.2.1 (fun i j hi hj => Nat.le_trans (HI.out.2.2.2.1 i j hi hj) (by have:=HBD.out.2.2.2.2; omega))
        have hcr:=fun w' (hb:Below wr.heap.size wr w') => ref17_Copy (HI.out.1.call hb).rf HI.out.2.2.2.2 (by have:=HBD.out.1; omega) (by omega) HBD.out.2.1 HBD.out.2.2.1 HBD.out.2.2.2.1 (fun i j hi hj => Nat.le_trans (HI.out.2.2.2.1 i j hi hj) (by have:=HBD.out.2.2.2.2; omega))
        have HCM:=Lib.hid hcm
        have HCR:=Lib.hid hcr
        have HG0:=Lib.hid (And.intro HI.out.2.1 HI.out.2.2.2)
        clear hcm hcr hq9
        go_wp2_with (first
          | (go_at_call 16; (with_reducible refine Calls.mono HCM.out ?_); rintro e w7 ⟨Ax9,Sx9,Qx9,bpx,bqx,ux,Gx,Rx,qx,rfl,hm7,hb7⟩; (have HM7:=Lib.hid hm7); (have HB7:=Lib.hid hb7); (have HZ7:Hid (wr.heap.size≤w7.heap.size):=Lib.hid hb7.size); clear hm7 hb7 HCM)
          | (go_at_call 17; (with_reducible refine Calls.mono (HCR.out _ HB7.out) ?_); rintro e w8 ⟨Ay,Sy,Qy,cy,Xy,bpy,bqy,uy,Gy,Ry,qy,rfl,hr8,hb8⟩; (have HBo2:=Lib.hid (Both.start (s':=s) HM7.out hb8 hr8)); (have HB8:Hid (Below wr.heap.size wr w8):=HB7.out.trans (hb8.mono HB7.out.size)); clear hr8 hb8 HCR)
          | fail)
        have HS0:Hid (∃ x,x=s):=Lib.hid ⟨s,rfl⟩
        go_loopw [13] (fun iv wt => ∃ (k:Nat) (s:Ms) (Ep E:Nat→Prop) (qvp qv':Nat→Nat→Value) (wx:World),wx=wt∧k≤nm∧k≤80∧iv=.int .i64 k∧Hid (Both Ep E wt wr.heap.size Ax9 Sx9 Qx9 bpx bqx ux Gx Rx qvp w7.heap.size Ay Sy Qy cy Xy bpy bqy uy Gy Ry qv' P Rg S B n (min lv0.length 8) s∧s.good∧Below wr.heap.size wr wt∧(∀ i j,i < P→j < P→(s.qs i j).length≤Rg)∧clG s.g)) (fun iv _ => 80 - (intOf iv).toNat)
        case atStart => exact ⟨0,s,_,_,_,_,_,rfl,by omega,by omega,rfl,HBo2.out,HG0.out.1,HB8.out,HG0.out.2.1,HG0.out.2.2⟩
        case round =>
          clear HBo2
          obtain ⟨k,s,Ep,E,qvp,qv',wt,rfl,hk1,hk2,rfl,HT⟩:=hrel
          by_cases hlt:k < nm∧k < 80
          · have d1:decide (k < nm)=true:=decide_eq_true hlt.1
            have d2:decide ((k:Int) < 80)=true:=decide_eq_true (by omega)
            have d2':decide (k < 80)=true:=decide_eq_true (by omega)
            obtain ⟨b,off,rfl,hb,hcell⟩:=HMORE.out (by omega)
            obtain ⟨kd,po,tt,vi,sx,kv,km,me,un,nw,li,sh,bu,id,⟨bv,bkm,bme,bun,bnw,bli⟩,e0,e1,e2,e3,e4,e5,e6,e7,e8,e9,e10,e11,e12,e13⟩:=hcell k hlt.1
            have hWz:W.heap.size≤wz.heap.size:=HLZ.out.size
            have HCL:Hid (∀ w',Below wz.heap.size wz w'→w'.cell? ⟨b,off + k * 14,none⟩=some (.int .i64 kd)∧w'.cell? ⟨b,off + k * 14 + 1,none⟩=some (.int .i64 po)∧w'.cell? ⟨b,off + k * 14 + 2,none⟩=some (.int .i64 tt)∧w'.cell? ⟨b,off + k * 14 + 3,none⟩=some (.int .i64 vi)∧w'.cell? ⟨b,off + k * 14 + 4,none⟩=some (.int .i64 sx)∧w'.cell? ⟨b,off + k * 14 + 5,none⟩=some (.int .i64 kv)∧w'.cell? ⟨b,off + k * 14 + 6,none⟩=some (.int .u64 (km:Nat))∧w'.cell? ⟨b,off + k * 14 + 7,none⟩=some (.int .u64 (me:Nat))∧w'.cell? ⟨b,off + k * 14 + 8,none⟩=some (.int .u64 (un:Nat))∧w'.cell? ⟨b,off + k * 14 + 9,none⟩=some (.int .u32 (nw:Nat))∧w'.cell? ⟨b,off + k * 14 + 10,none⟩=some (.int .u32 (li:Nat))∧w'.cell? ⟨b,off + k * 14 + 11,none⟩=some (.int .i64 sh)∧w'.cell? ⟨b,off + k * 14 + 12,none⟩=some (.int .i64 bu)∧w'.cell? ⟨b,off + k * 14 + 13,none⟩=some (.int .i64 id)):=fun w' hb9 => by
              have hbw:=HLZ.out.trans (hb9.mono hWz)
              exact ⟨(hbw.cell (p:=⟨b,off + k * 14 + 0,none⟩) (by show b < _; omega)).trans e0,(hbw.cell (p:=⟨b,off + k * 14 + 1,none⟩) (by show b < _; omega)).trans e1,(hbw.cell (p:=⟨b,off + k * 14 + 2,none⟩) (by show b < _; omega)).trans e2,(hbw.cell (p:=⟨b,off + k * 14 + 3,none⟩) (by show b < _; omega)).trans e3,(hbw.cell (p:=⟨b,off + k * 14 + 4,none⟩) (by show b < _; omega)).trans e4,(hbw.cell (p:=⟨b,off + k * 14 + 5,none⟩) (by show b < _; omega)).trans e5,(hbw.cell (p:=⟨b,off + k * 14 + 6,none⟩) (by show b < _; omega)).trans e6,(hbw.cell (p:=⟨b,off + k * 14 + 7,none⟩) (by show b < _; omega)).trans e7,(hbw.cell (p:=⟨b,off + k * 14 + 8,none⟩) (by show b < _; omega)).trans e8,(hbw.cell (p:=⟨b,off + k * 14 + 9,none⟩) (by show b < _; omega)).trans e9,(hbw.cell (p:=⟨b,off + k * 14 + 10,none⟩) (by show b < _; omega)).trans e10,(hbw.cell (p:=⟨b,off + k * 14 + 11,none⟩) (by show b < _; omega)).trans e11,(hbw.cell (p:=⟨b,off + k * 14 + 12,none⟩) (by show b < _; omega)).trans e12,(hbw.cell (p:=⟨b,off + k * 14 + 13,none⟩) (by show b < _; omega)).trans e13⟩
            have HQ2:Hid (Below wz.heap.size wz wt):=HI.out.2.2.1.trans (HT.out.2.2.1.mono HI.out.2.2.1.size)
            obtain ⟨c0,c1,c2,c3,c4,c5,c6,c7,c8,c9,c10,c11,c12,c13⟩:=HCL.out _ HQ2.out
            have hop:=fun w => law17_Op kd po tt vi sx kv km me un nw li sh bu id w
            have hdo:=fun w' (hb:Below wt.heap.size wt w') => model_DoAll (HT.out.1.md.call hb) (by have:=HBD.out.1; omega) HBD.out.2.2.2.2.2 HBD.out.2.1 HBD.out.2.2.1 HBD.out.2.2.2.1 HT.out.2.1 ⟨kd,po,tt,vi,sx,kv,km,me,un,nw,li,sh,bu,id⟩ ⟨bv,bkm,bme,bun,bnw⟩
            have hdr:=fun E2 w' (h:RfAll E2 w' w7.heap.size Ay Sy Qy cy Xy bpy bqy P Rg S B n (min lv0.length 8) uy s.lv s.st s.g Gy Ry qv' s.qs) => ref17_DoAll h HBD.out.2.2.2.2.2 HBD.out.2.1 HBD.out.2.2.1 HBD.out.2.2.2.1 HT.out.2.1 (fun i j hi hj => Nat.le_trans (HT.out.2.2.2.1 i j hi hj) (by have:=HBD.out.2.2.2.2; omega)) ⟨kd,po,tt,vi,sx,kv,km,me,un,nw,li,sh,bu,id⟩ ⟨bv,bkm,bme,bun,bnw⟩
            have hln:∀ i j,i < P→j < P→((doS P Rg S B n (min lv0.length 8) s ⟨kd,po,tt,vi,sx,kv,km,me,un,nw,li,sh,bu,id⟩).qs i j).length≤Rg:=doS_len HT.out.2.2.2.1
            have hcl:clG (doS P Rg S B n (min lv0.length 8) s ⟨kd,po,tt,vi,sx,kv,km,me,un,nw,li,sh,bu,id⟩).g:=doS_cl HT.out.2.2.2.2
            obtain ⟨s2,hs2⟩:∃ x,x=doS P Rg S B n (min lv0.length 8) s ⟨kd,po,tt,vi,sx,kv,km,me,un,nw,li,sh,bu,id⟩:=⟨_,rfl⟩
            obtain ⟨av,hav⟩:∃ x,x=doA P Rg S B n (min lv0.length 8) s ⟨kd,po,tt,vi,sx,kv,km,me,un,nw,li,sh,bu,id⟩:=⟨_,rfl⟩
            rw [← hs2] at hdo hdr hln hcl
            rw [← hav] at hdo hdr
            unfold Od.val at hdo hdr
            simp only [] at hdo hdr
            unfold opV at hop hdo hdr
            have HOP:=Lib.hid hop
            have HDO:=Lib.hid hdo
            have HDR:=Lib.hid hdr
            have HLN:=Lib.hid hln
            have HCLN:=Lib.hid hcl
            clear hop hdo hdr hln hcl hcell bv bkm bme bun bnw bli e0 e1 e2 e3 e4 e5 e6 e7 e8 e9 e10 e11 e12 e13 hs2 hav
            go_wp2_with fail
            refine wp_region_held_drew (S:=fun w' => w'.cell? ⟨b,off + k * 14,none⟩=some (.int .i64 kd)∧w'.cell? ⟨b,off + k * 14 + 1,none⟩=some (.int .i64 po)∧w'.cell? ⟨b,off + k * 14 + 2,none⟩=some (.int .i64 tt)∧w'.cell? ⟨b,off + k * 14 + 3,none⟩=some (.int .i64 vi)∧w'.cell? ⟨b,off + k * 14 + 4,none⟩=some (.int .i64 sx)∧w'.cell? ⟨b,off + k * 14 + 5,none⟩=some (.int .i64 kv)∧w'.cell? ⟨b,off + k * 14 + 6,none⟩=some (.int .u64 (km:Nat))∧w'.cell? ⟨b,off + k * 14 + 7,none⟩=some (.int .u64 (me:Nat))∧w'.cell? ⟨b,off + k * 14 + 8,none⟩=some (.int .u64 (un:Nat))∧w'.cell? ⟨b,off + k * 14 + 9,none⟩=some (.int .u32 (nw:Nat))∧w'.cell? ⟨b,off + k * 14 + 10,none⟩=some (.int .u32 (li:Nat))∧w'.cell? ⟨b,off + k * 14 + 11,none⟩=some (.int .i64 sh)∧w'.cell? ⟨b,off + k * 14 + 12,none⟩=some (.int .i64 bu)∧w'.cell? ⟨b,off + k * 14 + 13,none⟩=some (.int .i64 id)) (by kernel_rfl) ?_ (fun hHeld => ?_)
            · exact HCL.out _ HQ2.out.drew
            obtain ⟨v0,hv0⟩:∃ w',w'=wt.drew:=⟨_,rfl⟩
            have hvb:Below wt.heap.size wt v0:=by rw [hv0]; exact (Below.refl _ _).drew
            rw [← hv0] at hHeld ⊢
            clear hv0
            refine tkR 0 rfl ?_
            refine tkR 1 rfl ?_
            refine tkR 2 rfl ?_
            refine tkR 3 rfl ?_
            refine tkR 4 rfl ?_
            refine tkR 7 rfl ?_
            refine tkR 8 rfl ?_
            refine tkR 9 rfl ?_
            refine tkR 10 rfl ?_
            refine tkR 11 rfl ?_
            refine clR 5 rfl fun K hK => ?_
            go_simp
            refine Calls.mono (HOP.out _) ?_
            rintro e wo ⟨rfl,hbo⟩
            have HBO:Hid (Below wt.heap.size wt wo):=Lib.hid (hvb.trans (hbo.mono hvb.size))
            clear hbo
            refine hK.out _ _ ?_ (fun hHeld => ?_)
            · (try dsimp only)
              exact HCL.out _ (HQ2.out.trans (HBO.out.mono HQ2.out.size))
            clear hK K
            (try simp only [Act.put,sqA,sqB,sqC])
            refine clR 6 rfl fun K hK => ?_
            go_simp
            refine Calls.mono (HDO.out _ HBO.out) ?_
            rintro e wd ⟨qv2,rfl,hm2,hg2,hf2⟩
            have HPR:=Lib.hid ((HT.out.1.call HBO.out).prog hm2 hf2)
            have HG2:=Lib.hid hg2
            have HQ3:=Lib.hid ((HQ2.out.trans (HBO.out.mono HQ2.out.size)).trans (hf2.low.mono HZR.out))
            have HR3:Hid (Below wr.heap.size wr wd):=Lib.hid ((HT.out.2.2.1.trans (HBO.out.mono HT.out.2.2.1.size)).trans hf2.low)
            clear hm2 hg2 hf2
            refine hK.out _ _ ?_ (fun hHeld => ?_)
            · (try dsimp only)
              exact HCL.out _ HQ3.out
            clear hK K
            (try simp only [Act.put,sqA,sqB,sqC])
            refine clR 12 rfl fun K hK => ?_
            go_simp
            refine Calls.mono (HDR.out _ _ HPR.out.2.1) ?_
            rintro e we ⟨qv3,rfl,hm3,hg3,hf3⟩
            have HBB:=Lib.hid (Both.doc HPR.out.1 HPR.out.2.2 hm3 hf3)
            have HQ4:=Lib.hid (HQ3.out.trans (hf3.low.mono (Nat.le_trans HZR.out HZ7.out)))
            have HR4:=Lib.hid (HR3.out.trans (hf3.low.mono HZ7.out))
            clear hm3 hg3 hf3
            refine hK.out _ _ ?_ (fun hHeld => ?_)
            · (try dsimp only)
              exact HCL.out _ HQ4.out
            clear hK K
            (try simp only [Act.put,sqA,sqB,sqC])
            refine tkR 13 rfl ?_
            refine wpAnyH_done (by kernel_rfl) ?_ _
            go_wp2
            go_roundw
            case rel => exact ⟨k + 1,s2,_,_,_,_,_,rfl,by omega,by omega,by go_num,Lib.hid ⟨HBB.out,HG2.out,HR4.out,HLN.out,HCLN.out⟩⟩
            case measure => simp [intOf]; omega
          · by_cases hkn:k < nm
            · have d1:decide (k < nm)=true:=decide_eq_true hkn
              have d2:decide ((k:Int) < 80)=false:=decide_eq_false (by omega)
              have d2':¬ (k:Int) < 80:=by omega
              have hsm1:=law17_Same (HI.out.1.md.call HT.out.2.2.1) (HI.out.1.rf.call HT.out.2.2.1) (by have:=HBD.out.1; omega) (by omega) HBD.out.2.1 HBD.out.2.2.1 HBD.out.2.2.2.1 (fun i j hi hj => Nat.le_trans (HI.out.2.2.2.1 i j hi hj) (by have:=HBD.out.2.2.2.2; omega))
              have hsm2:=fun w' (hb:Below wt.heap.size wt w') => law17_Same (HT.out.1.md.call hb) (HT.out.1.rf.call hb) (by have:=HBD.out.1; omega) (by omega) HBD.out.2.1 HBD.out.2.2.1 HBD.out.2.2.2.1 (fun i j hi hj => Nat.le_trans (HT.out.2.2.2.1 i j hi hj) (by have:=HBD.out.2.2.2.2; omega))
              have HSM1:=Lib.hid hsm1
              have HSM2:=Lib.hid hsm2
              have HQ9:Hid (Below wz.heap.size wz wt):=HI.out.2.2.1.trans (HT.out.2.2.1.mono HI.out.2.2.1.size)
              clear hsm1 hsm2
              go_wp2_with (first
                | (go_at_call 13; (with_reducible refine Calls.mono HSM1.out ?_); rintro e w9 ⟨rfl,hb9⟩; (have HB9:=Lib.hid hb9); clear hb9 HSM1)
                | (go_at_call 13; (with_reducible refine Calls.mono (HSM2.out _ HB9.out) ?_); rintro e w10 ⟨rfl,hb10⟩; (have HB10:Hid (Below wt.heap.size wt w10):=HB9.out.trans (hb10.mono HB9.out.size)); clear hb10)
                | fail)
              go_ret
              exact ⟨by first | rfl | (simp; done),HLZ.out.trans ((HQ9.out.trans (HB10.out.mono HQ9.out.size)).mono HLZ.out.size)⟩
            · have d1:decide (k < nm)=false:=decide_eq_false hkn
              have hsm1:=law17_Same (HI.out.1.md.call HT.out.2.2.1) (HI.out.1.rf.call HT.out.2.2.1) (by have:=HBD.out.1; omega) (by omega) HBD.out.2.1 HBD.out.2.2.1 HBD.out.2.2.2.1 (fun i j hi hj => Nat.le_trans (HI.out.2.2.2.1 i j hi hj) (by have:=HBD.out.2.2.2.2; omega))
              have hsm2:=fun w' (hb:Below wt.heap.size wt w') => law17_Same (HT.out.1.md.call hb) (HT.out.1.rf.call hb) (by have:=HBD.out.1; omega) (by omega) HBD.out.2.1 HBD.out.2.2.1 HBD.out.2.2.2.1 (fun i j hi hj => Nat.le_trans (HT.out.2.2.2.1 i j hi hj) (by have:=HBD.out.2.2.2.2; omega))
              have HSM1:=Lib.hid hsm1
              have HSM2:=Lib.hid hsm2
              have HQ9:Hid (Below wz.heap.size wz wt):=HI.out.2.2.1.trans (HT.out.2.2.1.mono HI.out.2.2.1.size)
              clear hsm1 hsm2
              go_wp2_with (first
                | (go_at_call 13; (with_reducible refine Calls.mono HSM1.out ?_); rintro e w9 ⟨rfl,hb9⟩; (have HB9:=Lib.hid hb9); clear hb9 HSM1)
                | (go_at_call 13; (with_reducible refine Calls.mono (HSM2.out _ HB9.out) ?_); rintro e w10 ⟨rfl,hb10⟩; (have HB10:Hid (Below wt.heap.size wt w10):=HB9.out.trans (hb10.mono HB9.out.size)); clear hb10)
                | fail)
              go_ret
              exact ⟨by first | rfl | (simp; done),HLZ.out.trans ((HQ9.out.trans (HB10.out.mono HQ9.out.size)).mono HLZ.out.size)⟩
      · have d1:decide (k < no)=false:=decide_eq_false hkn
        have hq9:=HI.out.2.2.1
        have HZR:Hid (wz.heap.size≤wr.heap.size):=Lib.hid hq9.size
        have hcm:=model_Copy HI.out.1.md (by have:=HBD.out.1; omega) (by omega) HBD.out.2.1 HBD.out.2.2.1 HBD.out.2.2.2.1 (fun i j hi hj => Nat.le_trans (HI.out.2.2.2.1 i j hi hj) (by have:=HBD.out.2.2.2.2; omega))
        have hcr:=fun w' (hb:Below wr.heap.size wr w') => ref17_Copy (HI.out.1.call hb).rf HI.out.2.2.2.2 (by have:=HBD.out.1; omega) (by omega) HBD.out.2.1 HBD.out.2.2.1 HBD.out.2.2.2.1 (fun i j hi hj => Nat.le_trans (HI.out.2.2.2.1 i j hi hj) (by have:=HBD.out.2.2.2.2; omega))
        have HCM:=Lib.hid hcm
        have HCR:=Lib.hid hcr
        have HG0:=Lib.hid (And.intro HI.out.2.1 HI.out.2.2.2)
        clear hcm hcr hq9
        go_wp2_with (first
          | (go_at_call 16; (with_reducible refine Calls.mono HCM.out ?_); rintro e w7 ⟨Ax9,Sx9,Qx9,bpx,bqx,ux,Gx,Rx,qx,rfl,hm7,hb7⟩; (have HM7:=Lib.hid hm7); (have HB7:=Lib.hid hb7); (have HZ7:Hid (wr.heap.size≤w7.heap.size):=Lib.hid hb7.size); clear hm7 hb7 HCM)
          | (go_at_call 17; (with_reducible refine Calls.mono (HCR.out _ HB7.out) ?_); rintro e w8 ⟨Ay,Sy,Qy,cy,Xy,bpy,bqy,uy,Gy,Ry,qy,rfl,hr8,hb8⟩; (have HBo2:=Lib.hid (Both.start (s':=s) HM7.out hb8 hr8)); (have HB8:Hid (Below wr.heap.size wr w8):=HB7.out.trans (hb8.mono HB7.out.size)); clear hr8 hb8 HCR)
          | fail)
        have HS0:Hid (∃ x,x=s):=Lib.hid ⟨s,rfl⟩
        go_loopw [13] (fun iv wt => ∃ (k:Nat) (s:Ms) (Ep E:Nat→Prop) (qvp qv':Nat→Nat→Value) (wx:World),wx=wt∧k≤nm∧k≤80∧iv=.int .i64 k∧Hid (Both Ep E wt wr.heap.size Ax9 Sx9 Qx9 bpx bqx ux Gx Rx qvp w7.heap.size Ay Sy Qy cy Xy bpy bqy uy Gy Ry qv' P Rg S B n (min lv0.length 8) s∧s.good∧Below wr.heap.size wr wt∧(∀ i j,i < P→j < P→(s.qs i j).length≤Rg)∧clG s.g)) (fun iv _ => 80 - (intOf iv).toNat)
        case atStart => exact ⟨0,s,_,_,_,_,_,rfl,by omega,by omega,rfl,HBo2.out,HG0.out.1,HB8.out,HG0.out.2.1,HG0.out.2.2⟩
        case round =>
          clear HBo2
          obtain ⟨k,s,Ep,E,qvp,qv',wt,rfl,hk1,hk2,rfl,HT⟩:=hrel
          by_cases hlt:k < nm∧k < 80
          · have d1:decide (k < nm)=true:=decide_eq_true hlt.1
            have d2:decide ((k:Int) < 80)=true:=decide_eq_true (by omega)
            have d2':decide (k < 80)=true:=decide_eq_true (by omega)
            obtain ⟨b,off,rfl,hb,hcell⟩:=HMORE.out (by omega)
            obtain ⟨kd,po,tt,vi,sx,kv,km,me,un,nw,li,sh,bu,id,⟨bv,bkm,bme,bun,bnw,bli⟩,e0,e1,e2,e3,e4,e5,e6,e7,e8,e9,e10,e11,e12,e13⟩:=hcell k hlt.1
            have hWz:W.heap.size≤wz.heap.size:=HLZ.out.size
            have HCL:Hid (∀ w',Below wz.heap.size wz w'→w'.cell? ⟨b,off + k * 14,none⟩=some (.int .i64 kd)∧w'.cell? ⟨b,off + k * 14 + 1,none⟩=some (.int .i64 po)∧w'.cell? ⟨b,off + k * 14 + 2,none⟩=some (.int .i64 tt)∧w'.cell? ⟨b,off + k * 14 + 3,none⟩=some (.int .i64 vi)∧w'.cell? ⟨b,off + k * 14 + 4,none⟩=some (.int .i64 sx)∧w'.cell? ⟨b,off + k * 14 + 5,none⟩=some (.int .i64 kv)∧w'.cell? ⟨b,off + k * 14 + 6,none⟩=some (.int .u64 (km:Nat))∧w'.cell? ⟨b,off + k * 14 + 7,none⟩=some (.int .u64 (me:Nat))∧w'.cell? ⟨b,off + k * 14 + 8,none⟩=some (.int .u64 (un:Nat))∧w'.cell? ⟨b,off + k * 14 + 9,none⟩=some (.int .u32 (nw:Nat))∧w'.cell? ⟨b,off + k * 14 + 10,none⟩=some (.int .u32 (li:Nat))∧w'.cell? ⟨b,off + k * 14 + 11,none⟩=some (.int .i64 sh)∧w'.cell? ⟨b,off + k * 14 + 12,none⟩=some (.int .i64 bu)∧w'.cell? ⟨b,off + k * 14 + 13,none⟩=some (.int .i64 id)):=fun w' hb9 => by
              have hbw:=HLZ.out.trans (hb9.mono hWz)
              exact ⟨(hbw.cell (p:=⟨b,off + k * 14 + 0,none⟩) (by show b < _; omega)).trans e0,(hbw.cell (p:=⟨b,off + k * 14 + 1,none⟩) (by show b < _; omega)).trans e1,(hbw.cell (p:=⟨b,off + k * 14 + 2,none⟩) (by show b < _; omega)).trans e2,(hbw.cell (p:=⟨b,off + k * 14 + 3,none⟩) (by show b < _; omega)).trans e3,(hbw.cell (p:=⟨b,off + k * 14 + 4,none⟩) (by show b < _; omega)).trans e4,(hbw.cell (p:=⟨b,off + k * 14 + 5,none⟩) (by show b < _; omega)).trans e5,(hbw.cell (p:=⟨b,off + k * 14 + 6,none⟩) (by show b < _; omega)).trans e6,(hbw.cell (p:=⟨b,off + k * 14 + 7,none⟩) (by show b < _; omega)).trans e7,(hbw.cell (p:=⟨b,off + k * 14 + 8,none⟩) (by show b < _; omega)).trans e8,(hbw.cell (p:=⟨b,off + k * 14 + 9,none⟩) (by show b < _; omega)).trans e9,(hbw.cell (p:=⟨b,off + k * 14 + 10,none⟩) (by show b < _; omega)).trans e10,(hbw.cell (p:=⟨b,off + k * 14 + 11,none⟩) (by show b < _; omega)).trans e11,(hbw.cell (p:=⟨b,off + k * 14 + 12,none⟩) (by show b < _; omega)).trans e12,(hbw.cell (p:=⟨b,off + k * 14 + 13,none⟩) (by show b < _; omega)).trans e13⟩
            have HQ2:Hid (Below wz.heap.size wz wt):=HI.out.2.2.1.trans (HT.out.2.2.1.mono HI.out.2.2.1.size)
            obtain ⟨c0,c1,c2,c3,c4,c5,c6,c7,c8,c9,c10,c11,c12,c13⟩:=HCL.out _ HQ2.out
            have hop:=fun w => law17_Op kd po tt vi sx kv km me un nw li sh bu id w
            have hdo:=fun w' (hb:Below wt.heap.size wt w') => model_DoAll (HT.out.1.md.call hb) (by have:=HBD.out.1; omega) HBD.out.2.2.2.2.2 HBD.out.2.1 HBD.out.2.2.1 HBD.out.2.2.2.1 HT.out.2.1 ⟨kd,po,tt,vi,sx,kv,km,me,un,nw,li,sh,bu,id⟩ ⟨bv,bkm,bme,bun,bnw⟩
            have hdr:=fun E2 w' (h:RfAll E2 w' w7.heap.size Ay Sy Qy cy Xy bpy bqy P Rg S B n (min lv0.length 8) uy s.lv s.st s.g Gy Ry qv' s.qs) => ref17_DoAll h HBD.out.2.2.2.2.2 HBD.out.2.1 HBD.out.2.2.1 HBD.out.2.2.2.1 HT.out.2.1 (fun i j hi hj => Nat.le_trans (HT.out.2.2.2.1 i j hi hj) (by have:=HBD.out.2.2.2.2; omega)) ⟨kd,po,tt,vi,sx,kv,km,me,un,nw,li,sh,bu,id⟩ ⟨bv,bkm,bme,bun,bnw⟩
            have hln:∀ i j,i < P→j < P→((doS P Rg S B n (min lv0.length 8) s ⟨kd,po,tt,vi,sx,kv,km,me,un,nw,li,sh,bu,id⟩).qs i j).length≤Rg:=doS_len HT.out.2.2.2.1
            have hcl:clG (doS P Rg S B n (min lv0.length 8) s ⟨kd,po,tt,vi,sx,kv,km,me,un,nw,li,sh,bu,id⟩).g:=doS_cl HT.out.2.2.2.2
            obtain ⟨s2,hs2⟩:∃ x,x=doS P Rg S B n (min lv0.length 8) s ⟨kd,po,tt,vi,sx,kv,km,me,un,nw,li,sh,bu,id⟩:=⟨_,rfl⟩
            obtain ⟨av,hav⟩:∃ x,x=doA P Rg S B n (min lv0.length 8) s ⟨kd,po,tt,vi,sx,kv,km,me,un,nw,li,sh,bu,id⟩:=⟨_,rfl⟩
            rw [← hs2] at hdo hdr hln hcl
            rw [← hav] at hdo hdr
            unfold Od.val at hdo hdr
            simp only [] at hdo hdr
            unfold opV at hop hdo hdr
            have HOP:=Lib.hid hop
            have HDO:=Lib.hid hdo
            have HDR:=Lib.hid hdr
            have HLN:=Lib.hid hln
            have HCLN:=Lib.hid hcl
            clear hop hdo hdr hln hcl hcell bv bkm bme bun bnw bli e0 e1 e2 e3 e4 e5 e6 e7 e8 e9 e10 e11 e12 e13 hs2 hav
            go_wp2_with fail
            refine wp_region_held_drew (S:=fun w' => w'.cell? ⟨b,off + k * 14,none⟩=some (.int .i64 kd)∧w'.cell? ⟨b,off + k * 14 + 1,none⟩=some (.int .i64 po)∧w'.cell? ⟨b,off + k * 14 + 2,none⟩=some (.int .i64 tt)∧w'.cell? ⟨b,off + k * 14 + 3,none⟩=some (.int .i64 vi)∧w'.cell? ⟨b,off + k * 14 + 4,none⟩=some (.int .i64 sx)∧w'.cell? ⟨b,off + k * 14 + 5,none⟩=some (.int .i64 kv)∧w'.cell? ⟨b,off + k * 14 + 6,none⟩=some (.int .u64 (km:Nat))∧w'.cell? ⟨b,off + k * 14 + 7,none⟩=some (.int .u64 (me:Nat))∧w'.cell? ⟨b,off + k * 14 + 8,none⟩=some (.int .u64 (un:Nat))∧w'.cell? ⟨b,off + k * 14 + 9,none⟩=some (.int .u32 (nw:Nat))∧w'.cell? ⟨b,off + k * 14 + 10,none⟩=some (.int .u32 (li:Nat))∧w'.cell? ⟨b,off + k * 14 + 11,none⟩=some (.int .i64 sh)∧w'.cell? ⟨b,off + k * 14 + 12,none⟩=some (.int .i64 bu)∧w'.cell? ⟨b,off + k * 14 + 13,none⟩=some (.int .i64 id)) (by kernel_rfl) ?_ (fun hHeld => ?_)
            · exact HCL.out _ HQ2.out.drew
            obtain ⟨v0,hv0⟩:∃ w',w'=wt.drew:=⟨_,rfl⟩
            have hvb:Below wt.heap.size wt v0:=by rw [hv0]; exact (Below.refl _ _).drew
            rw [← hv0] at hHeld ⊢
            clear hv0
            refine tkR 0 rfl ?_
            refine tkR 1 rfl ?_
            refine tkR 2 rfl ?_
            refine tkR 3 rfl ?_
            refine tkR 4 rfl ?_
            refine tkR 7 rfl ?_
            refine tkR 8 rfl ?_
            refine tkR 9 rfl ?_
            refine tkR 10 rfl ?_
            refine tkR 11 rfl ?_
            refine clR 5 rfl fun K hK => ?_
            go_simp
            refine Calls.mono (HOP.out _) ?_
            rintro e wo ⟨rfl,hbo⟩
            have HBO:Hid (Below wt.heap.size wt wo):=Lib.hid (hvb.trans (hbo.mono hvb.size))
            clear hbo
            refine hK.out _ _ ?_ (fun hHeld => ?_)
            · (try dsimp only)
              exact HCL.out _ (HQ2.out.trans (HBO.out.mono HQ2.out.size))
            clear hK K
            (try simp only [Act.put,sqA,sqB,sqC])
            refine clR 6 rfl fun K hK => ?_
            go_simp
            refine Calls.mono (HDO.out _ HBO.out) ?_
            rintro e wd ⟨qv2,rfl,hm2,hg2,hf2⟩
            have HPR:=Lib.hid ((HT.out.1.call HBO.out).prog hm2 hf2)
            have HG2:=Lib.hid hg2
            have HQ3:=Lib.hid ((HQ2.out.trans (HBO.out.mono HQ2.out.size)).trans (hf2.low.mono HZR.out))
            have HR3:Hid (Below wr.heap.size wr wd):=Lib.hid ((HT.out.2.2.1.trans (HBO.out.mono HT.out.2.2.1.size)).trans hf2.low)
            clear hm2 hg2 hf2
            refine hK.out _ _ ?_ (fun hHeld => ?_)
            · (try dsimp only)
              exact HCL.out _ HQ3.out
            clear hK K
            (try simp only [Act.put,sqA,sqB,sqC])
            refine clR 12 rfl fun K hK => ?_
            go_simp
            refine Calls.mono (HDR.out _ _ HPR.out.2.1) ?_
            rintro e we ⟨qv3,rfl,hm3,hg3,hf3⟩
            have HBB:=Lib.hid (Both.doc HPR.out.1 HPR.out.2.2 hm3 hf3)
            have HQ4:=Lib.hid (HQ3.out.trans (hf3.low.mono (Nat.le_trans HZR.out HZ7.out)))
            have HR4:=Lib.hid (HR3.out.trans (hf3.low.mono HZ7.out))
            clear hm3 hg3 hf3
            refine hK.out _ _ ?_ (fun hHeld => ?_)
            · (try dsimp only)
              exact HCL.out _ HQ4.out
            clear hK K
            (try simp only [Act.put,sqA,sqB,sqC])
            refine tkR 13 rfl ?_
            refine wpAnyH_done (by kernel_rfl) ?_ _
            go_wp2
            go_roundw
            case rel => exact ⟨k + 1,s2,_,_,_,_,_,rfl,by omega,by omega,by go_num,Lib.hid ⟨HBB.out,HG2.out,HR4.out,HLN.out,HCLN.out⟩⟩
            case measure => simp [intOf]; omega
          · by_cases hkn:k < nm
            · have d1:decide (k < nm)=true:=decide_eq_true hkn
              have d2:decide ((k:Int) < 80)=false:=decide_eq_false (by omega)
              have d2':¬ (k:Int) < 80:=by omega
              have hsm1:=law17_Same (HI.out.1.md.call HT.out.2.2.1) (HI.out.1.rf.call HT.out.2.2.1) (by have:=HBD.out.1; omega) (by omega) HBD.out.2.1 HBD.out.2.2.1 HBD.out.2.2.2.1 (fun i j hi hj => Nat.le_trans (HI.out.2.2.2.1 i j hi hj) (by have:=HBD.out.2.2.2.2; omega))
              have hsm2:=fun w' (hb:Below wt.heap.size wt w') => law17_Same (HT.out.1.md.call hb) (HT.out.1.rf.call hb) (by have:=HBD.out.1; omega) (by omega) HBD.out.2.1 HBD.out.2.2.1 HBD.out.2.2.2.1 (fun i j hi hj => Nat.le_trans (HT.out.2.2.2.1 i j hi hj) (by have:=HBD.out.2.2.2.2; omega))
              have HSM1:=Lib.hid hsm1
              have HSM2:=Lib.hid hsm2
              have HQ9:Hid (Below wz.heap.size wz wt):=HI.out.2.2.1.trans (HT.out.2.2.1.mono HI.out.2.2.1.size)
              clear hsm1 hsm2
              go_wp2_with (first
                | (go_at_call 13; (with_reducible refine Calls.mono HSM1.out ?_); rintro e w9 ⟨rfl,hb9⟩; (have HB9:=Lib.hid hb9); clear hb9 HSM1)
                | (go_at_call 13; (with_reducible refine Calls.mono (HSM2.out _ HB9.out) ?_); rintro e w10 ⟨rfl,hb10⟩; (have HB10:Hid (Below wt.heap.size wt w10):=HB9.out.trans (hb10.mono HB9.out.size)); clear hb10)
                | fail)
              go_ret
              exact ⟨by first | rfl | (simp; done),HLZ.out.trans ((HQ9.out.trans (HB10.out.mono HQ9.out.size)).mono HLZ.out.size)⟩
            · have d1:decide (k < nm)=false:=decide_eq_false hkn
              have hsm1:=law17_Same (HI.out.1.md.call HT.out.2.2.1) (HI.out.1.rf.call HT.out.2.2.1) (by have:=HBD.out.1; omega) (by omega) HBD.out.2.1 HBD.out.2.2.1 HBD.out.2.2.2.1 (fun i j hi hj => Nat.le_trans (HI.out.2.2.2.1 i j hi hj) (by have:=HBD.out.2.2.2.2; omega))
              have hsm2:=fun w' (hb:Below wt.heap.size wt w') => law17_Same (HT.out.1.md.call hb) (HT.out.1.rf.call hb) (by have:=HBD.out.1; omega) (by omega) HBD.out.2.1 HBD.out.2.2.1 HBD.out.2.2.2.1 (fun i j hi hj => Nat.le_trans (HT.out.2.2.2.1 i j hi hj) (by have:=HBD.out.2.2.2.2; omega))
              have HSM1:=Lib.hid hsm1
              have HSM2:=Lib.hid hsm2
              have HQ9:Hid (Below wz.heap.size wz wt):=HI.out.2.2.1.trans (HT.out.2.2.1.mono HI.out.2.2.1.size)
              clear hsm1 hsm2
              go_wp2_with (first
                | (go_at_call 13; (with_reducible refine Calls.mono HSM1.out ?_); rintro e w9 ⟨rfl,hb9⟩; (have HB9:=Lib.hid hb9); clear hb9 HSM1)
                | (go_at_call 13; (with_reducible refine Calls.mono (HSM2.out _ HB9.out) ?_); rintro e w10 ⟨rfl,hb10⟩; (have HB10:Hid (Below wt.heap.size wt w10):=HB9.out.trans (hb10.mono HB9.out.size)); clear hb10)
                | fail)
              go_ret
              exact ⟨by first | rfl | (simp; done),HLZ.out.trans ((HQ9.out.trans (HB10.out.mono HQ9.out.size)).mono HLZ.out.size)⟩

set_option maxRecDepth 100000 in
/-- What the walk gives,for every argument: the row's own words. -/
theorem contract (H:Type) (enc:TypeId × Value→H) (W:World) (base:Nat) (args:Array Value) (ds gs:List (DataW H)) (before:List MemPlace)
    (hval:∀ (j:Nat) t v,Tryz.f4.params[j]?=some t→args[j]?=some v→Value.okWide Tryz.prog W .any base t v)
    (hW:DataW.Whole enc Tryz.prog Tryz.f4.params.toList Rows.modelCopiesSpec.vars false W args.toList ds gs before) :
    Calls Tryz.prog 4 args W fun e W' => ∃ v,e=.returned v∧Rows.modelCopiesSpec.post enc Tryz.prog Tryz.f4 false true false false W args v W':=by
  have hW':=hW
  obtain ⟨p,q,hA0,hV,rfl,hfz,hnd⟩:=hW
  have hA:DataW.TrodAll enc Tryz.prog W 0 (fun _ => true) true Tryz.f4.params.toList args.toList ds p:=hA0
  rw [Tryz.params4] at hA hval
  obtain ⟨v0,vs0,d0,ds0,p0,q0,hargs,rfl,rfl,h0,r0⟩:=trodAll_cons hA
  obtain ⟨v1,vs1,d1,ds1,p1,q1,rfl,rfl,rfl,h1,r1⟩:=trodAll_cons r0
  obtain ⟨v2,vs2,d2,ds2,p2,q2,rfl,rfl,rfl,h2,r2⟩:=trodAll_cons r1
  obtain ⟨rfl,rfl,rfl⟩:=trodAll_nil r2
  obtain rfl:args=#[v0,v1,v2]:=by cases args; simp_all
  obtain ⟨P0,vr0,vv0,a0,b0,c0,T0,R0,nm0,sh0,lr0,lv0,rfl,hr0,hv0,ho0⟩:=open_plan Tryz.underlying28 (tr:=22) (tv:=23) (er:=70) (ev:=73) (i:=3) (u:=26) (q:=45) (by kernel_rfl) (by kernel_rfl) Tryz.underlying3 Tryz.underlying26 Tryz.underlying45 Tryz.underlying22 (by kernel_rfl) (by kernel_rfl) Tryz.underlying23 (by kernel_rfl) (by kernel_rfl) (hval 0 28 v0 rfl rfl) h0
  have b1:=open_ops17 Tryz.underlying29 (i:=3) (q:=45) (u:=26) (by kernel_rfl) (by kernel_rfl) Tryz.underlying3 Tryz.underlying45 Tryz.underlying26 (hval 1 29 v1 rfl rfl) h1
  have b2:=open_ops17 Tryz.underlying29 (i:=3) (q:=45) (u:=26) (by kernel_rfl) (by kernel_rfl) Tryz.underlying3 Tryz.underlying45 Tryz.underlying26 (hval 2 29 v2 rfl rfl) h2
  refine (walk W P0 vr0 vv0 a0 b0 c0 T0 R0 nm0 sh0 lr0 lv0 hr0 hv0 ho0 v1 b1 v2 b2).mono fun e W' ⟨he,hb⟩ => ?_
  subst he
  exact close_true (by kernel_rfl) Tryz.underlying4 (by kernel_rfl) (by kernel_rfl) rfl rfl hW' hb

set_option maxRecDepth 100000 in
theorem lifted (os:Os) (started:os.Started) (H:Type) (enc:TypeId × Value→H) :
    ReturnsInHanded {} Tryz.checked os 4 .any (Rows.modelCopiesSpec.pre6 enc Tryz.prog Tryz.f4 Rows.modelCopiesRow.domain false) (Rows.modelCopiesSpec.post enc Tryz.prog Tryz.f4 false true false false):=by
  refine returnsInHanded_of_change (C:=Tryz.checked) own started (by kernel_rfl) Tryz.func4
    (ChangeSpec.witness6 (enc:=enc) (C:=Tryz.checked) false ⟨#[],#[.agg #[.int .i64 0,.slice none 0 0,.slice none 0 0,.int .i64 0,.int .i64 0,.int .i64 0,.int .i64 0,.int .i64 0,.int .u32 0,.int .u32 0],.slice none 0 0,.slice none 0 0],[]⟩ 8 (by kernel_rfl) (by kernel_rfl) (by kernel_rfl) (by kernel_rfl)) ?_
  intro W base args ds gs before hval hW _ _
  exact contract H enc W base args ds gs before hval hW

theorem proved:Rows.ModelCopiesSaid :=
  OpenClaim.holds_of_wide 4 Tryz.f4 rfl rfl rfl rfl rfl rfl rfl ⟨rfl,rfl,rfl,rfl,rfl⟩ rfl rfl rfl rfl rfl (by kernel_rfl) Tryz.func4 (by kernel_rfl)
    (of_decide_eq_true (by kernel_rfl)) (by unfold Func.isWrapper; first | (rw [if_pos (by decide +kernel)]; kernel_rfl) | (rw [if_neg (by decide +kernel)]; exact ⟨rfl,rfl⟩))
    (fun os started H enc _ => lifted os started H enc)
#print axioms proved
end Go.Proofs.YtpcapdpglpgcbaaGreat.modelCopies
