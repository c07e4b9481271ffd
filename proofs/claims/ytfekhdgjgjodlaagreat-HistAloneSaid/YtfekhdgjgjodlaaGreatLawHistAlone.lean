/-
  What somebody does alone, with the model's answers, is a right history; with one answer changed it isn't, and that one is told: for every plan, every row of Ops. No condition.
-/
import Derived.Test.YtfekhdgjgjodlaaGreatRows
import Derived.Test.YtfekhdgjgjodlaaGreatHiC
import Derived.Test.YtfekhdgjgjodlaaGreatHiT
import Derived.Test.YtfekhdgjgjodlaaGreatHiV
import Derived.WalkKit
import Derived.ProofKit
import Derived.OpenShut
namespace Go.Proofs.YtfekhdgjgjodlaaGreat.histAlone
open Go.ChangeShapes Go.WideShapes Go.ChangeAt Go.RowKit
open Go.ChangeMaps (open_string)
set_option linter.unusedVariables false

theorem own:ownKnob Tryz.prog.godebug=none:=by kernel_rfl
theorem own_frozen9 {w:World} {base size n:Nat} {e:TypeId} {v:Value} {xs:List Value} (h:w.ownsRow base e size v n xs) {g:Nat} (hg:v.ownBlock=some g) (i:Nat):w.frozen? ⟨g,i,none⟩=false:=by
  rcases h.2 with hn | ⟨b,cap,cur,hv,hb,hh,hnc,hcm,hcs,ht⟩
  · rw [hn.1] at hg; cases hg
  · rw [hv] at hg
    injection hg with hg
    subst hg
    have hr:w.rowIs b e (cap * size) (fun i => (cur[i]?).getD (.bool false)):=⟨cur,hh,hcs,fun i hi => by
      have hlt:i < cur.size:=by rw [hcs]; omega
      show cur[i]?=some ((cur[i]?).getD (.bool false))
      rw [Array.getElem?_eq_getElem hlt]
      rfl⟩
    exact hr.frozen i
/-- One answer of a row of one's own changed in place. -/
theorem EnRow.set_ans {w:World} {g n cap:Nat} {L:Nat→Ent} (h:EnRow w w.heap.size n (.slice (some ⟨g,0,none⟩) n cap) L) {k:Nat} (hk:k < n) (a:Int):EnRow (w.setCell ⟨g,k * 19 + 18,none⟩ (.int .i64 a)) w.heap.size n (.slice (some ⟨g,0,none⟩) n cap) (chgE L k a):=by
  obtain ⟨A,c,hv,h1,h2,h3⟩:=h
  injection hv with e1 _ e2
  subst e1 e2
  refine ⟨_,_,rfl,h1,h2,fun hn => ?_⟩
  obtain ⟨b,off,e,hb,hc⟩:=h3 hn
  injection e with e
  injection e with e1 e2
  subst e1 e2
  refine ⟨_,_,rfl,hb,fun i hi => ?_⟩
  by_cases hik:i=k
  · subst hik
    have h9:=(hc i hi).set_ans a
    rw [Nat.zero_add] at h9 ⊢
    unfold chgE
    rw [if_pos rfl]
    exact h9
  · have h9:=hc i hi
    unfold chgE
    rw [if_neg hik]
    refine EntHolds.of_cells fun j hj => ?_
    rw [← h9.at_ j hj]
    exact World.cell?_setCell_other _ _ _ _ (fun e => by injection e with _ e; omega)
theorem wrap_ne (a:Int):wrap64 (a + 1) ≠ a:=by
  unfold wrap64
  omega

set_option maxRecDepth 20000 in
set_option maxHeartbeats 6400000 in
theorem walk (W:World) (P0:Int) (vr0 vv0:Value) (a0 b0 c0 T0 R0:Int) (nm0 sh0:Nat) (lr0:List Rl) (lv0:List Vl) (hr0:Sl W W.heap.size 2 vr0 lr0.length (rlc lr0)) (hv0:Sl W W.heap.size 3 vv0 lv0.length (vlc lv0)) (ho0:∀ x ∈ lv0,x.ok) (a1:Value) (b1:Ops17 W a1) (a2:Int) (b2:-9223372036854775808≤a2∧a2≤9223372036854775807) :
    Calls Tryz.prog 4 #[planV P0 vr0 vv0 a0 b0 c0 T0 R0 nm0 sh0,a1,.int .i64 a2] W (Says (.bool true) W):=by
  obtain ⟨no,QO,hrow,hqo⟩:=Ops17.row b1
  obtain ⟨M,hM⟩:∃ M,M=min no 60:=⟨_,rfl⟩
  have HMM:=Lib.hid hM
  have HRW:=Lib.hid hrow
  have HQO:=Lib.hid hqo
  obtain ⟨Ao,co,rfl,hno,hcom,_⟩:=hrow
  clear hqo hM hno hcom b1
  obtain ⟨Ar,cr,rfl,hcr,hcm⟩:=hr0.form
  obtain ⟨Av,cv,rfl,hcv,hcw⟩:=hv0.form
  obtain ⟨P,hP⟩:∃ x,x=2 + fx 7 P0:=⟨_,rfl⟩
  obtain ⟨S,hS⟩:∃ x,x=1 + fx 8 a0:=⟨_,rfl⟩
  obtain ⟨B,hB⟩:∃ x,x=1 + fx 16 b0:=⟨_,rfl⟩
  obtain ⟨n,hn⟩:∃ x,x=1 + fx 8 c0:=⟨_,rfl⟩
  obtain ⟨T,hT⟩:∃ x,x=1 + fx 8 T0:=⟨_,rfl⟩
  obtain ⟨Rg,hG⟩:∃ x,x=1 + fx 64 R0:=⟨_,rfl⟩
  have hfix:=fun w' (hb:Below W.heap.size W w') => ref17_Fix (hr0.below hb) (hv0.below hb) ho0 hb.size P0 a0 b0 c0 T0 R0 nm0 sh0 P S B n T Rg hP hT hG hS hB hn
  unfold planV at hfix ⊢
  have HFX:=Lib.hid hfix
  have HN:=Lib.hid (And.intro hP (And.intro hS (And.intro hB (And.intro hn (And.intro hT hG)))))
  clear hfix hr0 hv0 ho0 hP hS hB hn hT hG hcr hcm hcv hcw
  go_enter Tryz.func4,Tryz.ntmps4
  go_upto_region 2 with (first
    | (go_at_call 7; (with_reducible refine Calls.mono (HFX.out _ ((Below.refl _ _).alloc (Nat.le_refl _) _)) ?_); rintro e wa ⟨ur,uw,rfl,h1,h2,hba⟩; (obtain ⟨Ax,cx,hx,_,_⟩:=(Sl.of_own h1).form); (obtain ⟨Ay,cy,hy,_,_⟩:=(Sl.of_own h2).form); subst hx; subst hy; (have H1:=Lib.hid h1); (have H2:=Lib.hid h2); (have HBA:=Lib.hid hba); (have HTH:Hid (wa.there W.heap.size 0 10):=there_below (there_of (cs:=#[.int .i64 P0,.slice Ar lr0.length cr,.slice Av lv0.length cv,.int .i64 a0,.int .i64 b0,.int .i64 c0,.int .i64 T0,.int .i64 R0,.int .u32 (nm0:Int),.int .u32 (sh0:Int)]) (heap_self W _ 28)) hba (by simp)); clear h1 h2 hba)
    | (refine wpList_store (by rfl) 28 _ _ (by rfl) W.heap.size 0 #[.int .i64 (P:Nat),.slice Ax P cx,.slice Ay (min lv0.length 8) cy,.int .i64 (S:Nat),.int .i64 (B:Nat),.int .i64 (n:Nat),.int .i64 (T:Nat),.int .i64 (Rg:Nat),.int .u32 (nm0:Int),.int .u32 (sh0:Int)] (by rfl) (by rfl) HTH.out (by kernel_rfl) (by simp [Value.oneCell']) ?_; intro wz hst; (have hWz:W.heap.size < wa.heap.size:=by have:=HBA.out.size; simp at this; omega); (have HBX:Hid (∀ w',Below wz.heap.size wz w'→w'.cell? ⟨W.heap.size,0,none⟩=some (.int .i64 (P:Nat))∧w'.cell? ⟨W.heap.size,1,none⟩=some (.slice Ax P cx)∧w'.cell? ⟨W.heap.size,2,none⟩=some (.slice Ay (min lv0.length 8) cy)∧w'.cell? ⟨W.heap.size,3,none⟩=some (.int .i64 (S:Nat))∧w'.cell? ⟨W.heap.size,4,none⟩=some (.int .i64 (B:Nat))∧w'.cell? ⟨W.heap.size,5,none⟩=some (.int .i64 (n:Nat))∧w'.cell? ⟨W.heap.size,6,none⟩=some (.int .i64 (T:Nat))∧w'.cell? ⟨W.heap.size,7,none⟩=some (.int .i64 (Rg:Nat))∧w'.cell? ⟨W.heap.size,8,none⟩=some (.int .u32 (nm0:Int))∧w'.cell? ⟨W.heap.size,9,none⟩=some (.int .u32 (sh0:Int))):=fun w' hb => ⟨(hb.cell (p:=⟨W.heap.size,0,none⟩) (by show W.heap.size < _; rw [hst.size]; omega)).trans (hst.cells 0 _ rfl),(hb.cell (p:=⟨W.heap.size,1,none⟩) (by show W.heap.size < _; rw [hst.size]; omega)).trans (hst.cells 1 _ rfl),(hb.cell (p:=⟨W.heap.size,2,none⟩) (by show W.heap.size < _; rw [hst.size]; omega)).trans (hst.cells 2 _ rfl),(hb.cell (p:=⟨W.heap.size,3,none⟩) (by show W.heap.size < _; rw [hst.size]; omega)).trans (hst.cells 3 _ rfl),(hb.cell (p:=⟨W.heap.size,4,none⟩) (by show W.heap.size < _; rw [hst.size]; omega)).trans (hst.cells 4 _ rfl),(hb.cell (p:=⟨W.heap.size,5,none⟩) (by show W.heap.size < _; rw [hst.size]; omega)).trans (hst.cells 5 _ rfl),(hb.cell (p:=⟨W.heap.size,6,none⟩) (by show W.heap.size < _; rw [hst.size]; omega)).trans (hst.cells 6 _ rfl),(hb.cell (p:=⟨W.heap.size,7,none⟩) (by show W.heap.size < _; rw [hst.size]; omega)).trans (hst.cells 7 _ rfl),(hb.cell (p:=⟨W.heap.size,8,none⟩) (by show W.heap.size < _; rw [hst.size]; omega)).trans (hst.cells 8 _ rfl),(hb.cell (p:=⟨W.heap.size,9,none⟩) (by show W.heap.size < _; rw [hst.size]; omega)).trans (hst.cells 9 _ rfl)⟩); (have HLZ:Hid (Below W.heap.size W wz):=(((Below.refl _ _).alloc (Nat.le_refl _) _).trans (HBA.out.mono (by simp))).trans (hst.below _ (Nat.le_refl _))); (have HR:=Lib.hid (Sl.of_own (own_stored H1.out hst (fun e => by have:=(H1.out.lt _ e).1; simp at this; omega)))); (have HV:=Lib.hid (Sl.of_own (own_stored H2.out hst (fun e => by have:=(H2.out.lt _ e).1; simp at this; omega)))); clear hst H1 H2 HBA HTH))
  have HFG:=Lib.hid (fix_good lr0 lv0 P0 a0 b0 c0 T0 R0 P S B n T Rg lv0.length HN.out.1 HN.out.2.2.2.2.1 HN.out.2.2.2.2.2 HN.out.2.1 HN.out.2.2.1 HN.out.2.2.2.1)
  have HBD:Hid ((2≤P∧P≤8)∧(1≤S∧S≤8)∧(1≤B∧B≤16)∧(1≤n∧n≤8)∧(1≤Rg∧Rg≤64)):=by
    obtain ⟨e1,e2,e3,e4,e5,e6⟩:=HN.out
    have k1:=fx_lt (k:=7) (by omega) P0
    have k2:=fx_lt (k:=8) (by omega) a0
    have k3:=fx_lt (k:=16) (by omega) b0
    have k4:=fx_lt (k:=8) (by omega) c0
    have k5:=fx_lt (k:=64) (by omega) R0
    exact ⟨by omega,by omega,by omega,by omega,by omega⟩
  have HPO:Hid (PlanOk (fixRs lr0 P) (fixVs (allN P) lv0 (min lv0.length 8)) P (min lv0.length 8) P P S B n Rg (T:Nat)):=⟨fixVs_ok _ _ (allN_lt _) _ (by omega),fixRs_first lr0 P,by have:=HBD.out; omega,HBD.out.2.1,HBD.out.2.2.1,HBD.out.2.2.2.1,by have:=HBD.out; omega,by omega,HFG.out⟩
  have hto:=fun w' (hb:Below wz.heap.size wz w') => law17_To (HR.out.below hb) (HV.out.below hb) hb.size (by omega) (by have:=HBD.out.1.2; omega) (P:Nat) (S:Nat) (B:Nat) (n:Nat) (T:Nat) (Rg:Nat) nm0 sh0
  obtain ⟨s0,hs0⟩:∃ s,s=ms0 (fixVs (allN P) lv0 (min lv0.length 8)):=⟨_,rfl⟩
  obtain ⟨L,hL⟩:∃ L,L=aloE P Rg S B n (min lv0.length 8) QO s0:=⟨_,rfl⟩
  have hal:∀ w',Below wz.heap.size wz w'→Calls Tryz.prog 17 #[planV P (.slice Ax P cx) (.slice Ay (min lv0.length 8) cy) S B n T Rg nm0 sh0,.slice Ao no co] w' fun e w2 => ∃ u,e=.returned u∧w2.ownsRow w'.heap.size 57 19 u M (encE (listE L M))∧Below w'.heap.size w' w2:=fun w' hb => by
    rw [hL,hs0,HMM.out]
    exact law18_alone ((HR.out.below hb).mono hb.size) ((HV.out.below hb).mono hb.size) (Nat.le_refl _) HPO.out ((HRW.out.below (HLZ.out.trans (hb.mono HLZ.out.size))).mono (Nat.le_trans HLZ.out.size hb.size)) HQO.out nm0 sh0
  have hte:∀ (w':World) (u:Value),EnRow w' w'.heap.size M u L→Calls Tryz.prog 8 #[u] w' fun e w2 => ∃ x,e=.returned x∧w2.ownsRow w'.heap.size 68 19 x M (encE (listE L M))∧Below w'.heap.size w' w2:=fun w' u hu => law18_To (by have:=HMM.out; omega) hu (Nat.le_refl _)
  have hck:∀ (k:Nat) (a:Int),a ≠ (L k).ans→∀ (w':World) (vr vv u:Value),Sl w' w'.heap.size 2 vr P (rlc (fixRs lr0 P))→Sl w' w'.heap.size 3 vv (min lv0.length 8) (vlc (fixVs (allN P) lv0 (min lv0.length 8)))→EnRow w' w'.heap.size M u (chgE L k a)→∀ x y:Int,(if k < M then ((k:Int),(7:Int)) else (-1,0))=(x,y)→Calls Tryz.prog 9 #[planV P vr vv S B n T Rg nm0 sh0,u] w' (Says (.tuple #[.int .i64 x,.int .i64 y]) w'):=fun k a ha w' vr vv u h1 h2 h3 x y hxy => by
    have h9:=hist_Check h1 h2 (Nat.le_refl _) HPO.out (by have:=HMM.out; omega) h3 (fun i hi => by rw [(chg_same L k a i).2.2.2.2,hL]; exact HQO.out i (by have:=HMM.out; omega)) (fun i hi => by
      obtain ⟨e1,_,e3,_⟩:=chg_same L k a i
      rw [e1,e3,hL]
      unfold rngI
      show (-9223372036854775808≤(3:Int)∧(3:Int)≤9223372036854775807)∧(-9223372036854775808≤3 * (i:Int) + 2∧3 * (i:Int) + 2≤9223372036854775807)
      have:=HMM.out
      omega) nm0 sh0 (by rw [hL]; exact chg_ord M k a)
    rw [← hs0] at h9
    have h8:chkH P Rg S B n (min lv0.length 8) (chgE L k a) M (List.range M) s0=(x,y):=by
      rw [← hxy]
      rw [hL] at ha ⊢
      exact chk_alo M k a ha
    rw [h8] at h9
    exact h9
  unfold planV at hto hal hck
  have HTO:=Lib.hid hto
  have HAL:=Lib.hid hal
  have HTE:=Lib.hid hte
  have HC:=Lib.hid hck
  have HTD:=Lib.hid fun w => law18_told w
  have hq:Below wz.heap.size wz wz:=Below.refl _ _
  obtain ⟨z0,z1,z2,z3,z4,z5,z6,z7,z8,z9⟩:=HBX.out _ hq
  clear hto hal hte hck hs0 hL
  go_upto_region 3 with (first
    | (go_at_call 17; (with_reducible refine Calls.mono (HAL.out _ hq) ?_); rintro e w3 ⟨x,rfl,hx,hb3⟩; (have hq:=hq.trans (hb3.mono hq.size)); (have HX:=Lib.hid (EnRow.of_own hx)); clear hx hb3)
    | (go_at_call 8; (with_reducible refine Calls.mono (HTE.out _ _ HX.out) ?_); rintro e w4 ⟨y,rfl,hy,hb4⟩; (have HQ3:=Lib.hid hq.size); (have hq:=hq.trans (hb4.mono hq.size)); (have HY:=Lib.hid hy); clear hy hb4)
    | fail)
  clear HAL HTE HX z0 z1 z2 z3 z4 z5 z6 z7 z8 z9
  have hfm:=(Sl.of_own HY.out).form
  obtain ⟨Ag,cg,rfl,hcg1,hcg2⟩:=hfm
  have HCG:=Lib.hid (And.intro hcg1 hcg2)
  clear hcg1 hcg2
  have HE0:=Lib.hid (EnRow.congr (EnRow.of_own HY.out) (fun i hi => (chg_none L (N:=M) ((L M).ans + 1) i hi).symm))
  obtain ⟨z0,z1,z2,z3,z4,z5,z6,z7,z8,z9⟩:=HBX.out _ hq
  go_upto_region 4 with (first
    | (go_at_call 10; (with_reducible refine Calls.mono (HTO.out _ hq) ?_); rintro e w5 ⟨ur,uw,rfl,h1,h2,hba⟩; (obtain ⟨Az,cz,hx,_,_⟩:=(Sl.of_own h1).form); (obtain ⟨Ay',cy',hy,_,_⟩:=(Sl.of_own h2).form); subst hx; subst hy; (have HT1:=Lib.hid (Sl.of_own h1)); (have HT2:=Lib.hid (Sl.of_own h2)); (have hq:=hq.trans (hba.mono hq.size)); (have HY5:=Lib.hid (own_below HY.out hba)); (have HE5:=Lib.hid ((HE0.out.below hba).mono hba.size)); clear h1 h2 hba)
    | (go_at_call 9; (with_reducible refine Calls.mono (HC.out M ((L M).ans + 1) (by omega) _ _ _ _ HT1.out HT2.out HE5.out (-1) 0 (if_neg (by omega))) ?_); rintro e w6 ⟨rfl,hb6⟩; (have hq:=hq.trans (hb6.mono hq.size)); (have HY6:=Lib.hid (own_below HY5.out hb6)); clear hb6)
    | fail)
  clear HY HE0 HT1 HT2 HY5 HE5 z0 z1 z2 z3 z4 z5 z6 z7 z8 z9
  have HQ6:=Lib.hid hq
  clear hq
  rcases Nat.eq_zero_or_pos M with hM0 | hM0
  · have e1:((M:Int) == 0)=true:=by simp; omega
    go_wp2_with (first
      | go_big_skip
      | (go_at_call 12; (with_reducible refine Calls.mono (HTD.out _) ?_); rintro e w7 ⟨rfl,hb7⟩; (have HQ7:=Lib.hid (HQ6.out.trans (hb7.mono HQ6.out.size))); clear hb7)
      | fail)
    go_ret
    exact ⟨by first | rfl | (simp; done),HLZ.out.trans (HQ7.out.mono HLZ.out.size)⟩
  · obtain ⟨g,rfl,hgb⟩:∃ g,Ag=some ⟨g,0,none⟩∧w3.heap.size≤g:=by
      rcases HY6.out.2 with hn | ⟨b,cap,cur,hv,hb,_⟩
      · exfalso
        have:=HY6.out.1
        rw [hn.2] at this
        simp at this
        omega
      · injection hv with e1 _ _
        exact ⟨b,e1,hb⟩
    have HGB:=Lib.hid hgb
    have hM60:M≤60:=by have:=HMM.out; omega
    obtain ⟨k,hk⟩:∃ x,x=fx M a2:=⟨_,rfl⟩
    have hkM:k < M:=by rw [hk]; exact fx_lt (by omega) a2
    have hzq:wrap64 ((IntKind.u64.wrap a2).tmod (M:Int))=(k:Int):=by rw [hk]; exact fx_wrap (by omega) (by omega) a2
    have hUM:IntKind.u64.wrap (M:Int)=(M:Int):=by rw [IntKind.wrap_u64]; omega
    have hMn:(M:Int) ≠ 0:=by omega
    have e1:((M:Int) == 0)=false:=by simp; omega
    clear hk hgb
    go_upto_region 9 with (first
      | go_big_skip
      | (go_at_call 12; (with_reducible refine Calls.mono (HTD.out _) ?_); rintro e w7 ⟨rfl,hb7⟩; (have HQ7:=Lib.hid (HQ6.out.trans (hb7.mono HQ6.out.size))); (have HY7:=Lib.hid (own_below HY6.out hb7)); clear hb7)
      | fail)
    simp only [hzq]
    clear hzq hUM hMn e1
    have HE7:=Lib.hid (EnRow.of_own HY7.out)
    obtain ⟨a,ha⟩:∃ a,a=(L k).ans:=⟨_,rfl⟩
    have hc18:w7.cell? ⟨g,k * 19 + 18,none⟩=some (.int .i64 a):=by
      obtain ⟨A',c',e,_,_,hc⟩:=HE7.out
      injection e with ea _ ec
      subst ea ec
      obtain ⟨b,off,e,_,hcl⟩:=hc hM0
      injection e with e
      injection e with e e2
      subst e e2
      have h9:=(hcl k hkM).ans_
      rw [Nat.zero_add] at h9
      rw [ha]
      exact h9
    have hf18:w7.frozen? ⟨g,k * 19 + 18,none⟩=false:=own_frozen9 HY7.out rfl _
    have g0:(0:Int)≤(k:Int):=Int.natCast_nonneg _
    have g1:(k:Int) < (M:Int):=by omega
    have HAA:=Lib.hid ha
    clear ha
    go_upto_region 10 with fail
    obtain ⟨w8,hw8⟩:∃ w8,w8=w7.setCell ⟨g,k * 19 + 18,none⟩ (.int .i64 (wrap64 (a + 1))):=⟨_,rfl⟩
    have HE8:Hid (EnRow w8 w8.heap.size M (.slice (some ⟨g,0,none⟩) M cg) (chgE L k (wrap64 (a + 1)))):=by
      rw [hw8]
      refine Lib.hid ?_
      have:=EnRow.set_ans HE7.out hkM (wrap64 (a + 1))
      simpa using this
    have hq:Below wz.heap.size wz w8:=by rw [hw8]; exact HQ7.out.setCell (Nat.le_trans HQ3.out HGB.out) _
    have HNE:Hid (wrap64 (a + 1) ≠ (L k).ans):=by rw [← HAA.out]; exact wrap_ne a
    (try rw [← hw8])
    clear hw8 hc18 hf18 HE7 HY6 HY7
    obtain ⟨z0,z1,z2,z3,z4,z5,z6,z7,z8,z9⟩:=HBX.out _ hq
    go_upto_region 11 with (first
      | (go_at_call 10; (with_reducible refine Calls.mono (HTO.out _ hq) ?_); rintro e w9 ⟨ur,uw,rfl,h1,h2,hba⟩; (obtain ⟨Az,cz,hx,_,_⟩:=(Sl.of_own h1).form); (obtain ⟨Ay',cy',hy,_,_⟩:=(Sl.of_own h2).form); subst hx; subst hy; (have HT1:=Lib.hid (Sl.of_own h1)); (have HT2:=Lib.hid (Sl.of_own h2)); (have hq:=hq.trans (hba.mono hq.size)); (have HE9:=Lib.hid ((HE8.out.below hba).mono hba.size)); clear h1 h2 hba)
      | (go_at_call 9; (with_reducible refine Calls.mono (HC.out k (wrap64 (a + 1)) HNE.out _ _ _ _ HT1.out HT2.out HE9.out (k:Int) 7 (if_pos hkM)) ?_); rintro e w10 ⟨rfl,hb10⟩; (have hq:=hq.trans (hb10.mono hq.size)); clear hb10)
      | fail)
    clear z0 z1 z2 z3 z4 z5 z6 z7 z8 z9 HT1 HT2 HE8 HE9
    have e2:((k:Int) == (k:Int))=true:=by simp
    go_wp2_with (first | go_big_skip | fail)
    go_ret
    exact ⟨by first | rfl | (simp; done),HLZ.out.trans (hq.mono HLZ.out.size)⟩

set_option maxRecDepth 100000 in
/-- What the walk gives,for every argument: the row's own words. -/
theorem contract (H:Type) (enc:TypeId × Value→H) (W:World) (base:Nat) (args:Array Value) (ds gs:List (DataW H)) (before:List MemPlace)
    (hval:∀ (j:Nat) t v,Tryz.f4.params[j]?=some t→args[j]?=some v→Value.okWide Tryz.prog W .any base t v)
    (hW:DataW.Whole enc Tryz.prog Tryz.f4.params.toList Rows.histAloneSpec.vars false W args.toList ds gs before) :
    Calls Tryz.prog 4 args W fun e W' => ∃ v,e=.returned v∧Rows.histAloneSpec.post enc Tryz.prog Tryz.f4 false true false false W args v W':=by
  have hW':=hW
  obtain ⟨p,q,hA0,hV,rfl,hfz,hnd⟩:=hW
  have hA:DataW.TrodAll enc Tryz.prog W 0 (fun _ => true) true Tryz.f4.params.toList args.toList ds p:=hA0
  rw [Tryz.params4] at hA hval
  obtain ⟨v0,vs0,d0,ds0,p0,q0,hargs,rfl,rfl,h0,r0⟩:=trodAll_cons hA
  obtain ⟨v1,vs1,d1,ds1,p1,q1,rfl,rfl,rfl,h1,r1⟩:=trodAll_cons r0
  obtain ⟨v2,vs2,d2,ds2,p2,q2,rfl,rfl,rfl,h2,r2⟩:=trodAll_cons r1
  obtain ⟨rfl,rfl,rfl⟩:=trodAll_nil r2
  obtain rfl:args=#[v0,v1,v2]:=by cases args; simp_all
  obtain ⟨P0,vr0,vv0,a0,b0,c0,T0,R0,nm0,sh0,lr0,lv0,rfl,hr0,hv0,ho0⟩:=open_plan Tryz.underlying28 (tr:=22) (tv:=23) (er:=85) (ev:=88) (i:=3) (u:=26) (q:=51) (by kernel_rfl) (by kernel_rfl) Tryz.underlying3 Tryz.underlying26 Tryz.underlying51 Tryz.underlying22 (by kernel_rfl) (by kernel_rfl) Tryz.underlying23 (by kernel_rfl) (by kernel_rfl) (hval 0 28 v0 rfl rfl) h0
  have b1:=open_ops17 Tryz.underlying59 (i:=3) (q:=51) (u:=26) (by kernel_rfl) (by kernel_rfl) Tryz.underlying3 Tryz.underlying51 Tryz.underlying26 (hval 1 59 v1 rfl rfl) h1
  obtain ⟨a2,rfl,b2⟩:=open_i64 Tryz.underlying3 (hval 2 3 v2 rfl rfl) h2
  refine (walk W P0 vr0 vv0 a0 b0 c0 T0 R0 nm0 sh0 lr0 lv0 hr0 hv0 ho0 v1 b1 a2 b2).mono fun e W' ⟨he,hb⟩ => ?_
  subst he
  exact close_true (by kernel_rfl) Tryz.underlying4 (by kernel_rfl) (by kernel_rfl) rfl rfl hW' hb

set_option maxRecDepth 100000 in
theorem lifted (os:Os) (started:os.Started) (H:Type) (enc:TypeId × Value→H) :
    ReturnsInHanded {} Tryz.checked os 4 .any (Rows.histAloneSpec.pre6 enc Tryz.prog Tryz.f4 Rows.histAloneRow.domain false) (Rows.histAloneSpec.post enc Tryz.prog Tryz.f4 false true false false):=by
  refine returnsInHanded_of_change (C:=Tryz.checked) own started (by kernel_rfl) Tryz.func4
    (ChangeSpec.witness6 (enc:=enc) (C:=Tryz.checked) false ⟨#[],#[.agg #[.int .i64 0,.slice none 0 0,.slice none 0 0,.int .i64 0,.int .i64 0,.int .i64 0,.int .i64 0,.int .i64 0,.int .u32 0,.int .u32 0],.slice none 0 0,.int .i64 0],[]⟩ 8 (by kernel_rfl) (by kernel_rfl) (by kernel_rfl) (by kernel_rfl)) ?_
  intro W base args ds gs before hval hW _ _
  exact contract H enc W base args ds gs before hval hW

theorem proved:Rows.HistAloneSaid :=
  OpenClaim.holds_of_wide 4 Tryz.f4 rfl rfl rfl rfl rfl rfl rfl ⟨rfl,rfl,rfl,rfl,rfl⟩ rfl rfl rfl rfl rfl (by kernel_rfl) Tryz.func4 (by kernel_rfl)
    (of_decide_eq_true (by kernel_rfl)) (by unfold Func.isWrapper; first | (rw [if_pos (by decide +kernel)]; kernel_rfl) | (rw [if_neg (by decide +kernel)]; exact ⟨rfl,rfl⟩))
    (fun os started H enc _ => lifted os started H enc)
#print axioms proved
end Go.Proofs.YtfekhdgjgjodlaaGreat.histAlone
