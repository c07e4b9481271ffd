/-
  Words and contracts that a statement's proof rests on (HiD). No statement is proved here.
-/
import Derived.Test.YtfekhdgjgjodlaaGreatOpenVl
import Derived.Test.YtfekhdgjgjodlaaGreatSrI
import Derived.Test.YtfekhdgjgjodlaaGreatHiC
set_option linter.unusedVariables false
set_option linter.unusedSimpArgs false
namespace Go.Proofs.YtfekhdgjgjodlaaGreat
open Go.RowKit Go.Maps Go.ChangeMaps
theorem zex {w w':World} {P:Program} {k:TypeId} {R:Value->Option (DataW Unit×List MemPlace)} {b n:Nat} {D:DataW Unit} (h:w.ownsMap P k R b n D) (e:w'.heap[b]?=w.heap[b]?):w'.ownsMap P k R b n D:=by
 obtain ⟨es,clock,hb,r⟩:=h
 exact ⟨es,clock,e.trans hb,r⟩
section
variable {P:Program} {md:Region.Mode} {ops:Array Oper} {Q:Exit->Act->World->Prop} {S:World->Prop} {fuel:Nat} {listed:Array Bool} {a:Act} {w:World} {d:Option Tmp} {o:Op} {t:TypeId} {p:String} {f:Array Edge} {g:Option (Nat×Bool)} {v:Value}
theorem tkL {listed':Array Bool} {a':Act} (i:Nat) (hi:ops[i]?=some ⟨d,o,t,p,f,g⟩) (h:wpAnyH P md ops Q S fuel listed' a' w) (hY:YieldsIf P ops S ⟨d,o,t,p,f,g⟩ v a) (ha:a.put d v=a':=by ((try simp only [Act.put,sqA,sqB,sqC]);with_reducible rfl)) (hl:listed.setIfInBounds i true=listed':=by ((try simp only [sqA,sqB,sqC]);with_reducible rfl)) (hs:Region.noSelect ops=true:=by kernel_rfl) (hf:Region.free md ops listed i=true:=by kernel_rfl) (hr:(Region.ready md ops listed).contains i=true:=by kernel_rfl) (hQ:∀ c a w,Q (.panic c) (a.put d v) w->Q (.panic c) a w:=by exact fun _ _ _ h=>h) (hS:S w:=by assumption):wpAnyH P md ops Q S (fuel+1) listed a w:=by
 subst ha;subst hl
 exact wpAnyH_take hi hs hf hr hQ hY hS h
end
theorem zqd {L:Nat->Ent} {k:Nat} {x:Ent} (hx:x=L k) (h:0<x.mar):(fun y=>if x.mar=y then true else mkT L k y)=mkT L (k+1):=by
 funext y
 subst hx;rw [mkT]
 by_cases e:(L k).mar=y
 ·rw [if_pos e,if_pos ⟨h,e⟩]
 ·rw [if_neg e,if_neg (fun h=>e h.2)]
theorem zn7 {L:Nat->Ent} {k:Nat} {x:Ent} (hx:x=L k) (h:¬ 0<x.mar):mkT L k=mkT L (k+1):=by
 funext y
 subst hx
 rw [mkT,if_neg (fun e=>h e.1)]
theorem zhl {B b:Nat} {a w w':World} (h:Below B a w) (hg:w.grownBy w' (some b)) (hB:B<=w.heap.size) (hb:B<=b):Below B a w':=h.grown hg hB fun k e=>by
 injection e with e
 omega
section
variable {w:World} {N B:Nat} {v:Value} {L:Nat->Ent}
set_option maxRecDepth 20000 in
set_option maxHeartbeats 12800000 in
theorem zgs (hn:N<=1000000) (h:zbj w B N v L) (hB:B<=w.heap.size) (hok:∀ i,i<N->rngI (L i).who/\rngI (L i).mar) (hm:∀ j,j<N->misT (L j)=false) :
  Calls Tryz.prog 28 #[v] w (Says (.int .i64 (zaw (busB L) N)) w):=by
 obtain ⟨A,cap,rfl,h1,h2,h3⟩:=h;have HC:=Lib.hid h3;have HN:=Lib.hid (And.intro hn (And.intro h1 (And.intro hB (And.intro hok hm))));unfold maxLen at h2;obtain ⟨ans,hans⟩:∃ a,a=zaw (busB L) N:=⟨_,rfl⟩;rw [<- hans];have HAN:=Lib.hid hans;clear h3 h1 hB hn hok hm hans;have hmm:=@run_makeMap Tryz.prog
 go_enter Tryz.func28,Tryz.ntmps28
 go_wp2
 clear hmm
 go_loopw [13] (fun i wr=>∃ (k:Nat) (wx:World) (D1 D2:DataW Unit),wx=wr/\k<=N/\i=.int .i64 k/\Hid (wr.ownsMap Tryz.prog 3 (plainElem (H:=Unit) Tryz.prog 4) w.heap.size k D1/\zmr D1 (mkT L k))/\Hid (wr.ownsMap Tryz.prog 3 (plainElem (H:=Unit) Tryz.prog 3) (w.heap.size+1) k D2/\MapIn D2 (laT L k))/\Hid (Below w.heap.size w wr/\w.heap.size+2<=wr.heap.size/\∀ i,i<k->busB L i=false)) (fun i _=>N - (intOf i).toNat)
 case atStart =>
  refine ⟨0,_,.map [],.map [],rfl,Nat.zero_le _,rfl,⟨(World.ownsMap_made w Tryz.prog 3 (plainElem (H:=Unit) Tryz.prog 4)).alloc _,zqs⟩,⟨?_,zpk⟩,((Below.refl _ _).alloc (Nat.le_refl _) _).alloc (by simp) _,by simp,fun i hi=>by omega⟩
  have:=World.ownsMap_made (w.alloc (.map #[] 0)) Tryz.prog 3 (plainElem (H:=Unit) Tryz.prog 3)
  rw [World.size_alloc] at this
  exact this
 case round =>
  obtain ⟨k,wr,D1,D2,rfl,hk,rfl,HM1,HM2,HI⟩:=hrel
  by_cases hlt:k<N
  ·have d1:decide (k<N)=true:=decide_eq_true hlt
   obtain ⟨b,off,rfl,hb,hc⟩:=HC.out (by omega)
   have HRG:=Lib.hid ((hc k hlt).keep (w':=wr) fun p hp=>HI.out.1.cell (by rw [hp];have:=HN.out;omega)).range
   obtain ⟨x,hx⟩:∃ x,x=L k:=⟨_,rfl⟩;have HX:=Lib.hid hx;rw [<- hx] at HRG;have HOK:=Lib.hid (HN.out.2.2.2.1 k hlt);rw [<- hx] at HOK;clear hx
   have g0:(0:Int)<=(k:Int):=Int.natCast_nonneg _
   have g1:(k:Int)<(N:Int):=by omega
   have hKN:k<=1000000:=by have:=HN.out.1;omega
   have hBQ:Hid (busQ L k=busB L k):=busQ_eq HN.out.2.2.2.2 hlt HI.out.2.2
   -- what the entry's copy is told by
   have HST:Hid (∀ wz,Stored (wr.alloc (.cells #[.int .i64 0,.int .i64 0,.int .i64 0,.int .i64 0,.int .i64 0,.int .i64 0,.int .i64 0,.int .i64 0,.int .i64 0,.int .i64 0,.int .u64 0,.int .u64 0,.int .u64 0,.int .u32 0,.int .u32 0,.int .i64 0,.int .i64 0,.int .i64 0,.int .i64 0] 68)) wr.heap.size 0 x.cells.toArray.toList wz->(∀ w',Below wz.heap.size wz w'->w'.cell? ⟨wr.heap.size,2,none⟩=some (.int .i64 x.mar)/\w'.cell? ⟨wr.heap.size,1,none⟩=some (.int .i64 x.beg)/\w'.cell? ⟨wr.heap.size,0,none⟩=some (.int .i64 x.who)/\(Instr.lookup 127 (.map (some w.heap.size)) (.int .i64 x.mar) false).run Tryz.prog w'=.ok (.bool (mkT L k x.mar)) w'/\w'.ownsMap Tryz.prog 3 (plainElem (H:=Unit) Tryz.prog 4) w.heap.size k D1/\w'.ownsMap Tryz.prog 3 (plainElem (H:=Unit) Tryz.prog 3) (w.heap.size+1) k D2)/\Below w.heap.size w wz/\w.heap.size+2<=wz.heap.size/\Below wr.heap.size wr wz):=by
    intro wz hst
    have hz:wz.heap.size=wr.heap.size+1:=by rw [hst.size];simp
    have h2:=HI.out.2.1;have hbr:Below wr.heap.size wr wz:=((Below.refl _ _).alloc (Nat.le_refl _) _).trans (hst.below _ (Nat.le_refl _))
    refine ⟨fun w' hb=>?_,HI.out.1.trans (hbr.mono (by omega)),by omega,hbr⟩
    have hm1:w'.ownsMap Tryz.prog 3 (plainElem (H:=Unit) Tryz.prog 4) w.heap.size k D1:=zex HM1.out.1 ((hb.block _ (by omega)).trans (hbr.block _ (by omega)))
    have hm2:w'.ownsMap Tryz.prog 3 (plainElem (H:=Unit) Tryz.prog 3) (w.heap.size+1) k D2:=zex HM2.out.1 ((hb.block _ (by omega)).trans (hbr.block _ (by omega)))
    have hcl:∀ j u,x.cells.toArray.toList[j]?=some u->w'.cell? ⟨wr.heap.size,j,none⟩=some u:=fun j u hu=>by
     have:=hst.cells j u hu
     rw [Nat.zero_add] at this
     exact (hb.cell (p:=⟨wr.heap.size,j,none⟩) (by show wr.heap.size<_;omega)).trans this
    exact ⟨hcl 2 _ rfl,hcl 1 _ rfl,hcl 0 _ rfl,zqw hm1 HM1.out.2 HOK.out.2,hm1,hm2⟩
   obtain ⟨mq,hmq⟩:∃ q,q=mkT L k x.mar:=⟨_,rfl⟩;rw [<- hmq] at HST
   have HBQ2:Hid (busB L k=(mq || (match laT L k x.who with|none=>false|some j=>atB (L j) x.beg))):=Lib.hid (by rw [<- hBQ.out,hmq,HX.out];rfl)
   clear hmq hBQ
   rcases hla:laT L k x.who with _|j
   ·have HHS:Hid (Maps.has D2 (.int .i64 x.who)=false):=Lib.hid (by rw [HM2.out.2.has _ HOK.out.1,hla];rfl)
    rw [hla] at HBQ2;clear hla
    cases mq
    ·have HBT:Hid (busB L k=false):=Lib.hid (by rw [HBQ2.out];rfl)
     go_wp2_with (first
      |(refine wpList_load_mid (by rfl) 68 _ (by rfl) b (off+k*19) (by rfl) x.cells _ HRG.out Tryz.underlying68 (by rfl) (by rw [Ent.cells_length];kernel_rfl) ?_;clear HRG)
      |(refine zak (by rfl) 68 _ _ (by rfl) wr.heap.size 0 x.cells.toArray (by rfl) (by rfl) (zco _ _) (by rw [List.size_toArray,Ent.cells_length];kernel_rfl) (all_oneCell_toArray x.cells_one) ?_;intro wz hst;(have HZ:=Lib.hid (HST.out wz hst));clear hst HST;(have e0:=(HZ.out.1 _ (Below.refl _ _)).2.2.1);(have HML:=Lib.hid (HZ.out.1 _ (Below.refl _ _)).2.2.2.2.2))
      |(at_lookup;refine wpList_lookup_own_ok_int _ rfl _ _ 128 rfl 3 3 .i64 iKey Tryz.underlying128 Tryz.underlying3 (zji _) (w.heap.size+1) k D2 rfl HML.out _ _ rfl (zca HOK.out.1) ?_;intro cv hat hwc;clear hwc;clear hat;rw [HHS.out])
      |fail)
     clear HML e0
     have HSP:Hid (∀ w',Below wz.heap.size wz w'->w'.cell? ⟨wr.heap.size,2,none⟩=some (.int .i64 x.mar)/\w'.cell? ⟨wr.heap.size,1,none⟩=some (.int .i64 x.beg)/\(Instr.lookup 127 (.map (some w.heap.size)) (.int .i64 x.mar) false).run Tryz.prog w'=.ok (.bool false) w'):=fun w' hb=>⟨(HZ.out.1 w' hb).1,(HZ.out.1 w' hb).2.1,(HZ.out.1 w' hb).2.2.2.1⟩
     refine wp_region_held_drew (S:=fun w'=>w'.cell? ⟨wr.heap.size,2,none⟩=some (.int .i64 x.mar)/\(Instr.lookup 127 (.map (some w.heap.size)) (.int .i64 x.mar) false).run Tryz.prog w'=.ok (.bool false) w') (by kernel_rfl) ?_ (fun hHeld=>?_)
     ·exact ⟨HSP.out _ (Below.refl _ _).drew |>.1,HSP.out _ (Below.refl _ _).drew |>.2.2⟩
     obtain ⟨v0,hv0⟩:∃ w',w'=wz.drew:=⟨_,rfl⟩
     have hvb:Below wz.heap.size wz v0:=by rw [hv0];exact (Below.refl _ _).drew
     rw [<- hv0] at hHeld |-;clear hv0;have HV8:=Lib.hid hvb;refine tk 0 ?_;refine tk 1 ?_;refine tk 2 ?_;refine tk 3 ?_;refine tk 4 ?_;refine tk 5 ?_;refine tk 6 ?_;refine skR 7 rfl ?_;refine skR 8 rfl ?_;refine skR 9 rfl ?_;refine skR 10 rfl ?_;refine skR 11 rfl ?_;refine skR 12 rfl ?_;refine skR 13 rfl ?_;refine tk 14 ?_;refine tk 15 ?_
     refine dnR ?_
     have HF8:=Lib.hid (HZ.out.1 _ HV8.out)
     have HB8:Hid (Below w.heap.size w v0/\w.heap.size+2<=v0.heap.size):=⟨HZ.out.2.1.trans (HV8.out.mono (by have:=HZ.out.2.2.1;omega)),by have:=HZ.out.2.2.1;have:=HV8.out.size;omega⟩
     have a2:=HF8.out.1;have a0:=HF8.out.2.2.1;have HL8:=Lib.hid (World.block_lt_of_cell? _ _ a0)
     have HNX:Hid (∀ i,i<k+1->busB L i=false):=zcq HI.out.2.2 HBT.out
     by_cases hmp:0<x.mar
     ·have d2:decide (x.mar > 0)=true:=decide_eq_true hmp
      have HT1:Hid ((fun y=>if x.mar=y then true else mkT L k y)=mkT L (k+1)):=zqd HX.out hmp
      have HT2:Hid ((fun y=>if x.who=y then some k else laT L k y)=laT L (k+1)):=Lib.hid (by funext y;rw [laT,<- HX.out])
      clear hmp
      go_wp2_with (first
       |(at_mapUpdate;refine wpList_mapUpdate_own _ rfl _ _ _ 127 rfl 3 4 iKey Tryz.underlying127 _ w.heap.size k D1 rfl HF8.out.2.2.2.2.1 (by unfold maxLen;omega) _ _ _ rfl rfl (zca HOK.out.2) _ [] zc2 ?_;intro w9 hown9 hgr9;(have HO9:=Lib.hid hown9);(have HG9:=Lib.hid hgr9);(have a0:w9.cell? ⟨wr.heap.size,0,none⟩=some (.int .i64 x.who):=(World.cell?_of_block (a:=⟨wr.heap.size,0,none⟩) (HG9.out.block wr.heap.size HL8.out (fun e=>by injection e with e;have:=HI.out.2.1;omega))).trans a0);clear hown9 hgr9)
       |(at_mapUpdate;refine wpList_mapUpdate_own _ rfl _ _ _ 128 rfl 3 3 iKey Tryz.underlying128 _ (w.heap.size+1) k D2 rfl (HF8.out.2.2.2.2.2.kept HG9.out (by simp)) (by unfold maxLen;omega) _ _ _ rfl rfl (zca HOK.out.1) _ [] (plainElem_int Tryz.underlying3 (Go.WalkArith.wf_i64 (by omega))) ?_;intro w10 hown10 hgr10;(have HO10:=Lib.hid hown10);(have HG10:=Lib.hid hgr10);clear hown10 hgr10)
       |fail)
      go_roundw
      case rel =>
       refine ⟨k+1,_,_,_,rfl,by omega,by go_num,⟨HO9.out.kept HG10.out (by simp),?_⟩,⟨HO10.out,?_⟩,zhl (zhl HB8.out.1 HG9.out (by have:=HB8.out.2;omega) (Nat.le_refl _)) HG10.out (by have:=HB8.out.2;have:=HG9.out.size;omega) (by omega),by have:=HB8.out.2;have:=HG9.out.size;have:=HG10.out.size;omega,HNX.out⟩
       ·rw [<- HT1.out];exact HM1.out.2.put (HM1.out.1.tidy iKey) HOK.out.2
       ·rw [<- HT2.out];exact HM2.out.2.put (HM2.out.1.tidy iKey) HOK.out.1 k
      case measure=>simp [intOf];omega
     ·have d2:decide (x.mar > 0)=false:=decide_eq_false hmp
      have HT1:Hid (mkT L k=mkT L (k+1)):=zn7 HX.out hmp
      have HT2:Hid ((fun y=>if x.who=y then some k else laT L k y)=laT L (k+1)):=Lib.hid (by funext y;rw [laT,<- HX.out])
      clear hmp
      go_wp2_with (first
       |(at_mapUpdate;refine wpList_mapUpdate_own _ rfl _ _ _ 128 rfl 3 3 iKey Tryz.underlying128 _ (w.heap.size+1) k D2 rfl HF8.out.2.2.2.2.2 (by unfold maxLen;omega) _ _ _ rfl rfl (zca HOK.out.1) _ [] (plainElem_int Tryz.underlying3 (Go.WalkArith.wf_i64 (by omega))) ?_;intro w10 hown10 hgr10;(have HO10:=Lib.hid hown10);(have HG10:=Lib.hid hgr10);clear hown10 hgr10)
       |fail)
      go_roundw
      case rel =>
       refine ⟨k+1,_,_,_,rfl,by omega,by go_num,⟨(HF8.out.2.2.2.2.1.kept HG10.out (by simp)).mono (Nat.le_succ k),?_⟩,⟨HO10.out,?_⟩,zhl HB8.out.1 HG10.out (by have:=HB8.out.2;omega) (by omega),by have:=HB8.out.2;have:=HG10.out.size;omega,HNX.out⟩
       ·rw [<- HT1.out];exact HM1.out.2
       ·rw [<- HT2.out];exact HM2.out.2.put (HM2.out.1.tidy iKey) HOK.out.1 k
      case measure=>simp [intOf];omega
    ·have HBT:Hid (busB L k=true):=Lib.hid (by rw [HBQ2.out];rfl)
     go_wp2_with (first
      |(refine wpList_load_mid (by rfl) 68 _ (by rfl) b (off+k*19) (by rfl) x.cells _ HRG.out Tryz.underlying68 (by rfl) (by rw [Ent.cells_length];kernel_rfl) ?_;clear HRG)
      |(refine zak (by rfl) 68 _ _ (by rfl) wr.heap.size 0 x.cells.toArray (by rfl) (by rfl) (zco _ _) (by rw [List.size_toArray,Ent.cells_length];kernel_rfl) (all_oneCell_toArray x.cells_one) ?_;intro wz hst;(have HZ:=Lib.hid (HST.out wz hst));clear hst HST;(have e0:=(HZ.out.1 _ (Below.refl _ _)).2.2.1);(have HML:=Lib.hid (HZ.out.1 _ (Below.refl _ _)).2.2.2.2.2))
      |(at_lookup;refine wpList_lookup_own_ok_int _ rfl _ _ 128 rfl 3 3 .i64 iKey Tryz.underlying128 Tryz.underlying3 (zji _) (w.heap.size+1) k D2 rfl HML.out _ _ rfl (zca HOK.out.1) ?_;intro cv hat hwc;clear hwc;clear hat;rw [HHS.out])
      |fail)
     clear HML e0
     have HSP:Hid (∀ w',Below wz.heap.size wz w'->w'.cell? ⟨wr.heap.size,2,none⟩=some (.int .i64 x.mar)/\w'.cell? ⟨wr.heap.size,1,none⟩=some (.int .i64 x.beg)/\(Instr.lookup 127 (.map (some w.heap.size)) (.int .i64 x.mar) false).run Tryz.prog w'=.ok (.bool true) w'):=fun w' hb=>⟨(HZ.out.1 w' hb).1,(HZ.out.1 w' hb).2.1,(HZ.out.1 w' hb).2.2.2.1⟩
     refine wp_region_held_drew (S:=fun w'=>w'.cell? ⟨wr.heap.size,2,none⟩=some (.int .i64 x.mar)/\(Instr.lookup 127 (.map (some w.heap.size)) (.int .i64 x.mar) false).run Tryz.prog w'=.ok (.bool true) w') (by kernel_rfl) ?_ (fun hHeld=>?_)
     ·exact ⟨HSP.out _ (Below.refl _ _).drew |>.1,HSP.out _ (Below.refl _ _).drew |>.2.2⟩
     obtain ⟨v0,hv0⟩:∃ w',w'=wz.drew:=⟨_,rfl⟩
     have hvb:Below wz.heap.size wz v0:=by rw [hv0];exact (Below.refl _ _).drew
     rw [<- hv0] at hHeld |-;clear hv0;have HV8:=Lib.hid hvb;refine tk 0 ?_;refine tk 1 ?_;refine tk 2 ?_;refine tk 3 ?_;refine tk 4 ?_;refine skR 5 rfl ?_;refine skR 6 rfl ?_;refine skR 7 rfl ?_;refine skR 8 rfl ?_;refine skR 9 rfl ?_;refine skR 10 rfl ?_;refine skR 11 rfl ?_;refine skR 12 rfl ?_;refine skR 13 rfl ?_;refine skR 14 rfl ?_;refine tk 15 ?_
     refine dnR ?_
     go_wp2
     go_ret
     exact ⟨by rw [HAN.out,za5 _ k HI.out.2.2 HBT.out N hlt];rfl,HZ.out.2.1.trans (HV8.out.mono (by have:=HZ.out.2.2.1;omega))⟩
   ·have HLT:Hid (j<k):=(zfq L _ k j hla).1
    have HHS:Hid (Maps.has D2 (.int .i64 x.who)=true/\D2.atKey (.int .i64 x.who) (.lit (.int .i64 0))=.lit (.int .i64 (j:Nat))):=Lib.hid ⟨by rw [HM2.out.2.has _ HOK.out.1,hla];rfl,HM2.out.2.at_ _ _ HOK.out.1 hla⟩
    rw [hla] at HBQ2;clear hla
    have hjN:(j:Int)<(N:Int):=by have:=HLT.out;omega
    have hj0:(0:Int)<=(j:Int):=Int.natCast_nonneg _
    obtain ⟨y,hy⟩:∃ y,y=L j:=⟨_,rfl⟩
    have HLR:Hid (∀ w',Below wr.heap.size wr w'->w'.rangeAt b (off+j*19) y.cells):=fun w' hb9=>by
     rw [hy]
     exact ((hc j (by have:=HLT.out;omega)).keep fun p hp=>((HI.out.1.trans (hb9.mono (by have:=HI.out.2.1;omega))).cell (by rw [hp];have:=HN.out;omega))).range
    have HAT:=Lib.hid fun W=>zqf y x.beg W
    obtain ⟨z,hz⟩:∃ z,z=atB y x.beg:=⟨_,rfl⟩
    have HBQ3:Hid (busB L k=(mq || atB y x.beg)):=Lib.hid (by rw [hy];exact HBQ2.out)
    clear hy HBQ2
    have HZZ:Hid (atB y x.beg=z):=hz.symm
    clear hz
    have hat9:Hid (∀ W,Calls Tryz.prog 56 #[y.val,.int .i64 x.beg] W (Says (.bool z) W)):=fun W=>by rw [<- HZZ.out];exact HAT.out W
    clear HAT;have HAT:=hat9;clear hat9
    cases mq
    ·cases z
     ·have HBT:Hid (busB L k=false):=Lib.hid (by rw [HBQ3.out];show (false || atB y x.beg)=false;rw [HZZ.out];rfl)
      go_wp2_with (first
       |(refine wpList_load_mid (by rfl) 68 _ (by rfl) b (off+k*19) (by rfl) x.cells _ HRG.out Tryz.underlying68 (by rfl) (by rw [Ent.cells_length];kernel_rfl) ?_;clear HRG)
       |(refine zak (by rfl) 68 _ _ (by rfl) wr.heap.size 0 x.cells.toArray (by rfl) (by rfl) (zco _ _) (by rw [List.size_toArray,Ent.cells_length];kernel_rfl) (all_oneCell_toArray x.cells_one) ?_;intro wz hst;(have HZ:=Lib.hid (HST.out wz hst));clear hst HST;(have e0:=(HZ.out.1 _ (Below.refl _ _)).2.2.1);(have HML:=Lib.hid (HZ.out.1 _ (Below.refl _ _)).2.2.2.2.2))
       |(at_lookup;refine wpList_lookup_own_ok_int _ rfl _ _ 128 rfl 3 3 .i64 iKey Tryz.underlying128 Tryz.underlying3 (zji _) (w.heap.size+1) k D2 rfl HML.out _ _ rfl (zca HOK.out.1) ?_;intro cv hat hwc;clear hwc;(obtain rfl:(j:Int)=cv:=(by rw [HHS.out.2] at hat;injection hat with hat;injection hat with _ hat));clear hat;rw [HHS.out.1])
       |fail)
      clear HML e0
      have HSP:Hid (∀ w',Below wz.heap.size wz w'->w'.cell? ⟨wr.heap.size,2,none⟩=some (.int .i64 x.mar)/\w'.cell? ⟨wr.heap.size,1,none⟩=some (.int .i64 x.beg)/\(Instr.lookup 127 (.map (some w.heap.size)) (.int .i64 x.mar) false).run Tryz.prog w'=.ok (.bool false) w'):=fun w' hb=>⟨(HZ.out.1 w' hb).1,(HZ.out.1 w' hb).2.1,(HZ.out.1 w' hb).2.2.2.1⟩
      have HLJ:Hid (∀ w',Below wz.heap.size wz w'->w'.rangeAt b (off+j*19) y.cells):=fun w' hb9=>HLR.out w' (HZ.out.2.2.2.trans (hb9.mono HZ.out.2.2.2.size))
      refine wp_region_held_drew (S:=fun w'=>w'.cell? ⟨wr.heap.size,2,none⟩=some (.int .i64 x.mar)/\(Instr.lookup 127 (.map (some w.heap.size)) (.int .i64 x.mar) false).run Tryz.prog w'=.ok (.bool false) w'/\w'.cell? ⟨wr.heap.size,1,none⟩=some (.int .i64 x.beg)/\w'.rangeAt b (off+j*19) y.cells) (by kernel_rfl) ?_ (fun hHeld=>?_)
      ·exact ⟨HSP.out _ (Below.refl _ _).drew |>.1,HSP.out _ (Below.refl _ _).drew |>.2.2,HSP.out _ (Below.refl _ _).drew |>.2.1,HLJ.out _ (Below.refl _ _).drew⟩
      obtain ⟨v0,hv0⟩:∃ w',w'=wz.drew:=⟨_,rfl⟩
      have hvb:Below wz.heap.size wz v0:=by rw [hv0];exact (Below.refl _ _).drew
      rw [<- hv0] at hHeld |-;clear hv0;refine tk 0 ?_;refine tk 1 ?_;refine tk 2 ?_;refine tk 3 ?_;refine tk 4 ?_;refine tk 5 ?_;refine tk 6 ?_;refine tk 7 ?_;refine tk 8 ?_;refine tk 9 ?_
      refine tkL 10 rfl ?_ (yieldsIf_load_mid (by rfl) _ _ rfl b (off+j*19) rfl y.cells _ (fun _ h=>h.2.2.2) Tryz.underlying68 (by rfl) (by rw [Ent.cells_length];kernel_rfl))
      refine tk 11 ?_;refine tk 12 ?_
      refine clR 13 rfl fun K hK=>?_
      go_simp
      refine Calls.mono (HAT.out _) ?_
      rintro e w8 ⟨rfl,hb8⟩;have HV8:Hid (Below wz.heap.size wz w8):=Lib.hid (hvb.trans (hb8.mono hvb.size));clear hb8
      refine hK.out _ _ ?_ (fun hHeld=>?_)
      ·(try dsimp only)
       exact ⟨HSP.out _ HV8.out |>.1,HSP.out _ HV8.out |>.2.2,HSP.out _ HV8.out |>.2.1,HLJ.out _ HV8.out⟩
      clear hK K;refine tk 14 ?_;refine tk 15 ?_
      refine dnR ?_
      have HF8:=Lib.hid (HZ.out.1 _ HV8.out)
      have HB8:Hid (Below w.heap.size w w8/\w.heap.size+2<=w8.heap.size):=⟨HZ.out.2.1.trans (HV8.out.mono (by have:=HZ.out.2.2.1;omega)),by have:=HZ.out.2.2.1;have:=HV8.out.size;omega⟩
      have a2:=HF8.out.1;have a0:=HF8.out.2.2.1;have HL8:=Lib.hid (World.block_lt_of_cell? _ _ a0)
      have HNX:Hid (∀ i,i<k+1->busB L i=false):=zcq HI.out.2.2 HBT.out
      by_cases hmp:0<x.mar
      ·have d2:decide (x.mar > 0)=true:=decide_eq_true hmp
       have HT1:Hid ((fun y=>if x.mar=y then true else mkT L k y)=mkT L (k+1)):=zqd HX.out hmp
       have HT2:Hid ((fun y=>if x.who=y then some k else laT L k y)=laT L (k+1)):=Lib.hid (by funext y;rw [laT,<- HX.out])
       clear hmp
       go_wp2_with (first
        |(at_mapUpdate;refine wpList_mapUpdate_own _ rfl _ _ _ 127 rfl 3 4 iKey Tryz.underlying127 _ w.heap.size k D1 rfl HF8.out.2.2.2.2.1 (by unfold maxLen;omega) _ _ _ rfl rfl (zca HOK.out.2) _ [] zc2 ?_;intro w9 hown9 hgr9;(have HO9:=Lib.hid hown9);(have HG9:=Lib.hid hgr9);(have a0:w9.cell? ⟨wr.heap.size,0,none⟩=some (.int .i64 x.who):=(World.cell?_of_block (a:=⟨wr.heap.size,0,none⟩) (HG9.out.block wr.heap.size HL8.out (fun e=>by injection e with e;have:=HI.out.2.1;omega))).trans a0);clear hown9 hgr9)
        |(at_mapUpdate;refine wpList_mapUpdate_own _ rfl _ _ _ 128 rfl 3 3 iKey Tryz.underlying128 _ (w.heap.size+1) k D2 rfl (HF8.out.2.2.2.2.2.kept HG9.out (by simp)) (by unfold maxLen;omega) _ _ _ rfl rfl (zca HOK.out.1) _ [] (plainElem_int Tryz.underlying3 (Go.WalkArith.wf_i64 (by omega))) ?_;intro w10 hown10 hgr10;(have HO10:=Lib.hid hown10);(have HG10:=Lib.hid hgr10);clear hown10 hgr10)
        |fail)
       go_roundw
       case rel =>
        refine ⟨k+1,_,_,_,rfl,by omega,by go_num,⟨HO9.out.kept HG10.out (by simp),?_⟩,⟨HO10.out,?_⟩,zhl (zhl HB8.out.1 HG9.out (by have:=HB8.out.2;omega) (Nat.le_refl _)) HG10.out (by have:=HB8.out.2;have:=HG9.out.size;omega) (by omega),by have:=HB8.out.2;have:=HG9.out.size;have:=HG10.out.size;omega,HNX.out⟩
        ·rw [<- HT1.out];exact HM1.out.2.put (HM1.out.1.tidy iKey) HOK.out.2
        ·rw [<- HT2.out];exact HM2.out.2.put (HM2.out.1.tidy iKey) HOK.out.1 k
       case measure=>simp [intOf];omega
      ·have d2:decide (x.mar > 0)=false:=decide_eq_false hmp
       have HT1:Hid (mkT L k=mkT L (k+1)):=zn7 HX.out hmp
       have HT2:Hid ((fun y=>if x.who=y then some k else laT L k y)=laT L (k+1)):=Lib.hid (by funext y;rw [laT,<- HX.out])
       clear hmp
       go_wp2_with (first
        |(at_mapUpdate;refine wpList_mapUpdate_own _ rfl _ _ _ 128 rfl 3 3 iKey Tryz.underlying128 _ (w.heap.size+1) k D2 rfl HF8.out.2.2.2.2.2 (by unfold maxLen;omega) _ _ _ rfl rfl (zca HOK.out.1) _ [] (plainElem_int Tryz.underlying3 (Go.WalkArith.wf_i64 (by omega))) ?_;intro w10 hown10 hgr10;(have HO10:=Lib.hid hown10);(have HG10:=Lib.hid hgr10);clear hown10 hgr10)
        |fail)
       go_roundw
       case rel =>
        refine ⟨k+1,_,_,_,rfl,by omega,by go_num,⟨(HF8.out.2.2.2.2.1.kept HG10.out (by simp)).mono (Nat.le_succ k),?_⟩,⟨HO10.out,?_⟩,zhl HB8.out.1 HG10.out (by have:=HB8.out.2;omega) (by omega),by have:=HB8.out.2;have:=HG10.out.size;omega,HNX.out⟩
        ·rw [<- HT1.out];exact HM1.out.2
        ·rw [<- HT2.out];exact HM2.out.2.put (HM2.out.1.tidy iKey) HOK.out.1 k
       case measure=>simp [intOf];omega
     ·have HBT:Hid (busB L k=true):=Lib.hid (by rw [HBQ3.out];show (false || atB y x.beg)=true;rw [HZZ.out];rfl)
      go_wp2_with (first
       |(refine wpList_load_mid (by rfl) 68 _ (by rfl) b (off+k*19) (by rfl) x.cells _ HRG.out Tryz.underlying68 (by rfl) (by rw [Ent.cells_length];kernel_rfl) ?_;clear HRG)
       |(refine zak (by rfl) 68 _ _ (by rfl) wr.heap.size 0 x.cells.toArray (by rfl) (by rfl) (zco _ _) (by rw [List.size_toArray,Ent.cells_length];kernel_rfl) (all_oneCell_toArray x.cells_one) ?_;intro wz hst;(have HZ:=Lib.hid (HST.out wz hst));clear hst HST;(have e0:=(HZ.out.1 _ (Below.refl _ _)).2.2.1);(have HML:=Lib.hid (HZ.out.1 _ (Below.refl _ _)).2.2.2.2.2))
       |(at_lookup;refine wpList_lookup_own_ok_int _ rfl _ _ 128 rfl 3 3 .i64 iKey Tryz.underlying128 Tryz.underlying3 (zji _) (w.heap.size+1) k D2 rfl HML.out _ _ rfl (zca HOK.out.1) ?_;intro cv hat hwc;clear hwc;(obtain rfl:(j:Int)=cv:=(by rw [HHS.out.2] at hat;injection hat with hat;injection hat with _ hat));clear hat;rw [HHS.out.1])
       |fail)
      clear HML e0
      have HSP:Hid (∀ w',Below wz.heap.size wz w'->w'.cell? ⟨wr.heap.size,2,none⟩=some (.int .i64 x.mar)/\w'.cell? ⟨wr.heap.size,1,none⟩=some (.int .i64 x.beg)/\(Instr.lookup 127 (.map (some w.heap.size)) (.int .i64 x.mar) false).run Tryz.prog w'=.ok (.bool false) w'):=fun w' hb=>⟨(HZ.out.1 w' hb).1,(HZ.out.1 w' hb).2.1,(HZ.out.1 w' hb).2.2.2.1⟩
      have HLJ:Hid (∀ w',Below wz.heap.size wz w'->w'.rangeAt b (off+j*19) y.cells):=fun w' hb9=>HLR.out w' (HZ.out.2.2.2.trans (hb9.mono HZ.out.2.2.2.size))
      refine wp_region_held_drew (S:=fun w'=>w'.cell? ⟨wr.heap.size,2,none⟩=some (.int .i64 x.mar)/\(Instr.lookup 127 (.map (some w.heap.size)) (.int .i64 x.mar) false).run Tryz.prog w'=.ok (.bool false) w'/\w'.cell? ⟨wr.heap.size,1,none⟩=some (.int .i64 x.beg)/\w'.rangeAt b (off+j*19) y.cells) (by kernel_rfl) ?_ (fun hHeld=>?_)
      ·exact ⟨HSP.out _ (Below.refl _ _).drew |>.1,HSP.out _ (Below.refl _ _).drew |>.2.2,HSP.out _ (Below.refl _ _).drew |>.2.1,HLJ.out _ (Below.refl _ _).drew⟩
      obtain ⟨v0,hv0⟩:∃ w',w'=wz.drew:=⟨_,rfl⟩
      have hvb:Below wz.heap.size wz v0:=by rw [hv0];exact (Below.refl _ _).drew
      rw [<- hv0] at hHeld |-;clear hv0;refine tk 0 ?_;refine tk 1 ?_;refine tk 2 ?_;refine tk 3 ?_;refine tk 4 ?_;refine tk 5 ?_;refine tk 6 ?_;refine tk 7 ?_;refine tk 8 ?_;refine tk 9 ?_
      refine tkL 10 rfl ?_ (yieldsIf_load_mid (by rfl) _ _ rfl b (off+j*19) rfl y.cells _ (fun _ h=>h.2.2.2) Tryz.underlying68 (by rfl) (by rw [Ent.cells_length];kernel_rfl))
      refine tk 11 ?_;refine tk 12 ?_
      refine clR 13 rfl fun K hK=>?_
      go_simp
      refine Calls.mono (HAT.out _) ?_
      rintro e w8 ⟨rfl,hb8⟩;have HV8:Hid (Below wz.heap.size wz w8):=Lib.hid (hvb.trans (hb8.mono hvb.size));clear hb8
      refine hK.out _ _ ?_ (fun hHeld=>?_)
      ·(try dsimp only)
       exact ⟨HSP.out _ HV8.out |>.1,HSP.out _ HV8.out |>.2.2,HSP.out _ HV8.out |>.2.1,HLJ.out _ HV8.out⟩
      clear hK K;refine tk 14 ?_;refine tk 15 ?_
      refine dnR ?_
      go_wp2
      go_ret
      exact ⟨by rw [HAN.out,za5 _ k HI.out.2.2 HBT.out N hlt];rfl,HZ.out.2.1.trans (HV8.out.mono (by have:=HZ.out.2.2.1;omega))⟩
    ·have HBT:Hid (busB L k=true):=Lib.hid (by rw [HBQ3.out];rfl)
     go_wp2_with (first
      |(refine wpList_load_mid (by rfl) 68 _ (by rfl) b (off+k*19) (by rfl) x.cells _ HRG.out Tryz.underlying68 (by rfl) (by rw [Ent.cells_length];kernel_rfl) ?_;clear HRG)
      |(refine zak (by rfl) 68 _ _ (by rfl) wr.heap.size 0 x.cells.toArray (by rfl) (by rfl) (zco _ _) (by rw [List.size_toArray,Ent.cells_length];kernel_rfl) (all_oneCell_toArray x.cells_one) ?_;intro wz hst;(have HZ:=Lib.hid (HST.out wz hst));clear hst HST;(have e0:=(HZ.out.1 _ (Below.refl _ _)).2.2.1);(have HML:=Lib.hid (HZ.out.1 _ (Below.refl _ _)).2.2.2.2.2))
      |(at_lookup;refine wpList_lookup_own_ok_int _ rfl _ _ 128 rfl 3 3 .i64 iKey Tryz.underlying128 Tryz.underlying3 (zji _) (w.heap.size+1) k D2 rfl HML.out _ _ rfl (zca HOK.out.1) ?_;intro cv hat hwc;clear hwc;(obtain rfl:(j:Int)=cv:=(by rw [HHS.out.2] at hat;injection hat with hat;injection hat with _ hat));clear hat;rw [HHS.out.1])
      |fail)
     clear HML e0
     have HSP:Hid (∀ w',Below wz.heap.size wz w'->w'.cell? ⟨wr.heap.size,2,none⟩=some (.int .i64 x.mar)/\w'.cell? ⟨wr.heap.size,1,none⟩=some (.int .i64 x.beg)/\(Instr.lookup 127 (.map (some w.heap.size)) (.int .i64 x.mar) false).run Tryz.prog w'=.ok (.bool true) w'):=fun w' hb=>⟨(HZ.out.1 w' hb).1,(HZ.out.1 w' hb).2.1,(HZ.out.1 w' hb).2.2.2.1⟩
     refine wp_region_held_drew (S:=fun w'=>w'.cell? ⟨wr.heap.size,2,none⟩=some (.int .i64 x.mar)/\(Instr.lookup 127 (.map (some w.heap.size)) (.int .i64 x.mar) false).run Tryz.prog w'=.ok (.bool true) w') (by kernel_rfl) ?_ (fun hHeld=>?_)
     ·exact ⟨HSP.out _ (Below.refl _ _).drew |>.1,HSP.out _ (Below.refl _ _).drew |>.2.2⟩
     obtain ⟨v0,hv0⟩:∃ w',w'=wz.drew:=⟨_,rfl⟩
     have hvb:Below wz.heap.size wz v0:=by rw [hv0];exact (Below.refl _ _).drew
     rw [<- hv0] at hHeld |-;clear hv0;have HV8:=Lib.hid hvb;refine tk 0 ?_;refine tk 1 ?_;refine tk 2 ?_;refine tk 3 ?_;refine tk 4 ?_;refine skR 5 rfl ?_;refine skR 6 rfl ?_;refine skR 7 rfl ?_;refine skR 8 rfl ?_;refine skR 9 rfl ?_;refine skR 10 rfl ?_;refine skR 11 rfl ?_;refine skR 12 rfl ?_;refine skR 13 rfl ?_;refine skR 14 rfl ?_;refine tk 15 ?_
     refine dnR ?_
     go_wp2
     go_ret
     exact ⟨by rw [HAN.out,za5 _ k HI.out.2.2 HBT.out N hlt];rfl,HZ.out.2.1.trans (HV8.out.mono (by have:=HZ.out.2.2.1;omega))⟩
  ·have:k=N:=by omega
   subst this
   have d1:decide (k<k)=false:=decide_eq_false hlt
   go_wp2
   go_ret
   exact ⟨by rw [HAN.out,zbi _ _ HI.out.2.2];rfl,HI.out.1⟩
end
end Go.Proofs.YtfekhdgjgjodlaaGreat
