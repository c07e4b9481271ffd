/-
  Words and contracts that a statement's proof rests on (VlanI, MoC). No statement is proved here.
-/
import Derived.Test.YtfekhdgjgjodlaaGreatBkD
import Derived.Test.YtfekhdgjgjodlaaGreatBkE
import Derived.Test.YtfekhdgjgjodlaaGreatPtB
set_option linter.unusedVariables false
set_option linter.unusedSimpArgs false
namespace Go.Proofs.YtfekhdgjgjodlaaGreat
section
open Go.RowKit
set_option maxHeartbeats 6400000 in
theorem zmp {l:List Vl} {n:Nat} {v:Value} {w:World} {B:Nat} (hok:∀ x∈l,x.ok) (hv:Sl w B 3 v n (vlc l)) (ports:Int) :
  Calls Tryz.prog 59 #[v,.int .i64 ports] w (Says (.int .i64 (zb4 l ports n:Nat)) w):=by
 obtain ⟨A,cap,rfl,hcap,hmx⟩:=hv.form;have hmx':=hmx;unfold maxLen at hmx'
 by_cases hp:ports<2\/64<ports
 ·rw [check5 hp]
  clear hv
  rcases hp with hp|hp
  ·go_enter Tryz.func59,Tryz.ntmps59
   go_wp2
   go_ret
   exact ⟨rfl,Below.refl _ _⟩
  ·have hp2:¬ ports<2:=by omega
   go_enter Tryz.func59,Tryz.ntmps59
   go_wp2
   go_ret
   exact ⟨rfl,Below.refl _ _⟩
 ·have hp1:¬ ports<2:=by omega
  have hp2:¬ 64<ports:=by omega
  by_cases h16:16<n
  ·rw [check8 hp h16]
   have h16':(16:Int)<(n:Int):=by omega
   clear hv hp
   go_enter Tryz.func59,Tryz.ntmps59
   go_wp2
   go_ret
   exact ⟨rfl,Below.refl _ _⟩
  ·have h16':¬ (16:Int)<(n:Int):=by omega
   obtain ⟨C,hC⟩:∃ C,C=zb4 l ports n:=⟨_,rfl⟩;rw [<- hC];have HC:=Lib.hid hC;have HP:=Lib.hid hp;have H16:=Lib.hid h16;have HV:=Lib.hid hv;have HOK:=Lib.hid hok;have hal:=zd8 ports
   have hAll:=fun W=>zih ports W
   obtain ⟨al,hal0⟩:∃ al,al=allN ports:=⟨_,rfl⟩;rw [<- hal0] at hAll hal;have HALL:=Lib.hid hAll;have HAL:=Lib.hid hal0;have HALT:=Lib.hid hal;clear hC hp h16 hv hok hAll hal0 hal
   go_enter Tryz.func59,Tryz.ntmps59
   go_wp2
   go_loopw [5] (fun i wr=>∃ k:Nat,k<=n/\i=.int .i64 k/\Hid (∀ i,i<k->zbt l ports i=0)/\∃ m,wr=w.drewN m) (fun i _=>n - (intOf i).toNat)
   case atStart=>exact ⟨0,by omega,rfl,fun i hi=>by omega,0,rfl⟩
   case round =>
    obtain ⟨k,hk,rfl,HF,m,rfl⟩:=hrel
    by_cases hlt:k<n
    ·obtain ⟨b,off,cap',hvv,_,_,hb,hlen,hcell⟩:=HV.out.vlAt (show 0<n by omega)
     injection hvv with e1 _ e2
     subst e1 e2;obtain ⟨c0,c1,c2⟩:=hcell k hlt;have hxok:=vl_ok HOK.out k;obtain ⟨x,hx⟩:∃ x,x=l.getD k vl0:=⟨_,rfl⟩;obtain ⟨ah,hah⟩:∃ ah,ah=zcy l k:=⟨_,rfl⟩;have W6a:=Lib.hid (@zpt l ports k);have W6b:=Lib.hid (@zpm l ports k);have W5:=Lib.hid (@wrong5 l ports k);have W1:=Lib.hid (@wrong1 l ports k);have W0:=Lib.hid (@wrong0 l ports k);rw [<- hx,<- hah] at W6b W5 W1 W0;rw [<- hx] at W6a c0 c1 c2 hxok;rw [<- HAL.out] at W5 W1 W0
     have hWA:=fun W=>zgg x.mem al hxok.2.1 HALT.out W
     have hWB:=fun W=>zgg x.unt x.mem hxok.2.2 hxok.2.1 W
     have g0:(0:Int)<=(k:Int):=Int.natCast_nonneg _
     have g1:(k:Int)<(n:Int):=by omega
     have hvbd:vidB x.vid=(decide (1<=x.vid) && decide (x.vid<=4094)):=rfl
     obtain ⟨vb,hvb⟩:∃ vb,vb=vidB x.vid:=⟨_,rfl⟩;rw [<- hvb] at hvbd W6a W6b W5 W1 W0
     have hah0:k=0->ah=0:=fun h=>by rw [hah];unfold zcy;rw [if_pos h]
     have hah1:0<k->ah=(l.getD (k - 1) vl0).vid:=fun h=>by rw [hah];unfold zcy;rw [if_neg (by omega)]
     have hp0:=fun h:0<k=>(hcell (k - 1) (by omega)).1
     clear hx hah hvb hcell hlen hxok HV HOK HAL
     cases vb
     ·have HW:Hid (C=6):=by show C=6;rw [HC.out];exact zc0 HP.out H16.out HF.out hlt (W6a.out rfl) (by omega)
      by_cases h1:x.vid<1
      ·have hd1:decide (x.vid<1)=true:=by simp;omega
       clear hvbd hah0 hah1 hp0;clear W6a W6b W5 W1 W0 HF hWA hWB
       go_wp2_with fail
       go_quiet (fail)
       go_wp2
       go_ret
       exact ⟨za4 (by rw [HW.out];rfl),(by repeat' (first|exact Below.refl _ _|refine zaa ?_ _))⟩
      ·have h2:4094<x.vid:=by simp at hvbd;omega
       have hd1:decide (x.vid<1)=false:=by simp;omega
       have hd2:decide (4094<x.vid)=true:=by simp;omega
       clear hvbd hah0 hah1 hp0;clear W6a W6b W5 W1 W0 HF hWA hWB
       go_wp2_with fail
       go_quiet (fail)
       go_wp2
       go_ret
       exact ⟨za4 (by rw [HW.out];rfl),(by repeat' (first|exact Below.refl _ _|refine zaa ?_ _))⟩
     ·have hv1:1<=x.vid:=by simp at hvbd;omega
      have hv2:x.vid<=4094:=by simp at hvbd;omega
      have hd1:decide (x.vid<1)=false:=by simp;omega
      have hd2:decide (4094<x.vid)=false:=by simp;omega
      clear hvbd
      rcases Nat.eq_zero_or_pos k with hk0|hk0
      ·have hle:¬ x.vid<=ah:=by have:=hah0 hk0;omega
       have hd3:decide (0<k)=false:=by simp;omega
       clear hah0 hah1 hp0 hk0
       cases hw1:zaz x.mem al
       ·have HW:Hid (C=5):=by show C=5;rw [HC.out];exact zc0 HP.out H16.out HF.out hlt (W5.out rfl hle hw1) (by omega)
        have KW1:=hWA;rw [hw1] at KW1;have KW1:=Lib.hid KW1;clear W6a W6b W5 W1 W0 HF hw1 hWA hWB
        go_wp2_with fail
        go_quiet (fail)
        go_wp2_with fail
        go_quiet (first|(go_at_call 21;with_reducible exact zce HALL.out _ _ _)|(go_at_call 95;with_reducible exact zce KW1.out _ _ _))
        go_wp2
        go_ret
        exact ⟨za4 (by rw [HW.out];rfl),(by repeat' (first|exact Below.refl _ _|refine zaa ?_ _))⟩
       ·have KW1:=hWA
        rw [hw1] at KW1;have KW1:=Lib.hid KW1
        cases hw2:zaz x.unt x.mem
        ·have HW:Hid (C=1):=by show C=1;rw [HC.out];exact zc0 HP.out H16.out HF.out hlt (W1.out rfl hle hw1 hw2) (by omega)
         have KW2:=hWB;rw [hw2] at KW2;have KW2:=Lib.hid KW2;clear W6a W6b W5 W1 W0 HF hw1 hw2 hWA hWB
         go_wp2_with fail
         go_quiet (fail)
         go_wp2_with fail
         go_quiet (first|(go_at_call 21;with_reducible exact zce HALL.out _ _ _)|(go_at_call 95;with_reducible exact zce KW1.out _ _ _))
         go_wp2_with fail
         go_quiet ((go_at_call 95;with_reducible exact zce KW2.out _ _ _))
         go_wp2
         go_ret
         exact ⟨za4 (by rw [HW.out];rfl),(by repeat' (first|exact Below.refl _ _|refine zaa ?_ _))⟩
        ·have HF2:=Lib.hid (zh6 HF.out (W0.out rfl hle hw1 hw2))
         have KW2:=hWB;rw [hw2] at KW2;have KW2:=Lib.hid KW2;clear W6a W6b W5 W1 W0 HF hw1 hw2 hWA hWB
         go_wp2_with fail
         go_quiet (fail)
         go_wp2_with fail
         go_quiet (first|(go_at_call 21;with_reducible exact zce HALL.out _ _ _)|(go_at_call 95;with_reducible exact zce KW1.out _ _ _))
         go_wp2_with fail
         go_quiet ((go_at_call 95;with_reducible exact zce KW2.out _ _ _))
         go_wp2
         go_roundw
         case rel=>exact ⟨k+1,by omega,by go_num,HF2.out,_,(by first|rfl|exact World.drewN_drewN _ _ _)⟩
         case measure=>simp [intOf];omega
      ·have hpc:=hp0 hk0
       have ha:=hah1 hk0;rw [<- ha] at hpc;obtain ⟨j,hj⟩:∃ j,j=k - 1:=⟨_,rfl⟩;rw [<- hj] at hpc
       have hw:IntKind.i64.wrap ((k:Int) - 1)=(j:Int):=by rw [IntWalk.i64_in _ (by omega)];omega
       have hw2:(k:Int) - 1=(j:Int):=by omega
       have j0:(0:Int)<=(j:Int):=Int.natCast_nonneg _
       have j1:(j:Int)<(n:Int):=by omega
       have hd3:decide (0<k)=true:=by simp;omega
       clear hah0 hah1 hp0 ha hj
       by_cases hle:x.vid<=ah
       ·have HW:Hid (C=6):=by show C=6;rw [HC.out];exact zc0 HP.out H16.out HF.out hlt (W6b.out rfl hle) (by omega)
        have hd5:decide (x.vid<=ah)=true:=by simp;omega
        clear W6a W6b W5 W1 W0 HF hWA hWB
        go_wp2_with fail
        go_quiet (fail)
        go_wp2
        go_ret
        exact ⟨za4 (by rw [HW.out];rfl),(by repeat' (first|exact Below.refl _ _|refine zaa ?_ _))⟩
       ·have hd5:decide (x.vid<=ah)=false:=by simp;omega
        cases hw1:zaz x.mem al
        ·have HW:Hid (C=5):=by show C=5;rw [HC.out];exact zc0 HP.out H16.out HF.out hlt (W5.out rfl hle hw1) (by omega)
         have KW1:=hWA;rw [hw1] at KW1;have KW1:=Lib.hid KW1;clear W6a W6b W5 W1 W0 HF hw1 hWA hWB
         go_wp2_with fail
         go_quiet (fail)
         go_wp2_with fail
         go_quiet (first|(go_at_call 21;with_reducible exact zce HALL.out _ _ _)|(go_at_call 95;with_reducible exact zce KW1.out _ _ _))
         go_wp2
         go_ret
         exact ⟨za4 (by rw [HW.out];rfl),(by repeat' (first|exact Below.refl _ _|refine zaa ?_ _))⟩
        ·have KW1:=hWA
         rw [hw1] at KW1;have KW1:=Lib.hid KW1
         cases hw2:zaz x.unt x.mem
         ·have HW:Hid (C=1):=by show C=1;rw [HC.out];exact zc0 HP.out H16.out HF.out hlt (W1.out rfl hle hw1 hw2) (by omega)
          have KW2:=hWB;rw [hw2] at KW2;have KW2:=Lib.hid KW2;clear W6a W6b W5 W1 W0 HF hw1 hw2 hWA hWB
          go_wp2_with fail
          go_quiet (fail)
          go_wp2_with fail
          go_quiet (first|(go_at_call 21;with_reducible exact zce HALL.out _ _ _)|(go_at_call 95;with_reducible exact zce KW1.out _ _ _))
          go_wp2_with fail
          go_quiet ((go_at_call 95;with_reducible exact zce KW2.out _ _ _))
          go_wp2
          go_ret
          exact ⟨za4 (by rw [HW.out];rfl),(by repeat' (first|exact Below.refl _ _|refine zaa ?_ _))⟩
         ·have HF2:=Lib.hid (zh6 HF.out (W0.out rfl hle hw1 hw2))
          have KW2:=hWB;rw [hw2] at KW2;have KW2:=Lib.hid KW2;clear W6a W6b W5 W1 W0 HF hw1 hw2 hWA hWB
          go_wp2_with fail
          go_quiet (fail)
          go_wp2_with fail
          go_quiet (first|(go_at_call 21;with_reducible exact zce HALL.out _ _ _)|(go_at_call 95;with_reducible exact zce KW1.out _ _ _))
          go_wp2_with fail
          go_quiet ((go_at_call 95;with_reducible exact zce KW2.out _ _ _))
          go_wp2
          go_roundw
          case rel=>exact ⟨k+1,by omega,by go_num,HF2.out,_,(by first|rfl|exact World.drewN_drewN _ _ _)⟩
          case measure=>simp [intOf];omega
    ·have:k=n:=by omega
     subst this
     go_wp2
     go_ret
     exact ⟨za4 (by rw [HC.out,zo1 HP.out H16.out HF.out];rfl),zaa (Below.refl _ _) _⟩
end
section
open Go.RowKit
set_option maxRecDepth 20000 in
set_option maxHeartbeats 3200000 in
theorem zfs {w:World} {Bo nr nv m:Nat} {vr vv:Value} {lr:List Rl} {lv:List Vl} (hr:Sl w Bo 2 vr nr (rlc lr)) (hv:Sl w Bo 3 vv nv (vlc lv)) (hok:∀ x∈lv,x.ok) (hB:Bo<=w.heap.size) (hf:zdh lr nr m) (P S B n t r nm sh:Int) :
  Calls Tryz.prog 32 #[zbb P vr vv S B n t r nm sh] w (Says (.int .i64 (zgd (zb4 lv P nv) (decide ((nr:Int)=P)) (!decide (m<nr)) (zct S B n && (zaq t 8 && zaq r 64)):Nat)) w):=by
 obtain ⟨Ar,cr,rfl,hcr,hcm⟩:=hr.form;unfold maxLen at hcm
 have HVC:=Lib.hid fun w' (hb:Below w.heap.size w w')=>zmp hok (hv.below (hb.mono hB)) P
 have HV:=Lib.hid hr;have HF:=Lib.hid hf
 have HBR:=Lib.hid fun W=>zkl S B n W
 have HW:=Lib.hid fun p a W=>zml p a W
 clear hr hv hok hf;obtain ⟨c,hc⟩:∃ c,c=zb4 lv P nv:=⟨_,rfl⟩;obtain ⟨zs,hzs⟩:∃ z,z=zct S B n:=⟨_,rfl⟩;rw [<- hc] at HVC;rw [<- hzs] at HBR;rw [<- hc,<- hzs];clear hc hzs;unfold zbb;obtain ⟨X,hX⟩:∃ X:Nat,X=zgd c (decide ((nr:Int)=P)) (!decide (m<nr)) (zs && (zaq t 8 && zaq r 64)):=⟨_,rfl⟩;rw [<- hX];have HX:=Lib.hid hX;clear hX
 have HBOX:Hid (∀ w',Below (w.heap.size+1) (w.alloc (.cells #[.int .i64 P,.slice Ar nr cr,vv,.int .i64 S,.int .i64 B,.int .i64 n,.int .i64 t,.int .i64 r,.int .u32 nm,.int .u32 sh] 28)) w'->w'.cell? ⟨w.heap.size,0,none⟩=some (.int .i64 P)/\w'.cell? ⟨w.heap.size,1,none⟩=some (.slice Ar nr cr)/\w'.cell? ⟨w.heap.size,2,none⟩=some vv/\w'.cell? ⟨w.heap.size,3,none⟩=some (.int .i64 S)/\w'.cell? ⟨w.heap.size,4,none⟩=some (.int .i64 B)/\w'.cell? ⟨w.heap.size,5,none⟩=some (.int .i64 n)/\w'.cell? ⟨w.heap.size,6,none⟩=some (.int .i64 t)/\w'.cell? ⟨w.heap.size,7,none⟩=some (.int .i64 r)):=fun w' hb=>by
  refine ⟨?_,?_,?_,?_,?_,?_,?_,?_⟩ <;>
  ·rw [hb.cell (by show w.heap.size<_;omega)]
   simp [go_sem]
 have HLOW:Hid (∀ w',Below (w.heap.size+1) (w.alloc (.cells #[.int .i64 P,.slice Ar nr cr,vv,.int .i64 S,.int .i64 B,.int .i64 n,.int .i64 t,.int .i64 r,.int .u32 nm,.int .u32 sh] 28)) w'->Below w.heap.size w w'):=fun w' hb=>((Below.refl w.heap.size w).alloc (Nat.le_refl _) _).trans (hb.mono (by omega))
 have HUP:Hid (∀ w' w'',Below (w.heap.size+1) (w.alloc (.cells #[.int .i64 P,.slice Ar nr cr,vv,.int .i64 S,.int .i64 B,.int .i64 n,.int .i64 t,.int .i64 r,.int .u32 nm,.int .u32 sh] 28)) w'->Below w'.heap.size w' w''->Below (w.heap.size+1) (w.alloc (.cells #[.int .i64 P,.slice Ar nr cr,vv,.int .i64 S,.int .i64 B,.int .i64 n,.int .i64 t,.int .i64 r,.int .u32 nm,.int .u32 sh] 28)) w''):=fun w' w'' h1 h2=>h1.trans (h2.mono (by have:=h1.size;simp at this;omega))
 have hq:Below (w.heap.size+1) (w.alloc (.cells #[.int .i64 P,.slice Ar nr cr,vv,.int .i64 S,.int .i64 B,.int .i64 n,.int .i64 t,.int .i64 r,.int .u32 nm,.int .u32 sh] 28)) (w.alloc (.cells #[.int .i64 P,.slice Ar nr cr,vv,.int .i64 S,.int .i64 B,.int .i64 n,.int .i64 t,.int .i64 r,.int .u32 nm,.int .u32 sh] 28)):=Below.refl _ _
 by_cases hc0:c=0
 ·subst hc0
  by_cases hs:(nr:Int)=P
  ·have d2:((nr:Int) != P)=false:=by simp [hs]
   have e2:decide ((nr:Int)=P)=true:=by simp [hs]
   rw [e2] at HX;clear hs e2
   cases zs
   ·go_enter Tryz.func32,Tryz.ntmps32
    go_wp2_with (first
     |(go_at_call 59;(with_reducible refine Calls.mono (HVC.out _ (HLOW.out _ hq)) ?_);rintro e wa ⟨rfl,hba⟩;(have hq:=HUP.out _ _ hq hba);(obtain ⟨q0,q1,q2,q3,q4,q5,q6,q7⟩:=HBOX.out _ hq);clear hba)
     |(go_at_call 60;(with_reducible refine Calls.mono (HBR.out _) ?_);rintro e wa ⟨rfl,hba⟩;(have hq:=HUP.out _ _ hq hba);(obtain ⟨q0,q1,q2,q3,q4,q5,q6,q7⟩:=HBOX.out _ hq);clear hba)
     |fail)
    go_ret
    exact ⟨by rw [HX.out,zeb (by simp)];rfl,HLOW.out _ hq⟩
   ·by_cases h3:1<=t
    ·have d3:decide (t<1)=false:=by simp;omega
     by_cases h4:t<=8
     ·have d4:decide (t > 8)=false:=by simp;omega
      have e4:decide (8<t)=false:=by simp;omega
      by_cases h5:1<=r
      ·have d5:decide (r<1)=false:=by simp;omega
       by_cases h6:r<=64
       ·have d6:decide (r > 64)=false:=by simp;omega
        have e6:decide (64<r)=false:=by simp;omega
        rw [show (zaq t 8 && zaq r 64)=true by simp [zaq, *]] at HX
        go_enter Tryz.func32,Tryz.ntmps32
        go_wp2_with (first
         |(go_at_call 59;(with_reducible refine Calls.mono (HVC.out _ (HLOW.out _ hq)) ?_);rintro e wa ⟨rfl,hba⟩;(have hq:=HUP.out _ _ hq hba);(obtain ⟨q0,q1,q2,q3,q4,q5,q6,q7⟩:=HBOX.out _ hq);clear hba)
         |(go_at_call 60;(with_reducible refine Calls.mono (HBR.out _) ?_);rintro e wa ⟨rfl,hba⟩;(have hq:=HUP.out _ _ hq hba);(obtain ⟨q0,q1,q2,q3,q4,q5,q6,q7⟩:=HBOX.out _ hq);clear hba)
         |fail)
        have hmn:=HF.out.1;have HX2:=Lib.hid HX.out
        go_loopw [4] (fun i wr=>∃ k:Nat,k<=m/\i=.int .i64 k/\Hid (Below (w.heap.size+1) (w.alloc (.cells #[.int .i64 P,.slice Ar nr cr,vv,.int .i64 S,.int .i64 B,.int .i64 n,.int .i64 t,.int .i64 r,.int .u32 nm,.int .u32 sh] 28)) wr)) (fun i _=>nr - (intOf i).toNat)
        case atStart=>exact ⟨0,by omega,rfl,hq⟩
        case round =>
         clear q0 q1 q2 q3 q4 q5 q6 q7 hq;obtain ⟨k,hk,rfl,HB⟩:=hrel;obtain ⟨q0,q1,q2,q3,q4,q5,q6,q7⟩:=HBOX.out _ HB.out
         by_cases hlt:k<nr
         ·obtain ⟨b,off,cap',e,hc1,hc2,hb,hlen,hcell⟩:=HV.out.rlAt (by omega)
          cases e
          obtain ⟨c0,c1⟩:=hcell k hlt;have hbl:=HLOW.out _ HB.out
          have k0:=(hbl.cell (p:=⟨b,off+k*2,none⟩) (by show b<_;omega)).trans c0
          have k1:=(hbl.cell (p:=⟨b,off+k*2+1,none⟩) (by show b<_;omega)).trans c1
          have HK:=HW.out (lr.getD k rl0).pv (lr.getD k rl0).ac
          have hbad:(!(zfv (lr.getD k rl0).pv (lr.getD k rl0).ac))=badR lr k:=rfl
          obtain ⟨z,hz⟩:∃ z,z=zfv (lr.getD k rl0).pv (lr.getD k rl0).ac:=⟨_,rfl⟩;rw [<- hz] at hbad HK;clear hcell c0 c1 hz hbl
          generalize (lr.getD k rl0).pv=P1 at *
          generalize (lr.getD k rl0).ac=P2 at *
          by_cases hkm:k=m
          ·subst hkm
           rw [HF.out.2.2 hlt] at hbad
           have hzf:z=false:=by cases z <;> simp at hbad |-
           rw [hzf] at HK;have HK:=Lib.hid HK
           have hd:decide (k<nr)=true:=by simp;omega
           rw [hd] at HX2;clear hbad hd hzf
           go_wp2_with fail
           refine (HK.out _).mono ?_
           rintro e w1 ⟨rfl,hb1⟩
           go_wp2
           go_ret
           exact ⟨by rw [HX2.out];rfl,HLOW.out _ (HUP.out _ _ HB.out hb1)⟩
          ·rw [HF.out.2.1 k (by omega)] at hbad
           have hzf:z=true:=by cases z <;> simp at hbad |-
           rw [hzf] at HK;have HK:=Lib.hid HK;clear hbad hzf
           go_wp2_with fail
           refine (HK.out _).mono ?_
           rintro e w1 ⟨rfl,hb1⟩;have HB1:=Lib.hid (HUP.out _ _ HB.out hb1);clear hb1
           go_wp2
           go_roundw
           case rel=>exact ⟨k+1,by omega,by go_num,HB1⟩
           case measure=>simp [intOf];omega
         ·have hd:decide (m<nr)=false:=by simp;omega
          rw [hd] at HX2
          go_wp2
          go_ret
          exact ⟨by rw [HX2.out];rfl,HLOW.out _ HB.out⟩
       ·have d6:decide (r > 64)=true:=by simp;omega
        have e6:decide (64<r)=true:=by simp;omega
        rw [show (zaq t 8 && zaq r 64)=false by simp [zaq, *]] at HX
        go_enter Tryz.func32,Tryz.ntmps32
        go_wp2_with (first
         |(go_at_call 59;(with_reducible refine Calls.mono (HVC.out _ (HLOW.out _ hq)) ?_);rintro e wa ⟨rfl,hba⟩;(have hq:=HUP.out _ _ hq hba);(obtain ⟨q0,q1,q2,q3,q4,q5,q6,q7⟩:=HBOX.out _ hq);clear hba)
         |(go_at_call 60;(with_reducible refine Calls.mono (HBR.out _) ?_);rintro e wa ⟨rfl,hba⟩;(have hq:=HUP.out _ _ hq hba);(obtain ⟨q0,q1,q2,q3,q4,q5,q6,q7⟩:=HBOX.out _ hq);clear hba)
         |fail)
        go_ret
        exact ⟨by rw [HX.out,zeb (by simp)];rfl,HLOW.out _ hq⟩
      ·have d5:decide (r<1)=true:=by simp;omega
       rw [show (zaq t 8 && zaq r 64)=false by simp [zaq, *]] at HX
       go_enter Tryz.func32,Tryz.ntmps32
       go_wp2_with (first
        |(go_at_call 59;(with_reducible refine Calls.mono (HVC.out _ (HLOW.out _ hq)) ?_);rintro e wa ⟨rfl,hba⟩;(have hq:=HUP.out _ _ hq hba);(obtain ⟨q0,q1,q2,q3,q4,q5,q6,q7⟩:=HBOX.out _ hq);clear hba)
        |(go_at_call 60;(with_reducible refine Calls.mono (HBR.out _) ?_);rintro e wa ⟨rfl,hba⟩;(have hq:=HUP.out _ _ hq hba);(obtain ⟨q0,q1,q2,q3,q4,q5,q6,q7⟩:=HBOX.out _ hq);clear hba)
        |fail)
       go_ret
       exact ⟨by rw [HX.out,zeb (by simp)];rfl,HLOW.out _ hq⟩
     ·have d4:decide (t > 8)=true:=by simp;omega
      have e4:decide (8<t)=true:=by simp;omega
      rw [show (zaq t 8 && zaq r 64)=false by simp [zaq, *]] at HX
      go_enter Tryz.func32,Tryz.ntmps32
      go_wp2_with (first
       |(go_at_call 59;(with_reducible refine Calls.mono (HVC.out _ (HLOW.out _ hq)) ?_);rintro e wa ⟨rfl,hba⟩;(have hq:=HUP.out _ _ hq hba);(obtain ⟨q0,q1,q2,q3,q4,q5,q6,q7⟩:=HBOX.out _ hq);clear hba)
       |(go_at_call 60;(with_reducible refine Calls.mono (HBR.out _) ?_);rintro e wa ⟨rfl,hba⟩;(have hq:=HUP.out _ _ hq hba);(obtain ⟨q0,q1,q2,q3,q4,q5,q6,q7⟩:=HBOX.out _ hq);clear hba)
       |fail)
      go_ret
      exact ⟨by rw [HX.out,zeb (by simp)];rfl,HLOW.out _ hq⟩
    ·have d3:decide (t<1)=true:=by simp;omega
     rw [show (zaq t 8 && zaq r 64)=false by simp [zaq, *]] at HX
     go_enter Tryz.func32,Tryz.ntmps32
     go_wp2_with (first
      |(go_at_call 59;(with_reducible refine Calls.mono (HVC.out _ (HLOW.out _ hq)) ?_);rintro e wa ⟨rfl,hba⟩;(have hq:=HUP.out _ _ hq hba);(obtain ⟨q0,q1,q2,q3,q4,q5,q6,q7⟩:=HBOX.out _ hq);clear hba)
      |(go_at_call 60;(with_reducible refine Calls.mono (HBR.out _) ?_);rintro e wa ⟨rfl,hba⟩;(have hq:=HUP.out _ _ hq hba);(obtain ⟨q0,q1,q2,q3,q4,q5,q6,q7⟩:=HBOX.out _ hq);clear hba)
      |fail)
     go_ret
     exact ⟨by rw [HX.out,zeb (by simp)];rfl,HLOW.out _ hq⟩
  ·have d2:((nr:Int) != P)=true:=by simp [hs]
   have e2:decide ((nr:Int)=P)=false:=by simp [hs]
   rw [e2] at HX;clear hs e2
   go_enter Tryz.func32,Tryz.ntmps32
   go_wp2_with (first
    |(go_at_call 59;(with_reducible refine Calls.mono (HVC.out _ (HLOW.out _ hq)) ?_);rintro e wa ⟨rfl,hba⟩;(have hq:=HUP.out _ _ hq hba);(obtain ⟨q0,q1,q2,q3,q4,q5,q6,q7⟩:=HBOX.out _ hq);clear hba)
    |(go_at_call 60;(with_reducible refine Calls.mono (HBR.out _) ?_);rintro e wa ⟨rfl,hba⟩;(have hq:=HUP.out _ _ hq hba);(obtain ⟨q0,q1,q2,q3,q4,q5,q6,q7⟩:=HBOX.out _ hq);clear hba)
    |fail)
   go_ret
   exact ⟨by rw [HX.out,zeb (by simp)];rfl,HLOW.out _ hq⟩
 ·have d1:((c:Int) != 0)=true:=by simp;omega
  go_enter Tryz.func32,Tryz.ntmps32
  go_wp2_with (first
   |(go_at_call 59;(with_reducible refine Calls.mono (HVC.out _ (HLOW.out _ hq)) ?_);rintro e wa ⟨rfl,hba⟩;(have hq:=HUP.out _ _ hq hba);(obtain ⟨q0,q1,q2,q3,q4,q5,q6,q7⟩:=HBOX.out _ hq);clear hba)
   |(go_at_call 60;(with_reducible refine Calls.mono (HBR.out _) ?_);rintro e wa ⟨rfl,hba⟩;(have hq:=HUP.out _ _ hq hba);(obtain ⟨q0,q1,q2,q3,q4,q5,q6,q7⟩:=HBOX.out _ hq);clear hba)
   |fail)
  go_ret
  exact ⟨by rw [HX.out,zpb hc0];rfl,HLOW.out _ hq⟩
end
end Go.Proofs.YtfekhdgjgjodlaaGreat
