/-
  Behind any acts, by any turns, when all are over, no lock is anybody's. No condition.
-/
import Derived.Test.YthloabdfkakehaaRows
import Derived.Test.YthloabdfkakehaaFgS
import Derived.Test.YthloabdfkakehaaFgN
import Derived.Test.YthloabdfkakehaaFgT
import Derived.Test.YthloabdfkakehaaFeJ
import Derived.Test.YthloabdfkakehaaFeK
import Derived.Test.YthloabdfkakehaaTicks
import Derived.Test.YthloabdfkakehaaBkE
import Derived.WalkMore
import Derived.BigGuard
import Derived.WalkKit
import Derived.ProofKit
import Derived.OpenShut
namespace Go.Proofs.Ythloabdfkakehaa.fdbLocks
open Go.ChangeShapes Go.WideShapes Go.ChangeAt Go.RowKit
open Go.ChangeMaps (open_string)
set_option linter.unusedVariables false

theorem own:ownKnob Try.prog.godebug=none:=by kernel_rfl

set_option maxRecDepth 20000 in
set_option maxHeartbeats 25600000 in
theorem walk (W:World) (a0 e0 c0 t0:Int) (a1:Value) (b1:OpsRows W a1) (a2:Value) (l2:List Int) (b2:Sl W W.heap.size 1 a2 l2.length (kv .i64 l2)) (c2:∀ x ∈ l2,-9223372036854775808≤x∧x≤9223372036854775807) :
    Calls Try.prog 4 #[.agg #[.int .i64 a0,.int .i64 e0,.int .i64 c0,.int .i64 t0],a1,a2] W (Says (.bool true) W):=by
  obtain ⟨_,A2,cap,rfl,hc1,hc2,hA⟩:=b2
  have HPK:Hid (0 < l2.length→∃ b off,A2=some ⟨b,off,none⟩∧b < W.heap.size∧∀ i,i < l2.length→W.cell? ⟨b,off + i,none⟩=some (.int .i64 (l2.getD i 0))):=fun h0 => by
    obtain ⟨b,off,e,hb,hc⟩:=hA h0
    exact ⟨b,off,e,hb,fun i hi => (hc i (by omega)).trans (kv_getElem? .i64 l2 i hi)⟩
  unfold maxLen at hc2
  obtain ⟨len,hlen⟩:∃ n,n=l2.length:=⟨_,rfl⟩
  rw [← hlen] at HPK hc1 ⊢
  clear hA hlen c2
  obtain ⟨w1,hw1⟩:∃ w1,w1=(W.alloc (.cells #[.int .i64 a0,.int .i64 e0,.int .i64 c0,.int .i64 t0] 25)):=⟨_,rfl⟩
  have HB1:Hid (Below W.heap.size W w1):=by rw [hw1]; exact (Below.refl _ _).alloc (Nat.le_refl _) _
  have HBG:Hid (Calls Try.prog 31 #[.agg #[.int .i64 a0,.int .i64 e0,.int .i64 c0],.int .i64 t0,a1] w1 (BegunRun w1)):=law12_begin a0 e0 c0 t0 a1 (b1.below HB1.out)
  rw [hw1] at HBG
  clear b1
  go_enter Try.func4,Try.ntmps4
  go_wp2_with fail
  refine (HBG.out).mono ?_
  rw [← hw1]
  rintro e w2 ⟨C,K9,lo,b,fb,rb,L,F,P,ls,lv,rfl,hrun,hb,x1,x2,x3,hP,hl,hk9,hlk⟩
  have HB2:=Lib.hid (HB1.out.trans (hb.mono HB1.out.size))
  have HX:Hid (W.heap.size≤lo∧W.heap.size≤rb∧W.heap.size≤L):=by have:=HB1.out.size; exact ⟨by omega,by omega,by omega⟩
  have HR2:=Lib.hid hrun
  have HL:=Lib.hid hl
  have HK9:=Lib.hid (And.intro hk9 hlk)
  clear hw1 HBG HB1 hrun hb x1 x2 x3 hl hk9 hlk
  go_wp2_with (first | go_big_skip | fail)
  refine (law12_told _).mono ?_
  rintro e w3 ⟨rfl,hb⟩
  have HR:=Lib.hid (HR2.out.below hb)
  have HB:=Lib.hid (HB2.out.trans (hb.mono HB2.out.size))
  clear HR2 HB2 hb
  obtain ⟨K,hK⟩:∃ K,K=if P=0 then 0 else min len 600:=⟨_,rfl⟩
  have HKK:Hid (∀ k,k < K→k < len∧k < 600∧1≤P):=fun k h => by
    rw [hK] at h
    by_cases e:P=0
    · rw [if_pos e] at h; omega
    · rw [if_neg e] at h; omega
  have HNN:Hid (∀ k,k≤K→¬ k < K→k≤600∧(len≤k ∨ (k < len∧600≤k) ∨ (k < len∧k < 600∧P=0))):=fun k a b => by
    rw [hK] at a b
    by_cases e:P=0
    · rw [if_pos e] at a b; omega
    · rw [if_neg e] at a b; omega
  have hPi:(P:Int)≤6:=by omega
  clear hK
  go_wp2
  go_loopw [8] (fun i wr => ∃ (k:Nat) (s:RunS),k≤K∧i=.int .i64 k∧s.m.t≤k∧Hid (RunAt wr lo b fb rb L F P ls lv s)∧Hid (Below W.heap.size W wr)) (fun i _ => K - (intOf i).toNat)
  case atStart => exact ⟨0,_,by omega,rfl,Int.le_refl 0,HR,HB⟩
  case round =>
    obtain ⟨k,s,hk,rfl,hst,HR',HB'⟩:=hrel
    have HR:=HR'
    have HB:=HB'
    clear HR' HB'
    by_cases hlt:k < K
    · obtain ⟨hk1,hk2,hP1⟩:=HKK.out k hlt
      have g0:(0:Int)≤(k:Int):=Int.natCast_nonneg _
      have g1:(k:Int) < (len:Int):=by omega
      have g2:(k:Int) < 600:=by omega
      have g3:(0:Int) < (P:Int):=by omega
      obtain ⟨x,hx⟩:∃ x,x=l2.getD k 0:=⟨_,rfl⟩
      obtain ⟨bp,op,hA2,hlt2,hc2⟩:=HPK.out (by omega)
      subst hA2
      have pk:wr.cell? ⟨bp,op + k,none⟩=some (.int .i64 x):=by rw [hx]; exact (HB.out.cell (p:=⟨bp,op + k,none⟩) hlt2).trans (hc2 k (by omega))
      obtain ⟨p,hp,hpw,hpw2⟩:=pick_mod x (P:=P) (by omega) (by omega)
      have hPu:IntKind.u64.wrap ((P:Nat):Int)=(P:Int):=by rw [IntKind.wrap_u64]; omega
      have hP0:¬ ((P:Nat):Int)=0:=by omega
      have hP00:¬ P=0:=by omega
      have HST:=Lib.hid (law12_step (HR.out.below (Below.refl _ _).drew) hP HL.out (by have:=hst; show s.m.t≤_; omega) hp)
      obtain ⟨g,ab,Es,V,hM,hK⟩:=HR.out
      obtain ⟨q0,c0',e0',k0,m0,_,_⟩:=(hM.slice (k:=0) (by omega) rfl).2 (by omega)
      unfold maxLen at m0
      have r6:wr.cell? ⟨rb,6,none⟩=some (V 0):=hM.cell (i:=6) (by omega)
      rw [e0'] at r6
      clear hM hK e0'
      clear hx hc2 hlt2 HNN HKK
      go_wp2_with (first | go_big_skip | fail)
      refine startQ (S:=fun w' => w'.cell? ⟨bp,op + k,none⟩=some (.int .i64 x)∧w'.cell? ⟨rb,6,none⟩=some (.slice (some ⟨q0,0,none⟩) P c0')) 14 (by kernel_rfl) ⟨pk,r6⟩ (fun hHeld => ?_)
      obtain ⟨wd,hw9⟩:∃ w',w'=wr.drew:=⟨_,rfl⟩
      rw [← hw9] at hHeld HST ⊢
      have HWD:Hid (Below wr.heap.size wr wd):=by rw [hw9]; exact (Below.refl _ _).drew
      clear hw9 pk r6
      refine tkQ 0 [] rfl ?_
      refine tkQ 1 [13,12,5,4,3] rfl ?_
      refine tkQ 2 [13,12,5,4,3] rfl ?_
      refine tkQ 3 [13,12,5,4] rfl ?_
      refine tkQ 4 [13,12,5] rfl ?_
      refine tkQ 5 [13,12] rfl ?_
      refine tkQ 6 [13,12,11,10,9,8,7] rfl ?_
      refine tkQ 7 [13,12,11,10,9,8] rfl ?_
      refine tkQ 8 [13,12,11,10,9] rfl ?_
      refine tkQ 9 [13,12,11,10] rfl ?_
      refine tkQ 10 [13,12,11] rfl ?_
      refine tkQ 11 [13,12] rfl ?_
      refine tkQ 12 [13] rfl ?_
      refine tkQ 13 [] rfl ?_
      refine readyQ (rs:=[14]) (by kernel_rfl) (by simp) ?_
      refine (acQ rfl (fun K hK => ?_) nilQ)
      go_simp
      refine (HST.out).mono ?_
      rintro e w5 ⟨z,s1,rfl,hrun,htch,hsr⟩
      refine hK.out _ _ ?_ (fun hHeld => ?_)
      · (try dsimp only)
        intro h9; exact absurd h9 (by decide)
      clear hK K
      (try simp only [Act.put,sqA,sqB,sqC])
      clear hHeld
      refine dnQ ?_
      have HS:Hid (s1.m.t≤s.m.t + 1):=Lib.hid hsr.t
      have HR':=Lib.hid hrun
      have HB':=Lib.hid (run_turn htch (HB.out.trans (HWD.out.mono HB.out.size)) HX.out.1 HX.out.2.1 HX.out.2.2)
      clear hrun htch hsr HST HR HB HWD hPu hP0 hP00 hpw hpw2 k0 m0 hp
      go_wp2
      go_roundw
      case rel => exact ⟨k + 1,s1,by omega,by go_num,by have h9:=HS.out; rw [Int.natCast_add]; have h8:=hst; revert h8 h9; generalize s1.m.t=y; generalize s.m.t=z; intro h8 h9; omega,HR',HB'⟩
      case measure => simp [intOf]; omega
    · obtain ⟨hk9,hfin⟩:=HNN.out k hk hlt
      have hst9:s.m.t≤2000:=by omega
      clear HNN HKK
      rcases hfin with hf | ⟨hf0,hf⟩ | ⟨hf0,hf2,hf⟩
      · have hf1:¬ (k:Int) < (len:Int):=by omega
        clear hf
        go_upto_region 8 with (first | go_big_skip | fail)
        (try clear hf4)
        obtain ⟨g,ab,Es,V,hM,hK⟩:=HR.out
        have r2:wr.cell? ⟨rb,2,none⟩=some (.int .i64 (F.S:Nat)):=hM.cell (i:=2) (by omega)
        have r3:wr.cell? ⟨rb,3,none⟩=some (.int .i64 (F.B:Nat)):=hM.cell (i:=3) (by omega)
        have r4:wr.cell? ⟨rb,4,none⟩=some (.int .i64 (F.n:Nat)):=hM.cell (i:=4) (by omega)
        have r5:wr.cell? ⟨rb,5,none⟩=some (.int .i64 (F.tr:Nat)):=hM.cell (i:=5) (by omega)
        have hrw:rb < wr.heap.size:=by have:=hM.ord; omega
        have HFT:=Lib.hid hM.acts.fd.fits
        have hle:=hK.le (fun _ => true)
        have hlt9:=leftR_le (s:=s) HL.out
        have hbl:=bound_le HFT.out
        have HBN:=Lib.hid fun V => ref12_BoundY F.S F.B F.n HFT.out.S HFT.out.B HFT.out.n F.tr HFT.out.tr V
        have HLF:=Lib.hid fun w' (h:RunAt w' lo b fb rb L F P ls lv s) => law12_left h hP fun p hp => (HL.out p hp).1
        obtain ⟨lf,hlf⟩:∃ n,n=leftR P ls s:=⟨_,rfl⟩
        obtain ⟨bd,hbd⟩:∃ n,n=boundF F:=⟨_,rfl⟩
        rw [← hlf] at hle hlt9
        rw [← hbd] at hle hbl
        simp only [← hlf] at HLF
        have HBN:Hid (∀ V,Calls Try.prog 15 #[.agg #[.int .i64 (F.S:Nat),.int .i64 (F.B:Nat),.int .i64 (F.n:Nat)],.int .i64 (F.tr:Nat)] V (Says (.int .i64 (bd:Nat)) V)):=fun V => by rw [hbd]; exact HBN.out V
        obtain ⟨mo,hmo⟩:∃ n,n=lf * bd:=⟨_,rfl⟩
        rw [← hmo] at hle
        have h78:lf≤78:=by omega
        have hmo9:mo≤780000:=by rw [hmo]; exact Nat.mul_le_mul h78 hbl
        have hmoI:(mo:Int)≤780000:=Int.ofNat_le.2 hmo9
        have y1:IntKind.i64.wrap ((lf:Int) * (bd:Int))=(mo:Int):=by rw [← Int.natCast_mul,← hmo]; exact IntWalk.i64_in _ (by omega)
        have y2:wrap64 ((lf:Int) * (bd:Int))=(mo:Int):=by rw [← Int.natCast_mul,← hmo]; exact IntWalk.wrap64_in _ (by omega)
        have HLE:=Lib.hid hle
        clear hM hK hle hlt9 hbl hlf hbd hmo
        go_wp2_with (first | go_big_skip | fail)
        refine wp_region_held_drew (S:=fun w' => w'.cell? ⟨rb,2,none⟩=some (.int .i64 (F.S:Nat))∧w'.cell? ⟨rb,3,none⟩=some (.int .i64 (F.B:Nat))∧w'.cell? ⟨rb,4,none⟩=some (.int .i64 (F.n:Nat))∧w'.cell? ⟨rb,5,none⟩=some (.int .i64 (F.tr:Nat))) (by kernel_rfl) ?_ (fun hHeld => ?_)
        · exact ⟨r2,r3,r4,r5⟩
        obtain ⟨u0,hu0⟩:∃ w',w'=wr.drew:=⟨_,rfl⟩
        have hb:Below wr.heap.size wr u0:=by rw [hu0]; exact (Below.refl _ _).drew
        rw [← hu0] at hHeld ⊢
        clear hu0
        have HR:=Lib.hid (HR.out.below hb)
        have HB:=Lib.hid (HB.out.trans (hb.mono HB.out.size))
        have r2:=(hb.cell (p:=⟨rb,2,none⟩) hrw).trans r2
        have r3:=(hb.cell (p:=⟨rb,3,none⟩) hrw).trans r3
        have r4:=(hb.cell (p:=⟨rb,4,none⟩) hrw).trans r4
        have r5:=(hb.cell (p:=⟨rb,5,none⟩) hrw).trans r5
        have hrw:=Nat.lt_of_lt_of_le hrw hb.size
        clear hb
        refine tkR 0 rfl ?_
        refine tkR 2 rfl ?_
        refine tkR 3 rfl ?_
        refine tkR 4 rfl ?_
        refine tkR 5 rfl ?_
        refine tkR 6 rfl ?_
        refine tkR 7 rfl ?_
        refine tkR 8 rfl ?_
        refine tkR 9 rfl ?_
        refine clR 1 rfl fun K hK => ?_
        go_simp
        refine (HLF.out _ HR.out).mono ?_
        rintro e u1 ⟨rfl,hb⟩
        have HR:=Lib.hid (HR.out.below hb)
        have HB:=Lib.hid (HB.out.trans (hb.mono HB.out.size))
        have r2:=(hb.cell (p:=⟨rb,2,none⟩) hrw).trans r2
        have r3:=(hb.cell (p:=⟨rb,3,none⟩) hrw).trans r3
        have r4:=(hb.cell (p:=⟨rb,4,none⟩) hrw).trans r4
        have r5:=(hb.cell (p:=⟨rb,5,none⟩) hrw).trans r5
        have hrw:=Nat.lt_of_lt_of_le hrw hb.size
        clear hb

        refine hK.out _ _ ?_ (fun hHeld => ?_)
        · (try dsimp only)
          exact ⟨r2,r3,r4,r5⟩
        clear hK K
        (try simp only [Act.put,sqA,sqB,sqC])
        refine clR 10 rfl fun K hK => ?_
        go_simp
        refine (HBN.out _).mono ?_
        rintro e u2 ⟨rfl,hb⟩
        have HR:=Lib.hid (HR.out.below hb)
        have HB:=Lib.hid (HB.out.trans (hb.mono HB.out.size))
        have r2:=(hb.cell (p:=⟨rb,2,none⟩) hrw).trans r2
        have r3:=(hb.cell (p:=⟨rb,3,none⟩) hrw).trans r3
        have r4:=(hb.cell (p:=⟨rb,4,none⟩) hrw).trans r4
        have r5:=(hb.cell (p:=⟨rb,5,none⟩) hrw).trans r5
        have hrw:=Nat.lt_of_lt_of_le hrw hb.size
        clear hb

        refine hK.out _ _ ?_ (fun hHeld => ?_)
        · (try dsimp only)
          exact ⟨r2,r3,r4,r5⟩
        clear hK K
        (try simp only [Act.put,sqA,sqB,sqC])
        refine tkR 11 rfl ?_
        refine tkR 12 rfl ?_
        refine wpAnyH_done (by kernel_rfl) ?_ _
        clear hHeld r2 r3 r4 r5 HLF HBN y1 y2 hrw
        go_wp2
        go_loopw [10] (fun i wr => ∃ (n:Nat) (s2:RunS),n≤mo∧i=.int .i64 n∧s2.m.t≤2000 + 6 * (n:Int)∧muR F P ls (fun _ => true) s2 + n≤mo∧Hid (RunAt wr lo b fb rb L F P ls lv s2)∧Hid (Below W.heap.size W wr)) (fun i _ => mo - (intOf i).toNat)
        case atStart => exact ⟨0,s,by omega,rfl,by omega,HLE.out,HR,HB⟩
        case round =>
          obtain ⟨n,s2,hn,rfl,ht2,hmu2,HR',HB'⟩:=hrel
          have HR:=HR'
          have HB:=HB'
          clear HR' HB' HLE
          have HLW:=law12_left HR.out hP fun p hp => (HL.out p hp).1
          have HK2:Hid (∃ g,RunK F P ls s2 g):=by
            obtain ⟨g,ab,Es,V,hM,hK⟩:=HR.out
            exact ⟨g,hK⟩
          obtain ⟨l2',hl2⟩:∃ n,n=leftR P ls s2:=⟨_,rfl⟩
          rw [← hl2] at HLW
          have HLW:=Lib.hid HLW
          have HL2:=Lib.hid hl2
          by_cases hnm:n < mo
          · have n1:(n:Int) < (mo:Int):=by omega
            by_cases hl0:0 < l2'
            · have n2:(0:Int) < (l2':Int):=by omega
              clear hl2
              go_wp2_with (first | go_big_skip | fail)
              refine (HLW.out).mono ?_
              rintro e wa ⟨rfl,hb⟩
              have HR:=Lib.hid (HR.out.below hb)
              have HB:=Lib.hid (HB.out.trans (hb.mono HB.out.size))
              clear hb
              clear HLW
              go_wp2
              go_loopw [11] (fun i wr => ∃ (j:Nat) (s3:RunS),j≤P∧i=.int .i64 j∧s3.m.t≤2000 + 6 * (n:Int) + (j:Int)∧Hid (RoundR F P ls (fun _ => true) s2 j s3)∧Hid (RunAt wr lo b fb rb L F P ls lv s3)∧Hid (Below W.heap.size W wr)) (fun i _ => P - (intOf i).toNat)
              case atStart => exact ⟨0,s2,by omega,rfl,by omega,RoundR.start s2,HR,HB⟩
              case round =>
                obtain ⟨j,s3,hj,rfl,ht3,HRD,HR',HB'⟩:=hrel
                have HR:=HR'
                have HB:=HB'
                clear HR' HB'
                obtain ⟨g,ab,Es,V,hM,hK⟩:=HR.out
                obtain ⟨⟨q0,c0',e0',k0,m0⟩,_⟩:=hM.slice (k:=0) (by omega) rfl
                unfold maxLen at m0
                have r6:wr.cell? ⟨rb,6,none⟩=some (V 0):=hM.cell (i:=6) (by omega)
                rw [e0'] at r6
                clear hM hK e0'
                by_cases hjP:j < P
                · have j1:(j:Int) < (P:Int):=by omega
                  have HST:=Lib.hid (law12_step HR.out hP HL.out (by omega) hjP)
                  go_wp2_with fail
                  refine (HST.out).mono ?_
                  rintro e w5 ⟨z,s4,rfl,hrun,htch,hsr⟩
                  have HS:Hid (s4.m.t≤s3.m.t + 1):=Lib.hid hsr.t
                  have HRD':Hid (RoundR F P ls (fun _ => true) s2 (j + 1) s4):=by
                    obtain ⟨g,ab,Es,V,hM,hK⟩:=HR.out
                    exact HRD.out.step hK HFT.out hjP rfl hsr
                  have HR':=Lib.hid hrun
                  have HB':=Lib.hid (run_turn htch HB.out HX.out.1 HX.out.2.1 HX.out.2.2)
                  clear hrun htch hsr HST HR HB HRD r6 k0 m0
                  go_wp2
                  go_roundw
                  case rel => exact ⟨j + 1,s4,by omega,by go_num,by have h9:=HS.out; revert ht3 h9; generalize s4.m.t=y; generalize s3.m.t=z'; intro h8 h9; omega,HRD',HR',HB'⟩
                  case measure => simp [intOf]; omega
                · obtain rfl:j=P:=by omega
                  have j1:¬ (j:Int) < (j:Int):=by omega
                  have hless:muR F j ls (fun _ => true) s3 < muR F j ls (fun _ => true) s2:=by
                    obtain ⟨g,hK⟩:=HK2.out
                    rcases HRD.out.done hK (fun p _ h => by cases h) with h9 | h9
                    · exact h9
                    · exfalso
                      have:=leftR_zero (s:=s2) fun p hp => h9 p hp rfl
                      have:=HL2.out
                      omega
                  clear HRD
                  go_wp2
                  go_roundw
                  case rel => exact ⟨n + 1,s3,by omega,by go_num,by rw [Int.natCast_add]; revert ht3; generalize s3.m.t=y; intro h8; omega,by omega,HR,HB⟩
                  case measure => simp [intOf]; omega
            · have hl00:l2'=0:=by omega
              subst hl00
              have hall:∀ p,p < P→s2.nw p=-1∧s2.at_ p=(ls p).length:=by
                obtain ⟨g,hK⟩:=HK2.out
                exact leftR_all hK hl2.symm
              have HALL:=Lib.hid hall
              clear hall hl2
              go_wp2_with (first | go_big_skip | fail)
              refine (HLW.out).mono ?_
              rintro e wa ⟨rfl,hb⟩
              have HR:=Lib.hid (HR.out.below hb)
              have HB:=Lib.hid (HB.out.trans (hb.mono HB.out.size))
              clear hb
              clear HLW
              obtain ⟨g,ab,Es,V,hM,hK⟩:=HR.out
              have HFRE:Hid (∀ x:Nat,s2.m.h x=-1):=fun x => hK.run.free (over_all hK HALL.out) x
              have hS9:=hM.acts.fd.fits.S
              clear hM hK
              have h00:=leftR_zero HALL.out
              have HL00:=Lib.hid h00
              clear h00
              obtain ⟨Sv,hSv⟩:∃ Sv,Sv=F.S:=⟨_,rfl⟩
              have HSV:=Lib.hid hSv
              have hS8:Sv≤8:=by omega
              have hSi:(Sv:Int)≤8:=by omega
              clear hS9 hSv
              go_wp2
              go_loopw [12] (fun i wr => ∃ l:Nat,l≤Sv + 2∧i=.int .i64 l∧Hid (RunAt wr lo b fb rb L F P ls lv s2)∧Hid (Below W.heap.size W wr)) (fun i _ => Sv + 2 - (intOf i).toNat)
              case atStart => exact ⟨0,by omega,rfl,HR,HB⟩
              case round =>
                obtain ⟨l,hl9,rfl,HR',HB'⟩:=hrel
                have HR:=HR'
                have HB:=HB'
                clear HR' HB'
                obtain ⟨g,ab,Es,V,hM,hK⟩:=HR.out
                have r0:wr.cell? ⟨rb,0,none⟩=some (.pointer (some ⟨b,0,none⟩)):=hM.cell (i:=0) (by omega)
                have r2:wr.cell? ⟨rb,2,none⟩=some (.int .i64 (F.S:Nat)):=hM.cell (i:=2) (by omega)
                rw [← HSV.out] at r2
                by_cases hlS:l < Sv + 2
                · have l1:(l:Int) < (Sv:Int) + 2:=by omega
                  have l2:(l:Int) < 100:=by omega
                  have HHO:=mem_Holder (l:Int) hM.acts.fd.mem
                  rw [show holdS s2.m (l:Int)=-1 by unfold holdS; split; exact HFRE.out _; rfl] at HHO
                  have HHO:=Lib.hid HHO
                  clear hM hK
                  go_wp2_with fail
                  refine (HHO.out).mono ?_
                  rintro e wq ⟨rfl,rfl⟩
                  clear HHO r0 r2
                  go_wp2
                  go_roundw
                  case rel => exact ⟨l + 1,by omega,by go_num,HR,HB⟩
                  case measure => simp [intOf]; omega
                · have l1:¬ (l:Int) < (Sv:Int) + 2:=by omega
                  have HLW:=law12_left HR.out hP fun p hp => (HL.out p hp).1
                  rw [HL00.out] at HLW
                  have HLW:=Lib.hid HLW
                  clear hM hK
                  go_wp2_with fail
                  refine (HLW.out).mono ?_
                  rintro e wa ⟨rfl,hba⟩
                  have HB:=Lib.hid (HB.out.trans (hba.mono HB.out.size))
                  clear HLW hba
                  go_wp2
                  go_ret
                  exact ⟨by first | rfl | (simp; done),HB.out⟩
          · have hall:∀ p,p < P→s2.nw p=-1∧s2.at_ p=(ls p).length:=by
              obtain ⟨g,hK⟩:=HK2.out
              exact fun p hp => muR_zero (Q:=fun _ => true) hK (by omega) p hp rfl
            have n1:¬ (n:Int) < (mo:Int):=by omega
            have HALL:=Lib.hid hall
            have HL20:=leftR_zero hall
            clear hall HLW
            obtain ⟨g,ab,Es,V,hM,hK⟩:=HR.out
            have HFRE:Hid (∀ x:Nat,s2.m.h x=-1):=fun x => hK.run.free (over_all hK HALL.out) x
            have hS9:=hM.acts.fd.fits.S
            clear hM hK
            have h00:=leftR_zero HALL.out
            have HL00:=Lib.hid h00
            clear h00
            obtain ⟨Sv,hSv⟩:∃ Sv,Sv=F.S:=⟨_,rfl⟩
            have HSV:=Lib.hid hSv
            have hS8:Sv≤8:=by omega
            have hSi:(Sv:Int)≤8:=by omega
            clear hS9 hSv
            go_wp2
            go_loopw [12] (fun i wr => ∃ l:Nat,l≤Sv + 2∧i=.int .i64 l∧Hid (RunAt wr lo b fb rb L F P ls lv s2)∧Hid (Below W.heap.size W wr)) (fun i _ => Sv + 2 - (intOf i).toNat)
            case atStart => exact ⟨0,by omega,rfl,HR,HB⟩
            case round =>
              obtain ⟨l,hl9,rfl,HR',HB'⟩:=hrel
              have HR:=HR'
              have HB:=HB'
              clear HR' HB'
              obtain ⟨g,ab,Es,V,hM,hK⟩:=HR.out
              have r0:wr.cell? ⟨rb,0,none⟩=some (.pointer (some ⟨b,0,none⟩)):=hM.cell (i:=0) (by omega)
              have r2:wr.cell? ⟨rb,2,none⟩=some (.int .i64 (F.S:Nat)):=hM.cell (i:=2) (by omega)
              rw [← HSV.out] at r2
              by_cases hlS:l < Sv + 2
              · have l1:(l:Int) < (Sv:Int) + 2:=by omega
                have l2:(l:Int) < 100:=by omega
                have HHO:=mem_Holder (l:Int) hM.acts.fd.mem
                rw [show holdS s2.m (l:Int)=-1 by unfold holdS; split; exact HFRE.out _; rfl] at HHO
                have HHO:=Lib.hid HHO
                clear hM hK
                go_wp2_with fail
                refine (HHO.out).mono ?_
                rintro e wq ⟨rfl,rfl⟩
                clear HHO r0 r2
                go_wp2
                go_roundw
                case rel => exact ⟨l + 1,by omega,by go_num,HR,HB⟩
                case measure => simp [intOf]; omega
              · have l1:¬ (l:Int) < (Sv:Int) + 2:=by omega
                have HLW:=law12_left HR.out hP fun p hp => (HL.out p hp).1
                rw [HL00.out] at HLW
                have HLW:=Lib.hid HLW
                clear hM hK
                go_wp2_with fail
                refine (HLW.out).mono ?_
                rintro e wa ⟨rfl,hba⟩
                have HB:=Lib.hid (HB.out.trans (hba.mono HB.out.size))
                clear HLW hba
                go_wp2
                go_ret
                exact ⟨by first | rfl | (simp; done),HB.out⟩
      · have hf1:(k:Int) < (len:Int):=by omega
        have hf3:¬ (k:Int) < 600:=by omega
        clear hf hf0
        go_upto_region 8 with (first | go_big_skip | fail)
        (try clear hf4)
        obtain ⟨g,ab,Es,V,hM,hK⟩:=HR.out
        have r2:wr.cell? ⟨rb,2,none⟩=some (.int .i64 (F.S:Nat)):=hM.cell (i:=2) (by omega)
        have r3:wr.cell? ⟨rb,3,none⟩=some (.int .i64 (F.B:Nat)):=hM.cell (i:=3) (by omega)
        have r4:wr.cell? ⟨rb,4,none⟩=some (.int .i64 (F.n:Nat)):=hM.cell (i:=4) (by omega)
        have r5:wr.cell? ⟨rb,5,none⟩=some (.int .i64 (F.tr:Nat)):=hM.cell (i:=5) (by omega)
        have hrw:rb < wr.heap.size:=by have:=hM.ord; omega
        have HFT:=Lib.hid hM.acts.fd.fits
        have hle:=hK.le (fun _ => true)
        have hlt9:=leftR_le (s:=s) HL.out
        have hbl:=bound_le HFT.out
        have HBN:=Lib.hid fun V => ref12_BoundY F.S F.B F.n HFT.out.S HFT.out.B HFT.out.n F.tr HFT.out.tr V
        have HLF:=Lib.hid fun w' (h:RunAt w' lo b fb rb L F P ls lv s) => law12_left h hP fun p hp => (HL.out p hp).1
        obtain ⟨lf,hlf⟩:∃ n,n=leftR P ls s:=⟨_,rfl⟩
        obtain ⟨bd,hbd⟩:∃ n,n=boundF F:=⟨_,rfl⟩
        rw [← hlf] at hle hlt9
        rw [← hbd] at hle hbl
        simp only [← hlf] at HLF
        have HBN:Hid (∀ V,Calls Try.prog 15 #[.agg #[.int .i64 (F.S:Nat),.int .i64 (F.B:Nat),.int .i64 (F.n:Nat)],.int .i64 (F.tr:Nat)] V (Says (.int .i64 (bd:Nat)) V)):=fun V => by rw [hbd]; exact HBN.out V
        obtain ⟨mo,hmo⟩:∃ n,n=lf * bd:=⟨_,rfl⟩
        rw [← hmo] at hle
        have h78:lf≤78:=by omega
        have hmo9:mo≤780000:=by rw [hmo]; exact Nat.mul_le_mul h78 hbl
        have hmoI:(mo:Int)≤780000:=Int.ofNat_le.2 hmo9
        have y1:IntKind.i64.wrap ((lf:Int) * (bd:Int))=(mo:Int):=by rw [← Int.natCast_mul,← hmo]; exact IntWalk.i64_in _ (by omega)
        have y2:wrap64 ((lf:Int) * (bd:Int))=(mo:Int):=by rw [← Int.natCast_mul,← hmo]; exact IntWalk.wrap64_in _ (by omega)
        have HLE:=Lib.hid hle
        clear hM hK hle hlt9 hbl hlf hbd hmo
        go_wp2_with (first | go_big_skip | fail)
        refine wp_region_held_drew (S:=fun w' => w'.cell? ⟨rb,2,none⟩=some (.int .i64 (F.S:Nat))∧w'.cell? ⟨rb,3,none⟩=some (.int .i64 (F.B:Nat))∧w'.cell? ⟨rb,4,none⟩=some (.int .i64 (F.n:Nat))∧w'.cell? ⟨rb,5,none⟩=some (.int .i64 (F.tr:Nat))) (by kernel_rfl) ?_ (fun hHeld => ?_)
        · exact ⟨r2,r3,r4,r5⟩
        obtain ⟨u0,hu0⟩:∃ w',w'=wr.drew:=⟨_,rfl⟩
        have hb:Below wr.heap.size wr u0:=by rw [hu0]; exact (Below.refl _ _).drew
        rw [← hu0] at hHeld ⊢
        clear hu0
        have HR:=Lib.hid (HR.out.below hb)
        have HB:=Lib.hid (HB.out.trans (hb.mono HB.out.size))
        have r2:=(hb.cell (p:=⟨rb,2,none⟩) hrw).trans r2
        have r3:=(hb.cell (p:=⟨rb,3,none⟩) hrw).trans r3
        have r4:=(hb.cell (p:=⟨rb,4,none⟩) hrw).trans r4
        have r5:=(hb.cell (p:=⟨rb,5,none⟩) hrw).trans r5
        have hrw:=Nat.lt_of_lt_of_le hrw hb.size
        clear hb
        refine tkR 0 rfl ?_
        refine tkR 2 rfl ?_
        refine tkR 3 rfl ?_
        refine tkR 4 rfl ?_
        refine tkR 5 rfl ?_
        refine tkR 6 rfl ?_
        refine tkR 7 rfl ?_
        refine tkR 8 rfl ?_
        refine tkR 9 rfl ?_
        refine clR 1 rfl fun K hK => ?_
        go_simp
        refine (HLF.out _ HR.out).mono ?_
        rintro e u1 ⟨rfl,hb⟩
        have HR:=Lib.hid (HR.out.below hb)
        have HB:=Lib.hid (HB.out.trans (hb.mono HB.out.size))
        have r2:=(hb.cell (p:=⟨rb,2,none⟩) hrw).trans r2
        have r3:=(hb.cell (p:=⟨rb,3,none⟩) hrw).trans r3
        have r4:=(hb.cell (p:=⟨rb,4,none⟩) hrw).trans r4
        have r5:=(hb.cell (p:=⟨rb,5,none⟩) hrw).trans r5
        have hrw:=Nat.lt_of_lt_of_le hrw hb.size
        clear hb

        refine hK.out _ _ ?_ (fun hHeld => ?_)
        · (try dsimp only)
          exact ⟨r2,r3,r4,r5⟩
        clear hK K
        (try simp only [Act.put,sqA,sqB,sqC])
        refine clR 10 rfl fun K hK => ?_
        go_simp
        refine (HBN.out _).mono ?_
        rintro e u2 ⟨rfl,hb⟩
        have HR:=Lib.hid (HR.out.below hb)
        have HB:=Lib.hid (HB.out.trans (hb.mono HB.out.size))
        have r2:=(hb.cell (p:=⟨rb,2,none⟩) hrw).trans r2
        have r3:=(hb.cell (p:=⟨rb,3,none⟩) hrw).trans r3
        have r4:=(hb.cell (p:=⟨rb,4,none⟩) hrw).trans r4
        have r5:=(hb.cell (p:=⟨rb,5,none⟩) hrw).trans r5
        have hrw:=Nat.lt_of_lt_of_le hrw hb.size
        clear hb

        refine hK.out _ _ ?_ (fun hHeld => ?_)
        · (try dsimp only)
          exact ⟨r2,r3,r4,r5⟩
        clear hK K
        (try simp only [Act.put,sqA,sqB,sqC])
        refine tkR 11 rfl ?_
        refine tkR 12 rfl ?_
        refine wpAnyH_done (by kernel_rfl) ?_ _
        clear hHeld r2 r3 r4 r5 HLF HBN y1 y2 hrw
        go_wp2
        go_loopw [10] (fun i wr => ∃ (n:Nat) (s2:RunS),n≤mo∧i=.int .i64 n∧s2.m.t≤2000 + 6 * (n:Int)∧muR F P ls (fun _ => true) s2 + n≤mo∧Hid (RunAt wr lo b fb rb L F P ls lv s2)∧Hid (Below W.heap.size W wr)) (fun i _ => mo - (intOf i).toNat)
        case atStart => exact ⟨0,s,by omega,rfl,by omega,HLE.out,HR,HB⟩
        case round =>
          obtain ⟨n,s2,hn,rfl,ht2,hmu2,HR',HB'⟩:=hrel
          have HR:=HR'
          have HB:=HB'
          clear HR' HB' HLE
          have HLW:=law12_left HR.out hP fun p hp => (HL.out p hp).1
          have HK2:Hid (∃ g,RunK F P ls s2 g):=by
            obtain ⟨g,ab,Es,V,hM,hK⟩:=HR.out
            exact ⟨g,hK⟩
          obtain ⟨l2',hl2⟩:∃ n,n=leftR P ls s2:=⟨_,rfl⟩
          rw [← hl2] at HLW
          have HLW:=Lib.hid HLW
          have HL2:=Lib.hid hl2
          by_cases hnm:n < mo
          · have n1:(n:Int) < (mo:Int):=by omega
            by_cases hl0:0 < l2'
            · have n2:(0:Int) < (l2':Int):=by omega
              clear hl2
              go_wp2_with (first | go_big_skip | fail)
              refine (HLW.out).mono ?_
              rintro e wa ⟨rfl,hb⟩
              have HR:=Lib.hid (HR.out.below hb)
              have HB:=Lib.hid (HB.out.trans (hb.mono HB.out.size))
              clear hb
              clear HLW
              go_wp2
              go_loopw [11] (fun i wr => ∃ (j:Nat) (s3:RunS),j≤P∧i=.int .i64 j∧s3.m.t≤2000 + 6 * (n:Int) + (j:Int)∧Hid (RoundR F P ls (fun _ => true) s2 j s3)∧Hid (RunAt wr lo b fb rb L F P ls lv s3)∧Hid (Below W.heap.size W wr)) (fun i _ => P - (intOf i).toNat)
              case atStart => exact ⟨0,s2,by omega,rfl,by omega,RoundR.start s2,HR,HB⟩
              case round =>
                obtain ⟨j,s3,hj,rfl,ht3,HRD,HR',HB'⟩:=hrel
                have HR:=HR'
                have HB:=HB'
                clear HR' HB'
                obtain ⟨g,ab,Es,V,hM,hK⟩:=HR.out
                obtain ⟨⟨q0,c0',e0',k0,m0⟩,_⟩:=hM.slice (k:=0) (by omega) rfl
                unfold maxLen at m0
                have r6:wr.cell? ⟨rb,6,none⟩=some (V 0):=hM.cell (i:=6) (by omega)
                rw [e0'] at r6
                clear hM hK e0'
                by_cases hjP:j < P
                · have j1:(j:Int) < (P:Int):=by omega
                  have HST:=Lib.hid (law12_step HR.out hP HL.out (by omega) hjP)
                  go_wp2_with fail
                  refine (HST.out).mono ?_
                  rintro e w5 ⟨z,s4,rfl,hrun,htch,hsr⟩
                  have HS:Hid (s4.m.t≤s3.m.t + 1):=Lib.hid hsr.t
                  have HRD':Hid (RoundR F P ls (fun _ => true) s2 (j + 1) s4):=by
                    obtain ⟨g,ab,Es,V,hM,hK⟩:=HR.out
                    exact HRD.out.step hK HFT.out hjP rfl hsr
                  have HR':=Lib.hid hrun
                  have HB':=Lib.hid (run_turn htch HB.out HX.out.1 HX.out.2.1 HX.out.2.2)
                  clear hrun htch hsr HST HR HB HRD r6 k0 m0
                  go_wp2
                  go_roundw
                  case rel => exact ⟨j + 1,s4,by omega,by go_num,by have h9:=HS.out; revert ht3 h9; generalize s4.m.t=y; generalize s3.m.t=z'; intro h8 h9; omega,HRD',HR',HB'⟩
                  case measure => simp [intOf]; omega
                · obtain rfl:j=P:=by omega
                  have j1:¬ (j:Int) < (j:Int):=by omega
                  have hless:muR F j ls (fun _ => true) s3 < muR F j ls (fun _ => true) s2:=by
                    obtain ⟨g,hK⟩:=HK2.out
                    rcases HRD.out.done hK (fun p _ h => by cases h) with h9 | h9
                    · exact h9
                    · exfalso
                      have:=leftR_zero (s:=s2) fun p hp => h9 p hp rfl
                      have:=HL2.out
                      omega
                  clear HRD
                  go_wp2
                  go_roundw
                  case rel => exact ⟨n + 1,s3,by omega,by go_num,by rw [Int.natCast_add]; revert ht3; generalize s3.m.t=y; intro h8; omega,by omega,HR,HB⟩
                  case measure => simp [intOf]; omega
            · have hl00:l2'=0:=by omega
              subst hl00
              have hall:∀ p,p < P→s2.nw p=-1∧s2.at_ p=(ls p).length:=by
                obtain ⟨g,hK⟩:=HK2.out
                exact leftR_all hK hl2.symm
              have HALL:=Lib.hid hall
              clear hall hl2
              go_wp2_with (first | go_big_skip | fail)
              refine (HLW.out).mono ?_
              rintro e wa ⟨rfl,hb⟩
              have HR:=Lib.hid (HR.out.below hb)
              have HB:=Lib.hid (HB.out.trans (hb.mono HB.out.size))
              clear hb
              clear HLW
              obtain ⟨g,ab,Es,V,hM,hK⟩:=HR.out
              have HFRE:Hid (∀ x:Nat,s2.m.h x=-1):=fun x => hK.run.free (over_all hK HALL.out) x
              have hS9:=hM.acts.fd.fits.S
              clear hM hK
              have h00:=leftR_zero HALL.out
              have HL00:=Lib.hid h00
              clear h00
              obtain ⟨Sv,hSv⟩:∃ Sv,Sv=F.S:=⟨_,rfl⟩
              have HSV:=Lib.hid hSv
              have hS8:Sv≤8:=by omega
              have hSi:(Sv:Int)≤8:=by omega
              clear hS9 hSv
              go_wp2
              go_loopw [12] (fun i wr => ∃ l:Nat,l≤Sv + 2∧i=.int .i64 l∧Hid (RunAt wr lo b fb rb L F P ls lv s2)∧Hid (Below W.heap.size W wr)) (fun i _ => Sv + 2 - (intOf i).toNat)
              case atStart => exact ⟨0,by omega,rfl,HR,HB⟩
              case round =>
                obtain ⟨l,hl9,rfl,HR',HB'⟩:=hrel
                have HR:=HR'
                have HB:=HB'
                clear HR' HB'
                obtain ⟨g,ab,Es,V,hM,hK⟩:=HR.out
                have r0:wr.cell? ⟨rb,0,none⟩=some (.pointer (some ⟨b,0,none⟩)):=hM.cell (i:=0) (by omega)
                have r2:wr.cell? ⟨rb,2,none⟩=some (.int .i64 (F.S:Nat)):=hM.cell (i:=2) (by omega)
                rw [← HSV.out] at r2
                by_cases hlS:l < Sv + 2
                · have l1:(l:Int) < (Sv:Int) + 2:=by omega
                  have l2:(l:Int) < 100:=by omega
                  have HHO:=mem_Holder (l:Int) hM.acts.fd.mem
                  rw [show holdS s2.m (l:Int)=-1 by unfold holdS; split; exact HFRE.out _; rfl] at HHO
                  have HHO:=Lib.hid HHO
                  clear hM hK
                  go_wp2_with fail
                  refine (HHO.out).mono ?_
                  rintro e wq ⟨rfl,rfl⟩
                  clear HHO r0 r2
                  go_wp2
                  go_roundw
                  case rel => exact ⟨l + 1,by omega,by go_num,HR,HB⟩
                  case measure => simp [intOf]; omega
                · have l1:¬ (l:Int) < (Sv:Int) + 2:=by omega
                  have HLW:=law12_left HR.out hP fun p hp => (HL.out p hp).1
                  rw [HL00.out] at HLW
                  have HLW:=Lib.hid HLW
                  clear hM hK
                  go_wp2_with fail
                  refine (HLW.out).mono ?_
                  rintro e wa ⟨rfl,hba⟩
                  have HB:=Lib.hid (HB.out.trans (hba.mono HB.out.size))
                  clear HLW hba
                  go_wp2
                  go_ret
                  exact ⟨by first | rfl | (simp; done),HB.out⟩
          · have hall:∀ p,p < P→s2.nw p=-1∧s2.at_ p=(ls p).length:=by
              obtain ⟨g,hK⟩:=HK2.out
              exact fun p hp => muR_zero (Q:=fun _ => true) hK (by omega) p hp rfl
            have n1:¬ (n:Int) < (mo:Int):=by omega
            have HALL:=Lib.hid hall
            have HL20:=leftR_zero hall
            clear hall HLW
            obtain ⟨g,ab,Es,V,hM,hK⟩:=HR.out
            have HFRE:Hid (∀ x:Nat,s2.m.h x=-1):=fun x => hK.run.free (over_all hK HALL.out) x
            have hS9:=hM.acts.fd.fits.S
            clear hM hK
            have h00:=leftR_zero HALL.out
            have HL00:=Lib.hid h00
            clear h00
            obtain ⟨Sv,hSv⟩:∃ Sv,Sv=F.S:=⟨_,rfl⟩
            have HSV:=Lib.hid hSv
            have hS8:Sv≤8:=by omega
            have hSi:(Sv:Int)≤8:=by omega
            clear hS9 hSv
            go_wp2
            go_loopw [12] (fun i wr => ∃ l:Nat,l≤Sv + 2∧i=.int .i64 l∧Hid (RunAt wr lo b fb rb L F P ls lv s2)∧Hid (Below W.heap.size W wr)) (fun i _ => Sv + 2 - (intOf i).toNat)
            case atStart => exact ⟨0,by omega,rfl,HR,HB⟩
            case round =>
              obtain ⟨l,hl9,rfl,HR',HB'⟩:=hrel
              have HR:=HR'
              have HB:=HB'
              clear HR' HB'
              obtain ⟨g,ab,Es,V,hM,hK⟩:=HR.out
              have r0:wr.cell? ⟨rb,0,none⟩=some (.pointer (some ⟨b,0,none⟩)):=hM.cell (i:=0) (by omega)
              have r2:wr.cell? ⟨rb,2,none⟩=some (.int .i64 (F.S:Nat)):=hM.cell (i:=2) (by omega)
              rw [← HSV.out] at r2
              by_cases hlS:l < Sv + 2
              · have l1:(l:Int) < (Sv:Int) + 2:=by omega
                have l2:(l:Int) < 100:=by omega
                have HHO:=mem_Holder (l:Int) hM.acts.fd.mem
                rw [show holdS s2.m (l:Int)=-1 by unfold holdS; split; exact HFRE.out _; rfl] at HHO
                have HHO:=Lib.hid HHO
                clear hM hK
                go_wp2_with fail
                refine (HHO.out).mono ?_
                rintro e wq ⟨rfl,rfl⟩
                clear HHO r0 r2
                go_wp2
                go_roundw
                case rel => exact ⟨l + 1,by omega,by go_num,HR,HB⟩
                case measure => simp [intOf]; omega
              · have l1:¬ (l:Int) < (Sv:Int) + 2:=by omega
                have HLW:=law12_left HR.out hP fun p hp => (HL.out p hp).1
                rw [HL00.out] at HLW
                have HLW:=Lib.hid HLW
                clear hM hK
                go_wp2_with fail
                refine (HLW.out).mono ?_
                rintro e wa ⟨rfl,hba⟩
                have HB:=Lib.hid (HB.out.trans (hba.mono HB.out.size))
                clear HLW hba
                go_wp2
                go_ret
                exact ⟨by first | rfl | (simp; done),HB.out⟩
      · have hf1:(k:Int) < (len:Int):=by omega
        have hf3:(k:Int) < 600:=by omega
        have hf4:¬ (0:Int) < (P:Int):=by omega
        have HP0:=Lib.hid hf
        clear hf hf0 hf2
        obtain ⟨g,ab,Es,V,hM,hK⟩:=HR.out
        obtain ⟨⟨q0,c0',e0',k0,m0⟩,_⟩:=hM.slice (k:=0) (by omega) rfl
        unfold maxLen at m0
        have r6:wr.cell? ⟨rb,6,none⟩=some (V 0):=hM.cell (i:=6) (by omega)
        rw [e0'] at r6
        clear hM hK e0'
        clear k0 m0
        go_upto_region 8 with (first | go_big_skip | fail)
        (try clear hf4)
        obtain ⟨g,ab,Es,V,hM,hK⟩:=HR.out
        have r2:wr.cell? ⟨rb,2,none⟩=some (.int .i64 (F.S:Nat)):=hM.cell (i:=2) (by omega)
        have r3:wr.cell? ⟨rb,3,none⟩=some (.int .i64 (F.B:Nat)):=hM.cell (i:=3) (by omega)
        have r4:wr.cell? ⟨rb,4,none⟩=some (.int .i64 (F.n:Nat)):=hM.cell (i:=4) (by omega)
        have r5:wr.cell? ⟨rb,5,none⟩=some (.int .i64 (F.tr:Nat)):=hM.cell (i:=5) (by omega)
        have hrw:rb < wr.heap.size:=by have:=hM.ord; omega
        have HFT:=Lib.hid hM.acts.fd.fits
        have hle:=hK.le (fun _ => true)
        have hlt9:=leftR_le (s:=s) HL.out
        have hbl:=bound_le HFT.out
        have HBN:=Lib.hid fun V => ref12_BoundY F.S F.B F.n HFT.out.S HFT.out.B HFT.out.n F.tr HFT.out.tr V
        have HLF:=Lib.hid fun w' (h:RunAt w' lo b fb rb L F P ls lv s) => law12_left h hP fun p hp => (HL.out p hp).1
        obtain ⟨lf,hlf⟩:∃ n,n=leftR P ls s:=⟨_,rfl⟩
        obtain ⟨bd,hbd⟩:∃ n,n=boundF F:=⟨_,rfl⟩
        rw [← hlf] at hle hlt9
        rw [← hbd] at hle hbl
        simp only [← hlf] at HLF
        have HBN:Hid (∀ V,Calls Try.prog 15 #[.agg #[.int .i64 (F.S:Nat),.int .i64 (F.B:Nat),.int .i64 (F.n:Nat)],.int .i64 (F.tr:Nat)] V (Says (.int .i64 (bd:Nat)) V)):=fun V => by rw [hbd]; exact HBN.out V
        obtain ⟨mo,hmo⟩:∃ n,n=lf * bd:=⟨_,rfl⟩
        rw [← hmo] at hle
        have h78:lf≤78:=by omega
        have hmo9:mo≤780000:=by rw [hmo]; exact Nat.mul_le_mul h78 hbl
        have hmoI:(mo:Int)≤780000:=Int.ofNat_le.2 hmo9
        have y1:IntKind.i64.wrap ((lf:Int) * (bd:Int))=(mo:Int):=by rw [← Int.natCast_mul,← hmo]; exact IntWalk.i64_in _ (by omega)
        have y2:wrap64 ((lf:Int) * (bd:Int))=(mo:Int):=by rw [← Int.natCast_mul,← hmo]; exact IntWalk.wrap64_in _ (by omega)
        have HLE:=Lib.hid hle
        clear hM hK hle hlt9 hbl hlf hbd hmo
        go_wp2_with (first | go_big_skip | fail)
        refine wp_region_held_drew (S:=fun w' => w'.cell? ⟨rb,2,none⟩=some (.int .i64 (F.S:Nat))∧w'.cell? ⟨rb,3,none⟩=some (.int .i64 (F.B:Nat))∧w'.cell? ⟨rb,4,none⟩=some (.int .i64 (F.n:Nat))∧w'.cell? ⟨rb,5,none⟩=some (.int .i64 (F.tr:Nat))) (by kernel_rfl) ?_ (fun hHeld => ?_)
        · exact ⟨r2,r3,r4,r5⟩
        obtain ⟨u0,hu0⟩:∃ w',w'=wr.drew:=⟨_,rfl⟩
        have hb:Below wr.heap.size wr u0:=by rw [hu0]; exact (Below.refl _ _).drew
        rw [← hu0] at hHeld ⊢
        clear hu0
        have HR:=Lib.hid (HR.out.below hb)
        have HB:=Lib.hid (HB.out.trans (hb.mono HB.out.size))
        have r2:=(hb.cell (p:=⟨rb,2,none⟩) hrw).trans r2
        have r3:=(hb.cell (p:=⟨rb,3,none⟩) hrw).trans r3
        have r4:=(hb.cell (p:=⟨rb,4,none⟩) hrw).trans r4
        have r5:=(hb.cell (p:=⟨rb,5,none⟩) hrw).trans r5
        have hrw:=Nat.lt_of_lt_of_le hrw hb.size
        clear hb
        refine tkR 0 rfl ?_
        refine tkR 2 rfl ?_
        refine tkR 3 rfl ?_
        refine tkR 4 rfl ?_
        refine tkR 5 rfl ?_
        refine tkR 6 rfl ?_
        refine tkR 7 rfl ?_
        refine tkR 8 rfl ?_
        refine tkR 9 rfl ?_
        refine clR 1 rfl fun K hK => ?_
        go_simp
        refine (HLF.out _ HR.out).mono ?_
        rintro e u1 ⟨rfl,hb⟩
        have HR:=Lib.hid (HR.out.below hb)
        have HB:=Lib.hid (HB.out.trans (hb.mono HB.out.size))
        have r2:=(hb.cell (p:=⟨rb,2,none⟩) hrw).trans r2
        have r3:=(hb.cell (p:=⟨rb,3,none⟩) hrw).trans r3
        have r4:=(hb.cell (p:=⟨rb,4,none⟩) hrw).trans r4
        have r5:=(hb.cell (p:=⟨rb,5,none⟩) hrw).trans r5
        have hrw:=Nat.lt_of_lt_of_le hrw hb.size
        clear hb

        refine hK.out _ _ ?_ (fun hHeld => ?_)
        · (try dsimp only)
          exact ⟨r2,r3,r4,r5⟩
        clear hK K
        (try simp only [Act.put,sqA,sqB,sqC])
        refine clR 10 rfl fun K hK => ?_
        go_simp
        refine (HBN.out _).mono ?_
        rintro e u2 ⟨rfl,hb⟩
        have HR:=Lib.hid (HR.out.below hb)
        have HB:=Lib.hid (HB.out.trans (hb.mono HB.out.size))
        have r2:=(hb.cell (p:=⟨rb,2,none⟩) hrw).trans r2
        have r3:=(hb.cell (p:=⟨rb,3,none⟩) hrw).trans r3
        have r4:=(hb.cell (p:=⟨rb,4,none⟩) hrw).trans r4
        have r5:=(hb.cell (p:=⟨rb,5,none⟩) hrw).trans r5
        have hrw:=Nat.lt_of_lt_of_le hrw hb.size
        clear hb

        refine hK.out _ _ ?_ (fun hHeld => ?_)
        · (try dsimp only)
          exact ⟨r2,r3,r4,r5⟩
        clear hK K
        (try simp only [Act.put,sqA,sqB,sqC])
        refine tkR 11 rfl ?_
        refine tkR 12 rfl ?_
        refine wpAnyH_done (by kernel_rfl) ?_ _
        clear hHeld r2 r3 r4 r5 HLF HBN y1 y2 hrw
        go_wp2
        go_loopw [10] (fun i wr => ∃ (n:Nat) (s2:RunS),n≤mo∧i=.int .i64 n∧s2.m.t≤2000 + 6 * (n:Int)∧muR F P ls (fun _ => true) s2 + n≤mo∧Hid (RunAt wr lo b fb rb L F P ls lv s2)∧Hid (Below W.heap.size W wr)) (fun i _ => mo - (intOf i).toNat)
        case atStart => exact ⟨0,s,by omega,rfl,by omega,HLE.out,HR,HB⟩
        case round =>
          obtain ⟨n,s2,hn,rfl,ht2,hmu2,HR',HB'⟩:=hrel
          have HR:=HR'
          have HB:=HB'
          clear HR' HB' HLE
          have HLW:=law12_left HR.out hP fun p hp => (HL.out p hp).1
          have HK2:Hid (∃ g,RunK F P ls s2 g):=by
            obtain ⟨g,ab,Es,V,hM,hK⟩:=HR.out
            exact ⟨g,hK⟩
          obtain ⟨l2',hl2⟩:∃ n,n=leftR P ls s2:=⟨_,rfl⟩
          rw [← hl2] at HLW
          have HLW:=Lib.hid HLW
          have HL2:=Lib.hid hl2
          by_cases hnm:n < mo
          · have n1:(n:Int) < (mo:Int):=by omega
            by_cases hl0:0 < l2'
            · have n2:(0:Int) < (l2':Int):=by omega
              clear hl2
              go_wp2_with (first | go_big_skip | fail)
              refine (HLW.out).mono ?_
              rintro e wa ⟨rfl,hb⟩
              have HR:=Lib.hid (HR.out.below hb)
              have HB:=Lib.hid (HB.out.trans (hb.mono HB.out.size))
              clear hb
              clear HLW
              go_wp2
              go_loopw [11] (fun i wr => ∃ (j:Nat) (s3:RunS),j≤P∧i=.int .i64 j∧s3.m.t≤2000 + 6 * (n:Int) + (j:Int)∧Hid (RoundR F P ls (fun _ => true) s2 j s3)∧Hid (RunAt wr lo b fb rb L F P ls lv s3)∧Hid (Below W.heap.size W wr)) (fun i _ => P - (intOf i).toNat)
              case atStart => exact ⟨0,s2,by omega,rfl,by omega,RoundR.start s2,HR,HB⟩
              case round =>
                obtain ⟨j,s3,hj,rfl,ht3,HRD,HR',HB'⟩:=hrel
                have HR:=HR'
                have HB:=HB'
                clear HR' HB'
                obtain ⟨g,ab,Es,V,hM,hK⟩:=HR.out
                obtain ⟨⟨q0,c0',e0',k0,m0⟩,_⟩:=hM.slice (k:=0) (by omega) rfl
                unfold maxLen at m0
                have r6:wr.cell? ⟨rb,6,none⟩=some (V 0):=hM.cell (i:=6) (by omega)
                rw [e0'] at r6
                clear hM hK e0'
                by_cases hjP:j < P
                · exfalso
                  have:=HP0.out
                  omega
                · obtain rfl:j=P:=by omega
                  have j1:¬ (j:Int) < (j:Int):=by omega
                  have hless:muR F j ls (fun _ => true) s3 < muR F j ls (fun _ => true) s2:=by
                    obtain ⟨g,hK⟩:=HK2.out
                    rcases HRD.out.done hK (fun p _ h => by cases h) with h9 | h9
                    · exact h9
                    · exfalso
                      have:=leftR_zero (s:=s2) fun p hp => h9 p hp rfl
                      have:=HL2.out
                      omega
                  clear HRD
                  go_wp2
                  go_roundw
                  case rel => exact ⟨n + 1,s3,by omega,by go_num,by rw [Int.natCast_add]; revert ht3; generalize s3.m.t=y; intro h8; omega,by omega,HR,HB⟩
                  case measure => simp [intOf]; omega
            · have hl00:l2'=0:=by omega
              subst hl00
              have hall:∀ p,p < P→s2.nw p=-1∧s2.at_ p=(ls p).length:=by
                obtain ⟨g,hK⟩:=HK2.out
                exact leftR_all hK hl2.symm
              have HALL:=Lib.hid hall
              clear hall hl2
              go_wp2_with (first | go_big_skip | fail)
              refine (HLW.out).mono ?_
              rintro e wa ⟨rfl,hb⟩
              have HR:=Lib.hid (HR.out.below hb)
              have HB:=Lib.hid (HB.out.trans (hb.mono HB.out.size))
              clear hb
              clear HLW
              obtain ⟨g,ab,Es,V,hM,hK⟩:=HR.out
              have HFRE:Hid (∀ x:Nat,s2.m.h x=-1):=fun x => hK.run.free (over_all hK HALL.out) x
              have hS9:=hM.acts.fd.fits.S
              clear hM hK
              have h00:=leftR_zero HALL.out
              have HL00:=Lib.hid h00
              clear h00
              obtain ⟨Sv,hSv⟩:∃ Sv,Sv=F.S:=⟨_,rfl⟩
              have HSV:=Lib.hid hSv
              have hS8:Sv≤8:=by omega
              have hSi:(Sv:Int)≤8:=by omega
              clear hS9 hSv
              go_wp2
              go_loopw [12] (fun i wr => ∃ l:Nat,l≤Sv + 2∧i=.int .i64 l∧Hid (RunAt wr lo b fb rb L F P ls lv s2)∧Hid (Below W.heap.size W wr)) (fun i _ => Sv + 2 - (intOf i).toNat)
              case atStart => exact ⟨0,by omega,rfl,HR,HB⟩
              case round =>
                obtain ⟨l,hl9,rfl,HR',HB'⟩:=hrel
                have HR:=HR'
                have HB:=HB'
                clear HR' HB'
                obtain ⟨g,ab,Es,V,hM,hK⟩:=HR.out
                have r0:wr.cell? ⟨rb,0,none⟩=some (.pointer (some ⟨b,0,none⟩)):=hM.cell (i:=0) (by omega)
                have r2:wr.cell? ⟨rb,2,none⟩=some (.int .i64 (F.S:Nat)):=hM.cell (i:=2) (by omega)
                rw [← HSV.out] at r2
                by_cases hlS:l < Sv + 2
                · have l1:(l:Int) < (Sv:Int) + 2:=by omega
                  have l2:(l:Int) < 100:=by omega
                  have HHO:=mem_Holder (l:Int) hM.acts.fd.mem
                  rw [show holdS s2.m (l:Int)=-1 by unfold holdS; split; exact HFRE.out _; rfl] at HHO
                  have HHO:=Lib.hid HHO
                  clear hM hK
                  go_wp2_with fail
                  refine (HHO.out).mono ?_
                  rintro e wq ⟨rfl,rfl⟩
                  clear HHO r0 r2
                  go_wp2
                  go_roundw
                  case rel => exact ⟨l + 1,by omega,by go_num,HR,HB⟩
                  case measure => simp [intOf]; omega
                · have l1:¬ (l:Int) < (Sv:Int) + 2:=by omega
                  have HLW:=law12_left HR.out hP fun p hp => (HL.out p hp).1
                  rw [HL00.out] at HLW
                  have HLW:=Lib.hid HLW
                  clear hM hK
                  go_wp2_with fail
                  refine (HLW.out).mono ?_
                  rintro e wa ⟨rfl,hba⟩
                  have HB:=Lib.hid (HB.out.trans (hba.mono HB.out.size))
                  clear HLW hba
                  go_wp2
                  go_ret
                  exact ⟨by first | rfl | (simp; done),HB.out⟩
          · have hall:∀ p,p < P→s2.nw p=-1∧s2.at_ p=(ls p).length:=by
              obtain ⟨g,hK⟩:=HK2.out
              exact fun p hp => muR_zero (Q:=fun _ => true) hK (by omega) p hp rfl
            have n1:¬ (n:Int) < (mo:Int):=by omega
            have HALL:=Lib.hid hall
            have HL20:=leftR_zero hall
            clear hall HLW
            obtain ⟨g,ab,Es,V,hM,hK⟩:=HR.out
            have HFRE:Hid (∀ x:Nat,s2.m.h x=-1):=fun x => hK.run.free (over_all hK HALL.out) x
            have hS9:=hM.acts.fd.fits.S
            clear hM hK
            have h00:=leftR_zero HALL.out
            have HL00:=Lib.hid h00
            clear h00
            obtain ⟨Sv,hSv⟩:∃ Sv,Sv=F.S:=⟨_,rfl⟩
            have HSV:=Lib.hid hSv
            have hS8:Sv≤8:=by omega
            have hSi:(Sv:Int)≤8:=by omega
            clear hS9 hSv
            go_wp2
            go_loopw [12] (fun i wr => ∃ l:Nat,l≤Sv + 2∧i=.int .i64 l∧Hid (RunAt wr lo b fb rb L F P ls lv s2)∧Hid (Below W.heap.size W wr)) (fun i _ => Sv + 2 - (intOf i).toNat)
            case atStart => exact ⟨0,by omega,rfl,HR,HB⟩
            case round =>
              obtain ⟨l,hl9,rfl,HR',HB'⟩:=hrel
              have HR:=HR'
              have HB:=HB'
              clear HR' HB'
              obtain ⟨g,ab,Es,V,hM,hK⟩:=HR.out
              have r0:wr.cell? ⟨rb,0,none⟩=some (.pointer (some ⟨b,0,none⟩)):=hM.cell (i:=0) (by omega)
              have r2:wr.cell? ⟨rb,2,none⟩=some (.int .i64 (F.S:Nat)):=hM.cell (i:=2) (by omega)
              rw [← HSV.out] at r2
              by_cases hlS:l < Sv + 2
              · have l1:(l:Int) < (Sv:Int) + 2:=by omega
                have l2:(l:Int) < 100:=by omega
                have HHO:=mem_Holder (l:Int) hM.acts.fd.mem
                rw [show holdS s2.m (l:Int)=-1 by unfold holdS; split; exact HFRE.out _; rfl] at HHO
                have HHO:=Lib.hid HHO
                clear hM hK
                go_wp2_with fail
                refine (HHO.out).mono ?_
                rintro e wq ⟨rfl,rfl⟩
                clear HHO r0 r2
                go_wp2
                go_roundw
                case rel => exact ⟨l + 1,by omega,by go_num,HR,HB⟩
                case measure => simp [intOf]; omega
              · have l1:¬ (l:Int) < (Sv:Int) + 2:=by omega
                have HLW:=law12_left HR.out hP fun p hp => (HL.out p hp).1
                rw [HL00.out] at HLW
                have HLW:=Lib.hid HLW
                clear hM hK
                go_wp2_with fail
                refine (HLW.out).mono ?_
                rintro e wa ⟨rfl,hba⟩
                have HB:=Lib.hid (HB.out.trans (hba.mono HB.out.size))
                clear HLW hba
                go_wp2
                go_ret
                exact ⟨by first | rfl | (simp; done),HB.out⟩

set_option maxRecDepth 100000 in
/-- What the walk gives,for every argument: the row's own words. -/
theorem contract (H:Type) (enc:TypeId × Value→H) (W:World) (base:Nat) (args:Array Value) (ds gs:List (DataW H)) (before:List MemPlace)
    (hval:∀ (j:Nat) t v,Try.f4.params[j]?=some t→args[j]?=some v→Value.okWide Try.prog W .any base t v)
    (hW:DataW.Whole enc Try.prog Try.f4.params.toList Rows.fdbLocksSpec.vars false W args.toList ds gs before) :
    Calls Try.prog 4 args W fun e W' => ∃ v,e=.returned v∧Rows.fdbLocksSpec.post enc Try.prog Try.f4 false true false false W args v W':=by
  have hW':=hW
  obtain ⟨p,q,hA0,hV,rfl,hfz,hnd⟩:=hW
  have hA:DataW.TrodAll enc Try.prog W 0 (fun _ => true) true Try.f4.params.toList args.toList ds p:=hA0
  rw [Try.params4] at hA hval
  obtain ⟨v0,vs0,d0,ds0,p0,q0,hargs,rfl,rfl,h0,r0⟩:=trodAll_cons hA
  obtain ⟨v1,vs1,d1,ds1,p1,q1,rfl,rfl,rfl,h1,r1⟩:=trodAll_cons r0
  obtain ⟨v2,vs2,d2,ds2,p2,q2,rfl,rfl,rfl,h2,r2⟩:=trodAll_cons r1
  obtain ⟨rfl,rfl,rfl⟩:=trodAll_nil r2
  obtain rfl:args=#[v0,v1,v2]:=by cases args; simp_all
  obtain ⟨a0,e0,c0,t0,rfl⟩:=open_whole Try.underlying25 (t0:=3) (by kernel_rfl) (by kernel_rfl) (by kernel_rfl) (hval 0 25 v0 rfl rfl) h0
  have b1:=open_opsrows Try.underlying61 (e:=66) (e2:=106) (t0:=3) (t1:=3) (t2:=44) (t3:=3) (t4:=3) (t5:=55) (t6:=55) (by kernel_rfl) (by kernel_rfl) Try.underlying66 (by kernel_rfl) (by kernel_rfl) (by kernel_rfl) (by kernel_rfl) (by kernel_rfl) (by kernel_rfl) (by kernel_rfl) (by kernel_rfl) (by kernel_rfl) (hval 1 61 v1 rfl rfl) h1
  obtain ⟨l2,b2,c2⟩:=open_i64s Try.underlying62 Try.underlying3 (by kernel_rfl) (hval 2 62 v2 rfl rfl) h2
  refine (walk W a0 e0 c0 t0 v1 b1 v2 l2 b2 c2).mono fun e W' ⟨he,hb⟩ => ?_
  subst he
  exact close_true (by kernel_rfl) Try.underlying4 (by kernel_rfl) (by kernel_rfl) rfl rfl hW' hb

set_option maxRecDepth 100000 in
theorem lifted (os:Os) (started:os.Started) (H:Type) (enc:TypeId × Value→H) :
    ReturnsInHanded {} Try.checked os 4 .any (Rows.fdbLocksSpec.pre6 enc Try.prog Try.f4 Rows.fdbLocksRow.domain false) (Rows.fdbLocksSpec.post enc Try.prog Try.f4 false true false false):=by
  refine returnsInHanded_of_change (C:=Try.checked) own started (by kernel_rfl) Try.func4
    (ChangeSpec.witness6 (enc:=enc) (C:=Try.checked) false ⟨#[],#[.agg #[.int .i64 0,.int .i64 0,.int .i64 0,.int .i64 0],.slice none 0 0,.slice none 0 0],[]⟩ 8 (by kernel_rfl) (by kernel_rfl) (by kernel_rfl) (by kernel_rfl)) ?_
  intro W base args ds gs before hval hW _ _
  exact contract H enc W base args ds gs before hval hW

theorem proved:Rows.FdbLocksSaid :=
  OpenClaim.holds_of_wide 4 Try.f4 rfl rfl rfl rfl rfl rfl rfl ⟨rfl,rfl,rfl,rfl,rfl⟩ rfl rfl rfl rfl rfl (by kernel_rfl) Try.func4 (by kernel_rfl)
    (of_decide_eq_true (by kernel_rfl)) (by unfold Func.isWrapper; first | (rw [if_pos (by decide +kernel)]; kernel_rfl) | (rw [if_neg (by decide +kernel)]; exact ⟨rfl,rfl⟩))
    (fun os started H enc _ => lifted os started H enc)
#print axioms proved
end Go.Proofs.Ythloabdfkakehaa.fdbLocks
