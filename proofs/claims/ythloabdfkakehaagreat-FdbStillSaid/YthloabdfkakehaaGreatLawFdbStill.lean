/-
  Whoever stands still for ever, behind however many steps of its own: the others go on by any turns, and what took effect is as of a book; once all locks are free of it, or it goes on, all are over. No condition.
-/
import Derived.Test.YthloabdfkakehaaGreatRows
import Derived.Test.YthloabdfkakehaaGreatFgV
import Derived.Test.YthloabdfkakehaaGreatFgO
import Derived.Test.YthloabdfkakehaaGreatFgN
import Derived.Test.YthloabdfkakehaaGreatFgT
import Derived.Test.YthloabdfkakehaaGreatFgL
import Derived.Test.YthloabdfkakehaaGreatFeI
import Derived.Test.YthloabdfkakehaaGreatKeyR
import Derived.Test.YthloabdfkakehaaGreatOpen
import Derived.WalkMore
import Derived.BigGuard
import Derived.Deep.QuietTactic
import Derived.WalkKit
import Derived.ProofKit
import Derived.OpenShut
namespace Go.Proofs.YthloabdfkakehaaGreat.fdbStill
open Go.ChangeShapes Go.WideShapes Go.ChangeAt Go.RowKit
open Go.ChangeMaps (open_string)
set_option linter.unusedVariables false

theorem own:ownKnob Tryz.prog.godebug=none:=by kernel_rfl
def HeldF (fr:Bool) (s:RunS) (st:Nat):Prop:=fr=true→∀ i:Nat,s.nw st=(i:Int)→(s.A i).held=0
def FreeTo (fr:Bool) (s:RunS) (st l:Nat):Prop:=fr=true→∀ l9:Nat,1≤l9→l9 < l→s.m.h l9 ≠ (st:Int)
theorem pick_60 (x:Int):∃ p:Nat,p < 60∧wrap64 ((IntKind.u64.wrap x).tmod 60)=(p:Int)∧IntKind.i64.wrap ((IntKind.u64.wrap x).tmod 60)=(p:Int):=by
  have h0:0≤IntKind.u64.wrap x:=by rw [IntKind.wrap_u64]; omega
  rw [Int.tmod_eq_emod_of_nonneg h0]
  refine ⟨(IntKind.u64.wrap x % 60).toNat,by omega,?_,?_⟩
  · rw [IntWalk.wrap64_in _ (by omega)]; omega
  · rw [IntWalk.i64_in _ (by omega)]; omega

set_option maxRecDepth 20000 in
set_option maxHeartbeats 25600000 in
theorem walk (W:World) (a0 e0 c0 t0:Int) (a1:Value) (b1:OpsRows W a1) (a2 e2:Int) :
    Calls Tryz.prog 6 #[.agg #[.int .i64 a0,.int .i64 e0,.int .i64 c0,.int .i64 t0],a1,.agg #[.int .i64 a2,.int .i64 e2]] W (Says (.bool true) W):=by
  obtain ⟨w1,hw1⟩:∃ w1,w1=((W.alloc (.cells #[.int .i64 a0,.int .i64 e0,.int .i64 c0,.int .i64 t0] 25)).alloc (.cells #[.int .i64 a2,.int .i64 e2] 47)):=⟨_,rfl⟩
  have HB1:Hid (Below W.heap.size W w1):=by rw [hw1]; exact ((Below.refl _ _).alloc (Nat.le_refl _) _).alloc (by simp) _
  have HST0:Hid (w1.cell? ⟨W.heap.size + 1,0,none⟩=some (.int .i64 a2)∧w1.cell? ⟨W.heap.size + 1,1,none⟩=some (.int .i64 e2)∧W.heap.size + 1 < w1.heap.size):=by rw [hw1]; exact ⟨by simp [go_sem],by simp [go_sem],by simp⟩
  have HBG:Hid (Calls Tryz.prog 10 #[.agg #[.int .i64 a0,.int .i64 e0,.int .i64 c0],.int .i64 t0,a1] w1 (BegunRun w1)):=law12_begin a0 e0 c0 t0 a1 (b1.below HB1.out)
  rw [hw1] at HBG
  clear b1
  go_enter Tryz.func6,Tryz.ntmps6
  go_wp2_with fail
  refine (HBG.out).mono ?_
  rw [← hw1]
  rintro e w2 ⟨C,K9,lo,b,fb,rb,L,F,P,ls,lv,rfl,hrun,hb,x1,x2,x3,hP,hl,hk9,hlk⟩
  have HB2:=Lib.hid hb
  have HX:Hid (w1.heap.size≤lo∧w1.heap.size≤rb∧w1.heap.size≤L):=⟨x1,x2,x3⟩
  have HR2:=Lib.hid hrun
  have HL:=Lib.hid hl
  have HLK:=Lib.hid hlk
  clear hw1 HBG hrun hb x1 x2 x3 hl hk9 hlk
  go_wp2_with (first | go_big_skip | fail)
  refine (law12_told _).mono ?_
  rintro e w3 ⟨rfl,hb⟩
  have HR:=Lib.hid (HR2.out.below hb)
  have HB:=Lib.hid (HB2.out.trans (hb.mono HB2.out.size))
  clear HR2 HB2 hb
  by_cases hP2:2≤P
  · obtain ⟨g,ab,Es,V,hM,hK⟩:=HR.out
    obtain ⟨q0,c0',e0',k0,m0,_,_⟩:=(hM.slice (k:=0) (by omega) rfl).2 (by omega)
    unfold maxLen at m0
    have r6:w3.cell? ⟨rb,6,none⟩=some (V 0):=hM.cell (i:=6) (by omega)
    rw [e0'] at r6
    clear hM hK e0'
    obtain ⟨st,hstp,hpw,hpw2⟩:=pick_mod a2 (P:=P) (by omega) (by omega)
    have HSTP:=Lib.hid hstp
    have hPu:IntKind.u64.wrap ((P:Nat):Int)=(P:Int):=by rw [IntKind.wrap_u64]; omega
    have hP0:¬ ((P:Nat):Int)=0:=by omega
    have hP00:¬ P=0:=by omega
    have hPt:¬ ((P:Nat):Int) < 2:=by omega
    have s0c:=(HB.out.cell (p:=⟨W.heap.size + 1,0,none⟩) HST0.out.2.2).trans HST0.out.1
    have HRQ:=Lib.hid fun q => HR.out.below (below_drewN (Below.refl w3.heap.size w3) q)
    have HBQ:=Lib.hid fun q => below_drewN HB.out q
    clear HR HB
    go_wp2_with fail
    go_quiet (fail)
    clear r6 k0 m0 s0c hpw hpw2 hPu hP0 hP00 hPt hstp
    obtain ⟨m60,hm60,hmw,hmw2⟩:=pick_60 e2
    go_wp2
    go_loopw [9] (fun i wr => ∃ (k:Nat) (s:RunS),k≤m60∧i=.int .i64 k∧s.m.t≤k∧Hid (RunAt wr lo b fb rb L F P ls lv s)∧Hid (Below w1.heap.size w1 wr)) (fun i _ => m60 - (intOf i).toNat)
    case atStart => exact ⟨0,_,by omega,rfl,Int.le_refl 0,HRQ.out _,HBQ.out _⟩
    case round =>
      clear HRQ HBQ
      obtain ⟨k,s,hk,rfl,hst,HR,HB⟩:=hrel
      have s1c:=(HB.out.cell (p:=⟨W.heap.size + 1,1,none⟩) HST0.out.2.2).trans HST0.out.2.1
      by_cases hk6:k < m60
      · have k1:(k:Int) < (m60:Int):=by omega
        have k2:(k:Int) < 60:=by omega
        have HST:=Lib.hid (law12_step HR.out hP HL.out (by omega) HSTP.out)
        go_wp2_with fail
        refine (HST.out).mono ?_
        rintro e w5 ⟨z,s4,rfl,hrun,htch,hsr⟩
        have HS:Hid (s4.m.t≤s.m.t + 1):=Lib.hid hsr.t
        have HR':=Lib.hid hrun
        have HB':=Lib.hid (run_turn htch HB.out HX.out.1 HX.out.2.1 HX.out.2.2)
        clear hrun htch hsr HST HR HB
        go_wp2
        go_roundw
        case rel => exact ⟨k + 1,s4,by omega,by go_num,by have h9:=HS.out; have h8:=hst; revert h8 h9; generalize s4.m.t=y; generalize s.m.t=z'; intro h8 h9; omega,HR',HB'⟩
        case measure => simp [intOf]; omega
      · have k1:¬ (k:Int) < (m60:Int):=by omega
        go_wp2
        go_loopw [10] (fun i wr => ∃ (n:Nat) (s:RunS),n≤200∧i=.int .i64 n∧s.m.t≤100 + 6 * (n:Int)∧Hid (RunAt wr lo b fb rb L F P ls lv s)∧Hid (Below w1.heap.size w1 wr)) (fun i _ => 200 - (intOf i).toNat)
        case atStart => exact ⟨0,s,by omega,rfl,by omega,HR,HB⟩
        case round =>
          clear hst hk
          obtain ⟨n,s,hn,rfl,hst,HR',HB'⟩:=hrel
          have HR:=HR'
          have HB:=HB'
          clear HR' HB'
          by_cases hn2:n < 200
          · have n1:(n:Int) < 200:=by omega
            go_wp2
            go_loopw [11] (fun i wr => ∃ (j:Nat) (s3:RunS),j≤P∧i=.int .i64 j∧s3.m.t≤100 + 6 * (n:Int) + (j:Int)∧Hid (RunAt wr lo b fb rb L F P ls lv s3)∧Hid (Below w1.heap.size w1 wr)) (fun i _ => P - (intOf i).toNat)
            case atStart => exact ⟨0,s,by omega,rfl,by omega,HR,HB⟩
            case round =>
              obtain ⟨j,s3,hj,rfl,ht3,HR',HB'⟩:=hrel
              have HR:=HR'
              have HB:=HB'
              clear HR' HB'
              obtain ⟨g,ab,Es,V,hM,hK⟩:=HR.out
              obtain ⟨⟨q0,c0',e0',k0,m0⟩,_⟩:=hM.slice (k:=0) (by omega) rfl
              unfold maxLen at m0
              have r6:wr.cell? ⟨rb,6,none⟩=some (V 0):=hM.cell (i:=6) (by omega)
              rw [e0'] at r6
              clear hM hK e0'
              clear k0 m0
              by_cases hjP:j < P
              · have j1:(j:Int) < (P:Int):=by omega
                by_cases hjs:j=st
                · subst hjs
                  go_wp2
                  go_roundw
                  case rel => exact ⟨j + 1,s3,by omega,by go_num,by rw [Int.natCast_add]; revert ht3; generalize s3.m.t=y; intro h8; omega,HR,HB⟩
                  case measure => simp [intOf]; omega
                · have z3:((j:Int) == (st:Int))=false:=by simp; omega
                  have z4:¬ ((j:Int)=(st:Int)):=by omega
                  have HST:=Lib.hid (law12_step HR.out hP HL.out (by omega) hjP)
                  go_wp2_with fail
                  refine (HST.out).mono ?_
                  rintro e w5 ⟨z,s4,rfl,hrun,htch,hsr⟩
                  have HS:Hid (s4.m.t≤s3.m.t + 1):=Lib.hid hsr.t
                  have HR':=Lib.hid hrun
                  have HB':=Lib.hid (run_turn htch HB.out HX.out.1 HX.out.2.1 HX.out.2.2)
                  clear hrun htch hsr HST HR HB
                  go_wp2
                  go_roundw
                  case rel => exact ⟨j + 1,s4,by omega,by go_num,by have h9:=HS.out; have h8:=ht3; revert h8 h9; generalize s4.m.t=y; generalize s3.m.t=z'; intro h8 h9; omega,HR',HB'⟩
                  case measure => simp [intOf]; omega
              · have hjP9:j=P:=by omega
                have j1:¬ (j:Int) < (P:Int):=by omega
                go_wp2
                go_roundw
                case rel => exact ⟨n + 1,s3,by omega,by go_num,by rw [Int.natCast_add]; revert ht3; generalize s3.m.t=y; intro h8; omega,HR,HB⟩
                case measure => simp [intOf]; omega
          · have n1:¬ (n:Int) < 200:=by omega
            have hst9:s.m.t≤2000:=by omega
            clear hst
            obtain ⟨g,ab,Es,V,hM,hK⟩:=HR.out
            have HBK:=Lib.hid (law12_book hM hK (by have:=hK.N_le hP HL.out; omega))
            clear hM hK
            go_wp2_with (first | go_big_skip | fail)
            refine (HBK.out).mono ?_
            rintro e w6 ⟨p9,q9,rfl,_,_,_,hb⟩
            have HR:=Lib.hid (HR.out.below hb)
            have HB:=Lib.hid (HB.out.trans (hb.mono HB.out.size))
            clear hb
            clear HBK
            have hS8:F.S≤8:=by
              obtain ⟨g,ab,Es,V,hM,hK⟩:=HR.out
              exact hM.acts.fd.fits.S.2
            go_wp2
            go_loopw [12,13] (fun fv i wr => ∃ (l:Nat) (fr:Bool),1≤l∧l≤F.S + 1∧i=.int .i64 l∧fv=.bool fr∧Hid (FreeTo fr s st l)∧Hid (RunAt wr lo b fb rb L F P ls lv s)∧Hid (Below w1.heap.size w1 wr)) (fun _ i _ => F.S + 1 - (intOf i).toNat)
            case atStart => exact ⟨1,true,by omega,by omega,rfl,rfl,Lib.hid fun _ l9 h1 h2 => absurd h1 (by omega),HR,HB⟩
            case round =>
              obtain ⟨l,fr,hl1,hl2,rfl,rfl,HFR,HR',HB'⟩:=hrel
              have HR:=HR'
              have HB:=HB'
              clear HR' HB'
              obtain ⟨g,ab,Es,V,hM,hK⟩:=HR.out
              have r0:wr.cell? ⟨rb,0,none⟩=some (.pointer (some ⟨b,0,none⟩)):=hM.cell (i:=0) (by omega)
              have r2:wr.cell? ⟨rb,2,none⟩=some (.int .i64 (F.S:Nat)):=hM.cell (i:=2) (by omega)
              have hfl:=hM.acts.fd.fits.l
              by_cases hlS:l≤F.S
              · have l1:(l:Int)≤(F.S:Int):=by omega
                have HHO:=mem_Holder (l:Int) hM.acts.fd.mem
                rw [show holdS s.m (l:Int)=s.m.h l by unfold holdS hasL; rw [if_pos (by simp; have:=HLK.out; omega),Int.toNat_natCast]] at HHO
                obtain ⟨h9,hh9⟩:∃ h9,h9=s.m.h l:=⟨_,rfl⟩
                rw [← hh9] at HHO
                have HHO:=Lib.hid HHO
                clear hM hK hfl
                cases fr
                · clear HHO hh9
                  go_wp2
                  go_roundw
                  case rel => exact ⟨l + 1,false,by omega,by omega,by go_num,rfl,Lib.hid fun h => (by cases h),HR,HB⟩
                  case measure => simp [intOf]; omega
                · by_cases he:h9=(st:Int)
                  · subst he
                    clear hh9
                    go_wp2_with (first | go_big_skip | fail)
                    refine (HHO.out).mono ?_
                    rintro e wq ⟨rfl,rfl⟩
                    clear HHO
                    go_wp2
                    go_roundw
                    case rel => exact ⟨l + 1,false,by omega,by omega,by go_num,by first | rfl | (simp; done),Lib.hid fun h => (by cases h),HR,HB⟩
                    case measure => simp [intOf]; omega
                  · have z3:(h9 == (st:Int))=false:=by simp; exact he
                    have HFR':Hid (FreeTo true s st (l + 1)):=Lib.hid fun _ l9 h1 h2 => by
                      by_cases e9:l9=l
                      · rw [e9,← hh9]; exact he
                      · exact HFR.out rfl l9 h1 (by omega)
                    clear hh9
                    go_wp2_with (first | go_big_skip | fail)
                    refine (HHO.out).mono ?_
                    rintro e wq ⟨rfl,rfl⟩
                    clear HHO HFR
                    go_wp2
                    go_roundw
                    case rel => exact ⟨l + 1,true,by omega,by omega,by go_num,by first | rfl | (simp; done) | (simp; exact he),HFR',HR,HB⟩
                    case measure => simp [intOf]; omega
              · have l1:¬ (l:Int)≤(F.S:Int):=by omega
                have HHD:Hid (HeldF fr s st):=Lib.hid fun hf i hi => free_held hK HLK.out HSTP.out (fun l9 h1 h2 => HFR.out hf l9 h1 (by omega)) i hi
                clear hM hK hfl r0 HFR
                obtain ⟨g,ab,Es,V,hM,hK⟩:=HR.out
                have r2:wr.cell? ⟨rb,2,none⟩=some (.int .i64 (F.S:Nat)):=hM.cell (i:=2) (by omega)
                have r3:wr.cell? ⟨rb,3,none⟩=some (.int .i64 (F.B:Nat)):=hM.cell (i:=3) (by omega)
                have r4:wr.cell? ⟨rb,4,none⟩=some (.int .i64 (F.n:Nat)):=hM.cell (i:=4) (by omega)
                have r5:wr.cell? ⟨rb,5,none⟩=some (.int .i64 (F.tr:Nat)):=hM.cell (i:=5) (by omega)
                have hrw:rb < wr.heap.size:=by have:=hM.ord; omega
                have HFT:=Lib.hid hM.acts.fd.fits
                have hle:=hK.le (fun p9 => !decide (p9=st) || !fr)
                have hlt9:=leftR_le (s:=s) HL.out
                have hbl:=bound_le HFT.out
                have HBN:=Lib.hid fun V => ref12_BoundY F.S F.B F.n HFT.out.S HFT.out.B HFT.out.n F.tr HFT.out.tr V
                have HLF:=Lib.hid fun w' (h:RunAt w' lo b fb rb L F P ls lv s) => law12_left h hP fun p hp => (HL.out p hp).1
                obtain ⟨lf,hlf⟩:∃ n,n=leftR P ls s:=⟨_,rfl⟩
                obtain ⟨bd,hbd⟩:∃ n,n=boundF F:=⟨_,rfl⟩
                rw [← hlf] at hle hlt9
                rw [← hbd] at hle hbl
                simp only [← hlf] at HLF
                have HBN:Hid (∀ V,Calls Tryz.prog 15 #[.agg #[.int .i64 (F.S:Nat),.int .i64 (F.B:Nat),.int .i64 (F.n:Nat)],.int .i64 (F.tr:Nat)] V (Says (.int .i64 (bd:Nat)) V)):=fun V => by rw [hbd]; exact HBN.out V
                obtain ⟨mo,hmo⟩:∃ n,n=lf * bd:=⟨_,rfl⟩
                rw [← hmo] at hle
                have h78:lf≤78:=by omega
                have hmo9:mo≤780000:=by rw [hmo]; exact Nat.mul_le_mul h78 hbl
                have hmoI:(mo:Int)≤780000:=Int.ofNat_le.2 hmo9
                have y1:IntKind.i64.wrap ((lf:Int) * (bd:Int))=(mo:Int):=by rw [← Int.natCast_mul,← hmo]; exact IntWalk.i64_in _ (by omega)
                have y2:wrap64 ((lf:Int) * (bd:Int))=(mo:Int):=by rw [← Int.natCast_mul,← hmo]; exact IntWalk.wrap64_in _ (by omega)
                have HLE:=Lib.hid hle
                clear hM hK hle hlt9 hbl hlf hbd hmo
                go_wp2_with (first | go_big_skip | fail)
                refine wp_region_held_drew (S:=fun w' => w'.cell? ⟨rb,2,none⟩=some (.int .i64 (F.S:Nat))∧w'.cell? ⟨rb,3,none⟩=some (.int .i64 (F.B:Nat))∧w'.cell? ⟨rb,4,none⟩=some (.int .i64 (F.n:Nat))∧w'.cell? ⟨rb,5,none⟩=some (.int .i64 (F.tr:Nat))) (by kernel_rfl) ?_ (fun hHeld => ?_)
                · exact ⟨r2,r3,r4,r5⟩
                obtain ⟨u0,hu0⟩:∃ w',w'=wr.drew:=⟨_,rfl⟩
                have hb:Below wr.heap.size wr u0:=by rw [hu0]; exact (Below.refl _ _).drew
                rw [← hu0] at hHeld ⊢
                clear hu0
                have HR:=Lib.hid (HR.out.below hb)
                have HB:=Lib.hid (HB.out.trans (hb.mono HB.out.size))
                have r2:=(hb.cell (p:=⟨rb,2,none⟩) hrw).trans r2
                have r3:=(hb.cell (p:=⟨rb,3,none⟩) hrw).trans r3
                have r4:=(hb.cell (p:=⟨rb,4,none⟩) hrw).trans r4
                have r5:=(hb.cell (p:=⟨rb,5,none⟩) hrw).trans r5
                have hrw:=Nat.lt_of_lt_of_le hrw hb.size
                clear hb
                refine tkR 0 rfl ?_
                refine tkR 2 rfl ?_
                refine tkR 3 rfl ?_
                refine tkR 4 rfl ?_
                refine tkR 5 rfl ?_
                refine tkR 6 rfl ?_
                refine tkR 7 rfl ?_
                refine tkR 8 rfl ?_
                refine tkR 9 rfl ?_
                refine clR 1 rfl fun K hK => ?_
                go_simp
                refine (HLF.out _ HR.out).mono ?_
                rintro e u1 ⟨rfl,hb⟩
                have HR:=Lib.hid (HR.out.below hb)
                have HB:=Lib.hid (HB.out.trans (hb.mono HB.out.size))
                have r2:=(hb.cell (p:=⟨rb,2,none⟩) hrw).trans r2
                have r3:=(hb.cell (p:=⟨rb,3,none⟩) hrw).trans r3
                have r4:=(hb.cell (p:=⟨rb,4,none⟩) hrw).trans r4
                have r5:=(hb.cell (p:=⟨rb,5,none⟩) hrw).trans r5
                have hrw:=Nat.lt_of_lt_of_le hrw hb.size
                clear hb

                refine hK.out _ _ ?_ (fun hHeld => ?_)
                · (try dsimp only)
                  exact ⟨r2,r3,r4,r5⟩
                clear hK K
                (try simp only [Act.put,sqA,sqB,sqC])
                refine clR 10 rfl fun K hK => ?_
                go_simp
                refine (HBN.out _).mono ?_
                rintro e u2 ⟨rfl,hb⟩
                have HR:=Lib.hid (HR.out.below hb)
                have HB:=Lib.hid (HB.out.trans (hb.mono HB.out.size))
                have r2:=(hb.cell (p:=⟨rb,2,none⟩) hrw).trans r2
                have r3:=(hb.cell (p:=⟨rb,3,none⟩) hrw).trans r3
                have r4:=(hb.cell (p:=⟨rb,4,none⟩) hrw).trans r4
                have r5:=(hb.cell (p:=⟨rb,5,none⟩) hrw).trans r5
                have hrw:=Nat.lt_of_lt_of_le hrw hb.size
                clear hb

                refine hK.out _ _ ?_ (fun hHeld => ?_)
                · (try dsimp only)
                  exact ⟨r2,r3,r4,r5⟩
                clear hK K
                (try simp only [Act.put,sqA,sqB,sqC])
                refine tkR 11 rfl ?_
                refine tkR 12 rfl ?_
                refine wpAnyH_done (by kernel_rfl) ?_ _
                clear hHeld r2 r3 r4 r5 HLF HBN y1 y2 hrw
                go_wp2
                go_loopw [15] (fun i wr => ∃ (n:Nat) (s2:RunS),n≤mo∧i=.int .i64 n∧s2.m.t≤2000 + 6 * (n:Int)∧muR F P ls (fun p9 => !decide (p9=st) || !fr) s2≤mo - n∧Hid (HeldF fr s2 st)∧Hid (RunAt wr lo b fb rb L F P ls lv s2)∧Hid (Below w1.heap.size w1 wr)) (fun i _ => mo - (intOf i).toNat)
                case atStart => exact ⟨0,s,by omega,rfl,by omega,HLE.out,HHD,HR,HB⟩
                case round =>
                  obtain ⟨n,s2,hn,rfl,ht2,hmu2,HHD',HR',HB'⟩:=hrel
                  have HHD:=HHD'
                  have HR:=HR'
                  have HB:=HB'
                  clear HR' HB'
                  clear HHD' HLE
                  have HLW:=law12_left HR.out hP fun p hp => (HL.out p hp).1
                  have HK2:Hid (∃ g,RunK F P ls s2 g):=by
                    obtain ⟨g,ab,Es,V,hM,hK⟩:=HR.out
                    exact ⟨g,hK⟩
                  obtain ⟨l2',hl2⟩:∃ n,n=leftR P ls s2:=⟨_,rfl⟩
                  rw [← hl2] at HLW
                  have HLW:=Lib.hid HLW
                  have HL2:=Lib.hid hl2
                  by_cases hnm:n < mo
                  · have n1:(n:Int) < (mo:Int):=by omega
                    by_cases hl0:0 < l2'
                    · have n2:(0:Int) < (l2':Int):=by omega
                      clear hl2
                      go_wp2_with (first | go_big_skip | fail)
                      refine (HLW.out).mono ?_
                      rintro e wa ⟨rfl,hb⟩
                      have HR:=Lib.hid (HR.out.below hb)
                      have HB:=Lib.hid (HB.out.trans (hb.mono HB.out.size))
                      clear hb
                      clear HLW
                      go_wp2
                      have HHD2:=HHD
                      go_loopw [16] (fun i wr => ∃ (j:Nat) (s3:RunS),j≤P∧i=.int .i64 j∧s3.m.t≤2000 + 6 * (n:Int) + (j:Int)∧Hid (RoundR F P ls (fun p9 => !decide (p9=st) || !fr) s2 j s3)∧Hid (HeldF fr s3 st)∧Hid (RunAt wr lo b fb rb L F P ls lv s3)∧Hid (Below w1.heap.size w1 wr)) (fun i _ => P - (intOf i).toNat)
                      case atStart => exact ⟨0,s2,by omega,rfl,by omega,RoundR.start s2,HHD,HR,HB⟩
                      case round =>
                        clear HHD
                        obtain ⟨j,s3,hj,rfl,ht3,HRD,HHD,HR',HB'⟩:=hrel
                        have HR:=HR'
                        have HB:=HB'
                        clear HR' HB'
                        obtain ⟨g,ab,Es,V,hM,hK⟩:=HR.out
                        obtain ⟨⟨q0,c0',e0',k0,m0⟩,_⟩:=hM.slice (k:=0) (by omega) rfl
                        unfold maxLen at m0
                        have r6:wr.cell? ⟨rb,6,none⟩=some (V 0):=hM.cell (i:=6) (by omega)
                        rw [e0'] at r6
                        clear hM hK e0'
                        clear k0 m0
                        by_cases hjP:j < P
                        · have j1:(j:Int) < (P:Int):=by omega
                          by_cases hjs:j=st
                          · subst hjs
                            cases fr
                            · have HST:=Lib.hid (law12_step HR.out hP HL.out (by omega) hjP)
                              go_wp2_with fail
                              refine (HST.out).mono ?_
                              rintro e w5 ⟨z,s4,rfl,hrun,htch,hsr⟩
                              have HS:Hid (s4.m.t≤s3.m.t + 1):=Lib.hid hsr.t
                              have HRD':Hid (RoundR F P ls (fun p9 => !decide (p9=j) || !false) s2 (j + 1) s4):=by
                                obtain ⟨g,ab,Es,V,hM,hK⟩:=HR.out
                                exact HRD.out.step hK HFT.out hjP (by simp) hsr
                              have HHD':Hid (HeldF false s4 j):=by
                                obtain ⟨g,ab,Es,V,hM,hK⟩:=HR.out
                                exact Lib.hid fun h => by cases h
                              clear HRD HHD
                              have HR':=Lib.hid hrun
                              have HB':=Lib.hid (run_turn htch HB.out HX.out.1 HX.out.2.1 HX.out.2.2)
                              clear hrun htch hsr HST HR HB
                              go_wp2
                              go_roundw
                              case rel => exact ⟨j + 1,s4,by omega,by go_num,by have h9:=HS.out; have h8:=ht3; revert h8 h9; generalize s4.m.t=y; generalize s3.m.t=z'; intro h8 h9; omega,HRD',HHD',HR',HB'⟩
                              case measure => simp [intOf]; omega
                            · have HRD':Hid (RoundR F P ls (fun p9 => !decide (p9=j) || !true) s2 (j + 1) s3):=HRD.out.skip (by simp)
                              clear HRD
                              go_wp2
                              go_roundw
                              case rel => exact ⟨j + 1,s3,by omega,by go_num,by rw [Int.natCast_add]; revert ht3; generalize s3.m.t=y; intro h8; omega,HRD',HHD,HR,HB⟩
                              case measure => simp [intOf]; omega
                          · have z3:((j:Int) == (st:Int))=false:=by simp; omega
                            have z4:¬ ((j:Int)=(st:Int)):=by omega
                            have HST:=Lib.hid (law12_step HR.out hP HL.out (by omega) hjP)
                            go_wp2_with fail
                            refine (HST.out).mono ?_
                            rintro e w5 ⟨z,s4,rfl,hrun,htch,hsr⟩
                            have HS:Hid (s4.m.t≤s3.m.t + 1):=Lib.hid hsr.t
                            have HRD':Hid (RoundR F P ls (fun p9 => !decide (p9=st) || !fr) s2 (j + 1) s4):=by
                              obtain ⟨g,ab,Es,V,hM,hK⟩:=HR.out
                              exact HRD.out.step hK HFT.out hjP (by simp [hjs]) hsr
                            have HHD':Hid (HeldF fr s4 st):=by
                              obtain ⟨g,ab,Es,V,hM,hK⟩:=HR.out
                              exact Lib.hid fun hf i hi => by
                                obtain ⟨e1,_,e3⟩:=still_same (p:=st) hK HSTP.out hjs hjP hsr
                                rw [e1] at hi
                                rw [e3 i hi]
                                exact HHD.out hf i hi
                            clear HRD HHD
                            have HR':=Lib.hid hrun
                            have HB':=Lib.hid (run_turn htch HB.out HX.out.1 HX.out.2.1 HX.out.2.2)
                            clear hrun htch hsr HST HR HB
                            go_wp2
                            go_roundw
                            case rel => exact ⟨j + 1,s4,by omega,by go_num,by have h9:=HS.out; have h8:=ht3; revert h8 h9; generalize s4.m.t=y; generalize s3.m.t=z'; intro h8 h9; omega,HRD',HHD',HR',HB'⟩
                            case measure => simp [intOf]; omega
                        · have hjP9:j=P:=by omega
                          have j1:¬ (j:Int) < (P:Int):=by omega
                          have hless:muR F P ls (fun p9 => !decide (p9=st) || !fr) s3≤mo - (n + 1):=by
                            obtain ⟨g,hK⟩:=HK2.out
                            subst hjP9
                            exact HRD.out.down hK (fun p hp hq i hi => by
                              have h9:p=st∧fr=true:=by
                                simp at hq
                                exact hq
                              obtain ⟨e1,e2⟩:=h9
                              subst e1
                              exact HHD2.out e2 i hi) hmu2
                          clear HRD HHD2
                          go_wp2
                          go_roundw
                          case rel => exact ⟨n + 1,s3,by omega,by go_num,by rw [Int.natCast_add]; revert ht3; generalize s3.m.t=y; intro h8; omega,hless,HHD,HR,HB⟩
                          case measure => simp [intOf]; omega
                    · have hl00:l2'=0:=by omega
                      subst hl00
                      have HALL:Hid (∀ p,p < P→(fun p9 => !decide (p9=st) || !fr) p=true→s2.nw p=-1∧s2.at_ p=(ls p).length):=by
                        obtain ⟨g,hK⟩:=HK2.out
                        exact fun p hp _ => leftR_all hK hl2.symm p hp
                      clear hl2
                      go_wp2_with (first | go_big_skip | fail)
                      refine (HLW.out).mono ?_
                      rintro e wa ⟨rfl,hb⟩
                      have HR:=Lib.hid (HR.out.below hb)
                      have HB:=Lib.hid (HB.out.trans (hb.mono HB.out.size))
                      clear hb
                      clear HLW HHD
                      go_wp2
                      go_loopw [17] (fun i wr => ∃ x:Nat,x≤P∧i=.int .i64 x∧Hid (RunAt wr lo b fb rb L F P ls lv s2)∧Hid (Below w1.heap.size w1 wr)) (fun i _ => P - (intOf i).toNat)
                      case atStart => exact ⟨0,by omega,rfl,HR,HB⟩
                      case round =>
                        obtain ⟨x,hx,rfl,HR',HB'⟩:=hrel
                        have HR:=HR'
                        have HB:=HB'
                        clear HR' HB'
                        by_cases hxP:x < P
                        · have x1:(x:Int) < (P:Int):=by omega
                          have x0:(0:Int)≤(x:Int):=Int.natCast_nonneg _
                          obtain ⟨g,ab,Es,V,hM,hK⟩:=HR.out
                          obtain ⟨q0,c0',e0',k0,m0,d0,_⟩:=(hM.slice (k:=0) (by omega) rfl).2 (by omega)
                          obtain ⟨q1,c1,e1',k1,m1,d1,_⟩:=(hM.slice (k:=1) (by omega) rfl).2 (by omega)
                          obtain ⟨q2,c2,e2',k2,m2,d2,_⟩:=(hM.slice (k:=2) (by omega) rfl).2 (by omega)
                          unfold maxLen at m0 m1 m2
                          have a0_:=(d0 x (by omega)).trans (show ((List.range P).map lv)[x]?=some (lv x) by simp [List.getElem?_range hxP])
                          have a1_:=(d1 x (by omega)).trans (kvI_at _ hxP)
                          have a2_:=(d2 x (by omega)).trans (kvI_at _ hxP)
                          obtain ⟨⟨Ap,cp,ep,kp,mp⟩,_⟩:=hM.slice (k:=7 + x) (by omega) (rows_inL ab V x)
                          rw [ep] at a0_
                          have r6:wr.cell? ⟨rb,6,none⟩=some (V 0):=hM.cell (i:=6) (by omega)
                          have r7:wr.cell? ⟨rb,7,none⟩=some (V 1):=hM.cell (i:=7) (by omega)
                          have r8:wr.cell? ⟨rb,8,none⟩=some (V 2):=hM.cell (i:=8) (by omega)
                          rw [e0'] at r6
                          rw [e1'] at r7
                          rw [e2'] at r8
                          have hq:=HALL.out x hxP
                          obtain ⟨nx,hnx⟩:∃ nx,nx=(ls x).length:=⟨_,rfl⟩
                          obtain ⟨atx,hatx⟩:∃ atx,atx=s2.at_ x:=⟨_,rfl⟩
                          obtain ⟨nwx,hnwx⟩:∃ nwx,nwx=s2.nw x:=⟨_,rfl⟩
                          rw [← hnx] at a0_ hq
                          rw [← hatx] at a1_ hq
                          rw [← hnwx] at a2_ hq
                          clear d0 d1 d2 e0' e1' e2' ep hnx hatx hnwx hM hK m0 m1 m2 mp kp
                          by_cases hxs:x=st
                          · subst hxs
                            cases fr
                            · obtain ⟨hn1,hn2⟩:=hq (by simp)
                              subst hn1
                              subst hn2
                              have z2:¬ ((atx:Int) < (atx:Int)):=by omega
                              go_wp2_with fail
                              refine wp_region_held_drew (S:=fun w' => w'.cell? ⟨rb,8,none⟩=some (.slice (some ⟨q2,0,none⟩) P c2)∧w'.cell? ⟨q2,x,none⟩=some (.int .i64 (-1))∧w'.cell? ⟨rb,7,none⟩=some (.slice (some ⟨q1,0,none⟩) P c1)∧w'.cell? ⟨q1,x,none⟩=some (.int .i64 (atx:Nat))∧w'.cell? ⟨rb,6,none⟩=some (.slice (some ⟨q0,0,none⟩) P c0')∧w'.cell? ⟨q0,x,none⟩=some (.slice Ap atx cp)) (by kernel_rfl) ?_ (fun hHeld => ?_)
                              · exact ⟨r8,a2_,r7,a1_,r6,a0_⟩
                              obtain ⟨u0,hu0⟩:∃ w',w'=wr.drew:=⟨_,rfl⟩
                              have hb:Below wr.heap.size wr u0:=by rw [hu0]; exact (Below.refl _ _).drew
                              rw [← hu0] at hHeld ⊢
                              clear hu0
                              have HR:=Lib.hid (HR.out.below hb)
                              have HB:=Lib.hid (HB.out.trans (hb.mono HB.out.size))
                              clear hb
                              refine tkR 0 rfl ?_
                              refine tkR 1 rfl ?_
                              refine tkR 2 rfl ?_
                              refine tkR 3 rfl ?_
                              refine tkR 4 rfl ?_
                              refine tkR 5 rfl ?_
                              refine tkR 6 rfl ?_
                              refine tkR 7 rfl ?_
                              refine tkR 8 rfl ?_
                              refine tkR 9 rfl ?_
                              refine tkR 10 rfl ?_
                              refine tkR 11 rfl ?_
                              refine tkR 12 rfl ?_
                              refine tkR 13 rfl ?_
                              refine tkR 14 rfl ?_
                              refine tkR 15 rfl ?_
                              refine tkR 16 rfl ?_
                              refine tkR 17 rfl ?_
                              refine tkR 18 rfl ?_
                              refine tkR 19 rfl ?_
                              refine tkR 20 rfl ?_
                              refine tkR 21 rfl ?_
                              refine tkR 22 rfl ?_
                              refine tkR 23 rfl ?_
                              refine tkR 24 rfl ?_
                              refine tkR 25 rfl ?_
                              refine tkR 26 rfl ?_
                              refine tkR 27 rfl ?_
                              refine tkR 28 rfl ?_
                              refine tkR 29 rfl ?_
                              refine tkR 30 rfl ?_
                              refine tkR 31 rfl ?_
                              refine tkR 32 rfl ?_
                              refine tkR 33 rfl ?_
                              refine tkR 34 rfl ?_
                              refine wpAnyH_done (by kernel_rfl) ?_ _
                              clear hHeld
                              go_wp2
                              go_roundw
                              case rel => exact ⟨x + 1,by omega,by go_num,HR,HB⟩
                              case measure => simp [intOf]; omega
                            · clear hq
                              go_wp2_with fail
                              refine wp_region_held_drew (S:=fun w' => w'.cell? ⟨rb,8,none⟩=some (.slice (some ⟨q2,0,none⟩) P c2)∧w'.cell? ⟨q2,x,none⟩=some (.int .i64 nwx)∧w'.cell? ⟨rb,7,none⟩=some (.slice (some ⟨q1,0,none⟩) P c1)∧w'.cell? ⟨q1,x,none⟩=some (.int .i64 (atx:Nat))∧w'.cell? ⟨rb,6,none⟩=some (.slice (some ⟨q0,0,none⟩) P c0')∧w'.cell? ⟨q0,x,none⟩=some (.slice Ap nx cp)) (by kernel_rfl) ?_ (fun hHeld => ?_)
                              · exact ⟨r8,a2_,r7,a1_,r6,a0_⟩
                              obtain ⟨u0,hu0⟩:∃ w',w'=wr.drew:=⟨_,rfl⟩
                              have hb:Below wr.heap.size wr u0:=by rw [hu0]; exact (Below.refl _ _).drew
                              rw [← hu0] at hHeld ⊢
                              clear hu0
                              have HR:=Lib.hid (HR.out.below hb)
                              have HB:=Lib.hid (HB.out.trans (hb.mono HB.out.size))
                              clear hb
                              refine tkR 0 rfl ?_
                              refine tkR 1 rfl ?_
                              refine tkR 2 rfl ?_
                              refine tkR 3 rfl ?_
                              refine tkR 4 rfl ?_
                              refine tkR 5 rfl ?_
                              refine tkR 6 rfl ?_
                              refine tkR 7 rfl ?_
                              refine skR 8 rfl ?_
                              refine skR 9 rfl ?_
                              refine skR 10 rfl ?_
                              refine skR 11 rfl ?_
                              refine skR 12 rfl ?_
                              refine skR 13 rfl ?_
                              refine skR 14 rfl ?_
                              refine skR 15 rfl ?_
                              refine skR 16 rfl ?_
                              refine skR 17 rfl ?_
                              refine skR 18 rfl ?_
                              refine skR 19 rfl ?_
                              refine skR 20 rfl ?_
                              refine skR 21 rfl ?_
                              refine skR 22 rfl ?_
                              refine skR 23 rfl ?_
                              refine skR 24 rfl ?_
                              refine skR 25 rfl ?_
                              refine skR 26 rfl ?_
                              refine skR 27 rfl ?_
                              refine skR 28 rfl ?_
                              refine skR 29 rfl ?_
                              refine skR 30 rfl ?_
                              refine skR 31 rfl ?_
                              refine skR 32 rfl ?_
                              refine skR 33 rfl ?_
                              refine tkR 34 rfl ?_
                              refine wpAnyH_done (by kernel_rfl) ?_ _
                              clear hHeld
                              go_wp2
                              go_roundw
                              case rel => exact ⟨x + 1,by omega,by go_num,HR,HB⟩
                              case measure => simp [intOf]; omega
                          · obtain ⟨hn1,hn2⟩:=hq (by simp [hxs])
                            subst hn1
                            subst hn2
                            have z2:¬ ((atx:Int) < (atx:Int)):=by omega
                            have z3:((x:Int) == (st:Int))=false:=by simp; omega
                            have z4:¬ ((x:Int)=(st:Int)):=by omega
                            have z5:((x:Int) != (st:Int))=true:=by simp [bne]; omega
                            go_wp2_with fail
                            refine wp_region_held_drew (S:=fun w' => w'.cell? ⟨rb,8,none⟩=some (.slice (some ⟨q2,0,none⟩) P c2)∧w'.cell? ⟨q2,x,none⟩=some (.int .i64 (-1))∧w'.cell? ⟨rb,7,none⟩=some (.slice (some ⟨q1,0,none⟩) P c1)∧w'.cell? ⟨q1,x,none⟩=some (.int .i64 (atx:Nat))∧w'.cell? ⟨rb,6,none⟩=some (.slice (some ⟨q0,0,none⟩) P c0')∧w'.cell? ⟨q0,x,none⟩=some (.slice Ap atx cp)) (by kernel_rfl) ?_ (fun hHeld => ?_)
                            · exact ⟨r8,a2_,r7,a1_,r6,a0_⟩
                            obtain ⟨u0,hu0⟩:∃ w',w'=wr.drew:=⟨_,rfl⟩
                            have hb:Below wr.heap.size wr u0:=by rw [hu0]; exact (Below.refl _ _).drew
                            rw [← hu0] at hHeld ⊢
                            clear hu0
                            have HR:=Lib.hid (HR.out.below hb)
                            have HB:=Lib.hid (HB.out.trans (hb.mono HB.out.size))
                            clear hb
                            refine tkR 0 rfl ?_
                            refine tkR 1 rfl ?_
                            refine tkR 2 rfl ?_
                            refine tkR 3 rfl ?_
                            refine skR 4 rfl ?_
                            refine skR 5 rfl ?_
                            refine tkR 6 rfl ?_
                            refine tkR 7 rfl ?_
                            refine tkR 8 rfl ?_
                            refine tkR 9 rfl ?_
                            refine tkR 10 rfl ?_
                            refine tkR 11 rfl ?_
                            refine tkR 12 rfl ?_
                            refine tkR 13 rfl ?_
                            refine tkR 14 rfl ?_
                            refine tkR 15 rfl ?_
                            refine tkR 16 rfl ?_
                            refine tkR 17 rfl ?_
                            refine tkR 18 rfl ?_
                            refine tkR 19 rfl ?_
                            refine tkR 20 rfl ?_
                            refine tkR 21 rfl ?_
                            refine tkR 22 rfl ?_
                            refine tkR 23 rfl ?_
                            refine tkR 24 rfl ?_
                            refine tkR 25 rfl ?_
                            refine tkR 26 rfl ?_
                            refine tkR 27 rfl ?_
                            refine tkR 28 rfl ?_
                            refine tkR 29 rfl ?_
                            refine tkR 30 rfl ?_
                            refine tkR 31 rfl ?_
                            refine tkR 32 rfl ?_
                            refine tkR 33 rfl ?_
                            refine tkR 34 rfl ?_
                            refine wpAnyH_done (by kernel_rfl) ?_ _
                            clear hHeld
                            go_wp2
                            go_roundw
                            case rel => exact ⟨x + 1,by omega,by go_num,HR,HB⟩
                            case measure => simp [intOf]; omega
                        · have hx9:x=P:=by omega
                          have x1:¬ (x:Int) < (P:Int):=by omega
                          obtain ⟨g,ab,Es,V,hM,hK⟩:=HR.out
                          obtain ⟨⟨q0,c0',e0',k0,m0⟩,_⟩:=hM.slice (k:=0) (by omega) rfl
                          unfold maxLen at m0
                          have r6:wr.cell? ⟨rb,6,none⟩=some (V 0):=hM.cell (i:=6) (by omega)
                          rw [e0'] at r6
                          clear hM hK e0'
                          obtain ⟨g,ab,Es,V,hM,hK⟩:=HR.out
                          have HBK:=Lib.hid (law12_book hM hK (by have:=hK.N_le hP HL.out; omega))
                          clear hM hK
                          go_wp2_with fail
                          refine (HBK.out).mono ?_
                          rintro e w6 ⟨p9,q9,rfl,_,_,_,hb⟩
                          have HR:=Lib.hid (HR.out.below hb)
                          have HB:=Lib.hid (HB.out.trans (hb.mono HB.out.size))
                          clear hb
                          clear HBK
                          go_wp2
                          go_ret
                          exact ⟨by first | rfl | (simp; done),HB1.out.trans (HB.out.mono HB1.out.size)⟩
                  · have HALL:Hid (∀ p,p < P→(fun p9 => !decide (p9=st) || !fr) p=true→s2.nw p=-1∧s2.at_ p=(ls p).length):=by
                      obtain ⟨g,hK⟩:=HK2.out
                      exact fun p hp hq => muR_zero (Q:=(fun p9 => !decide (p9=st) || !fr)) hK (by omega) p hp hq
                    have n1:¬ (n:Int) < (mo:Int):=by omega
                    clear HLW HHD
                    go_wp2
                    go_loopw [17] (fun i wr => ∃ x:Nat,x≤P∧i=.int .i64 x∧Hid (RunAt wr lo b fb rb L F P ls lv s2)∧Hid (Below w1.heap.size w1 wr)) (fun i _ => P - (intOf i).toNat)
                    case atStart => exact ⟨0,by omega,rfl,HR,HB⟩
                    case round =>
                      obtain ⟨x,hx,rfl,HR',HB'⟩:=hrel
                      have HR:=HR'
                      have HB:=HB'
                      clear HR' HB'
                      by_cases hxP:x < P
                      · have x1:(x:Int) < (P:Int):=by omega
                        have x0:(0:Int)≤(x:Int):=Int.natCast_nonneg _
                        obtain ⟨g,ab,Es,V,hM,hK⟩:=HR.out
                        obtain ⟨q0,c0',e0',k0,m0,d0,_⟩:=(hM.slice (k:=0) (by omega) rfl).2 (by omega)
                        obtain ⟨q1,c1,e1',k1,m1,d1,_⟩:=(hM.slice (k:=1) (by omega) rfl).2 (by omega)
                        obtain ⟨q2,c2,e2',k2,m2,d2,_⟩:=(hM.slice (k:=2) (by omega) rfl).2 (by omega)
                        unfold maxLen at m0 m1 m2
                        have a0_:=(d0 x (by omega)).trans (show ((List.range P).map lv)[x]?=some (lv x) by simp [List.getElem?_range hxP])
                        have a1_:=(d1 x (by omega)).trans (kvI_at _ hxP)
                        have a2_:=(d2 x (by omega)).trans (kvI_at _ hxP)
                        obtain ⟨⟨Ap,cp,ep,kp,mp⟩,_⟩:=hM.slice (k:=7 + x) (by omega) (rows_inL ab V x)
                        rw [ep] at a0_
                        have r6:wr.cell? ⟨rb,6,none⟩=some (V 0):=hM.cell (i:=6) (by omega)
                        have r7:wr.cell? ⟨rb,7,none⟩=some (V 1):=hM.cell (i:=7) (by omega)
                        have r8:wr.cell? ⟨rb,8,none⟩=some (V 2):=hM.cell (i:=8) (by omega)
                        rw [e0'] at r6
                        rw [e1'] at r7
                        rw [e2'] at r8
                        have hq:=HALL.out x hxP
                        obtain ⟨nx,hnx⟩:∃ nx,nx=(ls x).length:=⟨_,rfl⟩
                        obtain ⟨atx,hatx⟩:∃ atx,atx=s2.at_ x:=⟨_,rfl⟩
                        obtain ⟨nwx,hnwx⟩:∃ nwx,nwx=s2.nw x:=⟨_,rfl⟩
                        rw [← hnx] at a0_ hq
                        rw [← hatx] at a1_ hq
                        rw [← hnwx] at a2_ hq
                        clear d0 d1 d2 e0' e1' e2' ep hnx hatx hnwx hM hK m0 m1 m2 mp kp
                        by_cases hxs:x=st
                        · subst hxs
                          cases fr
                          · obtain ⟨hn1,hn2⟩:=hq (by simp)
                            subst hn1
                            subst hn2
                            have z2:¬ ((atx:Int) < (atx:Int)):=by omega
                            go_wp2_with fail
                            refine wp_region_held_drew (S:=fun w' => w'.cell? ⟨rb,8,none⟩=some (.slice (some ⟨q2,0,none⟩) P c2)∧w'.cell? ⟨q2,x,none⟩=some (.int .i64 (-1))∧w'.cell? ⟨rb,7,none⟩=some (.slice (some ⟨q1,0,none⟩) P c1)∧w'.cell? ⟨q1,x,none⟩=some (.int .i64 (atx:Nat))∧w'.cell? ⟨rb,6,none⟩=some (.slice (some ⟨q0,0,none⟩) P c0')∧w'.cell? ⟨q0,x,none⟩=some (.slice Ap atx cp)) (by kernel_rfl) ?_ (fun hHeld => ?_)
                            · exact ⟨r8,a2_,r7,a1_,r6,a0_⟩
                            obtain ⟨u0,hu0⟩:∃ w',w'=wr.drew:=⟨_,rfl⟩
                            have hb:Below wr.heap.size wr u0:=by rw [hu0]; exact (Below.refl _ _).drew
                            rw [← hu0] at hHeld ⊢
                            clear hu0
                            have HR:=Lib.hid (HR.out.below hb)
                            have HB:=Lib.hid (HB.out.trans (hb.mono HB.out.size))
                            clear hb
                            refine tkR 0 rfl ?_
                            refine tkR 1 rfl ?_
                            refine tkR 2 rfl ?_
                            refine tkR 3 rfl ?_
                            refine tkR 4 rfl ?_
                            refine tkR 5 rfl ?_
                            refine tkR 6 rfl ?_
                            refine tkR 7 rfl ?_
                            refine tkR 8 rfl ?_
                            refine tkR 9 rfl ?_
                            refine tkR 10 rfl ?_
                            refine tkR 11 rfl ?_
                            refine tkR 12 rfl ?_
                            refine tkR 13 rfl ?_
                            refine tkR 14 rfl ?_
                            refine tkR 15 rfl ?_
                            refine tkR 16 rfl ?_
                            refine tkR 17 rfl ?_
                            refine tkR 18 rfl ?_
                            refine tkR 19 rfl ?_
                            refine tkR 20 rfl ?_
                            refine tkR 21 rfl ?_
                            refine tkR 22 rfl ?_
                            refine tkR 23 rfl ?_
                            refine tkR 24 rfl ?_
                            refine tkR 25 rfl ?_
                            refine tkR 26 rfl ?_
                            refine tkR 27 rfl ?_
                            refine tkR 28 rfl ?_
                            refine tkR 29 rfl ?_
                            refine tkR 30 rfl ?_
                            refine tkR 31 rfl ?_
                            refine tkR 32 rfl ?_
                            refine tkR 33 rfl ?_
                            refine tkR 34 rfl ?_
                            refine wpAnyH_done (by kernel_rfl) ?_ _
                            clear hHeld
                            go_wp2
                            go_roundw
                            case rel => exact ⟨x + 1,by omega,by go_num,HR,HB⟩
                            case measure => simp [intOf]; omega
                          · clear hq
                            go_wp2_with fail
                            refine wp_region_held_drew (S:=fun w' => w'.cell? ⟨rb,8,none⟩=some (.slice (some ⟨q2,0,none⟩) P c2)∧w'.cell? ⟨q2,x,none⟩=some (.int .i64 nwx)∧w'.cell? ⟨rb,7,none⟩=some (.slice (some ⟨q1,0,none⟩) P c1)∧w'.cell? ⟨q1,x,none⟩=some (.int .i64 (atx:Nat))∧w'.cell? ⟨rb,6,none⟩=some (.slice (some ⟨q0,0,none⟩) P c0')∧w'.cell? ⟨q0,x,none⟩=some (.slice Ap nx cp)) (by kernel_rfl) ?_ (fun hHeld => ?_)
                            · exact ⟨r8,a2_,r7,a1_,r6,a0_⟩
                            obtain ⟨u0,hu0⟩:∃ w',w'=wr.drew:=⟨_,rfl⟩
                            have hb:Below wr.heap.size wr u0:=by rw [hu0]; exact (Below.refl _ _).drew
                            rw [← hu0] at hHeld ⊢
                            clear hu0
                            have HR:=Lib.hid (HR.out.below hb)
                            have HB:=Lib.hid (HB.out.trans (hb.mono HB.out.size))
                            clear hb
                            refine tkR 0 rfl ?_
                            refine tkR 1 rfl ?_
                            refine tkR 2 rfl ?_
                            refine tkR 3 rfl ?_
                            refine tkR 4 rfl ?_
                            refine tkR 5 rfl ?_
                            refine tkR 6 rfl ?_
                            refine tkR 7 rfl ?_
                            refine skR 8 rfl ?_
                            refine skR 9 rfl ?_
                            refine skR 10 rfl ?_
                            refine skR 11 rfl ?_
                            refine skR 12 rfl ?_
                            refine skR 13 rfl ?_
                            refine skR 14 rfl ?_
                            refine skR 15 rfl ?_
                            refine skR 16 rfl ?_
                            refine skR 17 rfl ?_
                            refine skR 18 rfl ?_
                            refine skR 19 rfl ?_
                            refine skR 20 rfl ?_
                            refine skR 21 rfl ?_
                            refine skR 22 rfl ?_
                            refine skR 23 rfl ?_
                            refine skR 24 rfl ?_
                            refine skR 25 rfl ?_
                            refine skR 26 rfl ?_
                            refine skR 27 rfl ?_
                            refine skR 28 rfl ?_
                            refine skR 29 rfl ?_
                            refine skR 30 rfl ?_
                            refine skR 31 rfl ?_
                            refine skR 32 rfl ?_
                            refine skR 33 rfl ?_
                            refine tkR 34 rfl ?_
                            refine wpAnyH_done (by kernel_rfl) ?_ _
                            clear hHeld
                            go_wp2
                            go_roundw
                            case rel => exact ⟨x + 1,by omega,by go_num,HR,HB⟩
                            case measure => simp [intOf]; omega
                        · obtain ⟨hn1,hn2⟩:=hq (by simp [hxs])
                          subst hn1
                          subst hn2
                          have z2:¬ ((atx:Int) < (atx:Int)):=by omega
                          have z3:((x:Int) == (st:Int))=false:=by simp; omega
                          have z4:¬ ((x:Int)=(st:Int)):=by omega
                          have z5:((x:Int) != (st:Int))=true:=by simp [bne]; omega
                          go_wp2_with fail
                          refine wp_region_held_drew (S:=fun w' => w'.cell? ⟨rb,8,none⟩=some (.slice (some ⟨q2,0,none⟩) P c2)∧w'.cell? ⟨q2,x,none⟩=some (.int .i64 (-1))∧w'.cell? ⟨rb,7,none⟩=some (.slice (some ⟨q1,0,none⟩) P c1)∧w'.cell? ⟨q1,x,none⟩=some (.int .i64 (atx:Nat))∧w'.cell? ⟨rb,6,none⟩=some (.slice (some ⟨q0,0,none⟩) P c0')∧w'.cell? ⟨q0,x,none⟩=some (.slice Ap atx cp)) (by kernel_rfl) ?_ (fun hHeld => ?_)
                          · exact ⟨r8,a2_,r7,a1_,r6,a0_⟩
                          obtain ⟨u0,hu0⟩:∃ w',w'=wr.drew:=⟨_,rfl⟩
                          have hb:Below wr.heap.size wr u0:=by rw [hu0]; exact (Below.refl _ _).drew
                          rw [← hu0] at hHeld ⊢
                          clear hu0
                          have HR:=Lib.hid (HR.out.below hb)
                          have HB:=Lib.hid (HB.out.trans (hb.mono HB.out.size))
                          clear hb
                          refine tkR 0 rfl ?_
                          refine tkR 1 rfl ?_
                          refine tkR 2 rfl ?_
                          refine tkR 3 rfl ?_
                          refine skR 4 rfl ?_
                          refine skR 5 rfl ?_
                          refine tkR 6 rfl ?_
                          refine tkR 7 rfl ?_
                          refine tkR 8 rfl ?_
                          refine tkR 9 rfl ?_
                          refine tkR 10 rfl ?_
                          refine tkR 11 rfl ?_
                          refine tkR 12 rfl ?_
                          refine tkR 13 rfl ?_
                          refine tkR 14 rfl ?_
                          refine tkR 15 rfl ?_
                          refine tkR 16 rfl ?_
                          refine tkR 17 rfl ?_
                          refine tkR 18 rfl ?_
                          refine tkR 19 rfl ?_
                          refine tkR 20 rfl ?_
                          refine tkR 21 rfl ?_
                          refine tkR 22 rfl ?_
                          refine tkR 23 rfl ?_
                          refine tkR 24 rfl ?_
                          refine tkR 25 rfl ?_
                          refine tkR 26 rfl ?_
                          refine tkR 27 rfl ?_
                          refine tkR 28 rfl ?_
                          refine tkR 29 rfl ?_
                          refine tkR 30 rfl ?_
                          refine tkR 31 rfl ?_
                          refine tkR 32 rfl ?_
                          refine tkR 33 rfl ?_
                          refine tkR 34 rfl ?_
                          refine wpAnyH_done (by kernel_rfl) ?_ _
                          clear hHeld
                          go_wp2
                          go_roundw
                          case rel => exact ⟨x + 1,by omega,by go_num,HR,HB⟩
                          case measure => simp [intOf]; omega
                      · have hx9:x=P:=by omega
                        have x1:¬ (x:Int) < (P:Int):=by omega
                        obtain ⟨g,ab,Es,V,hM,hK⟩:=HR.out
                        obtain ⟨⟨q0,c0',e0',k0,m0⟩,_⟩:=hM.slice (k:=0) (by omega) rfl
                        unfold maxLen at m0
                        have r6:wr.cell? ⟨rb,6,none⟩=some (V 0):=hM.cell (i:=6) (by omega)
                        rw [e0'] at r6
                        clear hM hK e0'
                        obtain ⟨g,ab,Es,V,hM,hK⟩:=HR.out
                        have HBK:=Lib.hid (law12_book hM hK (by have:=hK.N_le hP HL.out; omega))
                        clear hM hK
                        go_wp2_with fail
                        refine (HBK.out).mono ?_
                        rintro e w6 ⟨p9,q9,rfl,_,_,_,hb⟩
                        have HR:=Lib.hid (HR.out.below hb)
                        have HB:=Lib.hid (HB.out.trans (hb.mono HB.out.size))
                        clear hb
                        clear HBK
                        go_wp2
                        go_ret
                        exact ⟨by first | rfl | (simp; done),HB1.out.trans (HB.out.mono HB1.out.size)⟩
  · have hP0:((P:Nat):Int) < 2:=by omega
    obtain ⟨g,ab,Es,V,hM,hK⟩:=HR.out
    obtain ⟨⟨q0,c0',e0',k0,m0⟩,_⟩:=hM.slice (k:=0) (by omega) rfl
    unfold maxLen at m0
    have r6:w3.cell? ⟨rb,6,none⟩=some (V 0):=hM.cell (i:=6) (by omega)
    rw [e0'] at r6
    clear hM hK e0'
    clear HL
    go_wp2
    go_ret
    exact ⟨by first | rfl | (simp; done),HB1.out.trans (HB.out.mono HB1.out.size)⟩

set_option maxRecDepth 100000 in
/-- What the walk gives,for every argument: the row's own words. -/
theorem contract (H:Type) (enc:TypeId × Value→H) (W:World) (base:Nat) (args:Array Value) (ds gs:List (DataW H)) (before:List MemPlace)
    (hval:∀ (j:Nat) t v,Tryz.f6.params[j]?=some t→args[j]?=some v→Value.okWide Tryz.prog W .any base t v)
    (hW:DataW.Whole enc Tryz.prog Tryz.f6.params.toList Rows.fdbStillSpec.vars false W args.toList ds gs before) :
    Calls Tryz.prog 6 args W fun e W' => ∃ v,e=.returned v∧Rows.fdbStillSpec.post enc Tryz.prog Tryz.f6 false true false false W args v W':=by
  have hW':=hW
  obtain ⟨p,q,hA0,hV,rfl,hfz,hnd⟩:=hW
  have hA:DataW.TrodAll enc Tryz.prog W 0 (fun _ => true) true Tryz.f6.params.toList args.toList ds p:=hA0
  rw [Tryz.params6] at hA hval
  obtain ⟨v0,vs0,d0,ds0,p0,q0,hargs,rfl,rfl,h0,r0⟩:=trodAll_cons hA
  obtain ⟨v1,vs1,d1,ds1,p1,q1,rfl,rfl,rfl,h1,r1⟩:=trodAll_cons r0
  obtain ⟨v2,vs2,d2,ds2,p2,q2,rfl,rfl,rfl,h2,r2⟩:=trodAll_cons r1
  obtain ⟨rfl,rfl,rfl⟩:=trodAll_nil r2
  obtain rfl:args=#[v0,v1,v2]:=by cases args; simp_all
  obtain ⟨a0,e0,c0,t0,rfl⟩:=open_whole Tryz.underlying25 (t0:=3) (by kernel_rfl) (by kernel_rfl) (by kernel_rfl) (hval 0 25 v0 rfl rfl) h0
  have b1:=open_opsrows Tryz.underlying26 (e:=34) (e2:=63) (t0:=3) (t1:=3) (t2:=38) (t3:=3) (t4:=3) (t5:=61) (t6:=61) (by kernel_rfl) (by kernel_rfl) Tryz.underlying34 (by kernel_rfl) (by kernel_rfl) (by kernel_rfl) (by kernel_rfl) (by kernel_rfl) (by kernel_rfl) (by kernel_rfl) (by kernel_rfl) (by kernel_rfl) (hval 1 26 v1 rfl rfl) h1
  obtain ⟨a2,e2,rfl⟩:=open_arr2 Tryz.underlying47 Tryz.underlying3 (by kernel_rfl) (by kernel_rfl) (hval 2 47 v2 rfl rfl) h2
  refine (walk W a0 e0 c0 t0 v1 b1 a2 e2).mono fun e W' ⟨he,hb⟩ => ?_
  subst he
  exact close_true (by kernel_rfl) Tryz.underlying4 (by kernel_rfl) (by kernel_rfl) rfl rfl hW' hb

set_option maxRecDepth 100000 in
theorem lifted (os:Os) (started:os.Started) (H:Type) (enc:TypeId × Value→H) :
    ReturnsInHanded {} Tryz.checked os 6 .any (Rows.fdbStillSpec.pre6 enc Tryz.prog Tryz.f6 Rows.fdbStillRow.domain false) (Rows.fdbStillSpec.post enc Tryz.prog Tryz.f6 false true false false):=by
  refine returnsInHanded_of_change (C:=Tryz.checked) own started (by kernel_rfl) Tryz.func6
    (ChangeSpec.witness6 (enc:=enc) (C:=Tryz.checked) false ⟨#[],#[.agg #[.int .i64 0,.int .i64 0,.int .i64 0,.int .i64 0],.slice none 0 0,.agg #[.int .i64 0,.int .i64 0]],[]⟩ 8 (by kernel_rfl) (by kernel_rfl) (by kernel_rfl) (by kernel_rfl)) ?_
  intro W base args ds gs before hval hW _ _
  exact contract H enc W base args ds gs before hval hW

theorem proved:Rows.FdbStillSaid :=
  OpenClaim.holds_of_wide 6 Tryz.f6 rfl rfl rfl rfl rfl rfl rfl ⟨rfl,rfl,rfl,rfl,rfl⟩ rfl rfl rfl rfl rfl (by kernel_rfl) Tryz.func6 (by kernel_rfl)
    (of_decide_eq_true (by kernel_rfl)) (by unfold Func.isWrapper; first | (rw [if_pos (by decide +kernel)]; kernel_rfl) | (rw [if_neg (by decide +kernel)]; exact ⟨rfl,rfl⟩))
    (fun os started H enc _ => lifted os started H enc)
#print axioms proved
end Go.Proofs.YthloabdfkakehaaGreat.fdbStill
