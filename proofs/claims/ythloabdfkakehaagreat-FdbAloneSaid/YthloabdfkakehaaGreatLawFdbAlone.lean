/-
  One alone at an Fdb: each act is over within as many Steps as the document says, is never in vain, and answers as the document's book; all buckets are the book's behind it. No condition.
-/
import Derived.Test.YthloabdfkakehaaGreatRows
import Derived.Test.YthloabdfkakehaaGreatFgV
import Derived.Test.YthloabdfkakehaaGreatFgR
import Derived.Test.YthloabdfkakehaaGreatFgO
import Derived.Test.YthloabdfkakehaaGreatFgN
import Derived.Test.YthloabdfkakehaaGreatFgT
import Derived.Test.YthloabdfkakehaaGreatFgL
import Derived.Test.YthloabdfkakehaaGreatFeI
import Derived.Test.YthloabdfkakehaaGreatKeyR
import Derived.Test.YthloabdfkakehaaGreatOpenBk
import Derived.WalkMore
import Derived.BigGuard
import Derived.WalkKit
import Derived.ProofKit
import Derived.OpenShut
namespace Go.Proofs.YthloabdfkakehaaGreat.fdbAlone
open Go.ChangeShapes Go.WideShapes Go.ChangeAt Go.RowKit
open Go.ChangeMaps (open_string)
set_option linter.unusedVariables false

theorem own:ownKnob Tryz.prog.godebug=none:=by kernel_rfl

set_option maxRecDepth 20000 in
set_option maxHeartbeats 25600000 in
theorem walk (W:World) (a0 e0 c0 t0:Int) (a1:Value) (b1:Ops11 W a1) :
    Calls Tryz.prog 5 #[.agg #[.int .i64 a0,.int .i64 e0,.int .i64 c0,.int .i64 t0],a1] W (Says (.bool true) W):=by
  obtain ⟨A1,m1,cp1,rfl,b2,b3,b4⟩:=b1
  have b1:Ops11 W (.slice A1 m1 cp1):=⟨A1,m1,cp1,rfl,b2,b3,b4⟩
  clear b2 b3 b4
  obtain ⟨w1,hw1⟩:∃ w1,w1=(W.alloc (.cells #[.int .i64 a0,.int .i64 e0,.int .i64 c0,.int .i64 t0] 25)).alloc (.cells #[.slice A1 m1 cp1] 34):=⟨_,rfl⟩
  have HB1:Hid (Below W.heap.size W w1):=by rw [hw1]; exact ((Below.refl _ _).alloc (Nat.le_refl _) _).alloc (by simp) _
  have HBG:Hid (Calls Tryz.prog 10 #[.agg #[.int .i64 a0,.int .i64 e0,.int .i64 c0],.int .i64 t0,.slice (some ⟨W.heap.size + 1,0,none⟩) 1 1] w1 (BegunRunP w1 (.slice (some ⟨W.heap.size + 1,0,none⟩) 1 1))):=law12_beginP a0 e0 c0 t0 (.slice (some ⟨W.heap.size + 1,0,none⟩) 1 1) (by
    have h9:=one_row (T:=34) (b1.below (w':=(W.alloc (.cells #[.int .i64 a0,.int .i64 e0,.int .i64 c0,.int .i64 t0] 25))) ((Below.refl _ _).alloc (Nat.le_refl _) _))
    rw [World.size_alloc] at h9
    rw [hw1]
    exact h9)
  rw [hw1] at HBG
  clear b1
  go_enter Tryz.func5,Tryz.ntmps5
  go_wp2_with fail
  refine (HBG.out).mono ?_
  rw [← hw1]
  rintro e w2 ⟨C,K9,lo,b,fb,rb,L,F,P,ls,lv,rfl,hrun,hb,x1,x2,x3,_,hl,hk9,hlk,hPP⟩
  have hPe:P=1:=by
    have:=hPP _ _ _ rfl
    omega
  subst hPe
  have hP:(1:Nat)≤6:=by omega
  have HB2:=Lib.hid (HB1.out.trans (hb.mono HB1.out.size))
  have HX:Hid (W.heap.size≤lo∧W.heap.size≤rb∧W.heap.size≤L):=by have:=HB1.out.size; exact ⟨by omega,by omega,by omega⟩
  have HR2:=Lib.hid hrun
  have HL:=Lib.hid hl
  have HK9:=Lib.hid (And.intro hk9 hlk)
  clear hw1 HBG HB1 hrun hb x1 x2 x3 hl hk9 hlk hPP
  go_wp2_with (first | go_big_skip | fail)
  refine (law12_told _).mono ?_
  rintro e w3 ⟨rfl,hb⟩
  have HR:=Lib.hid (HR2.out.below hb)
  have HB:=Lib.hid (HB2.out.trans (hb.mono HB2.out.size))
  have HFT:Hid (∃ C L,FFit F C L):=by
    obtain ⟨g,ab,Es,V,hM,hK⟩:=HR.out
    exact ⟨_,_,hM.acts.fd.fits⟩
  clear HR2 HB2 hb
  go_wp2
  go_loopw [] (fun wr => ∃ s:RunS,s.nw 0=-1∧s.m.t + (leftR 1 ls s:Int) * 10000≤130000∧Hid (AloneR F s)∧Hid (RunAt wr lo b fb rb L F 1 ls lv s)∧Hid (Below W.heap.size W wr)) (fun wr => muL lo b fb rb L F 1 ls lv wr)
  case atStart => exact ⟨_,rfl,by
    have h9:=leftR_le (P:=1) (s:=run0 C K9) HL.out
    show (0:Int) + _≤_
    omega,⟨fun i hi => absurd hi (by show ¬ i < 0; omega),fun i hi => absurd hi (by show ¬ i < 0; omega)⟩,HR,HB⟩
  case round =>
    obtain ⟨s,hnw0,ht0,HAL',HR',HB'⟩:=hrel
    have HR:=HR'
    have HB:=HB'
    have HAL:=HAL'
    clear HR' HB' HAL'
    have HMS:=Lib.hid (muL_eq HR.out)
    obtain ⟨n,hne⟩:∃ n,n=leftR 1 ls s:=⟨_,rfl⟩
    have HLW:=law12_left HR.out hP fun p hp => (HL.out p hp).1
    rw [← hne] at HLW HMS ht0
    have HNE:=Lib.hid hne
    have HLW:=Lib.hid HLW
    clear hne
    by_cases hn0:0 < n
    · have n0:(0:Int) < (n:Int):=by omega
      obtain ⟨wr0,hwr0⟩:∃ x,x=wr:=⟨_,rfl⟩
      rw [← hwr0] at HMS
      have HW0:=Lib.hid hwr0
      clear hwr0
      go_wp2_with fail
      refine (HLW.out).mono ?_
      rintro e wa ⟨rfl,hb⟩
      have HR:=Lib.hid (HR.out.below hb)
      have HB:=Lib.hid (HB.out.trans (hb.mono HB.out.size))
      clear hb
      have HLW:=law12_left HR.out hP fun p hp => (HL.out p hp).1
      rw [← HNE.out] at HLW
      have HLW:=Lib.hid HLW
      go_wp2_with fail
      refine (HLW.out).mono ?_
      rintro e wb ⟨rfl,hb⟩
      have HR:=Lib.hid (HR.out.below hb)
      have HB:=Lib.hid (HB.out.trans (hb.mono HB.out.size))
      clear hb
      clear HLW
      go_wp2
      go_loopw [7] (fun i wr => ∃ (j:Nat) (s2:RunS),i=.int .i64 j∧j≤boundF F∧s2.m.t≤s.m.t + (j:Int)∧Hid (PhaseR F ls s n j s2)∧Hid (AloneR F s2)∧Hid (RunAt wr lo b fb rb L F 1 ls lv s2)∧Hid (Below W.heap.size W wr)) (fun i _ => boundF F - (intOf i).toNat)
      case atStart => exact ⟨0,s,rfl,by omega,by omega,.inl ⟨rfl,rfl,hnw0,HNE.out.symm,hn0⟩,HAL,HR,HB⟩
      case round =>
        obtain ⟨j,s2,rfl,hj,ht2,HPH,HAL',HR',HB'⟩:=hrel
        have HR:=HR'
        have HB:=HB'
        have HAL:=HAL'
        clear HR' HB' HAL'
        have hlt:=HPH.out.lt
        have hbl:boundF F≤10000:=by
          obtain ⟨C,L,h⟩:=HFT.out
          exact bound_le h
        obtain ⟨bd,hbd'⟩:∃ n,n=boundF F:=⟨_,rfl⟩
        have hbd:=Lib.hid hbd'
        rw [← hbd'] at hlt hbl
        have j1:(j:Int) < (bd:Int):=by omega
        have j2:(j:Int) < 10000:=by omega
        obtain ⟨l2,hl2⟩:∃ n,n=leftR 1 ls s2:=⟨_,rfl⟩
        have HLF:=Lib.hid fun w' (h:RunAt w' lo b fb rb L F 1 ls lv s2) => law12_left h hP fun p hp => (HL.out p hp).1
        simp only [← hl2] at HLF
        have HL2:=Lib.hid hl2
        have HJT:Hid (s2.m.t≤4611686018427387000∧s2.m.t≤s.m.t + 10000):=⟨by omega,by omega⟩
        have HT2:=Lib.hid ht2
        have HT0:=Lib.hid ht0
        clear hl2 hbd'
        obtain ⟨g,ab,Es,V,hM,hK⟩:=HR.out
        have r2:wr.cell? ⟨rb,2,none⟩=some (.int .i64 (F.S:Nat)):=hM.cell (i:=2) (by omega)
        have r3:wr.cell? ⟨rb,3,none⟩=some (.int .i64 (F.B:Nat)):=hM.cell (i:=3) (by omega)
        have r4:wr.cell? ⟨rb,4,none⟩=some (.int .i64 (F.n:Nat)):=hM.cell (i:=4) (by omega)
        have r5:wr.cell? ⟨rb,5,none⟩=some (.int .i64 (F.tr:Nat)):=hM.cell (i:=5) (by omega)
        have hrw:rb < wr.heap.size:=by have:=hM.ord; omega
        have HBN:=Lib.hid fun V => ref12_BoundY F.S F.B F.n hM.acts.fd.fits.S hM.acts.fd.fits.B hM.acts.fd.fits.n F.tr hM.acts.fd.fits.tr V
        have HBN:Hid (∀ V,Calls Tryz.prog 15 #[.agg #[.int .i64 (F.S:Nat),.int .i64 (F.B:Nat),.int .i64 (F.n:Nat)],.int .i64 (F.tr:Nat)] V (Says (.int .i64 (bd:Nat)) V)):=fun V => by rw [hbd.out]; exact HBN.out V
        clear hM hK
        by_cases hl:l2=n
        · subst hl
          have z0:decide ((l2:Int)=(l2:Int))=true:=decide_eq_true rfl
          clear ht2 hbl
          go_wp2_with fail
          refine wp_region_held_drew (S:=fun w' => w'.cell? ⟨rb,2,none⟩=some (.int .i64 (F.S:Nat))∧w'.cell? ⟨rb,3,none⟩=some (.int .i64 (F.B:Nat))∧w'.cell? ⟨rb,4,none⟩=some (.int .i64 (F.n:Nat))∧w'.cell? ⟨rb,5,none⟩=some (.int .i64 (F.tr:Nat))) (by kernel_rfl) ?_ (fun hHeld => ?_)
          · exact ⟨r2,r3,r4,r5⟩
          obtain ⟨u0,hu0⟩:∃ w',w'=wr.drew:=⟨_,rfl⟩
          have hb:Below wr.heap.size wr u0:=by rw [hu0]; exact (Below.refl _ _).drew
          rw [← hu0] at hHeld ⊢
          clear hu0
          have HR:=Lib.hid (HR.out.below hb)
          have HB:=Lib.hid (HB.out.trans (hb.mono HB.out.size))
          have r2:=(hb.cell (p:=⟨rb,2,none⟩) hrw).trans r2
          have r3:=(hb.cell (p:=⟨rb,3,none⟩) hrw).trans r3
          have r4:=(hb.cell (p:=⟨rb,4,none⟩) hrw).trans r4
          have r5:=(hb.cell (p:=⟨rb,5,none⟩) hrw).trans r5
          have hrw:=Nat.lt_of_lt_of_le hrw hb.size
          clear hb
          refine tkR 0 rfl ?_
          refine tkR 1 rfl ?_
          refine tkR 2 rfl ?_
          refine tkR 3 rfl ?_
          refine tkR 4 rfl ?_
          refine tkR 5 rfl ?_
          refine tkR 6 rfl ?_
          refine tkR 7 rfl ?_
          refine tkR 8 rfl ?_
          refine clR 9 rfl fun K hK => ?_
          go_simp
          refine (HBN.out _).mono ?_
          rintro e u1 ⟨rfl,hb⟩
          have HR:=Lib.hid (HR.out.below hb)
          have HB:=Lib.hid (HB.out.trans (hb.mono HB.out.size))
          have r2:=(hb.cell (p:=⟨rb,2,none⟩) hrw).trans r2
          have r3:=(hb.cell (p:=⟨rb,3,none⟩) hrw).trans r3
          have r4:=(hb.cell (p:=⟨rb,4,none⟩) hrw).trans r4
          have r5:=(hb.cell (p:=⟨rb,5,none⟩) hrw).trans r5
          have hrw:=Nat.lt_of_lt_of_le hrw hb.size
          clear hb

          refine hK.out _ _ ?_ (fun hHeld => ?_)
          · (try dsimp only)
            exact ⟨r2,r3,r4,r5⟩
          clear hK K
          (try simp only [Act.put,sqA,sqB,sqC])
          refine tkR 10 rfl ?_
          refine tkR 11 rfl ?_
          refine tkR 12 rfl ?_
          refine tkR 14 rfl ?_
          refine clR 13 rfl fun K hK => ?_
          go_simp
          refine (HLF.out _ HR.out).mono ?_
          rintro e u2 ⟨rfl,hb⟩
          have HR:=Lib.hid (HR.out.below hb)
          have HB:=Lib.hid (HB.out.trans (hb.mono HB.out.size))
          have r2:=(hb.cell (p:=⟨rb,2,none⟩) hrw).trans r2
          have r3:=(hb.cell (p:=⟨rb,3,none⟩) hrw).trans r3
          have r4:=(hb.cell (p:=⟨rb,4,none⟩) hrw).trans r4
          have r5:=(hb.cell (p:=⟨rb,5,none⟩) hrw).trans r5
          have hrw:=Nat.lt_of_lt_of_le hrw hb.size
          clear hb

          refine hK.out _ _ ?_ (fun hHeld => ?_)
          · (try dsimp only)
            exact ⟨r2,r3,r4,r5⟩
          clear hK K
          (try simp only [Act.put,sqA,sqB,sqC])
          refine tkR 15 rfl ?_
          refine tkR 16 rfl ?_
          refine wpAnyH_done (by kernel_rfl) ?_ _
          clear hHeld r2 r3 r4 r5 HBN hrw
          have hst9:=law12_step HR.out hP HL.out HJT.out.1 (p:=0) (by omega)
          rw [show ((0:Nat):Int)=0 from rfl] at hst9
          have HST:=Lib.hid hst9
          clear hst9
          go_wp2_with fail
          refine (HST.out).mono ?_
          rintro e w5 ⟨z,s4,rfl,hrun,htch,hsr⟩
          have HS:Hid (s4.m.t≤s2.m.t + 1):=Lib.hid hsr.t
          have HPH':Hid (PhaseR F ls s l2 (j + 1) s4):=by
            obtain ⟨g,ab,Es,V,hM,hK⟩:=HR.out
            exact HPH.out.step hK hM.acts.fd.fits HL2.out.symm hsr
          have HAL':Hid (AloneR F s4):=by
            obtain ⟨g,ab,Es,V,hM,hK⟩:=HR.out
            exact HAL.out.step hK hM.acts.fd.fits hsr
          have HR':=Lib.hid hrun
          have HB':=Lib.hid (run_turn htch HB.out HX.out.1 HX.out.2.1 HX.out.2.2)
          clear hrun htch hsr HST HR HB HPH HAL
          go_wp2
          go_roundw
          case rel => exact ⟨j + 1,s4,by go_num,by rw [← hbd.out]; omega,by have h9:=HS.out; have h8:=HJT.out.2; have h7:=HT2.out; rw [Int.natCast_add]; revert h7 h9; generalize s4.m.t=y; generalize s2.m.t=z'; intro h7 h9; omega,HPH',HAL',HR',HB'⟩
          case measure => simp [intOf]; rw [← hbd.out]; omega
        · have z0:¬ ((l2:Int)=(n:Int)):=by omega
          have z1:((l2:Int) == (n:Int))=false:=by simp; omega
          have hend:leftR 1 ls s2 + 1=n∧s2.nw 0=-1∧0 < s2.N:=by
            rcases HPH.out with ⟨_,h1,h2,h3,_⟩ | ⟨_,h1,_⟩ | ⟨_,h1,h2,h3,_⟩
            · exact absurd (HL2.out.trans h3) hl
            · exact absurd (HL2.out.trans h1) hl
            · exact ⟨h1,h2,h3⟩
          obtain ⟨hend1,hend2,hend3⟩:=hend
          have hl2n:l2 + 1=n:=by rw [HL2.out]; exact hend1
          clear ht2 hbl hend1 hl HPH
          go_wp2_with fail
          refine wp_region_held_drew (S:=fun w' => w'.cell? ⟨rb,2,none⟩=some (.int .i64 (F.S:Nat))∧w'.cell? ⟨rb,3,none⟩=some (.int .i64 (F.B:Nat))∧w'.cell? ⟨rb,4,none⟩=some (.int .i64 (F.n:Nat))∧w'.cell? ⟨rb,5,none⟩=some (.int .i64 (F.tr:Nat))) (by kernel_rfl) ?_ (fun hHeld => ?_)
          · exact ⟨r2,r3,r4,r5⟩
          obtain ⟨u0,hu0⟩:∃ w',w'=wr.drew:=⟨_,rfl⟩
          have hb:Below wr.heap.size wr u0:=by rw [hu0]; exact (Below.refl _ _).drew
          rw [← hu0] at hHeld ⊢
          clear hu0
          have HR:=Lib.hid (HR.out.below hb)
          have HB:=Lib.hid (HB.out.trans (hb.mono HB.out.size))
          have r2:=(hb.cell (p:=⟨rb,2,none⟩) hrw).trans r2
          have r3:=(hb.cell (p:=⟨rb,3,none⟩) hrw).trans r3
          have r4:=(hb.cell (p:=⟨rb,4,none⟩) hrw).trans r4
          have r5:=(hb.cell (p:=⟨rb,5,none⟩) hrw).trans r5
          have hrw:=Nat.lt_of_lt_of_le hrw hb.size
          clear hb
          refine tkR 0 rfl ?_
          refine tkR 1 rfl ?_
          refine tkR 2 rfl ?_
          refine tkR 3 rfl ?_
          refine tkR 4 rfl ?_
          refine tkR 5 rfl ?_
          refine tkR 6 rfl ?_
          refine tkR 7 rfl ?_
          refine tkR 8 rfl ?_
          refine clR 9 rfl fun K hK => ?_
          go_simp
          refine (HBN.out _).mono ?_
          rintro e u1 ⟨rfl,hb⟩
          have HR:=Lib.hid (HR.out.below hb)
          have HB:=Lib.hid (HB.out.trans (hb.mono HB.out.size))
          have r2:=(hb.cell (p:=⟨rb,2,none⟩) hrw).trans r2
          have r3:=(hb.cell (p:=⟨rb,3,none⟩) hrw).trans r3
          have r4:=(hb.cell (p:=⟨rb,4,none⟩) hrw).trans r4
          have r5:=(hb.cell (p:=⟨rb,5,none⟩) hrw).trans r5
          have hrw:=Nat.lt_of_lt_of_le hrw hb.size
          clear hb

          refine hK.out _ _ ?_ (fun hHeld => ?_)
          · (try dsimp only)
            exact ⟨r2,r3,r4,r5⟩
          clear hK K
          (try simp only [Act.put,sqA,sqB,sqC])
          refine tkR 10 rfl ?_
          refine tkR 11 rfl ?_
          refine tkR 12 rfl ?_
          refine tkR 14 rfl ?_
          refine clR 13 rfl fun K hK => ?_
          go_simp
          refine (HLF.out _ HR.out).mono ?_
          rintro e u2 ⟨rfl,hb⟩
          have HR:=Lib.hid (HR.out.below hb)
          have HB:=Lib.hid (HB.out.trans (hb.mono HB.out.size))
          have r2:=(hb.cell (p:=⟨rb,2,none⟩) hrw).trans r2
          have r3:=(hb.cell (p:=⟨rb,3,none⟩) hrw).trans r3
          have r4:=(hb.cell (p:=⟨rb,4,none⟩) hrw).trans r4
          have r5:=(hb.cell (p:=⟨rb,5,none⟩) hrw).trans r5
          have hrw:=Nat.lt_of_lt_of_le hrw hb.size
          clear hb

          refine hK.out _ _ ?_ (fun hHeld => ?_)
          · (try dsimp only)
            exact ⟨r2,r3,r4,r5⟩
          clear hK K
          (try simp only [Act.put,sqA,sqB,sqC])
          refine tkR 15 rfl ?_
          refine tkR 16 rfl ?_
          refine wpAnyH_done (by kernel_rfl) ?_ _
          clear hHeld r2 r3 r4 r5 HBN hrw
          have HLW:=law12_left HR.out hP fun p hp => (HL.out p hp).1
          rw [← HL2.out] at HLW
          have HLW:=Lib.hid HLW
          clear HLF
          go_wp2_with fail
          refine (HLW.out).mono ?_
          rintro e w7 ⟨rfl,hb⟩
          have HR:=Lib.hid (HR.out.below hb)
          have HB:=Lib.hid (HB.out.trans (hb.mono HB.out.size))
          clear hb
          clear HLW
          obtain ⟨g,ab,Es,V,hM,hK⟩:=HR.out
          have HEQ:Hid (∀ H,H < F.S * F.B→eqP F.n (bkM F s2.m.c H) (g H)):=fun H hH => hK.run.book (over_nw hK fun p hp => by
            obtain rfl:p=0:=by omega
            exact hend2) hH
          have HBK:=Lib.hid (law12_book hM hK (by have:=hK.N_le hP HL.out; omega))
          have HM:=Lib.hid hM
          have hN72:=hK.N_le hP HL.out
          clear hM hK
          go_wp2_with (first | go_big_skip | fail)
          refine (HBK.out).mono ?_
          rintro e w6 ⟨p9,q9,rfl,hbk,_,_,hb⟩
          have HM6:=Lib.hid (HM.out.below hb)
          have HBK6:=Lib.hid hbk
          have HR:=Lib.hid (HR.out.below hb)
          have HB:=Lib.hid (HB.out.trans (hb.mono HB.out.size))
          clear hb
          clear hbk HBK HM
          obtain ⟨q3,c3,e3,l3,m3,x3,_⟩:=(HM6.out.slice (k:=3) (by omega) rfl).2 hend3
          unfold maxLen at m3
          obtain ⟨N1,hN1e⟩:∃ N1,N1=s2.N - 1:=⟨_,rfl⟩
          have hN1:N1 < s2.N:=by omega
          have a3:=(x3 N1 (by omega)).trans (ptI_at _ hN1)
          have r9:w6.cell? ⟨rb,9,none⟩=some (V 3):=HM6.out.cell (i:=9) (by omega)
          rw [e3] at r9
          have hlo9:rb < w6.heap.size∧q3 < w6.heap.size:=⟨by have:=HM6.out.ord; omega,(HM6.out.at_ (k:=3) (by omega) (by rw [← e3]; rfl)).2.2.2⟩
          have HVA:Hid ((s2.A N1).vain=0):=HAL.out.vain N1 hN1
          obtain ⟨N9,hN9⟩:∃ N9,N9=s2.N:=⟨_,rfl⟩
          rw [← hN9] at r9 l3 hN1e hN72
          have v1:IntKind.i64.wrap ((N9:Int) - 1)=(N1:Int):=by rw [show (N9:Int) - 1=(N1:Int) by omega]; exact IntWalk.i64_in _ (by omega)
          have v2:wrap64 ((N9:Int) - 1)=(N1:Int):=by rw [show (N9:Int) - 1=(N1:Int) by clear v1; omega]; exact IntWalk.wrap64_in _ (by clear v1; omega)
          have v3:(0:Int)≤(N1:Int):=Int.natCast_nonneg _
          have v4:(N1:Int) < (N9:Int):=by clear v1 v2; omega
          clear x3 e3 hN9 hN1e
          go_wp2_with fail
          refine wp_region_held_drew (S:=fun w' => w'.cell? ⟨rb,9,none⟩=some (.slice (some ⟨q3,0,none⟩) N9 c3)∧w'.cell? ⟨q3,N1,none⟩=some (.pointer (some ⟨ab N1,0,none⟩))) (by kernel_rfl) ?_ (fun hHeld => ?_)
          · exact ⟨r9,a3⟩
          obtain ⟨u0,hu0⟩:∃ w',w'=w6.drew:=⟨_,rfl⟩
          have hb:Below w6.heap.size w6 u0:=by rw [hu0]; exact (Below.refl _ _).drew
          rw [← hu0] at hHeld ⊢
          clear hu0
          have HM6:=Lib.hid (HM6.out.below hb)
          have HBK6:=Lib.hid (HBK6.out.call hb)
          have HR:=Lib.hid (HR.out.below hb)
          have HB:=Lib.hid (HB.out.trans (hb.mono HB.out.size))
          have r9:=(hb.cell (p:=⟨rb,9,none⟩) hlo9.1).trans r9
          have a3:=(hb.cell (p:=⟨q3,N1,none⟩) hlo9.2).trans a3
          have hlo9:rb < _∧q3 < _:=⟨Nat.lt_of_lt_of_le hlo9.1 hb.size,Nat.lt_of_lt_of_le hlo9.2 hb.size⟩
          clear hb
          refine tkR 0 rfl ?_
          refine tkR 1 rfl ?_
          refine tkR 2 rfl ?_
          refine tkR 3 rfl ?_
          refine tkR 4 rfl ?_
          refine clR 5 rfl fun K hK => ?_
          go_simp
          refine (law12_holds HM6.out HBK6.out HEQ.out).mono ?_
          rintro e u1 ⟨rfl,hb⟩
          have HM6:=Lib.hid (HM6.out.below hb)
          have HBK6:=Lib.hid (HBK6.out.call hb)
          have HR:=Lib.hid (HR.out.below hb)
          have HB:=Lib.hid (HB.out.trans (hb.mono HB.out.size))
          have r9:=(hb.cell (p:=⟨rb,9,none⟩) hlo9.1).trans r9
          have a3:=(hb.cell (p:=⟨q3,N1,none⟩) hlo9.2).trans a3
          have hlo9:rb < _∧q3 < _:=⟨Nat.lt_of_lt_of_le hlo9.1 hb.size,Nat.lt_of_lt_of_le hlo9.2 hb.size⟩
          clear hb

          refine hK.out _ _ ?_ (fun hHeld => ?_)
          · (try dsimp only)
            exact ⟨r9,a3⟩
          clear hK K
          (try simp only [Act.put,sqA,sqB,sqC])
          refine tkR 6 rfl ?_
          refine tkR 7 rfl ?_
          refine tkR 8 rfl ?_
          refine tkR 9 rfl ?_
          refine tkR 10 rfl ?_
          refine tkR 11 rfl ?_
          refine tkR 12 rfl ?_
          refine tkR 13 rfl ?_
          refine tkR 14 rfl ?_
          refine tkR 15 rfl ?_
          refine tkR 16 rfl ?_
          refine tkR 17 rfl ?_
          refine tkR 18 rfl ?_
          refine tkR 19 rfl ?_
          refine tkR 20 rfl ?_
          refine clR 21 rfl fun K hK => ?_
          go_simp
          have HTR:=acts_Tries HM6.out.acts (i:=N1) hN1
          rw [HVA.out] at HTR
          refine (HTR).mono ?_
          rintro e u2 ⟨rfl,rfl⟩
          refine hK.out _ _ ?_ (fun hHeld => ?_)
          · (try dsimp only)
            exact ⟨r9,a3⟩
          clear hK K
          (try simp only [Act.put,sqA,sqB,sqC])
          refine tkR 22 rfl ?_
          refine tkR 23 rfl ?_
          refine wpAnyH_done (by kernel_rfl) ?_ _
          clear hHeld r9 a3
          go_wp2
          go_roundw
          case rel => exact ⟨s2,hend2,by have h8:=HJT.out.2; have h6:=HT0.out; rw [← HL2.out]; revert h8 h6; generalize s2.m.t=y; generalize s.m.t=z'; intro h8 h6; omega,HAL,HR,HB⟩
          case measure => rw [muL_eq HR.out,← HW0.out,HMS.out,← HL2.out]; omega
    · have hn00:n=0:=by omega
      subst hn00
      go_wp2_with fail
      refine (HLW.out).mono ?_
      rintro e wa ⟨rfl,hb⟩
      have HR:=Lib.hid (HR.out.below hb)
      have HB:=Lib.hid (HB.out.trans (hb.mono HB.out.size))
      clear hb
      clear HLW
      go_wp2
      go_ret
      exact ⟨by first | rfl | (simp; done),HB.out⟩

set_option maxRecDepth 100000 in
/-- What the walk gives,for every argument: the row's own words. -/
theorem contract (H:Type) (enc:TypeId × Value→H) (W:World) (base:Nat) (args:Array Value) (ds gs:List (DataW H)) (before:List MemPlace)
    (hval:∀ (j:Nat) t v,Tryz.f5.params[j]?=some t→args[j]?=some v→Value.okWide Tryz.prog W .any base t v)
    (hW:DataW.Whole enc Tryz.prog Tryz.f5.params.toList Rows.fdbAloneSpec.vars false W args.toList ds gs before) :
    Calls Tryz.prog 5 args W fun e W' => ∃ v,e=.returned v∧Rows.fdbAloneSpec.post enc Tryz.prog Tryz.f5 false true false false W args v W':=by
  have hW':=hW
  obtain ⟨p,q,hA0,hV,rfl,hfz,hnd⟩:=hW
  have hA:DataW.TrodAll enc Tryz.prog W 0 (fun _ => true) true Tryz.f5.params.toList args.toList ds p:=hA0
  rw [Tryz.params5] at hA hval
  obtain ⟨v0,vs0,d0,ds0,p0,q0,hargs,rfl,rfl,h0,r0⟩:=trodAll_cons hA
  obtain ⟨v1,vs1,d1,ds1,p1,q1,rfl,rfl,rfl,h1,r1⟩:=trodAll_cons r0
  obtain ⟨rfl,rfl,rfl⟩:=trodAll_nil r1
  obtain rfl:args=#[v0,v1]:=by cases args; simp_all
  obtain ⟨a0,e0,c0,t0,rfl⟩:=open_whole Tryz.underlying25 (t0:=3) (by kernel_rfl) (by kernel_rfl) (by kernel_rfl) (hval 0 25 v0 rfl rfl) h0
  have b1:=open_ops11 Tryz.underlying34 (t0:=3) (t1:=3) (t2:=38) (t3:=3) (t4:=3) (t5:=61) (t6:=61) (by kernel_rfl) (by kernel_rfl) (by kernel_rfl) (by kernel_rfl) (by kernel_rfl) (by kernel_rfl) (by kernel_rfl) (by kernel_rfl) (by kernel_rfl) (hval 1 34 v1 rfl rfl) h1
  refine (walk W a0 e0 c0 t0 v1 b1).mono fun e W' ⟨he,hb⟩ => ?_
  subst he
  exact close_true (by kernel_rfl) Tryz.underlying4 (by kernel_rfl) (by kernel_rfl) rfl rfl hW' hb

set_option maxRecDepth 100000 in
theorem lifted (os:Os) (started:os.Started) (H:Type) (enc:TypeId × Value→H) :
    ReturnsInHanded {} Tryz.checked os 5 .any (Rows.fdbAloneSpec.pre6 enc Tryz.prog Tryz.f5 Rows.fdbAloneRow.domain false) (Rows.fdbAloneSpec.post enc Tryz.prog Tryz.f5 false true false false):=by
  refine returnsInHanded_of_change (C:=Tryz.checked) own started (by kernel_rfl) Tryz.func5
    (ChangeSpec.witness6 (enc:=enc) (C:=Tryz.checked) false ⟨#[],#[.agg #[.int .i64 0,.int .i64 0,.int .i64 0,.int .i64 0],.slice none 0 0],[]⟩ 8 (by kernel_rfl) (by kernel_rfl) (by kernel_rfl) (by kernel_rfl)) ?_
  intro W base args ds gs before hval hW _ _
  exact contract H enc W base args ds gs before hval hW

theorem proved:Rows.FdbAloneSaid :=
  OpenClaim.holds_of_wide 5 Tryz.f5 rfl rfl rfl rfl rfl rfl rfl ⟨rfl,rfl,rfl,rfl,rfl⟩ rfl rfl rfl rfl rfl (by kernel_rfl) Tryz.func5 (by kernel_rfl)
    (of_decide_eq_true (by kernel_rfl)) (by unfold Func.isWrapper; first | (rw [if_pos (by decide +kernel)]; kernel_rfl) | (rw [if_neg (by decide +kernel)]; exact ⟨rfl,rfl⟩))
    (fun os started H enc _ => lifted os started H enc)
#print axioms proved
end Go.Proofs.YthloabdfkakehaaGreat.fdbAlone
