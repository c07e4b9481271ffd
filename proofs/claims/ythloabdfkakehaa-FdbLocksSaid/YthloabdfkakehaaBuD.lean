/-
  Words and contracts that a statement's proof rests on (BuD). No statement is proved here.
-/
import Derived.Deep.RegionHeld3
import Derived.WalkMore
import Derived.Test.YthloabdfkakehaaBuA
set_option linter.unusedVariables false
set_option linter.unusedSimpArgs false
namespace Go.Proofs.Ythloabdfkakehaa
open Go.RowKit
def okF (f:Nat→Pl) (i:Nat):Bool:=!(f i).e.st
def agF (f:Nat→Pl) (now i:Nat):Nat:=ageN now (f i).e.stamp
def bestP (f:Nat→Pl) (now k:Nat):Int:=bestF (okF f) (agF f now) k
theorem bestP_skip {f:Nat→Pl} {now k:Nat} (h:(f k).e.st=true):bestP f now (k + 1)=bestP f now k:=by
 unfold bestP; rw [bestF,if_neg (by unfold okF; simp [h])]
theorem bestP_new {f:Nat→Pl} {now k:Nat} (h:(f k).e.st=false) (hb:bestP f now k < 0):bestP f now (k + 1)=(k:Int):=by
 unfold bestP at *; rw [bestF,if_pos ⟨by unfold okF; simp [h],.inl hb⟩]
theorem bestP_more {f:Nat→Pl} {now k j:Nat} (h:(f k).e.st=false) (hj:bestP f now k=(j:Int)) (hl:ageN now (f j).e.stamp < ageN now (f k).e.stamp):bestP f now (k + 1)=(k:Int):=by
 unfold bestP at *; rw [bestF,if_pos ⟨by unfold okF; simp [h],.inr (by rw [hj,Int.toNat_natCast]; exact hl)⟩]
theorem bestP_less {f:Nat→Pl} {now k j:Nat} (hj:bestP f now k=(j:Int)) (hl:¬ ageN now (f j).e.stamp < ageN now (f k).e.stamp):bestP f now (k + 1)=(j:Int):=by
 unfold bestP at *; rw [bestF,if_neg (fun ⟨_,h⟩ => h.elim (fun h => by omega) (fun h => by rw [hj,Int.toNat_natCast] at h; exact hl h)),hj]
theorem bestP_bd (f:Nat→Pl) (now k:Nat):-1≤bestP f now k∧bestP f now k < k:=bestF_bd _ _ k
theorem roomF_free {f:Nat→Pl} {now n k:Nat} (h:∀ i,i < k→(f i).used=true) (hk:(f k).used=false) (hn:k < n):roomF f now n=((k:Int),3):=by
 have:=firstJ_at (fun i => !(f i).used) k (fun i hi => by simp [h i hi]) (by simp [hk]) n hn
 unfold roomF
 rw [this,if_pos (by omega)]
theorem roomF_full {f:Nat→Pl} {now n:Nat} (h:∀ i,i < n→(f i).used=true):roomF f now n=if bestP f now n < 0 then (-1,5) else (bestP f now n,4):=by
 have:=firstJ_none (fun i => !(f i).used) n (fun i hi => by simp [h i hi])
 unfold roomF
 rw [this,if_neg (by omega)]
 rfl
def Told10b (x:Int × Nat) (w:World) (e:Ending) (w':World):Prop :=
 e=.returned (.tuple #[.int .i64 x.1,.int .i64 (x.2:Nat)])∧Below w.heap.size w w'
set_option maxHeartbeats 6400000 in
theorem bucket_room {f:Nat→Pl} {n:Nat} {y:Value} {w:World} {B:Nat} (hn:n≤1000000) (hv:PlRow w B y n f) (hB:B≤w.heap.size) (hst:∀ i,i < n→(f i).e.stamp < 4294967296) (now:Nat) (hnow:now < 4294967296) :
  Calls Try.prog 113 #[y,.int .u32 (now:Int)] w (Told10b (roomF f now n) w):=by
 obtain ⟨A,cap,rfl,h1,h2,h3⟩:=hv
 have HC:=Lib.hid h3
 have HCAP:=Lib.hid h1
 have HST:=Lib.hid hst
 have HNOW:=Lib.hid hnow
 unfold maxLen at h2
 clear h3 hst hnow hn
 go_enter Try.func113,Try.ntmps113
 go_wp2
 go_step3
 go_wp2
 go_step3
 go_wp2
 go_loopw [6,7,12] (fun pl ca i wr => ∃ k:Nat,k≤n∧i=.int .i64 k∧pl=.int .i64 (bestP f now k)∧ca=.int .i64 (if bestP f now k < 0 then 5 else 4)∧Hid (∀ j,j < k→(f j).used=true)∧Hid (Below w.heap.size w wr)) (fun _ _ i _ => n - (intOf i).toNat)
 case atStart => exact ⟨0,by omega,rfl,rfl,rfl,fun j hj => by omega,Below.refl _ _⟩
 case round =>
  obtain ⟨k,hk,rfl,rfl,rfl,HF,HB⟩:=hrel
  have hzw:=HB.out.size
  obtain ⟨bp,hbp⟩:∃ bp,bp=bestP f now k:=⟨_,rfl⟩
  rw [← hbp]
  obtain ⟨hb1,hb2⟩:=bestP_bd f now k
  rw [← hbp] at hb1 hb2
  by_cases hlt:k < n
  ·obtain ⟨b,off,rfl,hb,hc⟩:=HC.out (by omega)
   have g0:(0:Int)≤(k:Int):=Int.natCast_nonneg _
   have g1:(k:Int) < (n:Int):=by omega
   have hcx:=(hc k hlt).keep (w':=wr) fun p hp => HB.out.cell (by rw [hp]; omega)
   have HSK:=Lib.hid (HST.out k hlt)
   obtain ⟨x,hx⟩:∃ x,x=f k:=⟨_,rfl⟩
   rw [← hx] at hcx HSK
   have HX:=Lib.hid hx.symm
   clear hx
   obtain ⟨u,⟨a,q,p,st,s⟩⟩:=x
   obtain ⟨c0',c1',c2',c3',c4',c5'⟩:=hcx
   have c0:wr.cell? ⟨b,off + k * 6,none⟩=some (.bool u):=c0'
   have c1:wr.cell? ⟨b,off + k * 6 + 1,none⟩=some (.int .i64 a):=c1'
   have c2:wr.cell? ⟨b,off + k * 6 + 2,none⟩=some (.int .u64 (q:Int)):=c2'
   have c3:wr.cell? ⟨b,off + k * 6 + 3,none⟩=some (.int .i64 p):=c3'
   have c4:wr.cell? ⟨b,off + k * 6 + 4,none⟩=some (.bool st):=c4'
   have c5:wr.cell? ⟨b,off + k * 6 + 5,none⟩=some (.int .u32 (s:Int)):=c5'
   clear c0' c1' c2' c3' c4' c5'
   have hbr:b < wr.heap.size:=by omega
   have HBP:=Lib.hid hbp.symm
   have HCC:=Lib.hid hc
   have HSS:Hid (s < 4294967296):=HSK.out
   clear hc HC hbp HSK
   cases u
   ·clear hb1 hb2
    generalize (if bp < 0 then (5:Int) else 4)=ca at *
    go_wp2
    (try rw [Exit.noGoto_ret])
    go_ret2
    refine ⟨?_,HB.out.alloc (by omega) _⟩
    rw [roomF_free HF.out (by rw [HX.out]) hlt]
    rfl
   ·cases st
    ·by_cases hneg:bp < 0
     ·obtain rfl:bp=-1:=by omega
      rw [if_pos (by omega)]
      clear hb1 hb2 hneg
      go_wp2_with fail
      refine wp_region_held_drew (S:=fun w' => True) (by kernel_rfl) ?_ (fun hHeld => ?_)
      ·trivial
      refine tkR 0 rfl ?_
      refine tkR 1 rfl ?_
      refine tkR 2 rfl ?_
      refine skR 3 rfl ?_
      refine skR 4 rfl ?_
      refine skR 5 rfl ?_
      refine skR 6 rfl ?_
      refine skR 7 rfl ?_
      refine skR 8 rfl ?_
      refine skR 9 rfl ?_
      refine skR 10 rfl ?_
      refine skR 11 rfl ?_
      refine skR 12 rfl ?_
      refine skR 13 rfl ?_
      refine skR 14 rfl ?_
      refine skR 15 rfl ?_
      refine skR 16 rfl ?_
      refine tkR 17 rfl ?_
      refine wpAnyH_done (by kernel_rfl) ?_ _
      go_wp2
      go_roundw
      case rel =>
       refine ⟨k + 1,by omega,by go_num,?_,?_,?_,below_drewN (HB.out.alloc (by omega) _) _⟩
       ·rw [bestP_new (by rw [HX.out]) (by rw [HBP.out]; omega)]
       ·rw [bestP_new (by rw [HX.out]) (by rw [HBP.out]; omega),if_neg (by omega)]
       ·intro j hj
        rcases Nat.lt_or_ge j k with h | h
        ·exact HF.out j h
        ·obtain rfl:j=k:=by omega
         rw [HX.out]
      case measure => simp [intOf]; omega
     ·obtain ⟨j,rfl⟩:=Int.eq_ofNat_of_zero_le (show 0≤bp by omega)
      have hj:j < n:=by omega
      have hcj:=(HCC.out j hj).keep (w':=wr) fun p hp => HB.out.cell (by rw [hp]; omega)
      have HSJ:=Lib.hid (HST.out j hj)
      obtain ⟨sj,hsj⟩:∃ sj,sj=(f j).e.stamp:=⟨_,rfl⟩
      have hj5:wr.cell? ⟨b,off + j * 6 + 5,none⟩=some (.int .u32 (sj:Int)):=by rw [hsj]; exact hcj.2.2.2.2.2
      rw [← hsj] at HSJ
      have HJ:=Lib.hid hsj
      have hA:=fun W => ticks_Age now s HNOW.out HSS.out W
      have hD:=fun W => ticks_Age now sj HNOW.out HSJ.out W
      have HBS:Hid ((ageN now sj < ageN now s→bestP f now (k + 1)=(k:Int))∧(¬ ageN now sj < ageN now s→bestP f now (k + 1)=(j:Int))) :=
       ⟨fun h => bestP_more (by rw [HX.out]) HBP.out (by rw [← HJ.out,HX.out]; exact h),fun h => bestP_less HBP.out (by rw [← HJ.out,HX.out]; exact h)⟩
      generalize ageN now s=xs at *
      generalize ageN now sj=xj at *
      have HA:=Lib.hid hA
      have HD:=Lib.hid hD
      clear hA hD hcj hsj HJ HSJ
      rw [if_neg hneg]
      have j0:(0:Int)≤(j:Int):=Int.natCast_nonneg _
      have j1:(j:Int) < (n:Int):=by omega
      have jd:decide ((j:Int) < 0)=false:=decide_eq_false hneg
      clear hb1 hb2
      go_wp2_with fail
      obtain ⟨w3,hw3⟩:∃ w3,w3=wr.alloc (.cells #[.bool true,.int .i64 a,.int .u64 (q:Int),.int .i64 p,.bool false,.int .u32 (s:Int)] 127):=⟨_,rfl⟩
      rw [← hw3]
      have z5:w3.cell? ⟨wr.heap.size,5,none⟩=some (.int .u32 (s:Int)):=by rw [hw3]; simp [go_sem]
      have y5:w3.cell? ⟨b,off + j * 6 + 5,none⟩=some (.int .u32 (sj:Int)):=by rw [hw3,World.cell?_alloc_lt _ _ _ (by show b < _; omega)]; exact hj5
      have HB3:Hid (Below w.heap.size w w3):=by rw [hw3]; exact HB.out.alloc (by omega) _
      clear hw3 hj5 HCC c0 c1 c2 c3 c4 c5
      by_cases hag:xj < xs
      ·have hag1:decide ((xs:Int) > (xj:Int))=true:=decide_eq_true (by omega)
       refine wp_region_held_drew (S:=fun w' => w'.cell? ⟨wr.heap.size,5,none⟩=some (.int .u32 (s:Int))∧w'.cell? ⟨b,off + j * 6 + 5,none⟩=some (.int .u32 (sj:Int))) (by kernel_rfl) ?_ (fun hHeld => ?_)
       ·exact ⟨z5,y5⟩
       refine tkR 0 rfl ?_
       refine tkR 1 rfl ?_
       refine tkR 2 rfl ?_
       refine tkR 3 rfl ?_
       refine tkR 4 rfl ?_
       refine tkR 5 rfl ?_
       refine tkR 6 rfl ?_
       refine tkR 8 rfl ?_
       refine tkR 9 rfl ?_
       refine tkR 10 rfl ?_
       refine tkR 11 rfl ?_
       refine tkR 12 rfl ?_
       refine tkR 13 rfl ?_
       refine tkR 14 rfl ?_
       refine clR 7 rfl fun K hK => ?_
       go_simp
       refine Calls.mono (HA.out _) ?_
       rintro e w4 ⟨rfl,rfl⟩
       refine hK.out _ _ ?_ (fun hHeld => ?_)
       ·(try dsimp only)
        assumption
       clear hK K
       (try simp only [Act.put,sqA,sqB,sqC])
       refine clR 15 rfl fun K hK => ?_
       go_simp
       refine Calls.mono (HD.out _) ?_
       rintro e w4 ⟨rfl,rfl⟩
       refine hK.out _ _ ?_ (fun hHeld => ?_)
       ·(try dsimp only)
        assumption
       clear hK K
       refine tkR 16 rfl ?_
       refine tkR 17 rfl ?_
       refine wpAnyH_done (by kernel_rfl) ?_ _
       go_wp2
       go_roundw
       case rel =>
        refine ⟨k + 1,by omega,by go_num,?_,?_,?_,below_drewN HB3.out _⟩
        ·rw [HBS.out.1 hag]
        ·rw [HBS.out.1 hag,if_neg (by omega)]
        ·intro j hj
         rcases Nat.lt_or_ge j k with h | h
         ·exact HF.out j h
         ·obtain rfl:j=k:=by omega
          rw [HX.out]
       case measure => simp [intOf]; omega
      ·have hag1:decide ((xs:Int) > (xj:Int))=false:=decide_eq_false (by omega)
       refine wp_region_held_drew (S:=fun w' => w'.cell? ⟨wr.heap.size,5,none⟩=some (.int .u32 (s:Int))∧w'.cell? ⟨b,off + j * 6 + 5,none⟩=some (.int .u32 (sj:Int))) (by kernel_rfl) ?_ (fun hHeld => ?_)
       ·exact ⟨z5,y5⟩
       refine tkR 0 rfl ?_
       refine tkR 1 rfl ?_
       refine tkR 2 rfl ?_
       refine tkR 3 rfl ?_
       refine tkR 4 rfl ?_
       refine tkR 5 rfl ?_
       refine tkR 6 rfl ?_
       refine tkR 8 rfl ?_
       refine tkR 9 rfl ?_
       refine tkR 10 rfl ?_
       refine tkR 11 rfl ?_
       refine tkR 12 rfl ?_
       refine tkR 13 rfl ?_
       refine tkR 14 rfl ?_
       refine clR 7 rfl fun K hK => ?_
       go_simp
       refine Calls.mono (HA.out _) ?_
       rintro e w4 ⟨rfl,rfl⟩
       refine hK.out _ _ ?_ (fun hHeld => ?_)
       ·(try dsimp only)
        assumption
       clear hK K
       (try simp only [Act.put,sqA,sqB,sqC])
       refine clR 15 rfl fun K hK => ?_
       go_simp
       refine Calls.mono (HD.out _) ?_
       rintro e w4 ⟨rfl,rfl⟩
       refine hK.out _ _ ?_ (fun hHeld => ?_)
       ·(try dsimp only)
        assumption
       clear hK K
       refine tkR 16 rfl ?_
       refine tkR 17 rfl ?_
       refine wpAnyH_done (by kernel_rfl) ?_ _
       go_wp2
       go_roundw
       case rel =>
        refine ⟨k + 1,by omega,by go_num,?_,?_,?_,below_drewN HB3.out _⟩
        ·rw [HBS.out.2 hag]
        ·rw [HBS.out.2 hag,if_neg (by omega)]
        ·intro j hj
         rcases Nat.lt_or_ge j k with h | h
         ·exact HF.out j h
         ·obtain rfl:j=k:=by omega
          rw [HX.out]
       case measure => simp [intOf]; omega
    ·generalize hca:(if bp < 0 then (5:Int) else 4)=ca at *
     clear hb1 hb2
     go_wp2
     go_roundw
     case rel =>
      refine ⟨k + 1,by omega,by go_num,?_,?_,?_,HB.out.alloc (by omega) _⟩
      ·rw [bestP_skip (by rw [HX.out]),HBP.out]
      ·rw [bestP_skip (by rw [HX.out]),HBP.out,hca]
      ·intro j hj
       rcases Nat.lt_or_ge j k with h | h
       ·exact HF.out j h
       ·obtain rfl:j=k:=by omega
        rw [HX.out]
     case measure => simp [intOf]; omega
  ·have:k=n:=by omega
   subst this
   have hr:=roomF_full (f:=f) (now:=now) HF.out
   rw [← hbp] at hr
   have HRR:=Lib.hid hr
   by_cases hneg:bp < 0
   ·rw [if_pos hneg] at hr ⊢
    have HRR:=Lib.hid hr
    obtain rfl:bp=-1:=by omega
    clear hr hb1 hb2 hneg
    go_wp2
    (try rw [Exit.noGoto_ret])
    go_ret2
    refine ⟨?_,HB.out⟩
    rw [HRR.out]
    rfl
   ·rw [if_neg hneg] at hr ⊢
    have HRR:=Lib.hid hr
    clear hr hb1 hb2 hneg
    go_wp2
    (try rw [Exit.noGoto_ret])
    go_ret2
    refine ⟨?_,HB.out⟩
    rw [HRR.out]
    rfl
end Go.Proofs.Ythloabdfkakehaa
