/-
  Words and contracts that a statement's proof rests on (BuC, BuF, BuE). No statement is proved here.
-/
import Derived.Deep.RegionHeld3
import Derived.Test.YtpcapdpglpgcbaaGreatPlainBu
import Derived.Test.YtpcapdpglpgcbaaGreatBuB
set_option linter.unusedVariables false
set_option linter.unusedSimpArgs false
namespace Go.Proofs.YtpcapdpglpgcbaaGreat
section
open Go.RowKit
theorem againE_at (o e:En):againE o e=if o=e ∨ (o.st=true∧e.st=false) then 0 else if e.st=false∧o.port=e.port then 1 else 2:=rfl
set_option maxHeartbeats 3200000 in
theorem bucket_again (a0:Int) (q0:Nat) (p0:Int) (t0:Bool) (s0:Nat) (a1:Int) (q1:Nat) (p1:Int) (t1:Bool) (s1:Nat) (hk:a0=a1∧q0=q1) (w:World) :
  Calls Tryz.prog 128 #[.agg #[.int .i64 a0,.int .u64 (q0:Int),.int .i64 p0,.bool t0,.int .u32 (s0:Int)],.agg #[.int .i64 a1,.int .u64 (q1:Int),.int .i64 p1,.bool t1,.int .u32 (s1:Int)]] w (Says (.int .i64 (againE ⟨a0,q0,p0,t0,s0⟩ ⟨a1,q1,p1,t1,s1⟩:Nat)) w):=by
 have ha:=againE_at ⟨a0,q0,p0,t0,s0⟩ ⟨a1,q1,p1,t1,s1⟩
 obtain ⟨rfl,rfl⟩:=hk
 simp only [En.mk.injEq,true_and] at ha
 generalize againE ⟨a0,q0,p0,t0,s0⟩ ⟨a0,q0,p1,t1,s1⟩=r at *
 have HA:=Lib.hid ha
 clear ha
 by_cases hp:p0=p1
 ·subst hp
  by_cases hs:s0=s1
  ·subst hs
   cases t0 <;> cases t1
   all_goals
    go_enter Tryz.func128,Tryz.ntmps128
    go_wp2
    go_ret
    exact ⟨ret_i64 (by rw [HA.out]; simp),(by (repeat' (first | (with_reducible exact Below.refl _ _) | (with_reducible assumption) | (with_reducible refine Below.setCell ?_ ?_ _) | (with_reducible refine Below.alloc ?_ ?_ _) | (with_reducible refine below_drewN ?_ _) | (with_reducible refine Below.drew ?_) | go_size)))⟩
  ·have hs1:¬ (s0:Int)=(s1:Int):=by omega
   have hs2:((s0:Int) == (s1:Int))=false:=by simp; omega
   cases t0 <;> cases t1
   all_goals
    go_enter Tryz.func128,Tryz.ntmps128
    go_wp2
    go_ret
    exact ⟨ret_i64 (by rw [HA.out]; simp [hs]),(by (repeat' (first | (with_reducible exact Below.refl _ _) | (with_reducible assumption) | (with_reducible refine Below.setCell ?_ ?_ _) | (with_reducible refine Below.alloc ?_ ?_ _) | (with_reducible refine below_drewN ?_ _) | (with_reducible refine Below.drew ?_) | go_size)))⟩
 ·have hp1:(p0 == p1)=false:=by simpa using hp
  cases t0 <;> cases t1
  all_goals
   go_enter Tryz.func128,Tryz.ntmps128
   go_wp2
   go_ret
   exact ⟨ret_i64 (by rw [HA.out]; simp [hp]),(by (repeat' (first | (with_reducible exact Below.refl _ _) | (with_reducible assumption) | (with_reducible refine Below.setCell ?_ ?_ _) | (with_reducible refine Below.alloc ?_ ?_ _) | (with_reducible refine below_drewN ?_ _) | (with_reducible refine Below.drew ?_) | go_size)))⟩
end
section
open Go.RowKit
theorem listP_succ (f:Nat→Pl) (k:Nat):listP f (k + 1)=listP f k ++ [f k]:=by simp [listP,List.range_succ]
theorem plc_one1 (x:Pl):plc [x]=x.cells:=by simp [plc]
theorem RowOf.of_own {w:World} {B n:Nat} {v:Value} {f:Nat→Pl} {T:TypeId} (h:w.ownsRow B T 6 v n (plc (listP f n))):RowOf w T B v n f:=by
 obtain ⟨_,h⟩:=h
 rcases h with ⟨rfl,rfl⟩ | ⟨g,cap,cur,rfl,hg,hh,hnc,hcm,hcs,htake⟩
 ·exact ⟨none,0,rfl,Nat.le_refl _,by simp [maxLen],fun hn => by omega⟩
 ·refine ⟨_,cap,rfl,hnc,hcm,fun hn => ⟨g,fun j => cur.getD j (.bool false),rfl,hg,⟨cur,hh,hcs,fun i hi => by simp [Array.getD_eq_getD_getElem?,Array.getElem?_eq_getElem (show i < cur.size by omega)]⟩,fun j hj => ?_⟩⟩
  have h1:(plc (listP f n))[j]?=some (rowP f j):=by
   have e:j=j / 6 * 6 + j % 6:=by omega
   have hq:j / 6 < n:=by omega
   have hm:j % 6 < 6:=by omega
   have:=plc_at (listP f n) (j / 6) (j % 6) hm
   rw [← e] at this
   rw [this]
   simp only [listP,List.getElem?_map,List.getElem?_range hq,Option.map_some,Option.bind_some]
   unfold rowP
   rw [List.getD_eq_getElem?_getD,List.getElem?_eq_getElem (show j % 6 < (f (j / 6)).cells.length by simpa [Pl.cells] using hm)]
   rfl
  rw [← htake,List.getElem?_take,if_pos hj,Array.getElem?_toList] at h1
  simp [Array.getD_eq_getD_getElem?,h1]
theorem litN6 (w:World) (cs:Array Value) (e:TypeId) (hs:cs.size=6):Sl (w.alloc (.cells cs e)) (w.heap.size + 1) 6 (.slice (some ⟨w.heap.size,0,none⟩) 1 1) 1 cs.toList:=by
 refine ⟨by simpa using hs,_,1,rfl,Nat.le_refl _,by simp [maxLen],fun _ => ⟨w.heap.size,0,rfl,by omega,fun j hj => ?_⟩⟩
 simp [go_sem]
set_option maxHeartbeats 3200000 in
theorem ref10_Copy {f:Nat→Pl} {n:Nat} {y:Value} {w:World} {B:Nat} (hn:n≤1000000) (hv:PlRow w B y n f) (hB:B≤w.heap.size) :
  Calls Tryz.prog 103 #[y] w (Gives 176 n (fun i => ownP (f i)) id w):=by
 obtain ⟨A,cap,rfl,h1,h2,h3⟩:=hv
 have HC:=Lib.hid h3
 have HCAP:=Lib.hid h1
 unfold maxLen at h2
 clear h3
 go_enter Tryz.func103,Tryz.ntmps103
 go_wp2
 go_loopw [3,4] (fun out i wr => ∃ k:Nat,k≤n∧i=.int .i64 k∧Hid (wr.ownsRow w.heap.size 176 6 out k (plc (listP (fun i => ownP (f i)) k)))∧Hid (Below w.heap.size w wr)) (fun _ i _ => n - (intOf i).toNat)
 case atStart => exact ⟨0,by omega,rfl,⟨by simp [plc,listP],.inl ⟨rfl,rfl⟩⟩,Below.refl _ _⟩
 case round =>
  obtain ⟨k,hk,rfl,HO,HB⟩:=hrel
  have hzw:=HB.out.size
  by_cases hlt:k < n
  ·obtain ⟨b,off,rfl,hb,hc⟩:=HC.out (by omega)
   have g0:(0:Int)≤(k:Int):=Int.natCast_nonneg _
   have g1:(k:Int) < (n:Int):=by omega
   have hcx:=(hc k hlt).keep (w':=wr) fun p hp => HB.out.cell (by rw [hp]; omega)
   have HX:Hid (∀ x,ownP (f k)=ownP x→plc (listP (fun i => ownP (f i)) (k + 1))=plc (listP (fun i => ownP (f i)) k) ++ (ownP x).cells):=fun x hx => by
    rw [listP_succ,plc_append,plc_one1,← hx]
   obtain ⟨x,hx⟩:∃ x,x=f k:=⟨_,rfl⟩
   rw [← hx] at hcx HX
   have HX:=Lib.hid (HX.out x rfl)
   clear hx
   obtain ⟨u,⟨a,q,p,st,s⟩⟩:=x
   obtain ⟨c0',c1',c2',c3',c4',c5'⟩:=hcx
   have c0:wr.cell? ⟨b,off + k * 6,none⟩=some (.bool u):=c0'
   have c1:wr.cell? ⟨b,off + k * 6 + 1,none⟩=some (.int .i64 a):=c1'
   have c2:wr.cell? ⟨b,off + k * 6 + 2,none⟩=some (.int .u64 (q:Int)):=c2'
   have c3:wr.cell? ⟨b,off + k * 6 + 3,none⟩=some (.int .i64 p):=c3'
   have c4:wr.cell? ⟨b,off + k * 6 + 4,none⟩=some (.bool st):=c4'
   have c5:wr.cell? ⟨b,off + k * 6 + 5,none⟩=some (.int .u32 (s:Int)):=c5'
   clear c0' c1' c2' c3' c4' c5'
   have hbr:b < wr.heap.size:=by omega
   clear hc HC
   cases u
   ·go_wp2_with (first
     | (at_builtin; refine wpList_apv _ rfl stPlacesR _ _ rfl w.heap.size _ k _ rfl (own_below HO.out ((Below.refl _ _).alloc (Nat.le_refl _) _)) (wr.heap.size + 1) _ 1 [.bool false,.int .i64 0,.int .u64 0,.int .i64 0,.bool false,.int .u32 0] rfl (litN6 wr #[.bool false,.int .i64 0,.int .u64 0,.int .i64 0,.bool false,.int .u32 0] _ rfl) (by simp [Value.oneCell']) (by omega) (by simp; omega) ?_; intro A2 c2 w2 hown2 hgr2 hat2 hbel2; clear hgr2 hat2))
    have HO2:Hid (w2.ownsRow w.heap.size 176 6 (.slice A2 (k + 1) c2) (k + 1) (plc (listP (fun i => ownP (f i)) (k + 1)))):=by
     rw [HX.out]; exact hown2
    have HB2:Hid (Below w.heap.size w w2):=(HB.out.alloc hzw _).trans hbel2
    clear hown2 hbel2
    go_wp2
    go_roundw
    case rel => exact ⟨k + 1,by omega,by go_num,HO2.out,HB2.out⟩
    case measure => simp [intOf]; omega
   ·go_wp2_with (first
     | (at_builtin; refine wpList_apv _ rfl stPlacesR _ _ rfl w.heap.size _ k _ rfl (own_below HO.out ((Below.refl _ _).alloc (Nat.le_refl _) _)) (wr.heap.size + 1) _ 1 [.bool true,.int .i64 a,.int .u64 (q:Int),.int .i64 p,.bool st,.int .u32 (s:Int)] rfl (litN6 wr #[.bool true,.int .i64 a,.int .u64 (q:Int),.int .i64 p,.bool st,.int .u32 (s:Int)] _ rfl) (by simp [Value.oneCell']) (by omega) (by simp; omega) ?_; intro A2 c2 w2 hown2 hgr2 hat2 hbel2; clear hgr2 hat2))
    have HO2:Hid (w2.ownsRow w.heap.size 176 6 (.slice A2 (k + 1) c2) (k + 1) (plc (listP (fun i => ownP (f i)) (k + 1)))):=by
     rw [HX.out]; exact hown2
    have HB2:Hid (Below w.heap.size w w2):=(HB.out.alloc hzw _).trans hbel2
    clear hown2 hbel2
    go_wp2
    go_roundw
    case rel => exact ⟨k + 1,by omega,by go_num,HO2.out,HB2.out⟩
    case measure => simp [intOf]; omega
  ·have:k=n:=by omega
   subst this
   go_wp2
   go_ret
   exact ⟨_,rfl,RowOf.of_own HO.out,HB.out⟩
end
section
open Go.RowKit
set_option maxHeartbeats 6400000 in
theorem ref10_room {f:Nat→Pl} {n:Nat} {y:Value} {w:World} {B:Nat} (hv:PlRow w B y n f) (hB:B≤w.heap.size) (hst:∀ i,i < n→(f i).e.stamp < 4294967296) (now:Nat) (hnow:now < 4294967296) :
  Calls Tryz.prog 134 #[y,.int .u32 (now:Int)] w (Told10b (roomF f now n) w):=by
 obtain ⟨A,cap,rfl,h1,h2,h3⟩:=hv
 have HC:=Lib.hid h3
 have HCAP:=Lib.hid h1
 have HST:=Lib.hid hst
 have HNOW:=Lib.hid hnow
 unfold maxLen at h2
 clear h3 hst hnow
 go_enter Tryz.func134,Tryz.ntmps134
 go_wp2
 go_loopw [6] (fun i wr => ∃ k:Nat,k≤n∧i=.int .i64 k∧Hid (∀ j,j < k→(f j).used=true)∧∃ m,wr=w.drewN m) (fun i _ => n - (intOf i).toNat)
 case atStart => exact ⟨0,by omega,rfl,fun j hj => by omega,0,rfl⟩
 case round =>
  obtain ⟨k,hk,rfl,HF,m,rfl⟩:=hrel
  by_cases hlt:k < n
  ·obtain ⟨b,off,rfl,hb,hc⟩:=HC.out (by omega)
   have g0:(0:Int)≤(k:Int):=Int.natCast_nonneg _
   have g1:(k:Int) < (n:Int):=by omega
   have c0':=(hc k hlt).1
   obtain ⟨u,hu⟩:∃ u,u=(f k).used:=⟨_,rfl⟩
   have c0:w.cell? ⟨b,off + k * 6,none⟩=some (.bool u):=by rw [hu]; exact c0'
   have HU:=Lib.hid hu.symm
   clear hu c0' hc HC
   cases u
   ·go_wp2
    go_ret2
    refine ⟨?_,below_drewN (Below.refl _ _) _⟩
    rw [roomF_free HF.out HU.out hlt]
    rfl
   ·go_wp2
    go_roundw
    case rel =>
     refine ⟨k + 1,by omega,by go_num,?_,m,rfl⟩
     intro j hj
     rcases Nat.lt_or_ge j k with h | h
     ·exact HF.out j h
     ·obtain rfl:j=k:=by omega
      exact HU.out
    case measure => simp [intOf]; omega
  ·have:k=n:=by omega
   subst this
   go_wp2
   go_loopw [7,8] (fun pl i wr => ∃ j:Nat,j≤k∧i=.int .i64 j∧pl=.int .i64 (bestP f now j)∧∃ m,wr=w.drewN m) (fun _ i _ => k - (intOf i).toNat)
   case atStart => exact ⟨0,by omega,rfl,rfl,m,rfl⟩
   case round =>
    obtain ⟨i,hi,rfl,rfl,m2,rfl⟩:=hrel
    obtain ⟨bp,hbp⟩:∃ bp,bp=bestP f now i:=⟨_,rfl⟩
    rw [← hbp]
    obtain ⟨hb1,hb2⟩:=bestP_bd f now i
    rw [← hbp] at hb1 hb2
    by_cases hlt2:i < k
    ·obtain ⟨b,off,rfl,hb,hc⟩:=HC.out (by omega)
     have g0:(0:Int)≤(i:Int):=Int.natCast_nonneg _
     have g1:(i:Int) < (k:Int):=by omega
     obtain ⟨_,_,_,_,c4',c5'⟩:=hc i hlt2
     have HSS:=Lib.hid (HST.out i hlt2)
     obtain ⟨st,hst⟩:∃ st,st=(f i).e.st:=⟨_,rfl⟩
     obtain ⟨s,hs⟩:∃ s,s=(f i).e.stamp:=⟨_,rfl⟩
     have c4:w.cell? ⟨b,off + i * 6 + 4,none⟩=some (.bool st):=by rw [hst]; exact c4'
     have c5:w.cell? ⟨b,off + i * 6 + 5,none⟩=some (.int .u32 (s:Int)):=by rw [hs]; exact c5'
     rw [← hs] at HSS
     have HT:=Lib.hid hst.symm
     have HS:=Lib.hid hs.symm
     have HBP:=Lib.hid hbp.symm
     have HCC:=Lib.hid hc
     clear hst hs hc hbp c4' c5' HC hlt hk
     cases st
     ·by_cases hneg:bp < 0
      ·obtain rfl:bp=-1:=by omega
       clear hb1 hb2 hneg
       go_wp2_with fail
       refine wp_region_held_drew (S:=fun w' => w'.cell? ⟨b,off + i * 6 + 4,none⟩=some (.bool false)∧w'.cell? ⟨b,off + i * 6 + 5,none⟩=some (.int .u32 (s:Int))) (by kernel_rfl) ?_ (fun hHeld => ?_)
       ·exact ⟨c4,c5⟩
       refine tkR 0 rfl ?_
       refine tkR 1 rfl ?_
       refine tkR 2 rfl ?_
       refine tkR 3 rfl ?_
       refine tkR 4 rfl ?_
       refine tkR 5 rfl ?_
       refine tkR 6 rfl ?_
       refine tkR 7 rfl ?_
       refine tkR 8 rfl ?_
       refine tkR 9 rfl ?_
       refine tkR 10 rfl ?_
       refine skR 11 rfl ?_
       refine skR 12 rfl ?_
       refine skR 13 rfl ?_
       refine skR 14 rfl ?_
       refine skR 15 rfl ?_
       refine skR 16 rfl ?_
       refine skR 17 rfl ?_
       refine skR 18 rfl ?_
       refine skR 19 rfl ?_
       refine skR 20 rfl ?_
       refine skR 21 rfl ?_
       refine skR 22 rfl ?_
       refine skR 23 rfl ?_
       refine skR 24 rfl ?_
       refine skR 25 rfl ?_
       refine skR 26 rfl ?_
       refine skR 27 rfl ?_
       refine tkR 28 rfl ?_
       refine tkR 29 rfl ?_
       refine wpAnyH_done (by kernel_rfl) ?_ _
       go_wp2
       go_roundw
       case rel => exact ⟨i + 1,by omega,by go_num,by rw [bestP_new HT.out (by rw [HBP.out]; omega)],_,rfl⟩
       case measure => simp [intOf]; omega
      ·obtain ⟨j,rfl⟩:=Int.eq_ofNat_of_zero_le (show 0≤bp by omega)
       have hj:j < k:=by omega
       have HSJ:=Lib.hid (HST.out j hj)
       obtain ⟨_,_,_,_,_,y5'⟩:=HCC.out j hj
       obtain ⟨sj,hsj⟩:∃ sj,sj=(f j).e.stamp:=⟨_,rfl⟩
       have y5:w.cell? ⟨b,off + j * 6 + 5,none⟩=some (.int .u32 (sj:Int)):=by rw [hsj]; exact y5'
       rw [← hsj] at HSJ
       have HJ:=Lib.hid hsj.symm
       have hA:=fun W => ref4_Age now s HNOW.out HSS.out W
       have hD:=fun W => ref4_Age now sj HNOW.out HSJ.out W
       have HBS:Hid ((ageN now sj < ageN now s→bestP f now (i + 1)=(i:Int))∧(¬ ageN now sj < ageN now s→bestP f now (i + 1)=(j:Int))) :=
        ⟨fun h => bestP_more HT.out HBP.out (by rw [HJ.out,HS.out]; exact h),fun h => bestP_less HBP.out (by rw [HJ.out,HS.out]; exact h)⟩
       generalize ageN now s=xs at *
       generalize ageN now sj=xj at *
       have HA:=Lib.hid hA
       have HD:=Lib.hid hD
       have j0:(0:Int)≤(j:Int):=Int.natCast_nonneg _
       have j1:(j:Int) < (k:Int):=by omega
       have jd:decide ((j:Int) < 0)=false:=decide_eq_false hneg
       clear hA hD hsj HJ HSJ y5' HCC hb1 hb2
       by_cases hag:xj < xs
       ·have hag1:decide ((xs:Int) > (xj:Int))=true:=decide_eq_true (by omega)
        go_wp2_with fail
        refine wp_region_held_drew (S:=fun w' => w'.cell? ⟨b,off + i * 6 + 4,none⟩=some (.bool false)∧w'.cell? ⟨b,off + i * 6 + 5,none⟩=some (.int .u32 (s:Int))∧w'.cell? ⟨b,off + j * 6 + 5,none⟩=some (.int .u32 (sj:Int))) (by kernel_rfl) ?_ (fun hHeld => ?_)
        ·exact ⟨c4,c5,y5⟩
        refine tkR 0 rfl ?_
        refine tkR 1 rfl ?_
        refine tkR 2 rfl ?_
        refine tkR 3 rfl ?_
        refine tkR 4 rfl ?_
        refine tkR 5 rfl ?_
        refine tkR 6 rfl ?_
        refine tkR 7 rfl ?_
        refine tkR 8 rfl ?_
        refine tkR 9 rfl ?_
        refine tkR 10 rfl ?_
        refine tkR 11 rfl ?_
        refine tkR 12 rfl ?_
        refine tkR 13 rfl ?_
        refine tkR 14 rfl ?_
        refine tkR 15 rfl ?_
        refine tkR 16 rfl ?_
        refine tkR 17 rfl ?_
        refine tkR 19 rfl ?_
        refine tkR 20 rfl ?_
        refine tkR 21 rfl ?_
        refine tkR 22 rfl ?_
        refine tkR 23 rfl ?_
        refine tkR 24 rfl ?_
        refine tkR 25 rfl ?_
        refine clR 18 rfl fun K hK => ?_
        go_simp
        refine Calls.mono (HA.out _) ?_
        rintro e w4 ⟨rfl,rfl⟩
        refine hK.out _ _ ?_ (fun hHeld => ?_)
        ·(try dsimp only)
         assumption
        clear hK K
        (try simp only [Act.put,sqA,sqB,sqC])
        refine clR 26 rfl fun K hK => ?_
        go_simp
        refine Calls.mono (HD.out _) ?_
        rintro e w4 ⟨rfl,rfl⟩
        refine hK.out _ _ ?_ (fun hHeld => ?_)
        ·(try dsimp only)
         assumption
        clear hK K
        refine tkR 27 rfl ?_
        refine tkR 28 rfl ?_
        refine tkR 29 rfl ?_
        refine wpAnyH_done (by kernel_rfl) ?_ _
        go_wp2
        go_roundw
        case rel => exact ⟨i + 1,by omega,by go_num,by rw [HBS.out.1 hag],_,rfl⟩
        case measure => simp [intOf]; omega
       ·have hag1:decide ((xs:Int) > (xj:Int))=false:=decide_eq_false (by omega)
        go_wp2_with fail
        refine wp_region_held_drew (S:=fun w' => w'.cell? ⟨b,off + i * 6 + 4,none⟩=some (.bool false)∧w'.cell? ⟨b,off + i * 6 + 5,none⟩=some (.int .u32 (s:Int))∧w'.cell? ⟨b,off + j * 6 + 5,none⟩=some (.int .u32 (sj:Int))) (by kernel_rfl) ?_ (fun hHeld => ?_)
        ·exact ⟨c4,c5,y5⟩
        refine tkR 0 rfl ?_
        refine tkR 1 rfl ?_
        refine tkR 2 rfl ?_
        refine tkR 3 rfl ?_
        refine tkR 4 rfl ?_
        refine tkR 5 rfl ?_
        refine tkR 6 rfl ?_
        refine tkR 7 rfl ?_
        refine tkR 8 rfl ?_
        refine tkR 9 rfl ?_
        refine tkR 10 rfl ?_
        refine tkR 11 rfl ?_
        refine tkR 12 rfl ?_
        refine tkR 13 rfl ?_
        refine tkR 14 rfl ?_
        refine tkR 15 rfl ?_
        refine tkR 16 rfl ?_
        refine tkR 17 rfl ?_
        refine tkR 19 rfl ?_
        refine tkR 20 rfl ?_
        refine tkR 21 rfl ?_
        refine tkR 22 rfl ?_
        refine tkR 23 rfl ?_
        refine tkR 24 rfl ?_
        refine tkR 25 rfl ?_
        refine clR 18 rfl fun K hK => ?_
        go_simp
        refine Calls.mono (HA.out _) ?_
        rintro e w4 ⟨rfl,rfl⟩
        refine hK.out _ _ ?_ (fun hHeld => ?_)
        ·(try dsimp only)
         assumption
        clear hK K
        (try simp only [Act.put,sqA,sqB,sqC])
        refine clR 26 rfl fun K hK => ?_
        go_simp
        refine Calls.mono (HD.out _) ?_
        rintro e w4 ⟨rfl,rfl⟩
        refine hK.out _ _ ?_ (fun hHeld => ?_)
        ·(try dsimp only)
         assumption
        clear hK K
        refine tkR 27 rfl ?_
        refine tkR 28 rfl ?_
        refine tkR 29 rfl ?_
        refine wpAnyH_done (by kernel_rfl) ?_ _
        go_wp2
        go_roundw
        case rel => exact ⟨i + 1,by omega,by go_num,by rw [HBS.out.2 hag],_,rfl⟩
        case measure => simp [intOf]; omega
     ·go_wp2_with fail
      refine wp_region_held_drew (S:=fun w' => w'.cell? ⟨b,off + i * 6 + 4,none⟩=some (.bool true)∧w'.cell? ⟨b,off + i * 6 + 5,none⟩=some (.int .u32 (s:Int))) (by kernel_rfl) ?_ (fun hHeld => ?_)
      ·exact ⟨c4,c5⟩
      refine tkR 0 rfl ?_
      refine tkR 1 rfl ?_
      refine tkR 2 rfl ?_
      refine tkR 3 rfl ?_
      refine tkR 4 rfl ?_
      refine tkR 5 rfl ?_
      refine tkR 6 rfl ?_
      refine tkR 7 rfl ?_
      refine skR 8 rfl ?_
      refine skR 9 rfl ?_
      refine skR 10 rfl ?_
      refine skR 11 rfl ?_
      refine skR 12 rfl ?_
      refine skR 13 rfl ?_
      refine skR 14 rfl ?_
      refine skR 15 rfl ?_
      refine skR 16 rfl ?_
      refine skR 17 rfl ?_
      refine skR 18 rfl ?_
      refine skR 19 rfl ?_
      refine skR 20 rfl ?_
      refine skR 21 rfl ?_
      refine skR 22 rfl ?_
      refine skR 23 rfl ?_
      refine skR 24 rfl ?_
      refine skR 25 rfl ?_
      refine skR 26 rfl ?_
      refine skR 27 rfl ?_
      refine skR 28 rfl ?_
      refine tkR 29 rfl ?_
      refine wpAnyH_done (by kernel_rfl) ?_ _
      go_wp2
      go_roundw
      case rel => exact ⟨i + 1,by omega,by go_num,by rw [bestP_skip HT.out,HBP.out],_,rfl⟩
      case measure => simp [intOf]; omega
    ·have:i=k:=by omega
     subst this
     have hr:=roomF_full (f:=f) (now:=now) HF.out
     rw [← hbp] at hr
     by_cases hneg:bp < 0
     ·rw [if_pos hneg] at hr
      have HRR:=Lib.hid hr
      obtain rfl:bp=-1:=by omega
      clear hr hb1 hb2 hneg
      go_wp2
      go_ret2
      refine ⟨?_,below_drewN (Below.refl _ _) _⟩
      rw [HRR.out]
      rfl
     ·rw [if_neg hneg] at hr
      have HRR:=Lib.hid hr
      have hd:decide (bp < 0)=false:=decide_eq_false hneg
      clear hr hb1 hb2
      go_wp2
      go_ret2
      refine ⟨?_,below_drewN (Below.refl _ _) _⟩
      rw [HRR.out]
      subst hbp
      rfl
end
end Go.Proofs.YtpcapdpglpgcbaaGreat
