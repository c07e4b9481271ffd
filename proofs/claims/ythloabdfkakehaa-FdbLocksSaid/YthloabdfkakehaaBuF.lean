/-
  Words and contracts that a statement's proof rests on (BuB, BuC, BuF). No statement is proved here.
-/
import Derived.Deep.RegionHeld3
import Derived.Test.YthloabdfkakehaaBuA
set_option linter.unusedVariables false
set_option linter.unusedSimpArgs false
namespace Go.Proofs.Ythloabdfkakehaa
section
open Go.RowKit
theorem keyF_at (f:Nat→Pl) (v:Int) (m k:Nat):keyF f v m k=((f k).used && ((f k).e.vid == v && (f k).e.mac == m)):=rfl
set_option maxHeartbeats 3200000 in
theorem bucket_Find {f:Nat→Pl} {n:Nat} {y:Value} {w:World} {B:Nat} (hv:PlRow w B y n f) (hB:B≤w.heap.size) (v:Int) (m:Nat) :
  Calls Try.prog 83 #[y,.agg #[.int .i64 v,.int .u64 (m:Int)]] w (Says (.int .i64 (findF f v m n)) w):=by
 obtain ⟨A,cap,rfl,h1,h2,h3⟩:=hv
 have HC:=Lib.hid h3
 have HCAP:=Lib.hid h1
 unfold maxLen at h2
 clear h3
 obtain ⟨w0,hw0⟩:∃ w0,w0=w.alloc (.cells #[.int .i64 v,.int .u64 (m:Int)] 47):=⟨_,rfl⟩
 have r0:w0.cell? ⟨w.heap.size,0,none⟩=some (.int .i64 v):=by rw [hw0]; simp [go_sem]
 have r1:w0.cell? ⟨w.heap.size,1,none⟩=some (.int .u64 (m:Int)):=by rw [hw0]; simp [go_sem]
 have hz0:w0.heap.size=w.heap.size + 1:=by rw [hw0]; simp
 have HB0:Hid (Below w.heap.size w w0):=by rw [hw0]; exact (Below.refl _ _).alloc (Nat.le_refl _) _
 go_enter Try.func83,Try.ntmps83
 go_wp2
 rw [← hw0]
 clear hw0
 go_loopw [9] (fun i wr => ∃ k:Nat,k≤n∧i=.int .i64 k∧Hid (∀ j,j < k→keyF f v m j=false)∧Hid (Below (w.heap.size + 1) w0 wr)) (fun i _ => n - (intOf i).toNat)
 case atStart => exact ⟨0,by omega,rfl,fun j hj => by omega,Below.refl _ _⟩
 case round =>
  obtain ⟨k,hk,rfl,HF,HB⟩:=hrel
  have hzw:w.heap.size + 1≤wr.heap.size:=by have:=HB.out.size; omega
  have hBw:Below w.heap.size w wr:=HB0.out.trans (HB.out.mono (by omega))
  have s0:=((bcell HB.out).1 w.heap.size 0 (by omega)).trans r0
  have s1:=((bcell HB.out).1 w.heap.size 1 (by omega)).trans r1
  clear r0 r1 HB0
  by_cases hlt:k < n
  ·obtain ⟨b,off,rfl,hb,hc⟩:=HC.out (by omega)
   have g0:(0:Int)≤(k:Int):=Int.natCast_nonneg _
   have g1:(k:Int) < (n:Int):=by omega
   have hcx:=(hc k hlt).keep (w':=wr) fun p hp => hBw.cell (by rw [hp]; omega)
   have hky:=keyF_at f v m k
   obtain ⟨x,hx⟩:∃ x,x=f k:=⟨_,rfl⟩
   rw [← hx] at hcx hky
   clear hx
   obtain ⟨u,⟨a,q,p,st,s⟩⟩:=x
   obtain ⟨c0',c1',c2',c3',c4',c5'⟩:=hcx
   have c0:wr.cell? ⟨b,off + k * 6,none⟩=some (.bool u):=c0'
   have c1:wr.cell? ⟨b,off + k * 6 + 1,none⟩=some (.int .i64 a):=c1'
   have c2:wr.cell? ⟨b,off + k * 6 + 2,none⟩=some (.int .u64 (q:Int)):=c2'
   have c3:wr.cell? ⟨b,off + k * 6 + 3,none⟩=some (.int .i64 p):=c3'
   have c4:wr.cell? ⟨b,off + k * 6 + 4,none⟩=some (.bool st):=c4'
   have c5:wr.cell? ⟨b,off + k * 6 + 5,none⟩=some (.int .u32 (s:Int)):=c5'
   clear c0' c1' c2' c3' c4' c5'
   have HKY:=Lib.hid hky
   have hbr:b < wr.heap.size:=by omega
   clear hky hc HC
   have t0:∀ o,(wr.alloc o).cell? ⟨w.heap.size,0,none⟩=some (.int .i64 v):=fun o => by rw [World.cell?_alloc_lt _ _ _ (by show w.heap.size < _; omega)]; exact s0
   have t1:∀ o,(wr.alloc o).cell? ⟨w.heap.size,1,none⟩=some (.int .u64 (m:Int)):=fun o => by rw [World.cell?_alloc_lt _ _ _ (by show w.heap.size < _; omega)]; exact s1
   cases u
   ·go_wp2
    go_roundw
    case rel =>
     refine ⟨k + 1,by omega,by go_num,?_,HB.out.alloc (by omega) _⟩
     intro j hj
     rcases Nat.lt_or_ge j k with h | h
     ·exact HF.out j h
     ·obtain rfl:j=k:=by omega
      rw [HKY.out]; simp
    case measure => simp [intOf]; omega
   ·by_cases hav:a=v
    ·subst hav
     by_cases hqm:q=m
     ·subst hqm
      go_wp2
      go_ret
      refine ⟨?_,hBw.alloc (by omega) _⟩
      rw [show findF f a q n=(k:Int) from firstJ_at _ k HF.out (by rw [HKY.out]; simp) n hlt]
      rfl
     ·have hqm1:((q:Int) == (m:Int))=false:=by simp; omega
      have hqm2:¬ (q:Int)=(m:Int):=by omega
      go_wp2
      go_roundw
      case rel =>
       refine ⟨k + 1,by omega,by go_num,?_,HB.out.alloc (by omega) _⟩
       intro j hj
       rcases Nat.lt_or_ge j k with h | h
       ·exact HF.out j h
       ·obtain rfl:j=k:=by omega
        rw [HKY.out]; simp [hqm]
      case measure => simp [intOf]; omega
    ·have hav1:(a == v)=false:=by simpa using hav
     go_wp2
     go_roundw
     case rel =>
      refine ⟨k + 1,by omega,by go_num,?_,HB.out.alloc (by omega) _⟩
      intro j hj
      rcases Nat.lt_or_ge j k with h | h
      ·exact HF.out j h
      ·obtain rfl:j=k:=by omega
       rw [HKY.out]; simp [hav]
     case measure => simp [intOf]; omega
  ·have:k=n:=by omega
   subst this
   go_wp2
   go_ret
   refine ⟨?_,hBw⟩
   rw [show findF f v m k=-1 from firstJ_none _ k HF.out]
   rfl
end
section
open Go.RowKit
theorem againE_at (o e:En):againE o e=if o=e ∨ (o.st=true∧e.st=false) then 0 else if e.st=false∧o.port=e.port then 1 else 2:=rfl
set_option maxHeartbeats 3200000 in
theorem bucket_again (a0:Int) (q0:Nat) (p0:Int) (t0:Bool) (s0:Nat) (a1:Int) (q1:Nat) (p1:Int) (t1:Bool) (s1:Nat) (hk:a0=a1∧q0=q1) (w:World) :
  Calls Try.prog 114 #[.agg #[.int .i64 a0,.int .u64 (q0:Int),.int .i64 p0,.bool t0,.int .u32 (s0:Int)],.agg #[.int .i64 a1,.int .u64 (q1:Int),.int .i64 p1,.bool t1,.int .u32 (s1:Int)]] w (Says (.int .i64 (againE ⟨a0,q0,p0,t0,s0⟩ ⟨a1,q1,p1,t1,s1⟩:Nat)) w):=by
 have ha:=againE_at ⟨a0,q0,p0,t0,s0⟩ ⟨a1,q1,p1,t1,s1⟩
 obtain ⟨rfl,rfl⟩:=hk
 simp only [En.mk.injEq,true_and] at ha
 generalize againE ⟨a0,q0,p0,t0,s0⟩ ⟨a0,q0,p1,t1,s1⟩=r at *
 have HA:=Lib.hid ha
 clear ha
 by_cases hp:p0=p1
 ·subst hp
  by_cases hs:s0=s1
  ·subst hs
   cases t0 <;> cases t1
   all_goals
    go_enter Try.func114,Try.ntmps114
    go_wp2
    go_ret
    exact ⟨ret_i64 (by rw [HA.out]; simp),(by (repeat' (first | (with_reducible exact Below.refl _ _) | (with_reducible assumption) | (with_reducible refine Below.setCell ?_ ?_ _) | (with_reducible refine Below.alloc ?_ ?_ _) | (with_reducible refine below_drewN ?_ _) | (with_reducible refine Below.drew ?_) | go_size)))⟩
  ·have hs1:¬ (s0:Int)=(s1:Int):=by omega
   have hs2:((s0:Int) == (s1:Int))=false:=by simp; omega
   cases t0 <;> cases t1
   all_goals
    go_enter Try.func114,Try.ntmps114
    go_wp2
    go_ret
    exact ⟨ret_i64 (by rw [HA.out]; simp [hs]),(by (repeat' (first | (with_reducible exact Below.refl _ _) | (with_reducible assumption) | (with_reducible refine Below.setCell ?_ ?_ _) | (with_reducible refine Below.alloc ?_ ?_ _) | (with_reducible refine below_drewN ?_ _) | (with_reducible refine Below.drew ?_) | go_size)))⟩
 ·have hp1:(p0 == p1)=false:=by simpa using hp
  cases t0 <;> cases t1
  all_goals
   go_enter Try.func114,Try.ntmps114
   go_wp2
   go_ret
   exact ⟨ret_i64 (by rw [HA.out]; simp [hp]),(by (repeat' (first | (with_reducible exact Below.refl _ _) | (with_reducible assumption) | (with_reducible refine Below.setCell ?_ ?_ _) | (with_reducible refine Below.alloc ?_ ?_ _) | (with_reducible refine below_drewN ?_ _) | (with_reducible refine Below.drew ?_) | go_size)))⟩
end
section
open Go.RowKit
theorem RowOf.of_own {w:World} {B n:Nat} {v:Value} {f:Nat→Pl} {T:TypeId} (h:w.ownsRow B T 6 v n (plc (listP f n))):RowOf w T B v n f:=by
 obtain ⟨_,h⟩:=h
 rcases h with ⟨rfl,rfl⟩ | ⟨g,cap,cur,rfl,hg,hh,hnc,hcm,hcs,htake⟩
 ·exact ⟨none,0,rfl,Nat.le_refl _,by simp [maxLen],fun hn => by omega⟩
 ·refine ⟨_,cap,rfl,hnc,hcm,fun hn => ⟨g,fun j => cur.getD j (.bool false),rfl,hg,⟨cur,hh,hcs,fun i hi => by simp [Array.getD_eq_getD_getElem?,Array.getElem?_eq_getElem (show i < cur.size by omega)]⟩,fun j hj => ?_⟩⟩
  have h1:(plc (listP f n))[j]?=some (rowP f j):=by
   have e:j=j / 6 * 6 + j % 6:=by omega
   have hq:j / 6 < n:=by omega
   have hm:j % 6 < 6:=by omega
   have:=plc_at (listP f n) (j / 6) (j % 6) hm
   rw [← e] at this
   rw [this]
   simp only [listP,List.getElem?_map,List.getElem?_range hq,Option.map_some,Option.bind_some]
   unfold rowP
   rw [List.getD_eq_getElem?_getD,List.getElem?_eq_getElem (show j % 6 < (f (j / 6)).cells.length by simpa [Pl.cells] using hm)]
   rfl
  rw [← htake,List.getElem?_take,if_pos hj,Array.getElem?_toList] at h1
  simp [Array.getD_eq_getD_getElem?,h1]
end
end Go.Proofs.Ythloabdfkakehaa
