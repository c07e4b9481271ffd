/-
  Words and contracts that a statement's proof rests on (BuB). No statement is proved here.
-/
import Derived.Deep.RegionHeld3
import Derived.Test.YthloabdfkakehaaGreatBuC
set_option linter.unusedVariables false
set_option linter.unusedSimpArgs false
namespace Go.Proofs.YthloabdfkakehaaGreat
open Go.RowKit
theorem keyF_at (f:Nat→Pl) (v:Int) (m k:Nat):keyF f v m k=((f k).used && ((f k).e.vid == v && (f k).e.mac == m)):=rfl
set_option maxHeartbeats 3200000 in
theorem bucket_Find {f:Nat→Pl} {n:Nat} {y:Value} {w:World} {B:Nat} (hv:PlRow w B y n f) (hB:B≤w.heap.size) (v:Int) (m:Nat) :
  Calls Tryz.prog 101 #[y,.agg #[.int .i64 v,.int .u64 (m:Int)]] w (Says (.int .i64 (findF f v m n)) w):=by
 obtain ⟨A,cap,rfl,h1,h2,h3⟩:=hv
 have HC:=Lib.hid h3
 have HCAP:=Lib.hid h1
 unfold maxLen at h2
 clear h3
 obtain ⟨w0,hw0⟩:∃ w0,w0=w.alloc (.cells #[.int .i64 v,.int .u64 (m:Int)] 57):=⟨_,rfl⟩
 have r0:w0.cell? ⟨w.heap.size,0,none⟩=some (.int .i64 v):=by rw [hw0]; simp [go_sem]
 have r1:w0.cell? ⟨w.heap.size,1,none⟩=some (.int .u64 (m:Int)):=by rw [hw0]; simp [go_sem]
 have hz0:w0.heap.size=w.heap.size + 1:=by rw [hw0]; simp
 have HB0:Hid (Below w.heap.size w w0):=by rw [hw0]; exact (Below.refl _ _).alloc (Nat.le_refl _) _
 go_enter Tryz.func101,Tryz.ntmps101
 go_wp2
 rw [← hw0]
 clear hw0
 go_loopw [9] (fun i wr => ∃ k:Nat,k≤n∧i=.int .i64 k∧Hid (∀ j,j < k→keyF f v m j=false)∧Hid (Below (w.heap.size + 1) w0 wr)) (fun i _ => n - (intOf i).toNat)
 case atStart => exact ⟨0,by omega,rfl,fun j hj => by omega,Below.refl _ _⟩
 case round =>
  obtain ⟨k,hk,rfl,HF,HB⟩:=hrel
  have hzw:w.heap.size + 1≤wr.heap.size:=by have:=HB.out.size; omega
  have hBw:Below w.heap.size w wr:=HB0.out.trans (HB.out.mono (by omega))
  have s0:=((bcell HB.out).1 w.heap.size 0 (by omega)).trans r0
  have s1:=((bcell HB.out).1 w.heap.size 1 (by omega)).trans r1
  clear r0 r1 HB0
  by_cases hlt:k < n
  ·obtain ⟨b,off,rfl,hb,hc⟩:=HC.out (by omega)
   have g0:(0:Int)≤(k:Int):=Int.natCast_nonneg _
   have g1:(k:Int) < (n:Int):=by omega
   have hcx:=(hc k hlt).keep (w':=wr) fun p hp => hBw.cell (by rw [hp]; omega)
   have hky:=keyF_at f v m k
   obtain ⟨x,hx⟩:∃ x,x=f k:=⟨_,rfl⟩
   rw [← hx] at hcx hky
   clear hx
   obtain ⟨u,⟨a,q,p,st,s⟩⟩:=x
   obtain ⟨c0',c1',c2',c3',c4',c5'⟩:=hcx
   have c0:wr.cell? ⟨b,off + k * 6,none⟩=some (.bool u):=c0'
   have c1:wr.cell? ⟨b,off + k * 6 + 1,none⟩=some (.int .i64 a):=c1'
   have c2:wr.cell? ⟨b,off + k * 6 + 2,none⟩=some (.int .u64 (q:Int)):=c2'
   have c3:wr.cell? ⟨b,off + k * 6 + 3,none⟩=some (.int .i64 p):=c3'
   have c4:wr.cell? ⟨b,off + k * 6 + 4,none⟩=some (.bool st):=c4'
   have c5:wr.cell? ⟨b,off + k * 6 + 5,none⟩=some (.int .u32 (s:Int)):=c5'
   clear c0' c1' c2' c3' c4' c5'
   have HKY:=Lib.hid hky
   have hbr:b < wr.heap.size:=by omega
   clear hky hc HC
   have t0:∀ o,(wr.alloc o).cell? ⟨w.heap.size,0,none⟩=some (.int .i64 v):=fun o => by rw [World.cell?_alloc_lt _ _ _ (by show w.heap.size < _; omega)]; exact s0
   have t1:∀ o,(wr.alloc o).cell? ⟨w.heap.size,1,none⟩=some (.int .u64 (m:Int)):=fun o => by rw [World.cell?_alloc_lt _ _ _ (by show w.heap.size < _; omega)]; exact s1
   cases u
   ·go_wp2
    go_roundw
    case rel =>
     refine ⟨k + 1,by omega,by go_num,?_,HB.out.alloc (by omega) _⟩
     intro j hj
     rcases Nat.lt_or_ge j k with h | h
     ·exact HF.out j h
     ·obtain rfl:j=k:=by omega
      rw [HKY.out]; simp
    case measure => simp [intOf]; omega
   ·by_cases hav:a=v
    ·subst hav
     by_cases hqm:q=m
     ·subst hqm
      go_wp2
      go_ret
      refine ⟨?_,hBw.alloc (by omega) _⟩
      rw [show findF f a q n=(k:Int) from firstJ_at _ k HF.out (by rw [HKY.out]; simp) n hlt]
      rfl
     ·have hqm1:((q:Int) == (m:Int))=false:=by simp; omega
      have hqm2:¬ (q:Int)=(m:Int):=by omega
      go_wp2
      go_roundw
      case rel =>
       refine ⟨k + 1,by omega,by go_num,?_,HB.out.alloc (by omega) _⟩
       intro j hj
       rcases Nat.lt_or_ge j k with h | h
       ·exact HF.out j h
       ·obtain rfl:j=k:=by omega
        rw [HKY.out]; simp [hqm]
      case measure => simp [intOf]; omega
    ·have hav1:(a == v)=false:=by simpa using hav
     go_wp2
     go_roundw
     case rel =>
      refine ⟨k + 1,by omega,by go_num,?_,HB.out.alloc (by omega) _⟩
      intro j hj
      rcases Nat.lt_or_ge j k with h | h
      ·exact HF.out j h
      ·obtain rfl:j=k:=by omega
       rw [HKY.out]; simp [hav]
     case measure => simp [intOf]; omega
  ·have:k=n:=by omega
   subst this
   go_wp2
   go_ret
   refine ⟨?_,hBw⟩
   rw [show findF f v m k=-1 from firstJ_none _ k HF.out]
   rfl
set_option maxHeartbeats 3200000 in
theorem ref10_Find {f:Nat→Pl} {n:Nat} {y:Value} {w:World} {B:Nat} (hv:PlRow w B y n f) (hB:B≤w.heap.size) (v:Int) (m:Nat) :
  Calls Tryz.prog 67 #[y,.agg #[.int .i64 v,.int .u64 (m:Int)]] w (Says (.int .i64 (findF f v m n)) w):=by
 obtain ⟨A,cap,rfl,h1,h2,h3⟩:=hv
 have HC:=Lib.hid h3
 have HCAP:=Lib.hid h1
 unfold maxLen at h2
 clear h3
 obtain ⟨w0,hw0⟩:∃ w0,w0=w.alloc (.cells #[.int .i64 v,.int .u64 (m:Int)] 51):=⟨_,rfl⟩
 have r0:w0.cell? ⟨w.heap.size,0,none⟩=some (.int .i64 v):=by rw [hw0]; simp [go_sem]
 have r1:w0.cell? ⟨w.heap.size,1,none⟩=some (.int .u64 (m:Int)):=by rw [hw0]; simp [go_sem]
 have hz0:w0.heap.size=w.heap.size + 1:=by rw [hw0]; simp
 have HB0:Hid (Below w.heap.size w w0):=by rw [hw0]; exact (Below.refl _ _).alloc (Nat.le_refl _) _
 go_enter Tryz.func67,Tryz.ntmps67
 go_wp2
 rw [← hw0]
 clear hw0
 go_loopw [5] (fun i wr => ∃ k:Nat,k≤n∧i=.int .i64 k∧Hid (∀ j,j < k→keyF f v m j=false)∧Hid (Below (w.heap.size + 1) w0 wr)) (fun i _ => n - (intOf i).toNat)
 case atStart => exact ⟨0,by omega,rfl,fun j hj => by omega,Below.refl _ _⟩
 case round =>
  obtain ⟨k,hk,rfl,HF,HB⟩:=hrel
  have hzw:w.heap.size + 1≤wr.heap.size:=by have:=HB.out.size; omega
  have hBw:Below w.heap.size w wr:=HB0.out.trans (HB.out.mono (by omega))
  have s0:=((bcell HB.out).1 w.heap.size 0 (by omega)).trans r0
  have s1:=((bcell HB.out).1 w.heap.size 1 (by omega)).trans r1
  clear r0 r1 HB0
  by_cases hlt:k < n
  ·obtain ⟨b,off,rfl,hb,hc⟩:=HC.out (by omega)
   have g0:(0:Int)≤(k:Int):=Int.natCast_nonneg _
   have g1:(k:Int) < (n:Int):=by omega
   have hcx:=(hc k hlt).keep (w':=wr) fun p hp => hBw.cell (by rw [hp]; omega)
   have hky:=keyF_at f v m k
   obtain ⟨x,hx⟩:∃ x,x=f k:=⟨_,rfl⟩
   rw [← hx] at hcx hky
   clear hx
   obtain ⟨u,⟨a,q,p,st,s⟩⟩:=x
   obtain ⟨c0',c1',c2',c3',c4',c5'⟩:=hcx
   have c0:wr.cell? ⟨b,off + k * 6,none⟩=some (.bool u):=c0'
   have c1:wr.cell? ⟨b,off + k * 6 + 1,none⟩=some (.int .i64 a):=c1'
   have c2:wr.cell? ⟨b,off + k * 6 + 2,none⟩=some (.int .u64 (q:Int)):=c2'
   have c3:wr.cell? ⟨b,off + k * 6 + 3,none⟩=some (.int .i64 p):=c3'
   have c4:wr.cell? ⟨b,off + k * 6 + 4,none⟩=some (.bool st):=c4'
   have c5:wr.cell? ⟨b,off + k * 6 + 5,none⟩=some (.int .u32 (s:Int)):=c5'
   clear c0' c1' c2' c3' c4' c5'
   have HKY:=Lib.hid hky
   have hbr:b < wr.heap.size:=by omega
   clear hky hc HC
   cases u
   ·go_wp2_with fail
    refine wp_region_held_drew (S:=fun w' => w'.cell? ⟨b,off + k * 6,none⟩=some (.bool false)∧w'.cell? ⟨b,off + k * 6 + 1,none⟩=some (.int .i64 a)∧w'.cell? ⟨b,off + k * 6 + 2,none⟩=some (.int .u64 (q:Int))∧w'.cell? ⟨w.heap.size,0,none⟩=some (.int .i64 v)∧w'.cell? ⟨w.heap.size,1,none⟩=some (.int .u64 (m:Int))) (by kernel_rfl) ?_ (fun hHeld => ?_)
    ·exact ⟨c0,c1,c2,s0,s1⟩
    refine tkR 0 rfl ?_
    refine tkR 1 rfl ?_
    refine tkR 2 rfl ?_
    refine tkR 3 rfl ?_
    refine tkR 4 rfl ?_
    refine tkR 5 rfl ?_
    refine skR 6 rfl ?_
    refine skR 7 rfl ?_
    refine skR 8 rfl ?_
    refine skR 9 rfl ?_
    refine skR 10 rfl ?_
    refine skR 11 rfl ?_
    refine skR 12 rfl ?_
    refine skR 13 rfl ?_
    refine tkR 14 rfl ?_
    refine wpAnyH_done (by kernel_rfl) ?_ _
    go_wp2
    go_roundw
    case rel =>
     refine ⟨k + 1,by omega,by go_num,?_,below_drewN HB.out _⟩
     intro j hj
     rcases Nat.lt_or_ge j k with h | h
     ·exact HF.out j h
     ·obtain rfl:j=k:=by omega
      rw [HKY.out]; simp
    case measure => simp [intOf]; omega
   ·by_cases hav:a=v
    ·subst hav
     by_cases hqm:q=m
     ·subst hqm
      go_wp2_with fail
      refine wp_region_held_drew (S:=fun w' => w'.cell? ⟨b,off + k * 6,none⟩=some (.bool true)∧w'.cell? ⟨b,off + k * 6 + 1,none⟩=some (.int .i64 a)∧w'.cell? ⟨b,off + k * 6 + 2,none⟩=some (.int .u64 (q:Int))∧w'.cell? ⟨w.heap.size,0,none⟩=some (.int .i64 a)∧w'.cell? ⟨w.heap.size,1,none⟩=some (.int .u64 (q:Int))) (by kernel_rfl) ?_ (fun hHeld => ?_)
      ·exact ⟨c0,c1,c2,s0,s1⟩
      refine tkR 0 rfl ?_
      refine tkR 1 rfl ?_
      refine tkR 2 rfl ?_
      refine tkR 3 rfl ?_
      refine tkR 4 rfl ?_
      refine tkR 5 rfl ?_
      refine tkR 6 rfl ?_
      refine tkR 7 rfl ?_
      refine tkR 8 rfl ?_
      refine tkR 9 rfl ?_
      refine tkR 10 rfl ?_
      refine tkR 11 rfl ?_
      refine tkR 12 rfl ?_
      refine tkR 13 rfl ?_
      refine tkR 14 rfl ?_
      refine wpAnyH_done (by kernel_rfl) ?_ _
      go_wp2
      go_ret
      refine ⟨?_,below_drewN hBw _⟩
      rw [show findF f a q n=(k:Int) from firstJ_at _ k HF.out (by rw [HKY.out]; simp) n hlt]
      rfl
     ·have hqm1:((q:Int) == (m:Int))=false:=by simp; omega
      have hqm2:¬ (q:Int)=(m:Int):=by omega
      go_wp2_with fail
      refine wp_region_held_drew (S:=fun w' => w'.cell? ⟨b,off + k * 6,none⟩=some (.bool true)∧w'.cell? ⟨b,off + k * 6 + 1,none⟩=some (.int .i64 a)∧w'.cell? ⟨b,off + k * 6 + 2,none⟩=some (.int .u64 (q:Int))∧w'.cell? ⟨w.heap.size,0,none⟩=some (.int .i64 a)∧w'.cell? ⟨w.heap.size,1,none⟩=some (.int .u64 (m:Int))) (by kernel_rfl) ?_ (fun hHeld => ?_)
      ·exact ⟨c0,c1,c2,s0,s1⟩
      refine tkR 0 rfl ?_
      refine tkR 1 rfl ?_
      refine tkR 2 rfl ?_
      refine tkR 3 rfl ?_
      refine tkR 4 rfl ?_
      refine tkR 5 rfl ?_
      refine tkR 6 rfl ?_
      refine tkR 7 rfl ?_
      refine tkR 8 rfl ?_
      refine tkR 9 rfl ?_
      refine tkR 10 rfl ?_
      refine tkR 11 rfl ?_
      refine tkR 12 rfl ?_
      refine tkR 13 rfl ?_
      refine tkR 14 rfl ?_
      refine wpAnyH_done (by kernel_rfl) ?_ _
      go_wp2
      go_roundw
      case rel =>
       refine ⟨k + 1,by omega,by go_num,?_,below_drewN HB.out _⟩
       intro j hj
       rcases Nat.lt_or_ge j k with h | h
       ·exact HF.out j h
       ·obtain rfl:j=k:=by omega
        rw [HKY.out]; simp [hqm]
      case measure => simp [intOf]; omega
    ·have hav1:(a == v)=false:=by simpa using hav
     go_wp2_with fail
     refine wp_region_held_drew (S:=fun w' => w'.cell? ⟨b,off + k * 6,none⟩=some (.bool true)∧w'.cell? ⟨b,off + k * 6 + 1,none⟩=some (.int .i64 a)∧w'.cell? ⟨b,off + k * 6 + 2,none⟩=some (.int .u64 (q:Int))∧w'.cell? ⟨w.heap.size,0,none⟩=some (.int .i64 v)∧w'.cell? ⟨w.heap.size,1,none⟩=some (.int .u64 (m:Int))) (by kernel_rfl) ?_ (fun hHeld => ?_)
     ·exact ⟨c0,c1,c2,s0,s1⟩
     refine tkR 0 rfl ?_
     refine tkR 1 rfl ?_
     refine tkR 2 rfl ?_
     refine tkR 3 rfl ?_
     refine tkR 4 rfl ?_
     refine tkR 5 rfl ?_
     refine tkR 6 rfl ?_
     refine tkR 7 rfl ?_
     refine tkR 8 rfl ?_
     refine tkR 9 rfl ?_
     refine tkR 10 rfl ?_
     refine tkR 11 rfl ?_
     refine tkR 12 rfl ?_
     refine tkR 13 rfl ?_
     refine tkR 14 rfl ?_
     refine wpAnyH_done (by kernel_rfl) ?_ _
     go_wp2
     go_roundw
     case rel =>
      refine ⟨k + 1,by omega,by go_num,?_,below_drewN HB.out _⟩
      intro j hj
      rcases Nat.lt_or_ge j k with h | h
      ·exact HF.out j h
      ·obtain rfl:j=k:=by omega
       rw [HKY.out]; simp [hav]
     case measure => simp [intOf]; omega
  ·have:k=n:=by omega
   subst this
   go_wp2
   go_ret
   refine ⟨?_,hBw⟩
   rw [show findF f v m k=-1 from firstJ_none _ k HF.out]
   rfl
end Go.Proofs.YthloabdfkakehaaGreat
