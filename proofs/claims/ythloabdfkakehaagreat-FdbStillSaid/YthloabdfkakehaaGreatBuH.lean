/-
  Words and contracts that a statement's proof rests on (BuH). No statement is proved here.
-/
import Derived.Test.YthloabdfkakehaaGreatBuB
import Derived.Test.YthloabdfkakehaaGreatBuC
set_option linter.unusedVariables false
set_option linter.unusedSimpArgs false
namespace Go.Proofs.YthloabdfkakehaaGreat
open Go.RowKit
set_option maxHeartbeats 1600000 in
theorem bucket_Learn {f:Nat→Pl} {n:Nat} {y:Value} {w:World} {B:Nat} (hn:n≤1000000) (hv:PlRow w B y n f) (hB:B≤w.heap.size) (hst:∀ i,i < n→(f i).e.stamp < 4294967296) (v:Int) (m:Nat) (hm:m < 18446744073709551616) (port:Int) (now:Nat) (hnow:now < 4294967296) :
  Calls Tryz.prog 92 #[y,.agg #[.int .i64 v,.int .u64 (m:Int)],.int .i64 port,.int .u32 (now:Int)] w (Gives 148 n (putF (fun i => ownP (f i)) ⟨v,m,port,false,now⟩ now n).1 (fun u => .tuple #[u,.int .i64 ((putF (fun i => ownP (f i)) ⟨v,m,port,false,now⟩ now n).2:Nat)]) w):=by
 have HP:=Lib.hid fun W (h:PlRow W B y n f) (hb:B≤W.heap.size) => bucket_put hn h hb hst v m hm port false now (by omega) now hnow
 have HV:=Lib.hid hv
 clear hv hst hm hnow hn
 generalize putF (fun i => ownP (f i)) ⟨v,m,port,false,now⟩ now n=r at *
 go_enter Tryz.func92,Tryz.ntmps92
 go_wp2_with fail
 refine (HP.out _ (HV.out.below (by (repeat' (first | (with_reducible exact Below.refl _ _) | (with_reducible assumption) | (with_reducible refine Below.setCell ?_ ?_ _) | (with_reducible refine Below.alloc ?_ ?_ _) | (with_reducible refine below_drewN ?_ _) | (with_reducible refine Below.drew ?_) | go_size)))) (by go_size)).mono ?_
 rintro e w1 ⟨v1,rfl,hrow,hb⟩
 have HR:=Lib.hid (hrow.base (show w.heap.size≤(w.alloc (.cells #[.int .i64 v,.int .u64 (m:Int)] 57)).heap.size by simp))
 have HB:=Lib.hid (show Below w.heap.size w w1 from Below.trans (by (repeat' (first | (with_reducible exact Below.refl _ _) | (with_reducible assumption) | (with_reducible refine Below.setCell ?_ ?_ _) | (with_reducible refine Below.alloc ?_ ?_ _) | (with_reducible refine below_drewN ?_ _) | (with_reducible refine Below.drew ?_) | go_size))) (hb.mono (by go_size)))
 clear hrow hb
 go_wp2
 go_ret2
 exact ⟨v1,rfl,HR.out,HB.out⟩
set_option maxHeartbeats 1600000 in
theorem bucket_Order {f:Nat→Pl} {n:Nat} {y:Value} {w:World} {B:Nat} (hn:n≤1000000) (hv:PlRow w B y n f) (hB:B≤w.heap.size) (hst:∀ i,i < n→(f i).e.stamp < 4294967296) (v:Int) (m:Nat) (hm:m < 18446744073709551616) (port:Int) (now:Nat) (hnow:now < 4294967296) :
  Calls Tryz.prog 111 #[y,.agg #[.int .i64 v,.int .u64 (m:Int)],.int .i64 port,.int .u32 (now:Int)] w (Gives 148 n (putF (fun i => ownP (f i)) ⟨v,m,port,true,0⟩ now n).1 (fun u => .tuple #[u,.int .i64 ((putF (fun i => ownP (f i)) ⟨v,m,port,true,0⟩ now n).2:Nat)]) w):=by
 have HP:=Lib.hid fun W (h:PlRow W B y n f) (hb:B≤W.heap.size) => bucket_put hn h hb hst v m hm port true 0 (by omega) now hnow
 have HV:=Lib.hid hv
 clear hv hst hm hnow hn
 generalize putF (fun i => ownP (f i)) ⟨v,m,port,true,0⟩ now n=r at *
 go_enter Tryz.func111,Tryz.ntmps111
 go_wp2_with fail
 refine (HP.out _ (HV.out.below (by (repeat' (first | (with_reducible exact Below.refl _ _) | (with_reducible assumption) | (with_reducible refine Below.setCell ?_ ?_ _) | (with_reducible refine Below.alloc ?_ ?_ _) | (with_reducible refine below_drewN ?_ _) | (with_reducible refine Below.drew ?_) | go_size)))) (by go_size)).mono ?_
 rintro e w1 ⟨v1,rfl,hrow,hb⟩
 have HR:=Lib.hid (hrow.base (show w.heap.size≤(w.alloc (.cells #[.int .i64 v,.int .u64 (m:Int)] 57)).heap.size by simp))
 have HB:=Lib.hid (show Below w.heap.size w w1 from Below.trans (by (repeat' (first | (with_reducible exact Below.refl _ _) | (with_reducible assumption) | (with_reducible refine Below.setCell ?_ ?_ _) | (with_reducible refine Below.alloc ?_ ?_ _) | (with_reducible refine below_drewN ?_ _) | (with_reducible refine Below.drew ?_) | go_size))) (hb.mono (by go_size)))
 clear hrow hb
 go_wp2
 go_ret2
 exact ⟨v1,rfl,HR.out,HB.out⟩
theorem dropF_none {f:Nat→Pl} {v:Int} {m n:Nat} (h:findF f v m n < 0):dropF f v m n=(f,false):=by unfold dropF; rw [if_pos h]
theorem dropF_gone {f:Nat→Pl} {v:Int} {m n j:Nat} (h:findF f v m n=(j:Int)) (hs:(f j).e.st=true):dropF f v m n=(updP f j pl0,true):=by
 unfold dropF; rw [h,if_neg (by omega),Int.toNat_natCast,if_pos hs]
theorem dropF_stays {f:Nat→Pl} {v:Int} {m n j:Nat} (h:findF f v m n=(j:Int)) (hs:(f j).e.st=false):dropF f v m n=(f,false):=by
 unfold dropF; rw [h,if_neg (by omega),Int.toNat_natCast,if_neg (by simp [hs])]
set_option maxHeartbeats 3200000 in
theorem bucket_Drop {f:Nat→Pl} {n:Nat} {y:Value} {w:World} {B:Nat} (hn:n≤1000000) (hv:PlRow w B y n f) (hB:B≤w.heap.size) (v:Int) (m:Nat) :
  Calls Tryz.prog 113 #[y,.agg #[.int .i64 v,.int .u64 (m:Int)]] w (Gives 148 n (dropF (fun i => ownP (f i)) v m n).1 (fun u => .tuple #[u,.bool (dropF (fun i => ownP (f i)) v m n).2]) w):=by
 have HV:=Lib.hid hv
 have HO:=Lib.hid fun W (h:PlRow W B y n f) (hb:B≤W.heap.size) => bucket_own hn h hb
 have HFI:=Lib.hid fun W A c (h:PlRow W W.heap.size (.slice A n c) n (fun i => ownP (f i))) => bucket_Find h (Nat.le_refl _) v m
 have HD0:=Lib.hid (@dropF_none (fun i => ownP (f i)) v m n)
 have HD1:=Lib.hid fun (j:Nat) => @dropF_gone (fun i => ownP (f i)) v m n j
 have HD2:=Lib.hid fun (j:Nat) => @dropF_stays (fun i => ownP (f i)) v m n j
 have hbd:=firstJ_bd (keyF (fun i => ownP (f i)) v m) n
 change -1≤findF (fun i => ownP (f i)) v m n∧findF (fun i => ownP (f i)) v m n < n at hbd
 have HN:=Lib.hid hn
 clear hv hn
 go_enter Tryz.func113,Tryz.ntmps113
 go_wp2_with fail
 refine (HO.out _ (HV.out.below (by (repeat' (first | (with_reducible exact Below.refl _ _) | (with_reducible assumption) | (with_reducible refine Below.setCell ?_ ?_ _) | (with_reducible refine Below.alloc ?_ ?_ _) | (with_reducible refine below_drewN ?_ _) | (with_reducible refine Below.drew ?_) | go_size)))) (by go_size)).mono ?_
 rintro e w1 ⟨v1,he,hrow,hb⟩
 simp only [id] at he
 subst he
 have HROW:=Lib.hid hrow
 obtain ⟨A1,c1,rfl,hc1,hm1,_⟩:=hrow
 unfold maxLen at hm1
 obtain ⟨hcc,_⟩:=bcell hb
 have e0:w1.cell? ⟨w.heap.size,0,none⟩=some (.int .i64 v):=by rw [hcc _ _ (by simp)]; simp [go_sem]
 have e1:w1.cell? ⟨w.heap.size,1,none⟩=some (.int .u64 (m:Int)):=by rw [hcc _ _ (by simp)]; simp [go_sem]
 have HB1:Hid (Below w.heap.size w w1):=Below.trans (by (repeat' (first | (with_reducible exact Below.refl _ _) | (with_reducible assumption) | (with_reducible refine Below.setCell ?_ ?_ _) | (with_reducible refine Below.alloc ?_ ?_ _) | (with_reducible refine below_drewN ?_ _) | (with_reducible refine Below.drew ?_) | go_size))) (hb.mono (by go_size))
 have hz1:w.heap.size + 1≤w1.heap.size:=by have:=hb.size; simp at this; omega
 replace HROW:=Lib.hid (HROW.out.base (show w.heap.size≤(w.alloc (.cells #[.int .i64 v,.int .u64 (m:Int)] 57)).heap.size by simp))
 clear hcc hb HV HO
 go_wp2_with fail
 refine (HFI.out _ _ _ HROW.out.row).mono ?_
 rintro e w2 ⟨rfl,hb⟩
 have HB2:=Lib.hid (HB1.out.trans (hb.mono (by omega)))
 have HROW2:=Lib.hid (HROW.out.below hb)
 clear hb e0 e1 HROW HFI
 obtain ⟨q,hq⟩:∃ q,q=findF (fun i => ownP (f i)) v m n:=⟨_,rfl⟩
 rw [← hq] at hbd ⊢
 have HQ:Hid (findF (fun i => ownP (f i)) v m n=q):=hq.symm
 clear hq
 by_cases hneg:q < 0
 ·have HP:=Lib.hid (HD0.out (by rw [HQ.out]; exact hneg))
  clear HD0 HD1 HD2 hbd
  go_wp2
  go_ret2
  refine ⟨.slice A1 n c1,?_,?_,HB2.out⟩
  ·rw [HP.out]; rfl
  ·rw [HP.out]; exact HROW2.out
 ·obtain ⟨j,rfl⟩:=Int.eq_ofNat_of_zero_le (show 0≤q by omega)
  have hj:j < n:=by omega
  have j0:(0:Int)≤(j:Int):=Int.natCast_nonneg _
  have j1:(j:Int) < (n:Int):=by omega
  have jd:decide ((j:Int) < 0)=false:=decide_eq_false hneg
  obtain ⟨gb,cap2,hv2,k1,k2,k3,k4,k5,k6,k7⟩:=HROW2.out.open_ (by omega)
  injection hv2 with q1 q2 q3
  subst q1 q3
  obtain ⟨d0',d1',d2',d3',d4',d5'⟩:=k5 j hj
  obtain ⟨x,hx⟩:∃ x,x=ownP (f j):=⟨_,rfl⟩
  have HX:Hid (ownP (f j)=x):=hx.symm
  rw [← hx] at d0' d1' d2' d3' d4' d5'
  clear hx
  obtain ⟨u,⟨a,b,c,t,z⟩⟩:=x
  have d0:w2.cell? ⟨gb,j * 6,none⟩=some (.bool u):=d0'
  have d1:w2.cell? ⟨gb,j * 6 + 1,none⟩=some (.int .i64 a):=d1'
  have d2:w2.cell? ⟨gb,j * 6 + 2,none⟩=some (.int .u64 (b:Int)):=d2'
  have d3:w2.cell? ⟨gb,j * 6 + 3,none⟩=some (.int .i64 c):=d3'
  have d4:w2.cell? ⟨gb,j * 6 + 4,none⟩=some (.bool t):=d4'
  have d5:w2.cell? ⟨gb,j * 6 + 5,none⟩=some (.int .u32 (z:Int)):=d5'
  have HK7:=Lib.hid (k7 j false 0 0 0 false 0)
  clear k5 k7 d0' d1' d2' d3' d4' d5' hbd hneg HD0
  cases t
  ·have HP:=Lib.hid (HD2.out j HQ.out (by rw [HX.out]))
   clear HD1 HD2
   go_wp2
   go_ret2
   refine ⟨.slice (some ⟨gb,0,none⟩) n c1,?_,?_,HB2.out⟩
   ·rw [HP.out]; rfl
   ·rw [HP.out]; exact HROW2.out
  ·have HP:=Lib.hid (HD1.out j HQ.out (by rw [HX.out]))
   clear HD1 HD2
   go_wp2
   go_ret2
   refine ⟨.slice (some ⟨gb,0,none⟩) n c1,?_,?_,setP_below HB2.out k3 (j * 6) false 0 0 0 false 0⟩
   ·rw [HP.out]; rfl
   ·rw [HP.out]
    exact HK7.out
set_option maxHeartbeats 3200000 in
theorem ref10_Drop {f:Nat→Pl} {n:Nat} {y:Value} {w:World} {B:Nat} (hn:n≤1000000) (hv:PlRow w B y n f) (hB:B≤w.heap.size) (v:Int) (m:Nat) :
  Calls Tryz.prog 119 #[y,.agg #[.int .i64 v,.int .u64 (m:Int)]] w (Gives 123 n (dropF (fun i => ownP (f i)) v m n).1 (fun u => .tuple #[u,.bool (dropF (fun i => ownP (f i)) v m n).2]) w):=by
 have HV:=Lib.hid hv
 have HO:=Lib.hid fun W (h:PlRow W B y n f) (hb:B≤W.heap.size) => ref10_Copy hn h hb
 have HFI:=Lib.hid fun W A c (h:PlRow W W.heap.size (.slice A n c) n (fun i => ownP (f i))) => ref10_Find h (Nat.le_refl _) v m
 have HD0:=Lib.hid (@dropF_none (fun i => ownP (f i)) v m n)
 have HD1:=Lib.hid fun (j:Nat) => @dropF_gone (fun i => ownP (f i)) v m n j
 have HD2:=Lib.hid fun (j:Nat) => @dropF_stays (fun i => ownP (f i)) v m n j
 have hbd:=firstJ_bd (keyF (fun i => ownP (f i)) v m) n
 change -1≤findF (fun i => ownP (f i)) v m n∧findF (fun i => ownP (f i)) v m n < n at hbd
 have HN:=Lib.hid hn
 clear hv hn
 go_enter Tryz.func119,Tryz.ntmps119
 go_wp2_with fail
 refine (HO.out _ (HV.out.below (by (repeat' (first | (with_reducible exact Below.refl _ _) | (with_reducible assumption) | (with_reducible refine Below.setCell ?_ ?_ _) | (with_reducible refine Below.alloc ?_ ?_ _) | (with_reducible refine below_drewN ?_ _) | (with_reducible refine Below.drew ?_) | go_size)))) (by go_size)).mono ?_
 rintro e w1 ⟨v1,he,hrow,hb⟩
 simp only [id] at he
 subst he
 have HROW:=Lib.hid hrow
 obtain ⟨A1,c1,rfl,hc1,hm1,_⟩:=hrow
 unfold maxLen at hm1
 obtain ⟨hcc,_⟩:=bcell hb
 have e0:w1.cell? ⟨w.heap.size,0,none⟩=some (.int .i64 v):=by rw [hcc _ _ (by simp)]; simp [go_sem]
 have e1:w1.cell? ⟨w.heap.size,1,none⟩=some (.int .u64 (m:Int)):=by rw [hcc _ _ (by simp)]; simp [go_sem]
 have HB1:Hid (Below w.heap.size w w1):=Below.trans (by (repeat' (first | (with_reducible exact Below.refl _ _) | (with_reducible assumption) | (with_reducible refine Below.setCell ?_ ?_ _) | (with_reducible refine Below.alloc ?_ ?_ _) | (with_reducible refine below_drewN ?_ _) | (with_reducible refine Below.drew ?_) | go_size))) (hb.mono (by go_size))
 have hz1:w.heap.size + 1≤w1.heap.size:=by have:=hb.size; simp at this; omega
 replace HROW:=Lib.hid (HROW.out.base (show w.heap.size≤(w.alloc (.cells #[.int .i64 v,.int .u64 (m:Int)] 51)).heap.size by simp))
 clear hcc hb HV HO
 go_wp2_with fail
 refine (HFI.out _ _ _ HROW.out.row).mono ?_
 rintro e w2 ⟨rfl,hb⟩
 have HB2:=Lib.hid (HB1.out.trans (hb.mono (by omega)))
 have HROW2:=Lib.hid (HROW.out.below hb)
 clear hb e0 e1 HROW HFI
 obtain ⟨q,hq⟩:∃ q,q=findF (fun i => ownP (f i)) v m n:=⟨_,rfl⟩
 rw [← hq] at hbd ⊢
 have HQ:Hid (findF (fun i => ownP (f i)) v m n=q):=hq.symm
 clear hq
 by_cases hneg:q < 0
 ·have HP:=Lib.hid (HD0.out (by rw [HQ.out]; exact hneg))
  clear HD0 HD1 HD2 hbd
  go_wp2
  go_ret2
  refine ⟨.slice A1 n c1,?_,?_,HB2.out⟩
  ·rw [HP.out]; rfl
  ·rw [HP.out]; exact HROW2.out
 ·obtain ⟨j,rfl⟩:=Int.eq_ofNat_of_zero_le (show 0≤q by omega)
  have hj:j < n:=by omega
  have j0:(0:Int)≤(j:Int):=Int.natCast_nonneg _
  have j1:(j:Int) < (n:Int):=by omega
  have jd:decide ((j:Int) < 0)=false:=decide_eq_false hneg
  obtain ⟨gb,cap2,hv2,k1,k2,k3,k4,k5,k6,k7⟩:=HROW2.out.open_ (by omega)
  injection hv2 with q1 q2 q3
  subst q1 q3
  obtain ⟨d0',d1',d2',d3',d4',d5'⟩:=k5 j hj
  obtain ⟨x,hx⟩:∃ x,x=ownP (f j):=⟨_,rfl⟩
  have HX:Hid (ownP (f j)=x):=hx.symm
  rw [← hx] at d0' d1' d2' d3' d4' d5'
  clear hx
  obtain ⟨u,⟨a,b,c,t,z⟩⟩:=x
  have d0:w2.cell? ⟨gb,j * 6,none⟩=some (.bool u):=d0'
  have d1:w2.cell? ⟨gb,j * 6 + 1,none⟩=some (.int .i64 a):=d1'
  have d2:w2.cell? ⟨gb,j * 6 + 2,none⟩=some (.int .u64 (b:Int)):=d2'
  have d3:w2.cell? ⟨gb,j * 6 + 3,none⟩=some (.int .i64 c):=d3'
  have d4:w2.cell? ⟨gb,j * 6 + 4,none⟩=some (.bool t):=d4'
  have d5:w2.cell? ⟨gb,j * 6 + 5,none⟩=some (.int .u32 (z:Int)):=d5'
  have HK7:=Lib.hid (k7 j false 0 0 0 false 0)
  clear k5 k7 d0' d1' d2' d3' d4' d5' hbd hneg HD0
  cases t
  ·have HP:=Lib.hid (HD2.out j HQ.out (by rw [HX.out]))
   clear HD1 HD2
   go_wp2
   go_ret2
   refine ⟨.slice (some ⟨gb,0,none⟩) n c1,?_,?_,HB2.out⟩
   ·rw [HP.out]; rfl
   ·rw [HP.out]; exact HROW2.out
  ·have HP:=Lib.hid (HD1.out j HQ.out (by rw [HX.out]))
   clear HD1 HD2
   go_wp2
   go_ret2
   refine ⟨.slice (some ⟨gb,0,none⟩) n c1,?_,?_,setP_below HB2.out k3 (j * 6) false 0 0 0 false 0⟩
   ·rw [HP.out]; rfl
   ·rw [HP.out]
    exact HK7.out
end Go.Proofs.YthloabdfkakehaaGreat
