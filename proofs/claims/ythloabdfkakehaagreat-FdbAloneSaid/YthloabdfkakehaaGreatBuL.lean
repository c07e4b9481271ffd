/-
  Words and contracts that a statement's proof rests on (BuL). No statement is proved here.
-/
import Derived.Test.YthloabdfkakehaaGreatBuJ
set_option linter.unusedVariables false
set_option linter.unusedSimpArgs false
namespace Go.Proofs.YthloabdfkakehaaGreat
open Go.RowKit
set_option maxHeartbeats 6400000 in
theorem ref10_Order {f:Nat→Pl} {n:Nat} {y:Value} {w:World} {B:Nat} (hn:n≤1000000) (hv:PlRow w B y n f) (hB:B≤w.heap.size) (hst:∀ i,i < n→(f i).e.stamp < 4294967296) (v:Int) (m:Nat) (hm:m < 18446744073709551616) (port:Int) (now:Nat) (hnow:now < 4294967296) :
  Calls Tryz.prog 118 #[y,.agg #[.int .i64 v,.int .u64 (m:Int)],.int .i64 port,.int .u32 (now:Int)] w (Gives 123 n (putF (fun i => ownP (f i)) ⟨v,m,port,true,0⟩ now n).1 (fun u => .tuple #[u,.int .i64 ((putF (fun i => ownP (f i)) ⟨v,m,port,true,0⟩ now n).2:Nat)]) w):=by
 have HV:=Lib.hid hv
 have HO:=Lib.hid fun W (h:PlRow W B y n f) (hb:B≤W.heap.size) => ref10_Copy hn h hb
 have HST:=Lib.hid (own_stamp hst)
 have hR:=fun W => ref8_Right v m hm W
 have HFI:=Lib.hid fun W A c (h:PlRow W W.heap.size (.slice A n c) n (fun i => ownP (f i))) => ref10_Find h (Nat.le_refl _) v m
 have HPU:=Lib.hid fun W A c (h:RowOf W 123 w.heap.size (.slice A n c) n (fun i => ownP (f i))) (hb:w.heap.size≤W.heap.size) => ref10_put h hb HST.out v m port true 0 now hnow
 have HRE:=Lib.hid (rightE_at v m port true 0)
 generalize hR0:rightK v m=R at *
 have HR:=Lib.hid hR
 have HPR:=Lib.hid (@putF_ref (fun i => ownP (f i)) ⟨v,m,port,true,0⟩ now n)
 have HPW:=Lib.hid (@putF_newF (fun i => ownP (f i)) ⟨v,m,port,true,0⟩ now n)
 have HPK:=Lib.hid fun (j:Nat) => @putF_kept (fun i => ownP (f i)) ⟨v,m,port,true,0⟩ now n j
 have HPS:=Lib.hid fun (j:Nat) => @putF_set (fun i => ownP (f i)) ⟨v,m,port,true,0⟩ now n j
 have HKEY:=Lib.hid fun (j:Nat) => @findF_key (fun i => ownP (f i)) v m n j
 have HUSE:=Lib.hid fun (j:Nat) => @findF_used (fun i => ownP (f i)) v m n j
 have hbd:=firstJ_bd (keyF (fun i => ownP (f i)) v m) n
 change -1≤findF (fun i => ownP (f i)) v m n∧findF (fun i => ownP (f i)) v m n < n at hbd
 have HN:=Lib.hid hn
 clear hR hv hst hm hnow hR0 hn
 go_enter Tryz.func118,Tryz.ntmps118
 go_wp2_with fail
 refine (HO.out _ (HV.out.below (by (repeat' (first | (with_reducible exact Below.refl _ _) | (with_reducible assumption) | (with_reducible refine Below.setCell ?_ ?_ _) | (with_reducible refine Below.alloc ?_ ?_ _) | (with_reducible refine below_drewN ?_ _) | (with_reducible refine Below.drew ?_) | go_size)))) (by go_size)).mono ?_
 rintro e w1 ⟨v1,he,hrow,hb⟩
 simp only [id] at he
 subst he
 have HROW:=Lib.hid hrow
 obtain ⟨A1,c1,rfl,hc1,hm1,_⟩:=hrow
 unfold maxLen at hm1
 obtain ⟨hcc,_⟩:=bcell hb
 have e0:w1.cell? ⟨w.heap.size,0,none⟩=some (.int .i64 v):=by rw [hcc _ _ (by simp)]; simp [go_sem]
 have e1:w1.cell? ⟨w.heap.size,1,none⟩=some (.int .u64 (m:Int)):=by rw [hcc _ _ (by simp)]; simp [go_sem]
 have HB1:Hid (Below w.heap.size w w1):=Below.trans (by (repeat' (first | (with_reducible exact Below.refl _ _) | (with_reducible assumption) | (with_reducible refine Below.setCell ?_ ?_ _) | (with_reducible refine Below.alloc ?_ ?_ _) | (with_reducible refine below_drewN ?_ _) | (with_reducible refine Below.drew ?_) | go_size))) (hb.mono (by go_size))
 have hz1:w.heap.size + 1≤w1.heap.size:=by have:=hb.size; simp at this; omega
 replace HROW:=Lib.hid (HROW.out.base (show w.heap.size≤(w.alloc (.cells #[.int .i64 v,.int .u64 (m:Int)] 51)).heap.size by simp))
 clear hcc hb HV HO
 rcases (show port < 0 ∨ (0≤port∧63 < port) ∨ (0≤port∧port≤63) by omega) with h | ⟨h,h'⟩ | ⟨h,h'⟩
 ·have HP:=Lib.hid (HPR.out (by rw [HRE.out]; simp; omega))
  clear HPW HPK HPS HFI HPU hbd
  go_wp2
  go_ret2
  refine ⟨.slice A1 n c1,?_,?_,HB1.out⟩
  ·rw [HP.out]; rfl
  ·rw [HP.out]; exact HROW.out
 ·have HP:=Lib.hid (HPR.out (by rw [HRE.out]; simp; omega))
  clear HPW HPK HPS HFI HPU hbd
  go_wp2
  go_ret2
  refine ⟨.slice A1 n c1,?_,?_,HB1.out⟩
  ·rw [HP.out]; rfl
  ·rw [HP.out]; exact HROW.out
 ·have dd1:decide (port < 0)=false:=decide_eq_false (by omega)
  have dd2:decide (port > 63)=false:=decide_eq_false (by omega)
  go_wp2_with fail
  refine (HR.out _).mono ?_
  rintro e w2 ⟨rfl,hb⟩
  have e0:=((bcell hb).1 w.heap.size 0 (by go_size)).trans e0
  have e1:=((bcell hb).1 w.heap.size 1 (by go_size)).trans e1
  have HB2:=Lib.hid (HB1.out.trans (hb.mono HB1.out.size))
  have hz2:w.heap.size + 1≤w2.heap.size:=Nat.le_trans hz1 hb.size
  replace HROW:=Lib.hid (HROW.out.below hb)
  clear hb
  cases R
  ·have HP:=Lib.hid (HPR.out (by rw [HRE.out]; rfl))
   clear HPW HPK HPS HFI HPU hbd
   go_wp2
   go_ret2
   refine ⟨.slice A1 n c1,?_,?_,HB2.out⟩
   ·rw [HP.out]; rfl
   ·rw [HP.out]; exact HROW.out
  ·have HRT:Hid (rightE ⟨v,m,port,true,0⟩=true):=by show _=true; rw [HRE.out]; simp; omega
   clear HPR HRE HR dd1 dd2
   have a0:∀ o,(w2.alloc o).cell? ⟨w.heap.size,0,none⟩=some (.int .i64 v):=fun o => by rw [World.cell?_alloc_lt _ _ _ (by show w.heap.size < _; omega)]; exact e0
   have a1:∀ o,(w2.alloc o).cell? ⟨w.heap.size,1,none⟩=some (.int .u64 (m:Int)):=fun o => by rw [World.cell?_alloc_lt _ _ _ (by show w.heap.size < _; omega)]; exact e1
   go_wp2_with fail
   have hzA:w2.heap.size + 1≤(w2.alloc (.cells #[.int .i64 v,.int .u64 (m:Int),.int .i64 port,.bool true,.int .u32 0] 121)).heap.size:=by simp
   refine (HFI.out _ _ _ (HROW.out.below ((Below.refl _ _).alloc (Nat.le_refl _) _)).row).mono ?_
   rintro e w3 ⟨rfl,hb⟩
   obtain ⟨hcc,_⟩:=bcell hb
   have x0:w3.cell? ⟨w2.heap.size,0,none⟩=some (.int .i64 v):=by rw [hcc _ _ (by simp)]; simp [go_sem]
   have x1:w3.cell? ⟨w2.heap.size,1,none⟩=some (.int .u64 (m:Int)):=by rw [hcc _ _ (by simp)]; simp [go_sem]
   have x2:w3.cell? ⟨w2.heap.size,2,none⟩=some (.int .i64 port):=by rw [hcc _ _ (by simp)]; simp [go_sem]
   have x3:w3.cell? ⟨w2.heap.size,3,none⟩=some (.bool true):=by rw [hcc _ _ (by simp)]; simp [go_sem]
   have x4:w3.cell? ⟨w2.heap.size,4,none⟩=some (.int .u32 0):=by rw [hcc _ _ (by simp)]; simp [go_sem]
   have hbA:Below w2.heap.size w2 w3:=Below.trans ((Below.refl _ _).alloc (Nat.le_refl _) _) (hb.mono (by simp))
   have HB3:=Lib.hid (HB2.out.trans (hbA.mono (by omega)))
   have hz3:w2.heap.size + 1≤w3.heap.size:=by have:=hb.size; simp at this; omega
   replace HROW:=Lib.hid (HROW.out.below hbA)
   clear hcc hbA hzA e0 e1 a0 a1
   clear hb HFI
   obtain ⟨q,hq⟩:∃ q,q=findF (fun i => ownP (f i)) v m n:=⟨_,rfl⟩
   rw [← hq] at hbd ⊢
   have HQ:Hid (findF (fun i => ownP (f i)) v m n=q):=hq.symm
   clear hq
   by_cases hneg:q < 0
   ·have HP:=Lib.hid (HPW.out HRT.out (by show findF (fun i => ownP (f i)) v m n < 0; rw [HQ.out]; exact hneg))
    clear HPW HPK HPS HKEY HUSE hbd
    go_wp2_with fail
    refine (HPU.out _ _ _ HROW.out (by omega)).mono ?_
    rintro e w4 ⟨rfl,hrow4,hb⟩
    have HROW4:=Lib.hid hrow4
    have HB4:=Lib.hid (HB3.out.trans hb)
    clear hb hrow4
    go_wp2
    go_ret2
    refine ⟨.slice A1 n c1,?_,?_,HB4.out⟩
    ·rw [HP.out]
     rfl
    ·rw [HP.out]; exact HROW4.out
   ·obtain ⟨j,rfl⟩:=Int.eq_ofNat_of_zero_le (show 0≤q by omega)
    have hj:j < n:=by omega
    have j0:(0:Int)≤(j:Int):=Int.natCast_nonneg _
    have j1:(j:Int) < (n:Int):=by omega
    have jd:decide ((j:Int) < 0)=false:=decide_eq_false hneg
    clear HPW HPU hbd hneg
    obtain ⟨gb,cap2,hv2,k1,k2,k3,k4,k5,k6,k7⟩:=HROW.out.open_ (by omega)
    injection hv2 with q1 q2 q3
    subst q1 q3
    obtain ⟨d0',d1',d2',d3',d4',d5'⟩:=k5 j hj
    obtain ⟨hk1,hk2⟩:=HKEY.out j HQ.out
    have hu:=HUSE.out j HQ.out
    have HPK2:=Lib.hid (HPK.out j HRT.out HQ.out)
    have HPS2:=Lib.hid (HPS.out j HRT.out HQ.out)
    obtain ⟨x,hx⟩:∃ x,x=ownP (f j):=⟨_,rfl⟩
    change (ownP (f j)).used=true at hu
    rw [← hx] at d0' d1' d2' d3' d4' d5' hk1 hk2 HPK2 HPS2 hu
    have HX0:Hid ((fun i => ownP (f i)) j=x):=hx.symm
    clear hx HPK HPS HKEY HUSE
    obtain ⟨u,⟨a,b,c,t,z⟩⟩:=x
    simp only at hk1 hk2 hu
    subst hk1 hk2 hu
    have d2:w3.cell? ⟨gb,j * 6 + 1,none⟩=some (.int .i64 a):=d1'
    have d3:w3.cell? ⟨gb,j * 6 + 2,none⟩=some (.int .u64 (b:Int)):=d2'
    have d4:w3.cell? ⟨gb,j * 6 + 3,none⟩=some (.int .i64 c):=d3'
    have d5:w3.cell? ⟨gb,j * 6 + 4,none⟩=some (.bool t):=d4'
    have d6:w3.cell? ⟨gb,j * 6 + 5,none⟩=some (.int .u32 (z:Int)):=d5'
    have f0:=k6
    clear k5 k7 d0' d1' d2' d3' d4' d5'
    cases t
    ·have hr:againE ⟨a,b,c,false,z⟩ ⟨a,b,port,true,0⟩=2:=by simp [againE]
     have HP:=Lib.hid (HPS2.out (by rw [hr]; omega))
     rw [hr] at HP
     have HK:=Lib.hid (HROW.out.put5 (by omega) j true a b port true 0 (by show (ownP (f j)).used=true; rw [show ownP (f j)=_ from HX0.out]))
     clear HPK2 HPS2 HX0
     go_wp2_with fail
     refine wp_region_held_drew (S:=fun w' => w'.cell? ⟨gb,j * 6 + 1,none⟩=some (.int .i64 a)∧w'.cell? ⟨gb,j * 6 + 2,none⟩=some (.int .u64 (b:Int))∧w'.cell? ⟨gb,j * 6 + 3,none⟩=some (.int .i64 c)∧w'.cell? ⟨gb,j * 6 + 4,none⟩=some (.bool false)∧w'.cell? ⟨gb,j * 6 + 5,none⟩=some (.int .u32 (z:Int))∧w'.cell? ⟨w2.heap.size,0,none⟩=some (.int .i64 a)∧w'.cell? ⟨w2.heap.size,1,none⟩=some (.int .u64 (b:Int))∧w'.cell? ⟨w2.heap.size,2,none⟩=some (.int .i64 port)∧w'.cell? ⟨w2.heap.size,3,none⟩=some (.bool true)∧w'.cell? ⟨w2.heap.size,4,none⟩=some (.int .u32 0)) (by kernel_rfl) ?_ (fun hHeld => ?_)
     ·exact ⟨d2,d3,d4,d5,d6,x0,x1,x2,x3,x4⟩
     refine tkR 0 rfl ?_
     refine tkR 1 rfl ?_
     refine tkR 2 rfl ?_
     refine tkR 3 rfl ?_
     refine tkR 4 rfl ?_
     refine tkR 5 rfl ?_
     refine tkR 6 rfl ?_
     refine wpAnyH_done (by kernel_rfl) ?_ _
     go_wp2
     go_ret2
     refine ⟨.slice (some ⟨gb,0,none⟩) n c1,?_,?_,below_drewN (((((HB3.out.setCell k3 _).setCell k3 _).setCell k3 _).setCell k3 _).setCell k3 _) _⟩
     ·rw [HP.out]; rfl
     ·rw [HP.out]; exact HK.out
    ·by_cases hp:c=port
     ·subst hp
      by_cases hs:z=0
      ·subst hs
       have HP:=Lib.hid (HPK2.out (by simp [againE]))
       go_wp2_with fail
       refine wp_region_held_drew (S:=fun w' => w'.cell? ⟨gb,j * 6 + 1,none⟩=some (.int .i64 a)∧w'.cell? ⟨gb,j * 6 + 2,none⟩=some (.int .u64 (b:Int))∧w'.cell? ⟨gb,j * 6 + 3,none⟩=some (.int .i64 c)∧w'.cell? ⟨gb,j * 6 + 4,none⟩=some (.bool true)∧w'.cell? ⟨gb,j * 6 + 5,none⟩=some (.int .u32 0)∧w'.cell? ⟨w2.heap.size,0,none⟩=some (.int .i64 a)∧w'.cell? ⟨w2.heap.size,1,none⟩=some (.int .u64 (b:Int))∧w'.cell? ⟨w2.heap.size,2,none⟩=some (.int .i64 c)∧w'.cell? ⟨w2.heap.size,3,none⟩=some (.bool true)∧w'.cell? ⟨w2.heap.size,4,none⟩=some (.int .u32 0)) (by kernel_rfl) ?_ (fun hHeld => ?_)
       ·exact ⟨d2,d3,d4,d5,d6,x0,x1,x2,x3,x4⟩
       refine tkR 0 rfl ?_
       refine tkR 1 rfl ?_
       refine tkR 2 rfl ?_
       refine tkR 3 rfl ?_
       refine tkR 4 rfl ?_
       refine tkR 5 rfl ?_
       refine tkR 6 rfl ?_
       refine wpAnyH_done (by kernel_rfl) ?_ _
       go_wp2
       go_ret2
       refine ⟨.slice (some ⟨gb,0,none⟩) n c1,?_,?_,below_drewN HB3.out _⟩
       ·rw [HP.out]; rfl
       ·rw [HP.out]; exact HROW.out
      ·have hs1:¬ (z:Int)=0:=by omega
       have hs2:((z:Int) == 0)=false:=by simp; omega
       have hr:againE ⟨a,b,c,true,z⟩ ⟨a,b,c,true,0⟩=2:=by simp [againE,hs]
       have HP:=Lib.hid (HPS2.out (by rw [hr]; omega))
       rw [hr] at HP
       have HK:=Lib.hid (HROW.out.put5 (by omega) j true a b c true 0 (by show (ownP (f j)).used=true; rw [show ownP (f j)=_ from HX0.out]))
       clear HPK2 HPS2 HX0
       go_wp2_with fail
       refine wp_region_held_drew (S:=fun w' => w'.cell? ⟨gb,j * 6 + 1,none⟩=some (.int .i64 a)∧w'.cell? ⟨gb,j * 6 + 2,none⟩=some (.int .u64 (b:Int))∧w'.cell? ⟨gb,j * 6 + 3,none⟩=some (.int .i64 c)∧w'.cell? ⟨gb,j * 6 + 4,none⟩=some (.bool true)∧w'.cell? ⟨gb,j * 6 + 5,none⟩=some (.int .u32 (z:Int))∧w'.cell? ⟨w2.heap.size,0,none⟩=some (.int .i64 a)∧w'.cell? ⟨w2.heap.size,1,none⟩=some (.int .u64 (b:Int))∧w'.cell? ⟨w2.heap.size,2,none⟩=some (.int .i64 c)∧w'.cell? ⟨w2.heap.size,3,none⟩=some (.bool true)∧w'.cell? ⟨w2.heap.size,4,none⟩=some (.int .u32 0)) (by kernel_rfl) ?_ (fun hHeld => ?_)
       ·exact ⟨d2,d3,d4,d5,d6,x0,x1,x2,x3,x4⟩
       refine tkR 0 rfl ?_
       refine tkR 1 rfl ?_
       refine tkR 2 rfl ?_
       refine tkR 3 rfl ?_
       refine tkR 4 rfl ?_
       refine tkR 5 rfl ?_
       refine tkR 6 rfl ?_
       refine wpAnyH_done (by kernel_rfl) ?_ _
       go_wp2
       go_ret2
       refine ⟨.slice (some ⟨gb,0,none⟩) n c1,?_,?_,below_drewN (((((HB3.out.setCell k3 _).setCell k3 _).setCell k3 _).setCell k3 _).setCell k3 _) _⟩
       ·rw [HP.out]; rfl
       ·rw [HP.out]; exact HK.out
     ·have hp1:(c == port)=false:=by simpa using hp
      have hr:againE ⟨a,b,c,true,z⟩ ⟨a,b,port,true,0⟩=2:=by simp [againE,hp]
      have HP:=Lib.hid (HPS2.out (by rw [hr]; omega))
      rw [hr] at HP
      have HK:=Lib.hid (HROW.out.put5 (by omega) j true a b port true 0 (by show (ownP (f j)).used=true; rw [show ownP (f j)=_ from HX0.out]))
      clear HPK2 HPS2 HX0
      go_wp2_with fail
      refine wp_region_held_drew (S:=fun w' => w'.cell? ⟨gb,j * 6 + 1,none⟩=some (.int .i64 a)∧w'.cell? ⟨gb,j * 6 + 2,none⟩=some (.int .u64 (b:Int))∧w'.cell? ⟨gb,j * 6 + 3,none⟩=some (.int .i64 c)∧w'.cell? ⟨gb,j * 6 + 4,none⟩=some (.bool true)∧w'.cell? ⟨gb,j * 6 + 5,none⟩=some (.int .u32 (z:Int))∧w'.cell? ⟨w2.heap.size,0,none⟩=some (.int .i64 a)∧w'.cell? ⟨w2.heap.size,1,none⟩=some (.int .u64 (b:Int))∧w'.cell? ⟨w2.heap.size,2,none⟩=some (.int .i64 port)∧w'.cell? ⟨w2.heap.size,3,none⟩=some (.bool true)∧w'.cell? ⟨w2.heap.size,4,none⟩=some (.int .u32 0)) (by kernel_rfl) ?_ (fun hHeld => ?_)
      ·exact ⟨d2,d3,d4,d5,d6,x0,x1,x2,x3,x4⟩
      refine tkR 0 rfl ?_
      refine tkR 1 rfl ?_
      refine tkR 2 rfl ?_
      refine tkR 3 rfl ?_
      refine tkR 4 rfl ?_
      refine tkR 5 rfl ?_
      refine tkR 6 rfl ?_
      refine wpAnyH_done (by kernel_rfl) ?_ _
      go_wp2
      go_ret2
      refine ⟨.slice (some ⟨gb,0,none⟩) n c1,?_,?_,below_drewN (((((HB3.out.setCell k3 _).setCell k3 _).setCell k3 _).setCell k3 _).setCell k3 _) _⟩
      ·rw [HP.out]; rfl
      ·rw [HP.out]; exact HK.out
end Go.Proofs.YthloabdfkakehaaGreat
