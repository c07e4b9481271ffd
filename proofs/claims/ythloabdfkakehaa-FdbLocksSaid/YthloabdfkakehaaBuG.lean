/-
  Words and contracts that a statement's proof rests on (BuG). No statement is proved here.
-/
import Derived.Test.YthloabdfkakehaaBuD
import Derived.Test.YthloabdfkakehaaSlotA
import Derived.Test.YthloabdfkakehaaBuF
set_option linter.unusedVariables false
set_option linter.unusedSimpArgs false
namespace Go.Proofs.Ythloabdfkakehaa
open Go.RowKit
theorem putF_ref {f:Nat→Pl} {e:En} {now n:Nat} (h:rightE e=false):putF f e now n=(f,5):=by unfold putF; rw [if_pos h]
theorem putF_none {f:Nat→Pl} {e:En} {now n:Nat} (h:rightE e=true) (h1:findF f e.vid e.mac n < 0) (h2:(roomF f now n).1 < 0):putF f e now n=(f,5):=by
 unfold putF; rw [if_neg (by simp [h]),if_pos h1,if_pos h2]
theorem putF_new {f:Nat→Pl} {e:En} {now n j:Nat} (h:rightE e=true) (h1:findF f e.vid e.mac n < 0) (h2:(roomF f now n).1=(j:Int)):putF f e now n=(updP f j ⟨true,e⟩,(roomF f now n).2):=by
 unfold putF; rw [if_neg (by simp [h]),if_pos h1,if_neg (by omega),h2,Int.toNat_natCast]
theorem putF_kept {f:Nat→Pl} {e:En} {now n j:Nat} (h:rightE e=true) (h1:findF f e.vid e.mac n=(j:Int)) (h2:againE (f j).e e=0):putF f e now n=(f,0):=by
 unfold putF; rw [if_neg (by simp [h]),h1,if_neg (by omega),Int.toNat_natCast,if_pos h2]
theorem putF_set {f:Nat→Pl} {e:En} {now n j:Nat} (h:rightE e=true) (h1:findF f e.vid e.mac n=(j:Int)) (h2:againE (f j).e e ≠ 0):putF f e now n=(updP f j ⟨true,e⟩,againE (f j).e e):=by
 unfold putF; rw [if_neg (by simp [h]),h1,if_neg (by omega),Int.toNat_natCast,if_neg h2]
theorem roomF_bd (f:Nat→Pl) (now n:Nat):-1≤(roomF f now n).1∧(roomF f now n).1 < n∧(roomF f now n).2≤5∧((roomF f now n).1 < 0→(roomF f now n).2=5)∧(0≤(roomF f now n).1→(roomF f now n).2=3 ∨ (roomF f now n).2=4):=by
 have h1:=firstJ_bd (fun i => !(f i).used) n
 have h2:=bestF_bd (fun i => !(f i).e.st) (fun i => ageN now (f i).e.stamp) n
 unfold roomF
 split
 ·refine ⟨by simp only; omega,by simp only; omega,by simp,by simp only; omega,by simp⟩
 ·split
  ·refine ⟨by simp,by simp only; omega,by simp,by simp,by simp⟩
  ·refine ⟨by simp only; omega,by simp only; omega,by simp,by simp only; omega,by simp⟩
theorem againE_le (o e:En):againE o e≤2:=by unfold againE; split <;> (try split) <;> omega
theorem findF_key {f:Nat→Pl} {v:Int} {m n j:Nat} (h:findF f v m n=(j:Int)):(f j).e.vid=v∧(f j).e.mac=m:=by
 have:=firstJ_holds (keyF f v m) n (by unfold findF at h; omega)
 unfold findF at h
 rw [h,Int.toNat_natCast] at this
 unfold keyF at this
 simp at this
 exact this.2
theorem own_stamp {f:Nat→Pl} {n:Nat} (h:∀ i,i < n→(f i).e.stamp < 4294967296):∀ i,i < n→(ownP (f i)).e.stamp < 4294967296:=by
 intro i hi
 unfold ownP
 split
 ·exact h i hi
 ·simp [pl0,en0]
set_option maxHeartbeats 6400000 in
theorem bucket_put {f:Nat→Pl} {n:Nat} {y:Value} {w:World} {B:Nat} (hn:n≤1000000) (hv:PlRow w B y n f) (hB:B≤w.heap.size) (hst:∀ i,i < n→(f i).e.stamp < 4294967296) (v:Int) (m:Nat) (hm:m < 18446744073709551616) (p:Int) (st:Bool) (s:Nat) (hs:s < 4294967296) (now:Nat) (hnow:now < 4294967296) :
  Calls Try.prog 95 #[y,.agg #[.int .i64 v,.int .u64 (m:Int),.int .i64 p,.bool st,.int .u32 (s:Int)],.int .u32 (now:Int)] w (Gives 127 n (putF (fun i => ownP (f i)) ⟨v,m,p,st,s⟩ now n).1 (fun u => .tuple #[u,.int .i64 ((putF (fun i => ownP (f i)) ⟨v,m,p,st,s⟩ now n).2:Nat)]) w):=by
 have HV:=Lib.hid hv
 have HO:=Lib.hid fun W (h:PlRow W B y n f) (hb:B≤W.heap.size) => bucket_own hn h hb
 have HST:=Lib.hid (own_stamp hst)
 have hR:=fun W => slot_Right v m hm p st s hs W
 have HFI:=Lib.hid fun W A c (h:PlRow W W.heap.size (.slice A n c) n (fun i => ownP (f i))) => bucket_Find h (Nat.le_refl _) v m
 have HRO:=Lib.hid fun W A c (h:PlRow W W.heap.size (.slice A n c) n (fun i => ownP (f i))) => bucket_room hn h (Nat.le_refl _) HST.out now hnow
 generalize hR0:rightE ⟨v,m,p,st,s⟩=R at *
 have HPR:=Lib.hid (@putF_ref (fun i => ownP (f i)) ⟨v,m,p,st,s⟩ now n)
 have HPN:=Lib.hid (@putF_none (fun i => ownP (f i)) ⟨v,m,p,st,s⟩ now n)
 have HPW:=Lib.hid fun (j:Nat) => @putF_new (fun i => ownP (f i)) ⟨v,m,p,st,s⟩ now n j
 have HPK:=Lib.hid fun (j:Nat) => @putF_kept (fun i => ownP (f i)) ⟨v,m,p,st,s⟩ now n j
 have HPS:=Lib.hid fun (j:Nat) => @putF_set (fun i => ownP (f i)) ⟨v,m,p,st,s⟩ now n j
 have HR0:=Lib.hid hR0
 have HR:=Lib.hid hR
 have HN:=Lib.hid hn
 clear hR hv hst hm hs hnow hR0 hn
 go_enter Try.func95,Try.ntmps95
 go_wp2_with fail
 refine (HO.out _ (HV.out.below (by (repeat' (first | (with_reducible exact Below.refl _ _) | (with_reducible assumption) | (with_reducible refine Below.setCell ?_ ?_ _) | (with_reducible refine Below.alloc ?_ ?_ _) | (with_reducible refine below_drewN ?_ _) | (with_reducible refine Below.drew ?_) | go_size)))) (by go_size)).mono ?_
 rintro e w1 ⟨v1,he,hrow,hb⟩
 simp only [id] at he
 subst he
 have HROW:=Lib.hid hrow
 obtain ⟨A1,c1,rfl,hc1,hm1,_⟩:=hrow
 unfold maxLen at hm1
 obtain ⟨hcc,_⟩:=bcell hb
 have e0:w1.cell? ⟨w.heap.size,0,none⟩=some (.int .i64 v):=by rw [hcc _ _ (by simp)]; simp [go_sem]
 have e1:w1.cell? ⟨w.heap.size,1,none⟩=some (.int .u64 (m:Int)):=by rw [hcc _ _ (by simp)]; simp [go_sem]
 have e2:w1.cell? ⟨w.heap.size,2,none⟩=some (.int .i64 p):=by rw [hcc _ _ (by simp)]; simp [go_sem]
 have e3:w1.cell? ⟨w.heap.size,3,none⟩=some (.bool st):=by rw [hcc _ _ (by simp)]; simp [go_sem]
 have e4:w1.cell? ⟨w.heap.size,4,none⟩=some (.int .u32 (s:Int)):=by rw [hcc _ _ (by simp)]; simp [go_sem]
 have HB1:Hid (Below w.heap.size w w1):=Below.trans (by (repeat' (first | (with_reducible exact Below.refl _ _) | (with_reducible assumption) | (with_reducible refine Below.setCell ?_ ?_ _) | (with_reducible refine Below.alloc ?_ ?_ _) | (with_reducible refine below_drewN ?_ _) | (with_reducible refine Below.drew ?_) | go_size))) (hb.mono (by go_size))
 have hz1:w.heap.size + 1≤w1.heap.size:=by have:=hb.size; simp at this; omega
 replace HROW:=Lib.hid (HROW.out.base (show w.heap.size≤(w.alloc (.cells #[.int .i64 v,.int .u64 (m:Int),.int .i64 p,.bool st,.int .u32 (s:Int)] 125)).heap.size by simp))
 clear hcc hb HV HO
 go_wp2_with fail
 refine (HR.out _).mono ?_
 rintro e w2 ⟨rfl,hb⟩
 have e0:=((bcell hb).1 w.heap.size 0 (by go_size)).trans e0
 have e1:=((bcell hb).1 w.heap.size 1 (by go_size)).trans e1
 have e2:=((bcell hb).1 w.heap.size 2 (by go_size)).trans e2
 have e3:=((bcell hb).1 w.heap.size 3 (by go_size)).trans e3
 have e4:=((bcell hb).1 w.heap.size 4 (by go_size)).trans e4
 have HB2:=Lib.hid (Below.trans HB1.out (hb.mono HB1.out.size))
 have hz2:w.heap.size + 1≤w2.heap.size:=Nat.le_trans hz1 hb.size
 have HROW:=Lib.hid (HROW.out.below hb)
 clear hb
 cases R
 ·clear HPN HPW HPK HPS HRO HFI
  go_wp2
  go_ret2
  refine ⟨.slice A1 n c1,?_,?_,HB2.out⟩
  ·rw [HPR.out HR0.out]; rfl
  ·rw [HPR.out HR0.out]
   exact HROW.out
 ·clear HPR HR
  go_wp2_with fail
  refine (HFI.out _ _ _ HROW.out.row).mono ?_
  rintro e w3 ⟨rfl,hb⟩
  have e0:=((bcell hb).1 w.heap.size 0 (by go_size)).trans e0
  have e1:=((bcell hb).1 w.heap.size 1 (by go_size)).trans e1
  have e2:=((bcell hb).1 w.heap.size 2 (by go_size)).trans e2
  have e3:=((bcell hb).1 w.heap.size 3 (by go_size)).trans e3
  have e4:=((bcell hb).1 w.heap.size 4 (by go_size)).trans e4
  have HB3:=Lib.hid (Below.trans HB2.out (hb.mono HB2.out.size))
  have hz3:w.heap.size + 1≤w3.heap.size:=Nat.le_trans hz2 hb.size
  have HROW:=Lib.hid (HROW.out.below hb)
  clear hb
  have hbd:=firstJ_bd (keyF (fun i => ownP (f i)) v m) n
  change -1≤findF (fun i => ownP (f i)) v m n∧findF (fun i => ownP (f i)) v m n < n at hbd
  have HKEY:=Lib.hid fun (j:Nat) => @findF_key (fun i => ownP (f i)) v m n j
  obtain ⟨q,hq⟩:∃ q,q=findF (fun i => ownP (f i)) v m n:=⟨_,rfl⟩
  rw [← hq] at hbd ⊢
  have HQ:Hid (findF (fun i => ownP (f i)) v m n=q):=hq.symm
  clear hq
  by_cases hneg:q < 0
  ·clear HPK HPS HKEY
   go_wp2_with fail
   refine (HRO.out _ _ _ HROW.out.row).mono ?_
   rintro e w4 ⟨rfl,hb⟩
   have e0:=((bcell hb).1 w.heap.size 0 (by go_size)).trans e0
   have e1:=((bcell hb).1 w.heap.size 1 (by go_size)).trans e1
   have e2:=((bcell hb).1 w.heap.size 2 (by go_size)).trans e2
   have e3:=((bcell hb).1 w.heap.size 3 (by go_size)).trans e3
   have e4:=((bcell hb).1 w.heap.size 4 (by go_size)).trans e4
   have HB4:=Lib.hid (Below.trans HB3.out (hb.mono HB3.out.size))
   have hz4:w.heap.size + 1≤w4.heap.size:=Nat.le_trans hz3 hb.size
   have HROW:=Lib.hid (HROW.out.below hb)
   clear hb
   have hrb:=roomF_bd (fun i => ownP (f i)) now n
   obtain ⟨rm,hrm⟩:∃ rm,rm=roomF (fun i => ownP (f i)) now n:=⟨_,rfl⟩
   rw [← hrm] at hrb ⊢
   have HRM:Hid (roomF (fun i => ownP (f i)) now n=rm):=hrm.symm
   clear hrm
   obtain ⟨pl,came⟩:=rm
   simp only at hrb ⊢
   obtain ⟨r1,r2,r3,r4,r5⟩:=hrb
   clear hbd
   by_cases hpl:pl < 0
   ·obtain rfl:=r4 hpl
    have HP0:=Lib.hid (HPN.out HR0.out (by show findF (fun i => ownP (f i)) v m n < 0; rw [HQ.out]; exact hneg) (by rw [HRM.out]; exact hpl))
    clear r1 r2 r3 r4 r5 HPW HPN
    go_wp2
    go_ret2
    refine ⟨.slice A1 n c1,?_,?_,HB4.out⟩
    ·rw [HP0.out]; rfl
    ·rw [HP0.out]
     exact HROW.out
   ·obtain ⟨j,rfl⟩:=Int.eq_ofNat_of_zero_le (show 0≤pl by omega)
    have hj:j < n:=by omega
    have j0:(0:Int)≤(j:Int):=Int.natCast_nonneg _
    have j1:(j:Int) < (n:Int):=by omega
    have hca:came=3 ∨ came=4:=r5 (by omega)
    have HP0:=Lib.hid (HPW.out _ HR0.out (by show findF (fun i => ownP (f i)) v m n < 0; rw [HQ.out]; exact hneg) (by rw [HRM.out]))
    rw [HRM.out] at HP0
    clear r1 r2 r3 r4 r5 HPW HPN hpl hneg
    obtain ⟨gb,cap2,hv2,k1,k2,k3,k4,k5,k6,k7⟩:=HROW.out.open_ (by omega)
    injection hv2 with q1 q2 q3
    subst q1 q3
    obtain ⟨d0,d1,d2,d3,d4,d5⟩:=k5 j hj
    have f0:=k6
    have HK7:=Lib.hid (k7 j true v m p st s)
    clear k5 k6 k7 HROW
    rcases hca with rfl | rfl
    all_goals
     go_wp2
     go_ret2
     refine ⟨.slice (some ⟨gb,0,none⟩) n c1,?_,?_,setP_below HB4.out k3 (j * 6) true v m p st s⟩
     ·rw [HP0.out]; rfl
     ·rw [HP0.out]
      exact HK7.out
  ·obtain ⟨j,rfl⟩:=Int.eq_ofNat_of_zero_le (show 0≤q by omega)
   have hj:j < n:=by omega
   have j0:(0:Int)≤(j:Int):=Int.natCast_nonneg _
   have j1:(j:Int) < (n:Int):=by omega
   have jd:decide ((j:Int) < 0)=false:=decide_eq_false hneg
   clear HPN HPW HRO hbd hneg
   obtain ⟨gb,cap2,hv2,k1,k2,k3,k4,k5,k6,k7⟩:=HROW.out.open_ (by omega)
   injection hv2 with q1 q2 q3
   subst q1 q3
   obtain ⟨d0',d1',d2',d3',d4',d5'⟩:=k5 j hj
   obtain ⟨hk1,hk2⟩:=HKEY.out _ HQ.out
   have HPK2:=Lib.hid (HPK.out j HR0.out HQ.out)
   have HPS2:=Lib.hid (HPS.out j HR0.out HQ.out)
   obtain ⟨x,hx⟩:∃ x,x=ownP (f j):=⟨_,rfl⟩
   rw [← hx] at d0' d1' d2' d3' d4' d5' hk1 hk2 HPK2 HPS2
   clear hx HPK HPS HKEY
   obtain ⟨u,⟨a,b,c,t,z⟩⟩:=x
   have d0:w3.cell? ⟨gb,j * 6,none⟩=some (.bool u):=d0'
   have d1:w3.cell? ⟨gb,j * 6 + 1,none⟩=some (.int .i64 a):=d1'
   have d2:w3.cell? ⟨gb,j * 6 + 2,none⟩=some (.int .u64 (b:Int)):=d2'
   have d3:w3.cell? ⟨gb,j * 6 + 3,none⟩=some (.int .i64 c):=d3'
   have d4:w3.cell? ⟨gb,j * 6 + 4,none⟩=some (.bool t):=d4'
   have d5:w3.cell? ⟨gb,j * 6 + 5,none⟩=some (.int .u32 (z:Int)):=d5'
   have f0:=k6
   have HAG:=Lib.hid fun W => bucket_again a b c t z v m p st s ⟨hk1,hk2⟩ W
   have hle:=againE_le ⟨a,b,c,t,z⟩ ⟨v,m,p,st,s⟩
   change Hid (againE ⟨a,b,c,t,z⟩ ⟨v,m,p,st,s⟩=0→_) at HPK2
   change Hid (againE ⟨a,b,c,t,z⟩ ⟨v,m,p,st,s⟩ ≠ 0→_=(_,againE ⟨a,b,c,t,z⟩ ⟨v,m,p,st,s⟩)) at HPS2
   generalize againE ⟨a,b,c,t,z⟩ ⟨v,m,p,st,s⟩=r at *
   clear k5 k6 k7 d0' d1' d2' d3' d4' d5' hk1 hk2
   go_wp2_with fail
   refine wp_region_held_drew (S:=fun w' => w'.cell? ⟨gb,j * 6,none⟩=some (.bool u)∧w'.cell? ⟨gb,j * 6 + 1,none⟩=some (.int .i64 a)∧w'.cell? ⟨gb,j * 6 + 2,none⟩=some (.int .u64 (b:Int))∧w'.cell? ⟨gb,j * 6 + 3,none⟩=some (.int .i64 c)∧w'.cell? ⟨gb,j * 6 + 4,none⟩=some (.bool t)∧w'.cell? ⟨gb,j * 6 + 5,none⟩=some (.int .u32 (z:Int))∧w'.cell? ⟨w.heap.size,0,none⟩=some (.int .i64 v)∧w'.cell? ⟨w.heap.size,1,none⟩=some (.int .u64 (m:Int))∧w'.cell? ⟨w.heap.size,2,none⟩=some (.int .i64 p)∧w'.cell? ⟨w.heap.size,3,none⟩=some (.bool st)∧w'.cell? ⟨w.heap.size,4,none⟩=some (.int .u32 (s:Int))∧(∀ o,w'.frozen? ⟨gb,o,none⟩=false)) (by kernel_rfl) ?_ (fun hHeld => ?_)
   ·exact ⟨d0,d1,d2,d3,d4,d5,e0,e1,e2,e3,e4,f0⟩
   refine tkR 0 rfl ?_
   refine tkR 1 rfl ?_
   refine tkR 2 rfl ?_
   refine tkR 3 rfl ?_
   refine tkR 4 rfl ?_
   refine tkR 5 rfl ?_
   refine clR 6 rfl fun K hK => ?_
   go_simp
   refine Calls.mono (HAG.out _) ?_
   rintro e w4 ⟨rfl,hb⟩
   have HB4:Hid (Below w.heap.size w w4):=Below.trans (by (repeat' (first | (with_reducible exact Below.refl _ _) | (with_reducible assumption) | (with_reducible exact HB3.out) | (with_reducible refine Below.setCell ?_ ?_ _) | (with_reducible refine Below.alloc ?_ ?_ _) | (with_reducible refine below_drewN ?_ _) | (with_reducible refine Below.drew ?_) | go_size))) (hb.mono (by go_size))
   have HROW4:=Lib.hid ((HROW.out.below (by (repeat' (first | (with_reducible exact Below.refl _ _) | (with_reducible assumption) | (with_reducible refine Below.setCell ?_ ?_ _) | (with_reducible refine Below.alloc ?_ ?_ _) | (with_reducible refine below_drewN ?_ _) | (with_reducible refine Below.drew ?_) | go_size)))).below hb)
   have hz4:w.heap.size + 1≤w4.heap.size:=by have:=hb.size; simp at this; omega
   have hg4:gb < w4.heap.size:=by have:=hb.size; simp at this; omega
   refine hK.out _ _ ?_ (fun hHeld => ?_)
   ·(try dsimp only)
    obtain ⟨d0,d1,d2,d3,d4,d5,e0,e1,e2,e3,e4,f0⟩:=hHeld
    obtain ⟨hcc,hff⟩:=bcell hb
    exact ⟨(hcc _ _ (by go_size)).trans d0,(hcc _ _ (by go_size)).trans d1,(hcc _ _ (by go_size)).trans d2,(hcc _ _ (by go_size)).trans d3,(hcc _ _ (by go_size)).trans d4,(hcc _ _ (by go_size)).trans d5,(hcc _ _ (by go_size)).trans e0,(hcc _ _ (by go_size)).trans e1,(hcc _ _ (by go_size)).trans e2,(hcc _ _ (by go_size)).trans e3,(hcc _ _ (by go_size)).trans e4,fun o => (hff _ _ (by go_size)).trans (f0 o)⟩
   clear hK K
   refine tkR 7 rfl ?_
   have hq:=hHeld
   clear d0 d1 d2 d3 d4 d5 e0 e1 e2 e3 e4 f0
   obtain ⟨d0,d1,d2,d3,d4,d5,e0,e1,e2,e3,e4,f0⟩:=hq
   refine wpAnyH_done (by kernel_rfl) ?_ _
   rcases (show r=0 ∨ r=1 ∨ r=2 by omega) with rfl | rfl | rfl
   ·go_wp2
    go_ret2
    refine ⟨.slice (some ⟨gb,0,none⟩) n c1,?_,?_,HB4.out⟩
    ·rw [HPK2.out (by first | rfl | trivial)]; rfl
    ·rw [HPK2.out (by first | rfl | trivial)]
     exact HROW4.out
   ·obtain ⟨gb2,cap3,hv3,_,_,k8,_,_,_,k9⟩:=HROW4.out.open_ (by omega)
    injection hv3 with q1 q2 q3
    injection q1 with q1
    injection q1 with q1 _ _
    subst q1 q3
    have HK9:=Lib.hid (k9 j true v m p st s)
    clear k9 HROW4
    go_wp2
    go_ret2
    refine ⟨.slice (some ⟨gb,0,none⟩) n c1,?_,?_,setP_below HB4.out k8 (j * 6) true v m p st s⟩
    ·rw [HPS2.out (by omega)]; rfl
    ·rw [HPS2.out (by omega)]
     exact HK9.out
   ·obtain ⟨gb2,cap3,hv3,_,_,k8,_,_,_,k9⟩:=HROW4.out.open_ (by omega)
    injection hv3 with q1 q2 q3
    injection q1 with q1
    injection q1 with q1 _ _
    subst q1 q3
    have HK9:=Lib.hid (k9 j true v m p st s)
    clear k9 HROW4
    go_wp2
    go_ret2
    refine ⟨.slice (some ⟨gb,0,none⟩) n c1,?_,?_,setP_below HB4.out k8 (j * 6) true v m p st s⟩
    ·rw [HPS2.out (by omega)]; rfl
    ·rw [HPS2.out (by omega)]
     exact HK9.out
end Go.Proofs.Ythloabdfkakehaa
