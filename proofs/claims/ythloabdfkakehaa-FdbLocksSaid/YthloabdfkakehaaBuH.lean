/-
  Words and contracts that a statement's proof rests on (BuH, KeyD, BkA, BkB, BkC, BkI, KeyR). No statement is proved here.
-/
import Derived.Deep.RegionHeld3
import Derived.Test.YthloabdfkakehaaKeyB
import Derived.Test.YthloabdfkakehaaBuG
import Derived.Test.YthloabdfkakehaaBuF
import Derived.Test.YthloabdfkakehaaBuI
set_option linter.unusedVariables false
set_option linter.unusedSimpArgs false
namespace Go.Proofs.Ythloabdfkakehaa
section
open Go.RowKit
set_option maxHeartbeats 1600000 in
theorem bucket_Learn {f:Nat→Pl} {n:Nat} {y:Value} {w:World} {B:Nat} (hn:n≤1000000) (hv:PlRow w B y n f) (hB:B≤w.heap.size) (hst:∀ i,i < n→(f i).e.stamp < 4294967296) (v:Int) (m:Nat) (hm:m < 18446744073709551616) (port:Int) (now:Nat) (hnow:now < 4294967296) :
  Calls Try.prog 63 #[y,.agg #[.int .i64 v,.int .u64 (m:Int)],.int .i64 port,.int .u32 (now:Int)] w (Gives 127 n (putF (fun i => ownP (f i)) ⟨v,m,port,false,now⟩ now n).1 (fun u => .tuple #[u,.int .i64 ((putF (fun i => ownP (f i)) ⟨v,m,port,false,now⟩ now n).2:Nat)]) w):=by
 have HP:=Lib.hid fun W (h:PlRow W B y n f) (hb:B≤W.heap.size) => bucket_put hn h hb hst v m hm port false now (by omega) now hnow
 have HV:=Lib.hid hv
 clear hv hst hm hnow hn
 generalize putF (fun i => ownP (f i)) ⟨v,m,port,false,now⟩ now n=r at *
 go_enter Try.func63,Try.ntmps63
 go_wp2_with fail
 refine (HP.out _ (HV.out.below (by (repeat' (first | (with_reducible exact Below.refl _ _) | (with_reducible assumption) | (with_reducible refine Below.setCell ?_ ?_ _) | (with_reducible refine Below.alloc ?_ ?_ _) | (with_reducible refine below_drewN ?_ _) | (with_reducible refine Below.drew ?_) | go_size)))) (by go_size)).mono ?_
 rintro e w1 ⟨v1,rfl,hrow,hb⟩
 have HR:=Lib.hid (hrow.base (show w.heap.size≤(w.alloc (.cells #[.int .i64 v,.int .u64 (m:Int)] 47)).heap.size by simp))
 have HB:=Lib.hid (show Below w.heap.size w w1 from Below.trans (by (repeat' (first | (with_reducible exact Below.refl _ _) | (with_reducible assumption) | (with_reducible refine Below.setCell ?_ ?_ _) | (with_reducible refine Below.alloc ?_ ?_ _) | (with_reducible refine below_drewN ?_ _) | (with_reducible refine Below.drew ?_) | go_size))) (hb.mono (by go_size)))
 clear hrow hb
 go_wp2
 go_ret2
 exact ⟨v1,rfl,HR.out,HB.out⟩
set_option maxHeartbeats 1600000 in
theorem bucket_Order {f:Nat→Pl} {n:Nat} {y:Value} {w:World} {B:Nat} (hn:n≤1000000) (hv:PlRow w B y n f) (hB:B≤w.heap.size) (hst:∀ i,i < n→(f i).e.stamp < 4294967296) (v:Int) (m:Nat) (hm:m < 18446744073709551616) (port:Int) (now:Nat) (hnow:now < 4294967296) :
  Calls Try.prog 65 #[y,.agg #[.int .i64 v,.int .u64 (m:Int)],.int .i64 port,.int .u32 (now:Int)] w (Gives 127 n (putF (fun i => ownP (f i)) ⟨v,m,port,true,0⟩ now n).1 (fun u => .tuple #[u,.int .i64 ((putF (fun i => ownP (f i)) ⟨v,m,port,true,0⟩ now n).2:Nat)]) w):=by
 have HP:=Lib.hid fun W (h:PlRow W B y n f) (hb:B≤W.heap.size) => bucket_put hn h hb hst v m hm port true 0 (by omega) now hnow
 have HV:=Lib.hid hv
 clear hv hst hm hnow hn
 generalize putF (fun i => ownP (f i)) ⟨v,m,port,true,0⟩ now n=r at *
 go_enter Try.func65,Try.ntmps65
 go_wp2_with fail
 refine (HP.out _ (HV.out.below (by (repeat' (first | (with_reducible exact Below.refl _ _) | (with_reducible assumption) | (with_reducible refine Below.setCell ?_ ?_ _) | (with_reducible refine Below.alloc ?_ ?_ _) | (with_reducible refine below_drewN ?_ _) | (with_reducible refine Below.drew ?_) | go_size)))) (by go_size)).mono ?_
 rintro e w1 ⟨v1,rfl,hrow,hb⟩
 have HR:=Lib.hid (hrow.base (show w.heap.size≤(w.alloc (.cells #[.int .i64 v,.int .u64 (m:Int)] 47)).heap.size by simp))
 have HB:=Lib.hid (show Below w.heap.size w w1 from Below.trans (by (repeat' (first | (with_reducible exact Below.refl _ _) | (with_reducible assumption) | (with_reducible refine Below.setCell ?_ ?_ _) | (with_reducible refine Below.alloc ?_ ?_ _) | (with_reducible refine below_drewN ?_ _) | (with_reducible refine Below.drew ?_) | go_size))) (hb.mono (by go_size)))
 clear hrow hb
 go_wp2
 go_ret2
 exact ⟨v1,rfl,HR.out,HB.out⟩
theorem dropF_none {f:Nat→Pl} {v:Int} {m n:Nat} (h:findF f v m n < 0):dropF f v m n=(f,false):=by unfold dropF; rw [if_pos h]
theorem dropF_gone {f:Nat→Pl} {v:Int} {m n j:Nat} (h:findF f v m n=(j:Int)) (hs:(f j).e.st=true):dropF f v m n=(updP f j pl0,true):=by
 unfold dropF; rw [h,if_neg (by omega),Int.toNat_natCast,if_pos hs]
theorem dropF_stays {f:Nat→Pl} {v:Int} {m n j:Nat} (h:findF f v m n=(j:Int)) (hs:(f j).e.st=false):dropF f v m n=(f,false):=by
 unfold dropF; rw [h,if_neg (by omega),Int.toNat_natCast,if_neg (by simp [hs])]
set_option maxHeartbeats 3200000 in
theorem bucket_Drop {f:Nat→Pl} {n:Nat} {y:Value} {w:World} {B:Nat} (hn:n≤1000000) (hv:PlRow w B y n f) (hB:B≤w.heap.size) (v:Int) (m:Nat) :
  Calls Try.prog 67 #[y,.agg #[.int .i64 v,.int .u64 (m:Int)]] w (Gives 127 n (dropF (fun i => ownP (f i)) v m n).1 (fun u => .tuple #[u,.bool (dropF (fun i => ownP (f i)) v m n).2]) w):=by
 have HV:=Lib.hid hv
 have HO:=Lib.hid fun W (h:PlRow W B y n f) (hb:B≤W.heap.size) => bucket_own hn h hb
 have HFI:=Lib.hid fun W A c (h:PlRow W W.heap.size (.slice A n c) n (fun i => ownP (f i))) => bucket_Find h (Nat.le_refl _) v m
 have HD0:=Lib.hid (@dropF_none (fun i => ownP (f i)) v m n)
 have HD1:=Lib.hid fun (j:Nat) => @dropF_gone (fun i => ownP (f i)) v m n j
 have HD2:=Lib.hid fun (j:Nat) => @dropF_stays (fun i => ownP (f i)) v m n j
 have hbd:=firstJ_bd (keyF (fun i => ownP (f i)) v m) n
 change -1≤findF (fun i => ownP (f i)) v m n∧findF (fun i => ownP (f i)) v m n < n at hbd
 have HN:=Lib.hid hn
 clear hv hn
 go_enter Try.func67,Try.ntmps67
 go_wp2_with fail
 refine (HO.out _ (HV.out.below (by (repeat' (first | (with_reducible exact Below.refl _ _) | (with_reducible assumption) | (with_reducible refine Below.setCell ?_ ?_ _) | (with_reducible refine Below.alloc ?_ ?_ _) | (with_reducible refine below_drewN ?_ _) | (with_reducible refine Below.drew ?_) | go_size)))) (by go_size)).mono ?_
 rintro e w1 ⟨v1,he,hrow,hb⟩
 simp only [id] at he
 subst he
 have HROW:=Lib.hid hrow
 obtain ⟨A1,c1,rfl,hc1,hm1,_⟩:=hrow
 unfold maxLen at hm1
 obtain ⟨hcc,_⟩:=bcell hb
 have e0:w1.cell? ⟨w.heap.size,0,none⟩=some (.int .i64 v):=by rw [hcc _ _ (by simp)]; simp [go_sem]
 have e1:w1.cell? ⟨w.heap.size,1,none⟩=some (.int .u64 (m:Int)):=by rw [hcc _ _ (by simp)]; simp [go_sem]
 have HB1:Hid (Below w.heap.size w w1):=Below.trans (by (repeat' (first | (with_reducible exact Below.refl _ _) | (with_reducible assumption) | (with_reducible refine Below.setCell ?_ ?_ _) | (with_reducible refine Below.alloc ?_ ?_ _) | (with_reducible refine below_drewN ?_ _) | (with_reducible refine Below.drew ?_) | go_size))) (hb.mono (by go_size))
 have hz1:w.heap.size + 1≤w1.heap.size:=by have:=hb.size; simp at this; omega
 replace HROW:=Lib.hid (HROW.out.base (show w.heap.size≤(w.alloc (.cells #[.int .i64 v,.int .u64 (m:Int)] 47)).heap.size by simp))
 clear hcc hb HV HO
 go_wp2_with fail
 refine (HFI.out _ _ _ HROW.out.row).mono ?_
 rintro e w2 ⟨rfl,hb⟩
 have HB2:=Lib.hid (HB1.out.trans (hb.mono (by omega)))
 have HROW2:=Lib.hid (HROW.out.below hb)
 clear hb e0 e1 HROW HFI
 obtain ⟨q,hq⟩:∃ q,q=findF (fun i => ownP (f i)) v m n:=⟨_,rfl⟩
 rw [← hq] at hbd ⊢
 have HQ:Hid (findF (fun i => ownP (f i)) v m n=q):=hq.symm
 clear hq
 by_cases hneg:q < 0
 ·have HP:=Lib.hid (HD0.out (by rw [HQ.out]; exact hneg))
  clear HD0 HD1 HD2 hbd
  go_wp2
  go_ret2
  refine ⟨.slice A1 n c1,?_,?_,HB2.out⟩
  ·rw [HP.out]; rfl
  ·rw [HP.out]; exact HROW2.out
 ·obtain ⟨j,rfl⟩:=Int.eq_ofNat_of_zero_le (show 0≤q by omega)
  have hj:j < n:=by omega
  have j0:(0:Int)≤(j:Int):=Int.natCast_nonneg _
  have j1:(j:Int) < (n:Int):=by omega
  have jd:decide ((j:Int) < 0)=false:=decide_eq_false hneg
  obtain ⟨gb,cap2,hv2,k1,k2,k3,k4,k5,k6,k7⟩:=HROW2.out.open_ (by omega)
  injection hv2 with q1 q2 q3
  subst q1 q3
  obtain ⟨d0',d1',d2',d3',d4',d5'⟩:=k5 j hj
  obtain ⟨x,hx⟩:∃ x,x=ownP (f j):=⟨_,rfl⟩
  have HX:Hid (ownP (f j)=x):=hx.symm
  rw [← hx] at d0' d1' d2' d3' d4' d5'
  clear hx
  obtain ⟨u,⟨a,b,c,t,z⟩⟩:=x
  have d0:w2.cell? ⟨gb,j * 6,none⟩=some (.bool u):=d0'
  have d1:w2.cell? ⟨gb,j * 6 + 1,none⟩=some (.int .i64 a):=d1'
  have d2:w2.cell? ⟨gb,j * 6 + 2,none⟩=some (.int .u64 (b:Int)):=d2'
  have d3:w2.cell? ⟨gb,j * 6 + 3,none⟩=some (.int .i64 c):=d3'
  have d4:w2.cell? ⟨gb,j * 6 + 4,none⟩=some (.bool t):=d4'
  have d5:w2.cell? ⟨gb,j * 6 + 5,none⟩=some (.int .u32 (z:Int)):=d5'
  have HK7:=Lib.hid (k7 j false 0 0 0 false 0)
  clear k5 k7 d0' d1' d2' d3' d4' d5' hbd hneg HD0
  cases t
  ·have HP:=Lib.hid (HD2.out j HQ.out (by rw [HX.out]))
   clear HD1 HD2
   go_wp2
   go_ret2
   refine ⟨.slice (some ⟨gb,0,none⟩) n c1,?_,?_,HB2.out⟩
   ·rw [HP.out]; rfl
   ·rw [HP.out]; exact HROW2.out
  ·have HP:=Lib.hid (HD1.out j HQ.out (by rw [HX.out]))
   clear HD1 HD2
   go_wp2
   go_ret2
   refine ⟨.slice (some ⟨gb,0,none⟩) n c1,?_,?_,setP_below HB2.out k3 (j * 6) false 0 0 0 false 0⟩
   ·rw [HP.out]; rfl
   ·rw [HP.out]
    exact HK7.out
end
section
open Go.RowKit
def plS (v:Int) (m:Nat) (s b:Int):Int:=if rightK v m=true∧1≤s∧1≤b then mixI (wordN v m:Nat) % s else 0
def plB (v:Int) (m:Nat) (s b:Int):Int:=if rightK v m=true∧1≤s∧1≤b then mixI (wordN v m:Nat) / 4294967296 % b else 0
theorem pl_no {v:Int} {m:Nat} {s b:Int} (h:¬ (rightK v m=true∧1≤s∧1≤b)):plS v m s b=0∧plB v m s b=0:=⟨if_neg h,if_neg h⟩
theorem pl_yes {v:Int} {m:Nat} {s b:Int} (h:rightK v m=true∧1≤s∧1≤b):plS v m s b=mixI (wordN v m:Nat) % s∧plB v m s b=mixI (wordN v m:Nat) / 4294967296 % b:=⟨if_pos h,if_pos h⟩
theorem mod_w (h s:Int) (h0:0≤h∧h < 18446744073709551616) (hs:1≤s∧s≤9223372036854775807):wrap64 (h % s)=h % s:=by
 have h1:=Int.emod_nonneg h (show s ≠ 0 by omega)
 have h2:=Int.emod_lt_of_pos h (show 0 < s by omega)
 unfold wrap64
 omega
theorem wrap_pos (s:Int) (hs:1≤s∧s≤9223372036854775807):IntKind.u64.wrap s=s:=by rw [IntKind.wrap_u64]; omega
set_option maxHeartbeats 1600000 in
theorem key_Place (v:Int) (m:Nat) (hm:m < 18446744073709551616) (s b:Int) (hs:s≤9223372036854775807) (hb:b≤9223372036854775807) (w:World) :
  Calls Try.prog 82 #[.agg #[.int .i64 v,.int .u64 (m:Int)],.int .i64 s,.int .i64 b] w (Says (.tuple #[.int .i64 (plS v m s b),.int .i64 (plB v m s b)]) w):=by
 have hR:=fun W => key_Right v m hm W
 have hW:=fun W => key_Word v m hm W
 have hno:=@pl_no v m s b
 have hyes:=@pl_yes v m s b
 have hwl:=wordN_lt v m
 generalize plS v m s b=x at *
 generalize plB v m s b=y at *
 generalize wordN v m=q at *
 generalize rightK v m=r at *
 cases r
 ·obtain ⟨rfl,rfl⟩:=hno (by simp)
  have HR:=Lib.hid hR
  clear hno hyes hW hR hwl hm
  go_enter Try.func82,Try.ntmps82
  go_wp2_with fail
  refine (HR.out _).mono ?_
  rintro e w1 ⟨rfl,hb⟩
  have HB:=Lib.hid hb
  clear hb
  go_wp2
  go_ret2
  exact ⟨rfl,Below.trans ((Below.refl _ _).alloc (Nat.le_refl _) _) (HB.out.mono (by simp))⟩
 rcases (show s < 1 ∨ (1≤s∧b < 1) ∨ (1≤s∧1≤b) by omega) with h | ⟨h,h'⟩ | ⟨h,h'⟩
 ·obtain ⟨rfl,rfl⟩:=hno (by omega)
  have HR:=Lib.hid hR
  clear hno hyes hW hR hwl hm
  go_enter Try.func82,Try.ntmps82
  go_wp2_with fail
  refine (HR.out _).mono ?_
  rintro e w1 ⟨rfl,hb⟩
  have HB:=Lib.hid hb
  clear hb
  go_wp2
  go_ret2
  exact ⟨rfl,Below.trans ((Below.refl _ _).alloc (Nat.le_refl _) _) (HB.out.mono (by simp))⟩
 ·obtain ⟨rfl,rfl⟩:=hno (by omega)
  have HR:=Lib.hid hR
  clear hno hyes hW hR hwl hm
  go_enter Try.func82,Try.ntmps82
  go_wp2_with fail
  refine (HR.out _).mono ?_
  rintro e w1 ⟨rfl,hb⟩
  have HB:=Lib.hid hb
  clear hb
  go_wp2
  go_ret2
  exact ⟨rfl,Below.trans ((Below.refl _ _).alloc (Nat.le_refl _) _) (HB.out.mono (by simp))⟩
 ·obtain ⟨rfl,rfl⟩:=hyes ⟨rfl,h,h'⟩
  have hbd:=mixI_bd (q:Int)
  have hMX:=fun W => turn_Mix (q:Int) (by omega) W
  generalize mixI (q:Int)=z at *
  obtain ⟨Z,rfl⟩:=Int.eq_ofNat_of_zero_le hbd.1
  have hZ:Z < 18446744073709551616:=by omega
  have ws:=wrap_pos s ⟨h,hs⟩
  have wb:=wrap_pos b ⟨h',hb⟩
  have m1:=mod_w (Z:Int) s ⟨by omega,by omega⟩ ⟨h,hs⟩
  have m2:=mod_w ((Z:Int) / 4294967296) b ⟨by omega,by omega⟩ ⟨h',hb⟩
  have n1:¬ s=0:=by omega
  have n2:¬ b=0:=by omega
  have HR:=Lib.hid hR
  have HW:=Lib.hid hW
  have HM:=Lib.hid hMX
  clear hno hyes hW hR hwl hm hMX hbd
  go_enter Try.func82,Try.ntmps82
  go_wp2_with fail
  refine (HR.out _).mono ?_
  rintro e w1 ⟨rfl,hb1⟩
  obtain ⟨hc,hf⟩:=bcell hb1
  have c0:w1.cell? ⟨w.heap.size,0,none⟩=some (.int .i64 v):=by rw [hc _ _ (by simp)]; simp [go_sem]
  have c1:w1.cell? ⟨w.heap.size,1,none⟩=some (.int .u64 (m:Int)):=by rw [hc _ _ (by simp)]; simp [go_sem]
  have hB1:Below w.heap.size w w1:=Below.trans ((Below.refl _ _).alloc (Nat.le_refl _) _) (hb1.mono (by simp))
  clear hc hf hb1
  have hz1:=hB1.size
  go_wp2_with fail
  refine (HW.out _).mono ?_
  rintro e w2 ⟨rfl,hb2⟩
  have hB2:=hB1.trans (hb2.mono hz1)
  clear hb2 c0 c1 hB1
  go_wp2_with fail
  refine (HM.out _).mono ?_
  rintro e w3 ⟨rfl,rfl⟩
  go_wp2_with fail
  go_quiet (fail)
  go_wp2
  go_ret2
  exact ⟨by simp [m1,m2],below_drewN hB2 _⟩
end
section
open Go.RowKit
def PlRowD (w:World) (D:Nat→Prop) (v:Value) (n:Nat) (f:Nat→Pl):Prop :=
 ∃ A cap,v=.slice A n cap∧n≤cap∧cap≤maxLen∧(0 < n→∃ b off,A=some ⟨b,off,none⟩∧b < w.heap.size∧¬ D b∧∀ j,j < n→plHolds w b (off + j * 6) (f j))
theorem PlRowD.row {w:World} {D:Nat→Prop} {v:Value} {n:Nat} {f:Nat→Pl} (h:PlRowD w D v n f):PlRow w w.heap.size v n f:=by
 obtain ⟨A,cap,hv,h1,h2,h3⟩:=h
 refine ⟨A,cap,hv,h1,h2,fun hn => ?_⟩
 obtain ⟨b,off,e,hb,_,hc⟩:=h3 hn
 exact ⟨b,off,e,hb,hc⟩
theorem PlRowD.of_own {w:World} {D:Nat→Prop} {T:TypeId} {B n:Nat} {v:Value} {f:Nat→Pl} (h:RowOf w T B v n f) (hD:∀ b,D b→b < B):PlRowD w D v n f:=by
 obtain ⟨A,cap,hv,h1,h2,h3⟩:=h
 refine ⟨A,cap,hv,h1,h2,fun hn => ?_⟩
 obtain ⟨g,F,e,hg,hr,hF⟩:=h3 hn
 exact ⟨g,0,e,hr.lt,fun hd => by have:=hD g hd; omega,fun j hj => by rw [Nat.zero_add]; exact rowG_holds hr (by omega) hF hj⟩
theorem PlRowD.but {w w':World} {D:Nat→Prop} {v:Value} {n q:Nat} {f:Nat→Pl} (h:PlRowD w D v n f) (hb:But q w w') (hq:D q):PlRowD w' D v n f:=by
 obtain ⟨A,cap,hv,h1,h2,h3⟩:=h
 refine ⟨A,cap,hv,h1,h2,fun hn => ?_⟩
 obtain ⟨b,off,e,hbb,hd,hc⟩:=h3 hn
 exact ⟨b,off,e,Nat.lt_of_lt_of_le hbb hb.below.size,hd,fun j hj => (hc j hj).keep fun p hp => hb.cell (by rw [hp]; exact hbb) (by rw [hp]; intro e; exact hd (by rw [e]; exact hq))⟩
theorem PlRowD.congr {w:World} {D:Nat→Prop} {v:Value} {n:Nat} {f g:Nat→Pl} (h:PlRowD w D v n f) (hfg:∀ i,i < n→f i=g i):PlRowD w D v n g:=by
 obtain ⟨A,cap,hv,h1,h2,h3⟩:=h
 refine ⟨A,cap,hv,h1,h2,fun hn => ?_⟩
 obtain ⟨b,off,e,hb',hd,hc⟩:=h3 hn
 exact ⟨b,off,e,hb',hd,fun j hj => by rw [← hfg j hj]; exact hc j hj⟩
def BkAt (w:World) (D:Nat→Prop) (p q S B n:Nat) (g:Nat→Nat→Pl):Prop :=
 p < w.heap.size∧q < w.heap.size∧p ≠ q∧w.cell? ⟨p,0,none⟩=some (.int .i64 (S:Nat))∧w.cell? ⟨p,1,none⟩=some (.int .i64 (B:Nat))∧w.cell? ⟨p,2,none⟩=some (.int .i64 (n:Nat)) ∧
  (∃ cap,S * B≤cap∧cap≤maxLen∧w.cell? ⟨p,3,none⟩=some (.slice (some ⟨q,0,none⟩) (S * B) cap))∧(∀ o,w.frozen? ⟨q,o,none⟩=false) ∧
  ∀ i,i < S * B→∃ v,w.cell? ⟨q,i,none⟩=some v∧PlRowD w D v n (g i)
theorem BkAt.keep {w w':World} {D:Nat→Prop} {p q S B n:Nat} {g:Nat→Nat→Pl} (h:BkAt w D p q S B n g) (hz:w.heap.size≤w'.heap.size) (hk:∀ b,b < w.heap.size→(b=p ∨ b=q ∨ ¬ D b)→w'.heap[b]?=w.heap[b]?):BkAt w' D p q S B n g:=by
 obtain ⟨h0,h1,h2,h3,h4,h5,⟨cap,h6,h7,h8⟩,h9,h10⟩:=h
 have cp:∀ o,w'.cell? ⟨p,o,none⟩=w.cell? ⟨p,o,none⟩:=fun o => World.cell?_of_block (w:=w) (hk p h0 (.inl rfl))
 have cq:∀ o,w'.cell? ⟨q,o,none⟩=w.cell? ⟨q,o,none⟩:=fun o => World.cell?_of_block (w:=w) (hk q h1 (.inr (.inl rfl)))
 refine ⟨by omega,by omega,h2,(cp 0).trans h3,(cp 1).trans h4,(cp 2).trans h5,⟨cap,h6,h7,(cp 3).trans h8⟩,fun o => (World.frozen?_of_block (w:=w) (hk q h1 (.inr (.inl rfl)))).trans (h9 o),fun i hi => ?_⟩
 obtain ⟨v,hv,A,cap',e1,e2,e3,e4⟩:=h10 i hi
 refine ⟨v,(cq i).trans hv,A,cap',e1,e2,e3,fun hn => ?_⟩
 obtain ⟨b,off,e5,e6,e7,e8⟩:=e4 hn
 exact ⟨b,off,e5,by omega,e7,fun j hj => (e8 j hj).keep fun a ha => World.cell?_of_block (w:=w) (by rw [ha]; exact hk b e6 (.inr (.inr e7)))⟩
theorem BkAt.call {w w':World} {D:Nat→Prop} {p q S B n:Nat} {g:Nat→Nat→Pl} (h:BkAt w D p q S B n g) (hb:Below w.heap.size w w'):BkAt w' D p q S B n g :=
 h.keep hb.size fun b hlt _ => hb.block b hlt
theorem BkAt.but {w w':World} {D:Nat→Prop} {p q q' S B n:Nat} {g:Nat→Nat→Pl} (h:BkAt w D p q S B n g) (hb:But q' w w') (h1:p ≠ q') (h2:q ≠ q') (hD:D q'):BkAt w' D p q S B n g :=
 h.keep hb.below.size fun b hlt hc => hb.rest b hlt (by
  rcases hc with rfl | rfl | hc
  ·exact h1
  ·exact h2
  ·exact fun e => hc (by rw [e]; exact hD))
def updR (g:Nat→Nat→Pl) (i:Nat) (f:Nat→Pl) (j:Nat):Nat→Pl:=if j=i then f else g j
theorem BkAt.put {w:World} {D:Nat→Prop} {p q S B n i:Nat} {g:Nat→Nat→Pl} {v:Value} {f:Nat→Pl} (h:BkAt w D p q S B n g) (hi:i < S * B) (hv:PlRowD w D v n f) (hD:D q):BkAt (w.setCell ⟨q,i,none⟩ v) D p q S B n (updR g i f):=by
 obtain ⟨h0,h1,h2,h3,h4,h5,⟨cap,h6,h7,h8⟩,h9,h10⟩:=h
 have hb:But q w (w.setCell ⟨q,i,none⟩ v):=But.set i v
 have cp:∀ o,(w.setCell ⟨q,i,none⟩ v).cell? ⟨p,o,none⟩=w.cell? ⟨p,o,none⟩:=fun o => hb.cell h0 h2
 obtain ⟨v0,hv0,_⟩:=h10 i hi
 refine ⟨by simpa using h0,by simpa using h1,h2,(cp 0).trans h3,(cp 1).trans h4,(cp 2).trans h5,⟨cap,h6,h7,(cp 3).trans h8⟩,fun o => by simp [go_sem,h9],fun j hj => ?_⟩
 by_cases hji:j=i
 ·subst hji
  refine ⟨v,by simp [go_sem,hv0],?_⟩
  have e:updR g j f j=f:=by unfold updR; rw [if_pos rfl]
  rw [e]
  exact hv.but hb hD
 ·obtain ⟨u,hu,hr⟩:=h10 j hj
  refine ⟨u,?_,?_⟩
  ·rw [← hu]
   simp [go_sem]
  ·have e:updR g i f j=g j:=by unfold updR; rw [if_neg hji]
   rw [e]
   exact hr.but hb hD
end
section
open Go.RowKit
theorem pl_bd (v:Int) (m:Nat) (s b:Int):0≤plS v m s b∧(1≤s→plS v m s b < s)∧0≤plB v m s b∧(1≤b→plB v m s b < b):=by
 unfold plS plB
 by_cases h:rightK v m=true∧1≤s∧1≤b
 ·rw [if_pos h,if_pos h]
  have a1:=Int.emod_nonneg (mixI (wordN v m:Nat)) (show s ≠ 0 by omega)
  have a2:=Int.emod_lt_of_pos (mixI (wordN v m:Nat)) (show 0 < s by omega)
  have a3:=Int.emod_nonneg (mixI (wordN v m:Nat) / 4294967296) (show b ≠ 0 by omega)
  have a4:=Int.emod_lt_of_pos (mixI (wordN v m:Nat) / 4294967296) (show 0 < b by omega)
  exact ⟨a1,fun _ => a2,a3,fun _ => a4⟩
 ·rw [if_neg h,if_neg h]
  exact ⟨by omega,fun _ => by omega,by omega,fun _ => by omega⟩
end
section
open Go.RowKit
def portF (f:Nat→Pl) (v:Int) (m n:Nat):Int:=if findF f v m n < 0 then -1 else (f (findF f v m n).toNat).e.port
end
section
open Go.RowKit
end
section
open Go.RowKit
end
end Go.Proofs.Ythloabdfkakehaa
