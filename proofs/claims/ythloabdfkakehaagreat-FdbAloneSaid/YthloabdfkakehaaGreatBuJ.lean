/-
  Words and contracts that a statement's proof rests on (BuJ, BuK). No statement is proved here.
-/
import Derived.Test.YthloabdfkakehaaGreatBuC
import Derived.Test.YthloabdfkakehaaGreatKeyB
import Derived.Test.YthloabdfkakehaaGreatBuH
import Derived.Test.YthloabdfkakehaaGreatOpen
import Derived.Test.YthloabdfkakehaaGreatBuE
set_option linter.unusedVariables false
set_option linter.unusedSimpArgs false
namespace Go.Proofs.YthloabdfkakehaaGreat
section
open Go.RowKit
theorem rowP_is (f:Nat→Pl) (G:Nat→Value) (k c:Nat) (hc:c < 6) (i:Nat) (hi:i=k * 6 + c) (hG:G i=rowP f i):G i=(f k).cells.getD c (.bool false):=by
 rw [hG,hi,rowP_at f k c hc]
theorem rowP_five (f:Nat→Pl) (G:Nat→Value) (k:Nat) (u:Bool) (v:Int) (m:Nat) (p:Int) (st:Bool) (s:Nat) (i:Nat) (hG:G i=rowP f i) (hu:(f k).used=u) :
  (if i=k * 6 + 5 then Value.int .u32 (s:Nat) else if i=k * 6 + 4 then .bool st else if i=k * 6 + 3 then .int .i64 p else if i=k * 6 + 2 then .int .u64 (m:Nat) else if i=k * 6 + 1 then .int .i64 v else G i)=rowP (updP f k ⟨u,⟨v,m,p,st,s⟩⟩) i:=by
 rw [← rowP_upd f G k u v m p st s i hG]
 have h0:(if i=k * 6 then Value.bool u else G i)=G i:=by
  split
  ·rename_i h
   rw [rowP_is f G k 0 (by omega) i (by omega) hG]
   simp [Pl.cells,hu]
  ·rfl
 rw [h0]
theorem rowP_stamp (f:Nat→Pl) (G:Nat→Value) (k:Nat) (u:Bool) (v:Int) (m:Nat) (p:Int) (st:Bool) (s0 s:Nat) (i:Nat) (hG:G i=rowP f i) (hx:f k=⟨u,⟨v,m,p,st,s0⟩⟩) :
  (if i=k * 6 + 5 then Value.int .u32 (s:Nat) else G i)=rowP (updP f k ⟨u,⟨v,m,p,st,s⟩⟩) i:=by
 rw [← rowP_five f G k u v m p st s i hG (by rw [hx])]
 have e:∀ c,c < 6→i=k * 6 + c→G i=(Pl.cells ⟨u,⟨v,m,p,st,s0⟩⟩).getD c (.bool false):=fun c hc hi => by rw [rowP_is f G k c hc i hi hG,hx]
 by_cases h5:i=k * 6 + 5
 ·rw [if_pos h5,if_pos h5]
 ·rw [if_neg h5,if_neg h5]
  by_cases h4:i=k * 6 + 4
  ·rw [if_pos h4,e 4 (by omega) h4]; rfl
  ·rw [if_neg h4]
   by_cases h3:i=k * 6 + 3
   ·rw [if_pos h3,e 3 (by omega) h3]; rfl
   ·rw [if_neg h3]
    by_cases h2:i=k * 6 + 2
    ·rw [if_pos h2,e 2 (by omega) h2]; rfl
    ·rw [if_neg h2]
     by_cases h1:i=k * 6 + 1
     ·rw [if_pos h1,e 1 (by omega) h1]; rfl
     ·rw [if_neg h1]
theorem rowP_port (f:Nat→Pl) (G:Nat→Value) (k:Nat) (u:Bool) (v:Int) (m:Nat) (p0 p:Int) (st:Bool) (s:Nat) (i:Nat) (hG:G i=rowP f i) (hx:f k=⟨u,⟨v,m,p0,st,s⟩⟩) :
  (if i=k * 6 + 3 then Value.int .i64 p else G i)=rowP (updP f k ⟨u,⟨v,m,p,st,s⟩⟩) i:=by
 rw [← rowP_five f G k u v m p st s i hG (by rw [hx])]
 have e:∀ c,c < 6→i=k * 6 + c→G i=(Pl.cells ⟨u,⟨v,m,p0,st,s⟩⟩).getD c (.bool false):=fun c hc hi => by rw [rowP_is f G k c hc i hi hG,hx]
 by_cases h5:i=k * 6 + 5
 ·rw [if_pos h5,if_neg (by omega),e 5 (by omega) h5]; rfl
 ·rw [if_neg h5]
  by_cases h4:i=k * 6 + 4
  ·rw [if_pos h4,if_neg (by omega),e 4 (by omega) h4]; rfl
  ·rw [if_neg h4]
   by_cases h3:i=k * 6 + 3
   ·rw [if_pos h3,if_pos h3]
   ·rw [if_neg h3,if_neg h3]
    by_cases h2:i=k * 6 + 2
    ·rw [if_pos h2,e 2 (by omega) h2]; rfl
    ·rw [if_neg h2]
     by_cases h1:i=k * 6 + 1
     ·rw [if_pos h1,e 1 (by omega) h1]; rfl
     ·rw [if_neg h1]
section
variable {w:World} {T:TypeId} {B n g cap:Nat} {f:Nat→Pl}
theorem RowOf.rowAt (h:RowOf w T B (.slice (some ⟨g,0,none⟩) n cap) n f) (hn:0 < n):n≤cap∧cap≤maxLen∧B≤g∧∃ G,w.rowIs g T (cap * 6) G∧∀ j,j < n * 6→G j=rowP f j:=by
 obtain ⟨A,c,hv,h1,h2,h3⟩:=h
 injection hv with q1 q2 q3
 subst q1 q3
 obtain ⟨g2,G,q,hg,hr,hG⟩:=h3 hn
 injection q with q
 injection q with q _ _
 subst q
 exact ⟨h1,h2,hg,G,hr,hG⟩
theorem RowOf.put5 (h:RowOf w T B (.slice (some ⟨g,0,none⟩) n cap) n f) (hn:0 < n) (k:Nat) (u:Bool) (v:Int) (m:Nat) (p:Int) (st:Bool) (s:Nat) (hu:(f k).used=u) :
  RowOf (((((w.setCell ⟨g,k * 6 + 1,none⟩ (.int .i64 v)).setCell ⟨g,k * 6 + 2,none⟩ (.int .u64 (m:Nat))).setCell ⟨g,k * 6 + 3,none⟩ (.int .i64 p)).setCell ⟨g,k * 6 + 4,none⟩ (.bool st)).setCell ⟨g,k * 6 + 5,none⟩ (.int .u32 (s:Nat))) T B (.slice (some ⟨g,0,none⟩) n cap) n (updP f k ⟨u,⟨v,m,p,st,s⟩⟩):=by
 obtain ⟨h1,h2,hg,G,hr,hG⟩:=h.rowAt hn
 exact ⟨_,cap,rfl,h1,h2,fun _ => ⟨g,_,rfl,hg,(((((hr.set _ _).set _ _).set _ _).set _ _).set _ _),fun j hj => rowP_five f G k u v m p st s j (hG j hj) hu⟩⟩
theorem RowOf.putS (h:RowOf w T B (.slice (some ⟨g,0,none⟩) n cap) n f) (hn:0 < n) (k:Nat) {u:Bool} {v:Int} {m:Nat} {p:Int} {st:Bool} {s0:Nat} (s:Nat) (hx:f k=⟨u,⟨v,m,p,st,s0⟩⟩) :
  RowOf (w.setCell ⟨g,k * 6 + 5,none⟩ (.int .u32 (s:Nat))) T B (.slice (some ⟨g,0,none⟩) n cap) n (updP f k ⟨u,⟨v,m,p,st,s⟩⟩):=by
 obtain ⟨h1,h2,hg,G,hr,hG⟩:=h.rowAt hn
 exact ⟨_,cap,rfl,h1,h2,fun _ => ⟨g,_,rfl,hg,hr.set _ _,fun j hj => rowP_stamp f G k u v m p st s0 s j (hG j hj) hx⟩⟩
theorem RowOf.putQ (h:RowOf w T B (.slice (some ⟨g,0,none⟩) n cap) n f) (hn:0 < n) (k:Nat) {u:Bool} {v:Int} {m:Nat} {p0:Int} {st:Bool} {s:Nat} (p:Int) (hx:f k=⟨u,⟨v,m,p0,st,s⟩⟩) :
  RowOf (w.setCell ⟨g,k * 6 + 3,none⟩ (.int .i64 p)) T B (.slice (some ⟨g,0,none⟩) n cap) n (updP f k ⟨u,⟨v,m,p,st,s⟩⟩):=by
 obtain ⟨h1,h2,hg,G,hr,hG⟩:=h.rowAt hn
 exact ⟨_,cap,rfl,h1,h2,fun _ => ⟨g,_,rfl,hg,hr.set _ _,fun j hj => rowP_port f G k u v m p0 p st s j (hG j hj) hx⟩⟩
end
def newF (f:Nat→Pl) (e:En) (now n:Nat):(Nat→Pl) × Nat:=if (roomF f now n).1 < 0 then (f,5) else (updP f (roomF f now n).1.toNat ⟨true,e⟩,(roomF f now n).2)
theorem newF_none {f:Nat→Pl} {e:En} {now n:Nat} (h:(roomF f now n).1 < 0):newF f e now n=(f,5):=if_pos h
theorem newF_at {f:Nat→Pl} {e:En} {now n j:Nat} (h:(roomF f now n).1=(j:Int)):newF f e now n=(updP f j ⟨true,e⟩,(roomF f now n).2):=by
 unfold newF; rw [if_neg (by omega),h,Int.toNat_natCast]
theorem putF_newF {f:Nat→Pl} {e:En} {now n:Nat} (h:rightE e=true) (h1:findF f e.vid e.mac n < 0):putF f e now n=newF f e now n:=by
 unfold putF newF; rw [if_neg (by simp [h]),if_pos h1]
set_option maxHeartbeats 3200000 in
theorem ref10_put {F:Nat→Pl} {n c1:Nat} {A1:Option Addr} {w:World} {B:Nat} (hrow:RowOf w 123 B (.slice A1 n c1) n F) (hB:B≤w.heap.size) (hst:∀ i,i < n→(F i).e.stamp < 4294967296) (v:Int) (m:Nat) (p:Int) (st:Bool) (s:Nat) (now:Nat) (hnow:now < 4294967296) :
  Calls Tryz.prog 141 #[.slice A1 n c1,.agg #[.int .i64 v,.int .u64 (m:Int),.int .i64 p,.bool st,.int .u32 (s:Int)],.int .u32 (now:Int)] w (fun e w' => e=.returned (.tuple #[.slice A1 n c1,.int .i64 ((newF F ⟨v,m,p,st,s⟩ now n).2:Nat)])∧RowOf w' 123 B (.slice A1 n c1) n (newF F ⟨v,m,p,st,s⟩ now n).1∧Below B w w'):=by
 have HROW0:=Lib.hid hrow
 obtain ⟨_,_,hv,hc1,hm1,_⟩:=hrow
 injection hv with q1 q2 q3
 subst q1 q3
 unfold maxLen at hm1
 have HRO:=Lib.hid fun W (h:PlRow W W.heap.size (.slice A1 n c1) n F) => ref10_room h (Nat.le_refl _) hst now hnow
 have HN0:=Lib.hid (@newF_none F ⟨v,m,p,st,s⟩ now n)
 have HN1:=Lib.hid fun (j:Nat) => @newF_at F ⟨v,m,p,st,s⟩ now n j
 have hrb:=roomF_bd F now n
 obtain ⟨rm,hrm⟩:∃ rm,rm=roomF F now n:=⟨_,rfl⟩
 rw [← hrm] at hrb
 have HRM:Hid (roomF F now n=rm):=hrm.symm
 clear hst hnow hrm
 obtain ⟨pl,came⟩:=rm
 simp only at hrb
 obtain ⟨r1,r2,r3,r4,r5⟩:=hrb
 go_enter Tryz.func141,Tryz.ntmps141
 go_wp2_with fail
 refine (HRO.out _ (HROW0.out.below ((Below.refl _ _).alloc (Nat.le_refl _) _)).row).mono ?_
 rw [HRM.out]
 rintro e w1 ⟨rfl,hb⟩
 obtain ⟨hcc,_⟩:=bcell hb
 have e0:w1.cell? ⟨w.heap.size,0,none⟩=some (.int .i64 v):=by rw [hcc _ _ (by simp)]; simp [go_sem]
 have e1:w1.cell? ⟨w.heap.size,1,none⟩=some (.int .u64 (m:Int)):=by rw [hcc _ _ (by simp)]; simp [go_sem]
 have e2:w1.cell? ⟨w.heap.size,2,none⟩=some (.int .i64 p):=by rw [hcc _ _ (by simp)]; simp [go_sem]
 have e3:w1.cell? ⟨w.heap.size,3,none⟩=some (.bool st):=by rw [hcc _ _ (by simp)]; simp [go_sem]
 have e4:w1.cell? ⟨w.heap.size,4,none⟩=some (.int .u32 (s:Int)):=by rw [hcc _ _ (by simp)]; simp [go_sem]
 have HB1:Hid (Below w.heap.size w w1):=Below.trans (by (repeat' (first | (with_reducible exact Below.refl _ _) | (with_reducible assumption) | (with_reducible refine Below.setCell ?_ ?_ _) | (with_reducible refine Below.alloc ?_ ?_ _) | (with_reducible refine below_drewN ?_ _) | (with_reducible refine Below.drew ?_) | go_size))) (hb.mono (by go_size))
 have HROW:=Lib.hid (HROW0.out.below HB1.out)
 have hz1:w.heap.size + 1≤w1.heap.size:=by have:=hb.size; simp at this; omega
 clear hcc hb HRO HROW0
 by_cases hpl:pl < 0
 ·obtain rfl:=r4 hpl
  have HP:=Lib.hid (HN0.out (by rw [HRM.out]; exact hpl))
  have hpd:decide (pl ≥ 0)=false:=decide_eq_false (by omega)
  clear r1 r2 r3 r4 r5 HN0 HN1
  go_wp2
  go_ret2
  refine ⟨?_,?_,HB1.out.mono hB⟩
  ·rw [HP.out]; rfl
  ·rw [HP.out]; exact HROW.out
 ·obtain ⟨j,rfl⟩:=Int.eq_ofNat_of_zero_le (show 0≤pl by omega)
  have hj:j < n:=by omega
  have j0:(0:Int)≤(j:Int):=Int.natCast_nonneg _
  have j1:(j:Int) < (n:Int):=by omega
  have HP:=Lib.hid (HN1.out j (by rw [HRM.out]))
  rw [HRM.out] at HP
  clear r1 r2 r3 r4 r5 HN0 HN1 hpl
  obtain ⟨gb,cap2,hv2,k1,k2,k3,k4,k5,k6,k7⟩:=HROW.out.open_ (by omega)
  injection hv2 with q1 q2 q3
  subst q1 q3
  obtain ⟨d0,d1,d2,d3,d4,d5⟩:=k5 j hj
  have f0:=k6
  have HK7:=Lib.hid (k7 j true v m p st s)
  clear k5 k6 k7 HROW
  go_wp2
  go_ret2
  refine ⟨?_,?_,setP_below (HB1.out.mono hB) k3 (j * 6) true v m p st s⟩
  ·rw [HP.out]; rfl
  ·rw [HP.out]
   exact HK7.out
end
section
open Go.RowKit
theorem findF_used {f:Nat→Pl} {v:Int} {m n j:Nat} (h:findF f v m n=(j:Int)):(f j).used=true:=by
 have:=firstJ_holds (keyF f v m) n (by unfold findF at h; omega)
 unfold findF at h
 rw [h,Int.toNat_natCast] at this
 unfold keyF at this
 simp at this
 exact this.1
set_option maxHeartbeats 6400000 in
theorem ref10_Learn {f:Nat→Pl} {n:Nat} {y:Value} {w:World} {B:Nat} (hn:n≤1000000) (hv:PlRow w B y n f) (hB:B≤w.heap.size) (hst:∀ i,i < n→(f i).e.stamp < 4294967296) (v:Int) (m:Nat) (hm:m < 18446744073709551616) (port:Int) (now:Nat) (hnow:now < 4294967296) :
  Calls Tryz.prog 122 #[y,.agg #[.int .i64 v,.int .u64 (m:Int)],.int .i64 port,.int .u32 (now:Int)] w (Gives 123 n (putF (fun i => ownP (f i)) ⟨v,m,port,false,now⟩ now n).1 (fun u => .tuple #[u,.int .i64 ((putF (fun i => ownP (f i)) ⟨v,m,port,false,now⟩ now n).2:Nat)]) w):=by
 have HV:=Lib.hid hv
 have HO:=Lib.hid fun W (h:PlRow W B y n f) (hb:B≤W.heap.size) => ref10_Copy hn h hb
 have HST:=Lib.hid (own_stamp hst)
 have hR:=fun W => ref8_Right v m hm W
 have HFI:=Lib.hid fun W A c (h:PlRow W W.heap.size (.slice A n c) n (fun i => ownP (f i))) => ref10_Find h (Nat.le_refl _) v m
 have HPU:=Lib.hid fun W A c (h:RowOf W 123 w.heap.size (.slice A n c) n (fun i => ownP (f i))) (hb:w.heap.size≤W.heap.size) => ref10_put h hb HST.out v m port false now now hnow
 have HRE:=Lib.hid (rightE_at v m port false now)
 generalize hR0:rightK v m=R at *
 have HR:=Lib.hid hR
 have HPR:=Lib.hid (@putF_ref (fun i => ownP (f i)) ⟨v,m,port,false,now⟩ now n)
 have HPW:=Lib.hid (@putF_newF (fun i => ownP (f i)) ⟨v,m,port,false,now⟩ now n)
 have HPK:=Lib.hid fun (j:Nat) => @putF_kept (fun i => ownP (f i)) ⟨v,m,port,false,now⟩ now n j
 have HPS:=Lib.hid fun (j:Nat) => @putF_set (fun i => ownP (f i)) ⟨v,m,port,false,now⟩ now n j
 have HKEY:=Lib.hid fun (j:Nat) => @findF_key (fun i => ownP (f i)) v m n j
 have HUSE:=Lib.hid fun (j:Nat) => @findF_used (fun i => ownP (f i)) v m n j
 have hbd:=firstJ_bd (keyF (fun i => ownP (f i)) v m) n
 change -1≤findF (fun i => ownP (f i)) v m n∧findF (fun i => ownP (f i)) v m n < n at hbd
 have HN:=Lib.hid hn
 clear hR hv hst hm hnow hR0 hn
 go_enter Tryz.func122,Tryz.ntmps122
 go_wp2_with fail
 refine (HO.out _ (HV.out.below (by (repeat' (first | (with_reducible exact Below.refl _ _) | (with_reducible assumption) | (with_reducible refine Below.setCell ?_ ?_ _) | (with_reducible refine Below.alloc ?_ ?_ _) | (with_reducible refine below_drewN ?_ _) | (with_reducible refine Below.drew ?_) | go_size)))) (by go_size)).mono ?_
 rintro e w1 ⟨v1,he,hrow,hb⟩
 simp only [id] at he
 subst he
 have HROW:=Lib.hid hrow
 obtain ⟨A1,c1,rfl,hc1,hm1,_⟩:=hrow
 unfold maxLen at hm1
 obtain ⟨hcc,_⟩:=bcell hb
 have e0:w1.cell? ⟨w.heap.size,0,none⟩=some (.int .i64 v):=by rw [hcc _ _ (by simp)]; simp [go_sem]
 have e1:w1.cell? ⟨w.heap.size,1,none⟩=some (.int .u64 (m:Int)):=by rw [hcc _ _ (by simp)]; simp [go_sem]
 have HB1:Hid (Below w.heap.size w w1):=Below.trans (by (repeat' (first | (with_reducible exact Below.refl _ _) | (with_reducible assumption) | (with_reducible refine Below.setCell ?_ ?_ _) | (with_reducible refine Below.alloc ?_ ?_ _) | (with_reducible refine below_drewN ?_ _) | (with_reducible refine Below.drew ?_) | go_size))) (hb.mono (by go_size))
 have hz1:w.heap.size + 1≤w1.heap.size:=by have:=hb.size; simp at this; omega
 replace HROW:=Lib.hid (HROW.out.base (show w.heap.size≤(w.alloc (.cells #[.int .i64 v,.int .u64 (m:Int)] 51)).heap.size by simp))
 clear hcc hb HV HO
 rcases (show port < 0 ∨ (0≤port∧63 < port) ∨ (0≤port∧port≤63) by omega) with h | ⟨h,h'⟩ | ⟨h,h'⟩
 ·have HP:=Lib.hid (HPR.out (by rw [HRE.out]; simp; omega))
  clear HPW HPK HPS HFI HPU hbd
  go_wp2
  go_ret2
  refine ⟨.slice A1 n c1,?_,?_,HB1.out⟩
  ·rw [HP.out]; rfl
  ·rw [HP.out]; exact HROW.out
 ·have HP:=Lib.hid (HPR.out (by rw [HRE.out]; simp; omega))
  clear HPW HPK HPS HFI HPU hbd
  go_wp2
  go_ret2
  refine ⟨.slice A1 n c1,?_,?_,HB1.out⟩
  ·rw [HP.out]; rfl
  ·rw [HP.out]; exact HROW.out
 ·have dd1:decide (port < 0)=false:=decide_eq_false (by omega)
  have dd2:decide (port > 63)=false:=decide_eq_false (by omega)
  go_wp2_with fail
  refine (HR.out _).mono ?_
  rintro e w2 ⟨rfl,hb⟩
  have e0:=((bcell hb).1 w.heap.size 0 (by go_size)).trans e0
  have e1:=((bcell hb).1 w.heap.size 1 (by go_size)).trans e1
  have HB2:=Lib.hid (HB1.out.trans (hb.mono HB1.out.size))
  have hz2:w.heap.size + 1≤w2.heap.size:=Nat.le_trans hz1 hb.size
  replace HROW:=Lib.hid (HROW.out.below hb)
  clear hb
  cases R
  ·have HP:=Lib.hid (HPR.out (by rw [HRE.out]; rfl))
   clear HPW HPK HPS HFI HPU hbd
   go_wp2
   go_ret2
   refine ⟨.slice A1 n c1,?_,?_,HB2.out⟩
   ·rw [HP.out]; rfl
   ·rw [HP.out]; exact HROW.out
  ·have HRT:Hid (rightE ⟨v,m,port,false,now⟩=true):=by show _=true; rw [HRE.out]; simp; omega
   clear HPR HRE HR dd1 dd2
   go_wp2_with fail
   refine (HFI.out _ _ _ HROW.out.row).mono ?_
   rintro e w3 ⟨rfl,hb⟩
   have e0:=((bcell hb).1 w.heap.size 0 (by go_size)).trans e0
   have e1:=((bcell hb).1 w.heap.size 1 (by go_size)).trans e1
   have HB3:=Lib.hid (HB2.out.trans (hb.mono HB2.out.size))
   have hz3:w.heap.size + 1≤w3.heap.size:=Nat.le_trans hz2 hb.size
   replace HROW:=Lib.hid (HROW.out.below hb)
   clear hb HFI
   obtain ⟨q,hq⟩:∃ q,q=findF (fun i => ownP (f i)) v m n:=⟨_,rfl⟩
   rw [← hq] at hbd ⊢
   have HQ:Hid (findF (fun i => ownP (f i)) v m n=q):=hq.symm
   clear hq
   by_cases hneg:q < 0
   ·have HP:=Lib.hid (HPW.out HRT.out (by show findF (fun i => ownP (f i)) v m n < 0; rw [HQ.out]; exact hneg))
    clear HPW HPK HPS HKEY HUSE hbd
    go_wp2_with fail
    refine (HPU.out _ _ _ HROW.out (by omega)).mono ?_
    rintro e w4 ⟨rfl,hrow4,hb⟩
    have HROW4:=Lib.hid hrow4
    have HB4:=Lib.hid (HB3.out.trans hb)
    clear hb hrow4
    go_wp2
    go_ret2
    refine ⟨.slice A1 n c1,?_,?_,HB4.out⟩
    ·rw [HP.out]
     rfl
    ·rw [HP.out]; exact HROW4.out
   ·obtain ⟨j,rfl⟩:=Int.eq_ofNat_of_zero_le (show 0≤q by omega)
    have hj:j < n:=by omega
    have j0:(0:Int)≤(j:Int):=Int.natCast_nonneg _
    have j1:(j:Int) < (n:Int):=by omega
    have jd:decide ((j:Int) < 0)=false:=decide_eq_false hneg
    clear HPW HPU hbd hneg
    obtain ⟨gb,cap2,hv2,k1,k2,k3,k4,k5,k6,k7⟩:=HROW.out.open_ (by omega)
    injection hv2 with q1 q2 q3
    subst q1 q3
    obtain ⟨d0',d1',d2',d3',d4',d5'⟩:=k5 j hj
    obtain ⟨hk1,hk2⟩:=HKEY.out j HQ.out
    have hu:=HUSE.out j HQ.out
    have HPK2:=Lib.hid (HPK.out j HRT.out HQ.out)
    have HPS2:=Lib.hid (HPS.out j HRT.out HQ.out)
    obtain ⟨x,hx⟩:∃ x,x=ownP (f j):=⟨_,rfl⟩
    change (ownP (f j)).used=true at hu
    rw [← hx] at d0' d1' d2' d3' d4' d5' hk1 hk2 HPK2 HPS2 hu
    have HX0:Hid ((fun i => ownP (f i)) j=x):=hx.symm
    clear hx HPK HPS HKEY HUSE
    obtain ⟨u,⟨a,b,c,t,z⟩⟩:=x
    simp only at hk1 hk2 hu
    subst hk1 hk2 hu
    have d2:w3.cell? ⟨gb,j * 6 + 1,none⟩=some (.int .i64 a):=d1'
    have d3:w3.cell? ⟨gb,j * 6 + 2,none⟩=some (.int .u64 (b:Int)):=d2'
    have d4:w3.cell? ⟨gb,j * 6 + 3,none⟩=some (.int .i64 c):=d3'
    have d5:w3.cell? ⟨gb,j * 6 + 4,none⟩=some (.bool t):=d4'
    have d6:w3.cell? ⟨gb,j * 6 + 5,none⟩=some (.int .u32 (z:Int)):=d5'
    have f0:=k6
    clear k5 k7 d0' d1' d2' d3' d4' d5'
    cases t
    ·by_cases hp:c=port
     ·subst hp
      by_cases hs:z=now
      ·subst hs
       have HP:=Lib.hid (HPK2.out (by simp [againE]))
       go_wp2
       go_ret2
       refine ⟨.slice (some ⟨gb,0,none⟩) n c1,?_,?_,HB3.out⟩
       ·rw [HP.out]; rfl
       ·rw [HP.out]; exact HROW.out
      ·have hs1:¬ (z:Int)=(now:Int):=by omega
       have hs2:((z:Int) == (now:Int))=false:=by simp; omega
       have hr:againE ⟨a,b,c,false,z⟩ ⟨a,b,c,false,now⟩=1:=by simp [againE,hs]
       have HP:=Lib.hid (HPS2.out (by rw [hr]; omega))
       rw [hr] at HP
       have HK:=Lib.hid (HROW.out.putS (by omega) j now HX0.out)
       clear HPK2 HPS2 HX0
       go_wp2
       go_ret2
       refine ⟨.slice (some ⟨gb,0,none⟩) n c1,?_,?_,HB3.out.setCell k3 _⟩
       ·rw [HP.out]; rfl
       ·rw [HP.out]; exact HK.out
     ·have hp1:(c == port)=false:=by simpa using hp
      have hr:againE ⟨a,b,c,false,z⟩ ⟨a,b,port,false,now⟩=2:=by simp [againE,hp]
      have HP:=Lib.hid (HPS2.out (by rw [hr]; omega))
      rw [hr] at HP
      have hk:=HROW.out.putS (by omega) j now HX0.out
      have HK:=Lib.hid ((hk.putQ (by omega) j port (show updP _ j _ j=_ by unfold updP; rw [if_pos rfl])).congr (g:=updP (fun i => ownP (f i)) j ⟨true,⟨a,b,port,false,now⟩⟩) fun i _ => by unfold updP; split <;> rfl)
      clear HPK2 HPS2 HX0 hk
      go_wp2
      go_ret2
      refine ⟨.slice (some ⟨gb,0,none⟩) n c1,?_,?_,(HB3.out.setCell k3 _).setCell k3 _⟩
      ·rw [HP.out]; rfl
      ·rw [HP.out]; exact HK.out
    ·have HP:=Lib.hid (HPK2.out (by simp [againE]))
     go_wp2
     go_ret2
     refine ⟨.slice (some ⟨gb,0,none⟩) n c1,?_,?_,HB3.out⟩
     ·rw [HP.out]; rfl
     ·rw [HP.out]; exact HROW.out
end
end Go.Proofs.YthloabdfkakehaaGreat
