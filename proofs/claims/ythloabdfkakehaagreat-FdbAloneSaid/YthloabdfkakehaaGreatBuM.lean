/-
  Words and contracts that a statement's proof rests on (BuM). No statement is proved here.
-/
import Derived.Test.YthloabdfkakehaaGreatBuI
import Derived.Test.YthloabdfkakehaaGreatBuJ
set_option linter.unusedVariables false
set_option linter.unusedSimpArgs false
namespace Go.Proofs.YthloabdfkakehaaGreat
open Go.RowKit
set_option maxHeartbeats 3200000 in
theorem ref10_Hit (a:Int) (q:Nat) (p:Int) (st:Bool) (s:Nat) (fp fv:Int) (w:World) :
  Calls Tryz.prog 143 #[.agg #[.int .i64 a,.int .u64 (q:Int),.int .i64 p,.bool st,.int .u32 (s:Int)],.agg #[.int .i64 fp,.int .i64 fv]] w (Says (.bool (!st && hitE fp fv ⟨a,q,p,st,s⟩)) w):=by
 cases st
 ·rcases (show fp=-1 ∨ (¬ fp=-1∧fp=p) ∨ (¬ fp=-1∧¬ fp=p) by omega) with rfl | ⟨x1,rfl⟩ | ⟨x1,x2⟩
  all_goals rcases (show fv=-1 ∨ (¬ fv=-1∧fv=a) ∨ (¬ fv=-1∧¬ fv=a) by omega) with rfl | ⟨y1,rfl⟩ | ⟨y1,y2⟩
  all_goals
   go_enter Tryz.func143,Tryz.ntmps143
   go_wp2
   go_ret
   exact ⟨ret_bool (by unfold hitE; first | (simp; done) | (simp_all; done)),(by (repeat' (first | (with_reducible exact Below.refl _ _) | (with_reducible assumption) | (with_reducible refine Below.setCell ?_ ?_ _) | (with_reducible refine Below.alloc ?_ ?_ _) | (with_reducible refine below_drewN ?_ _) | (with_reducible refine Below.drew ?_) | go_size)))⟩
 ·go_enter Tryz.func143,Tryz.ntmps143
  go_wp2
  go_ret
  exact ⟨rfl,(by (repeat' (first | (with_reducible exact Below.refl _ _) | (with_reducible assumption) | (with_reducible refine Below.setCell ?_ ?_ _) | (with_reducible refine Below.alloc ?_ ?_ _) | (with_reducible refine below_drewN ?_ _) | (with_reducible refine Below.drew ?_) | go_size)))⟩
set_option maxHeartbeats 6400000 in
theorem ref10_Age {f:Nat→Pl} {n:Nat} {y:Value} {w:World} {B:Nat} (hn:n≤1000000) (hv:PlRow w B y n f) (hB:B≤w.heap.size) (now lim:Nat) (hnow:now < 4294967296) (hst:∀ i,i < n→(f i).e.stamp < 4294967296) :
  Calls Tryz.prog 120 #[y,.int .u32 (now:Int),.int .u32 (lim:Int)] w (Gives 123 n (sweepF (fun i => ownP (f i)) (oldE now lim)) (fun u => .tuple #[u,.int .i64 (goneF (fun i => ownP (f i)) (oldE now lim) n:Nat)]) w):=by
 have HV:=Lib.hid hv
 have HO:=Lib.hid fun W (h:PlRow W B y n f) (hb:B≤W.heap.size) => ref10_Copy hn h hb
 have HNOW:=Lib.hid hnow
 clear hnow
 have HN:=Lib.hid hn
 clear hv hn
 obtain ⟨G,hG⟩:∃ G,G=(fun i => ownP (f i)):=⟨_,rfl⟩
 obtain ⟨pr,hpr⟩:∃ pr,pr=(oldE now lim):=⟨_,rfl⟩
 have HST:Hid (∀ i,i < n→(G i).e.stamp < 4294967296):=by rw [hG]; exact own_stamp hst
 clear hst
 rw [← hG] at HO ⊢
 rw [← hpr]
 have HPR:=Lib.hid hpr
 clear hG hpr
 go_enter Tryz.func120,Tryz.ntmps120
 go_wp2_with fail
 refine (HO.out _ (HV.out.below (by (repeat' (first | (with_reducible exact Below.refl _ _) | (with_reducible assumption) | (with_reducible refine Below.setCell ?_ ?_ _) | (with_reducible refine Below.alloc ?_ ?_ _) | (with_reducible refine below_drewN ?_ _) | (with_reducible refine Below.drew ?_) | go_size)))) (by go_size)).mono ?_
 rintro e w1 ⟨v1,he,hrow,hb⟩
 simp only [id] at he
 subst he
 have HROW:=Lib.hid (hrow.base (show w.heap.size≤w.heap.size by simp))
 have HB1:Hid (Below w.heap.size w w1):=Below.trans (by (repeat' (first | (with_reducible exact Below.refl _ _) | (with_reducible assumption) | (with_reducible refine Below.setCell ?_ ?_ _) | (with_reducible refine Below.alloc ?_ ?_ _) | (with_reducible refine below_drewN ?_ _) | (with_reducible refine Below.drew ?_) | go_size))) (hb.mono (by go_size))
 obtain ⟨A1,c1,rfl,hc1,hm1,_⟩:=hrow
 unfold maxLen at hm1
 clear hb HO HV
 have hn0:=HN.out
 go_wp2
 clear hn0
 go_loopw [8,9] (fun gn i wr => ∃ k:Nat,k≤n∧i=.int .i64 k∧gn=.int .i64 (goneF G pr k:Nat)∧Hid (RowOf wr 123 w.heap.size (.slice A1 n c1) n (partF G pr k))∧Hid (Below w.heap.size w wr)) (fun _ i _ => n - (intOf i).toNat)
 case atStart => exact ⟨0,by omega,rfl,rfl,by rw [partF_zero]; exact HROW.out,HB1.out⟩
 case round =>
  obtain ⟨k,hk,rfl,rfl,HR,HB⟩:=hrel
  have hzw:=HB.out.size
  have hgl:=goneF_le G pr k
  obtain ⟨gn,hgn⟩:∃ gn,gn=goneF G pr k:=⟨_,rfl⟩
  rw [← hgn] at hgl ⊢
  have HGN:=Lib.hid hgn.symm
  clear hgn
  by_cases hlt:k < n
  ·obtain ⟨gb,cap2,hv2,k1,k2,k3,k4,k5,k6,k7⟩:=HR.out.open_ (by omega)
   injection hv2 with q1 q2 q3
   subst q1 q3
   have g0:(0:Int)≤(k:Int):=Int.natCast_nonneg _
   have g1:(k:Int) < (n:Int):=by omega
   have hgn2:gn < 1000001:=by have:=HN.out; omega
   have hcx:=k5 k hlt
   rw [partF_at] at hcx
   obtain ⟨x,hx⟩:∃ x,x=G k:=⟨_,rfl⟩
   rw [← hx] at hcx
   have HX:=Lib.hid hx.symm
   have HSS0:=Lib.hid (HST.out k hlt)
   have HGS:Hid (goesF G pr k=(x.used && !x.e.st && pr x.e)):=by show _=_; rw [hx]; rfl
   have HGO:Hid (goesF G pr k=true→partF G pr (k + 1)=updP (partF G pr k) k pl0∧goneF G pr (k + 1)=gn + 1):=fun h => ⟨partF_gone h,by rw [goneF_yes h,HGN.out]⟩
   have HST2:Hid (goesF G pr k=false→partF G pr (k + 1)=partF G pr k∧goneF G pr (k + 1)=gn):=fun h => ⟨partF_stays h,by rw [goneF_no h,HGN.out]⟩
   rw [show (G k).e.stamp=x.e.stamp by rw [hx]] at HSS0
   clear hx
   obtain ⟨u,⟨a,q,p,st,s⟩⟩:=x
   have HSS:Hid (s < 4294967296):=HSS0.out
   clear HSS0
   obtain ⟨c0',c1',c2',c3',c4',c5'⟩:=hcx
   have c0:wr.cell? ⟨gb,k * 6,none⟩=some (.bool u):=c0'
   have c1:wr.cell? ⟨gb,k * 6 + 1,none⟩=some (.int .i64 a):=c1'
   have c2:wr.cell? ⟨gb,k * 6 + 2,none⟩=some (.int .u64 (q:Int)):=c2'
   have c3:wr.cell? ⟨gb,k * 6 + 3,none⟩=some (.int .i64 p):=c3'
   have c4:wr.cell? ⟨gb,k * 6 + 4,none⟩=some (.bool st):=c4'
   have c5:wr.cell? ⟨gb,k * 6 + 5,none⟩=some (.int .u32 (s:Int)):=c5'
   clear c0' c1' c2' c3' c4' c5'
   have f0:=k6
   have HK7:=Lib.hid (k7 k false 0 0 0 false 0)
   clear k5 k7
   cases u
   ·go_wp2
    go_roundw
    case rel => exact ⟨k + 1,by omega,by go_num,by rw [(HST2.out (by rw [HGS.out]; rfl)).2],by rw [(HST2.out (by rw [HGS.out]; rfl)).1]; exact HR.out,HB.out⟩
    case measure => simp [intOf]; omega
   ·cases st
    ·have hO:=fun W => ref4_Old now s lim HNOW.out HSS.out W
     have hO2:∀ W,Calls Tryz.prog 142 #[.int .u32 (now:Int),.int .u32 (s:Int),.int .u32 (lim:Int)] W fun e w' => e=.returned (.bool (pr ⟨a,q,p,false,s⟩))∧W=w':=fun W => by rw [show pr ⟨a,q,p,false,s⟩=oldB now s lim from by rw [HPR.out]; rfl]; exact hO W
     obtain ⟨r,hr⟩:∃ r,r=pr ⟨a,q,p,false,s⟩:=⟨_,rfl⟩
     rw [← hr] at hO2
     have HRR:=Lib.hid hr.symm
     have HOL:=Lib.hid hO2
     clear hr hO hO2
     cases r
     ·go_wp2_with fail
      refine (HOL.out _).mono ?_
      rintro e w2 ⟨rfl,rfl⟩
      go_wp2
      go_roundw
      case rel => exact ⟨k + 1,by omega,by go_num,by rw [(HST2.out (by rw [HGS.out]; show (true && !false && pr _)=false; rw [HRR.out]; rfl)).2],by rw [(HST2.out (by rw [HGS.out]; show (true && !false && pr _)=false; rw [HRR.out]; rfl)).1]; exact HR.out,HB.out⟩
      case measure => simp [intOf]; omega
     ·go_wp2_with fail
      refine (HOL.out _).mono ?_
      rintro e w2 ⟨rfl,rfl⟩
      go_wp2
      go_roundw
      case rel =>
       have hg:=HGO.out (by rw [HGS.out]; show (true && !false && pr _)=true; rw [HRR.out]; rfl)
       refine ⟨k + 1,by omega,by go_num,by rw [hg.2]; simp,?_,setP_below HB.out (by omega) (k * 6) false 0 0 0 false 0⟩
       show RowOf _ _ _ _ _ _
       rw [hg.1]
       exact HK7.out
      case measure => simp [intOf]; omega
    ·go_wp2
     go_roundw
     case rel => exact ⟨k + 1,by omega,by go_num,by rw [(HST2.out (by rw [HGS.out]; rfl)).2],by rw [(HST2.out (by rw [HGS.out]; rfl)).1]; exact HR.out,HB.out⟩
     case measure => simp [intOf]; omega
  ·have:k=n:=by omega
   subst this
   go_wp2
   go_ret2
   refine ⟨.slice A1 k c1,?_,(HR.out.congr (partF_all G pr k)),HB.out⟩
   rw [HGN.out]; rfl
set_option maxHeartbeats 6400000 in
theorem ref10_Flush {f:Nat→Pl} {n:Nat} {y:Value} {w:World} {B:Nat} (hn:n≤1000000) (hv:PlRow w B y n f) (hB:B≤w.heap.size) (fp fv:Int) :
  Calls Tryz.prog 121 #[y,.agg #[.int .i64 fp,.int .i64 fv]] w (Gives 123 n (sweepF (fun i => ownP (f i)) (hitE fp fv)) (fun u => .tuple #[u,.int .i64 (goneF (fun i => ownP (f i)) (hitE fp fv) n:Nat)]) w):=by
 have HV:=Lib.hid hv
 have HO:=Lib.hid fun W (h:PlRow W B y n f) (hb:B≤W.heap.size) => ref10_Copy hn h hb
 have HN:=Lib.hid hn
 clear hv hn
 obtain ⟨G,hG⟩:∃ G,G=(fun i => ownP (f i)):=⟨_,rfl⟩
 obtain ⟨pr,hpr⟩:∃ pr,pr=(hitE fp fv):=⟨_,rfl⟩
 rw [← hG] at HO ⊢
 rw [← hpr]
 have HPR:=Lib.hid hpr
 clear hG hpr
 go_enter Tryz.func121,Tryz.ntmps121
 go_wp2_with fail
 refine (HO.out _ (HV.out.below (by (repeat' (first | (with_reducible exact Below.refl _ _) | (with_reducible assumption) | (with_reducible refine Below.setCell ?_ ?_ _) | (with_reducible refine Below.alloc ?_ ?_ _) | (with_reducible refine below_drewN ?_ _) | (with_reducible refine Below.drew ?_) | go_size)))) (by go_size)).mono ?_
 rintro e w1 ⟨v1,he,hrow,hb⟩
 simp only [id] at he
 subst he
 have HROW:=Lib.hid (hrow.base (show w.heap.size + 1≤(w.alloc (.cells #[.int .i64 fp,.int .i64 fv] 139)).heap.size by simp))
 have HB1:Hid (Below w.heap.size w w1):=Below.trans (by (repeat' (first | (with_reducible exact Below.refl _ _) | (with_reducible assumption) | (with_reducible refine Below.setCell ?_ ?_ _) | (with_reducible refine Below.alloc ?_ ?_ _) | (with_reducible refine below_drewN ?_ _) | (with_reducible refine Below.drew ?_) | go_size))) (hb.mono (by go_size))
 obtain ⟨A1,c1,rfl,hc1,hm1,_⟩:=hrow
 unfold maxLen at hm1
 obtain ⟨hcc,_⟩:=bcell hb
 have e0:w1.cell? ⟨w.heap.size,0,none⟩=some (.int .i64 fp):=by rw [hcc _ _ (by simp)]; simp [go_sem]
 have e1:w1.cell? ⟨w.heap.size,1,none⟩=some (.int .i64 fv):=by rw [hcc _ _ (by simp)]; simp [go_sem]
 have hz1:w.heap.size + 1≤w1.heap.size:=by have:=hb.size; simp at this; omega
 clear hcc
 clear hb HO HV
 have hn0:=HN.out
 go_wp2
 clear hn0
 go_loopw [6,7] (fun gn i wr => ∃ k:Nat,k≤n∧i=.int .i64 k∧gn=.int .i64 (goneF G pr k:Nat)∧Hid (RowOf wr 123 (w.heap.size + 1) (.slice A1 n c1) n (partF G pr k))∧Hid (Below (w.heap.size + 1) w1 wr)) (fun _ i _ => n - (intOf i).toNat)
 case atStart => exact ⟨0,by omega,rfl,rfl,by rw [partF_zero]; exact HROW.out,Below.refl _ _⟩
 case round =>
  obtain ⟨k,hk,rfl,rfl,HR,HB⟩:=hrel
  have hzw:=HB.out.size
  have hgl:=goneF_le G pr k
  obtain ⟨gn,hgn⟩:∃ gn,gn=goneF G pr k:=⟨_,rfl⟩
  rw [← hgn] at hgl ⊢
  have HGN:=Lib.hid hgn.symm
  clear hgn
  have s0:=((bcell HB.out).1 w.heap.size 0 (by omega)).trans e0
  have s1:=((bcell HB.out).1 w.heap.size 1 (by omega)).trans e1
  clear e0 e1
  by_cases hlt:k < n
  ·obtain ⟨gb,cap2,hv2,k1,k2,k3,k4,k5,k6,k7⟩:=HR.out.open_ (by omega)
   injection hv2 with q1 q2 q3
   subst q1 q3
   have g0:(0:Int)≤(k:Int):=Int.natCast_nonneg _
   have g1:(k:Int) < (n:Int):=by omega
   have hgn2:gn < 1000001:=by have:=HN.out; omega
   have hcx:=k5 k hlt
   rw [partF_at] at hcx
   obtain ⟨x,hx⟩:∃ x,x=G k:=⟨_,rfl⟩
   rw [← hx] at hcx
   have HX:=Lib.hid hx.symm
   have HGS:Hid (goesF G pr k=(x.used && !x.e.st && pr x.e)):=by show _=_; rw [hx]; rfl
   have HGO:Hid (goesF G pr k=true→partF G pr (k + 1)=updP (partF G pr k) k pl0∧goneF G pr (k + 1)=gn + 1):=fun h => ⟨partF_gone h,by rw [goneF_yes h,HGN.out]⟩
   have HST2:Hid (goesF G pr k=false→partF G pr (k + 1)=partF G pr k∧goneF G pr (k + 1)=gn):=fun h => ⟨partF_stays h,by rw [goneF_no h,HGN.out]⟩
   clear hx
   obtain ⟨u,⟨a,q,p,st,s⟩⟩:=x
   obtain ⟨c0',c1',c2',c3',c4',c5'⟩:=hcx
   have c0:wr.cell? ⟨gb,k * 6,none⟩=some (.bool u):=c0'
   have c1:wr.cell? ⟨gb,k * 6 + 1,none⟩=some (.int .i64 a):=c1'
   have c2:wr.cell? ⟨gb,k * 6 + 2,none⟩=some (.int .u64 (q:Int)):=c2'
   have c3:wr.cell? ⟨gb,k * 6 + 3,none⟩=some (.int .i64 p):=c3'
   have c4:wr.cell? ⟨gb,k * 6 + 4,none⟩=some (.bool st):=c4'
   have c5:wr.cell? ⟨gb,k * 6 + 5,none⟩=some (.int .u32 (s:Int)):=c5'
   clear c0' c1' c2' c3' c4' c5'
   have f0:=k6
   have HK7:=Lib.hid (k7 k false 0 0 0 false 0)
   clear k5 k7
   cases u
   ·go_wp2_with fail
    refine wp_region_held_drew (S:=fun w' => w'.cell? ⟨gb,k * 6,none⟩=some (.bool false)∧w'.cell? ⟨gb,k * 6 + 1,none⟩=some (.int .i64 a)∧w'.cell? ⟨gb,k * 6 + 2,none⟩=some (.int .u64 (q:Int))∧w'.cell? ⟨gb,k * 6 + 3,none⟩=some (.int .i64 p)∧w'.cell? ⟨gb,k * 6 + 4,none⟩=some (.bool st)∧w'.cell? ⟨gb,k * 6 + 5,none⟩=some (.int .u32 (s:Int))∧w'.cell? ⟨w.heap.size,0,none⟩=some (.int .i64 fp)∧w'.cell? ⟨w.heap.size,1,none⟩=some (.int .i64 fv)∧(∀ o,w'.frozen? ⟨gb,o,none⟩=false)) (by kernel_rfl) ?_ (fun hHeld => ?_)
    ·exact ⟨c0,c1,c2,c3,c4,c5,s0,s1,f0⟩
    refine tkR 0 rfl ?_
    refine tkR 1 rfl ?_
    refine tkR 2 rfl ?_
    refine tkR 3 rfl ?_
    refine tkR 4 rfl ?_
    refine tkR 5 rfl ?_
    refine skR 6 rfl ?_
    refine skR 7 rfl ?_
    refine skR 8 rfl ?_
    refine skR 9 rfl ?_
    refine skR 10 rfl ?_
    refine skR 11 rfl ?_
    refine skR 12 rfl ?_
    refine tkR 13 rfl ?_
    refine wpAnyH_done (by kernel_rfl) ?_ _
    go_wp2
    go_roundw
    case rel => exact ⟨k + 1,by omega,by go_num,by rw [(HST2.out (by rw [HGS.out]; rfl)).2],by rw [(HST2.out (by rw [HGS.out]; rfl)).1]; exact HR.out,below_drewN HB.out _⟩
    case measure => simp [intOf]; omega
   ·have hH:=fun W => ref10_Hit a q p st s fp fv W
    obtain ⟨r,hr⟩:∃ r,r=(!st && pr ⟨a,q,p,st,s⟩):=⟨_,rfl⟩
    have hH2:∀ W,Calls Tryz.prog 143 #[.agg #[.int .i64 a,.int .u64 (q:Int),.int .i64 p,.bool st,.int .u32 (s:Int)],.agg #[.int .i64 fp,.int .i64 fv]] W (Says (.bool r) W):=fun W => by rw [hr,show pr ⟨a,q,p,st,s⟩=hitE fp fv ⟨a,q,p,st,s⟩ from by rw [HPR.out]]; exact hH W
    have HRR:=Lib.hid hr.symm
    have HHI:=Lib.hid hH2
    clear hr hH hH2
    cases r
    ·go_wp2_with fail
     refine wp_region_held_drew (S:=fun w' => w'.cell? ⟨gb,k * 6,none⟩=some (.bool true)∧w'.cell? ⟨gb,k * 6 + 1,none⟩=some (.int .i64 a)∧w'.cell? ⟨gb,k * 6 + 2,none⟩=some (.int .u64 (q:Int))∧w'.cell? ⟨gb,k * 6 + 3,none⟩=some (.int .i64 p)∧w'.cell? ⟨gb,k * 6 + 4,none⟩=some (.bool st)∧w'.cell? ⟨gb,k * 6 + 5,none⟩=some (.int .u32 (s:Int))∧w'.cell? ⟨w.heap.size,0,none⟩=some (.int .i64 fp)∧w'.cell? ⟨w.heap.size,1,none⟩=some (.int .i64 fv)∧(∀ o,w'.frozen? ⟨gb,o,none⟩=false)) (by kernel_rfl) ?_ (fun hHeld => ?_)
     ·exact ⟨c0,c1,c2,c3,c4,c5,s0,s1,f0⟩
     refine tkR 0 rfl ?_
     refine tkR 1 rfl ?_
     refine tkR 2 rfl ?_
     refine tkR 3 rfl ?_
     refine tkR 4 rfl ?_
     refine tkR 5 rfl ?_
     refine tkR 6 rfl ?_
     refine tkR 7 rfl ?_
     refine tkR 8 rfl ?_
     refine tkR 9 rfl ?_
     refine tkR 10 rfl ?_
     refine tkR 11 rfl ?_
     refine clR 12 rfl fun K hK => ?_
     go_simp
     refine Calls.mono (HHI.out _) ?_
     rintro e w2 ⟨rfl,hb⟩
     have hbw:Below wr.heap.size wr w2:=((Below.refl wr.heap.size wr).drew).trans hb
     have HRW:=Lib.hid (HR.out.below hbw)
     have HB2:=Lib.hid (HB.out.trans (hbw.mono (by omega)))
     clear hbw
     have hz2:gb < w2.heap.size:=by have:=hb.size; simp at this; omega
     refine hK.out _ _ ?_ (fun hHeld => ?_)
     ·(try dsimp only)
      obtain ⟨c0,c1,c2,c3,c4,c5,s0,s1,f0⟩:=hHeld
      obtain ⟨hcc,hff⟩:=bcell hb
      exact ⟨(hcc _ _ (by go_size)).trans c0,(hcc _ _ (by go_size)).trans c1,(hcc _ _ (by go_size)).trans c2,(hcc _ _ (by go_size)).trans c3,(hcc _ _ (by go_size)).trans c4,(hcc _ _ (by go_size)).trans c5,(hcc _ _ (by go_size)).trans s0,(hcc _ _ (by go_size)).trans s1,fun o => (hff _ _ (by go_size)).trans (f0 o)⟩
     clear hK K
     refine tkR 13 rfl ?_
     have hq:=hHeld
     clear c0 c1 c2 c3 c4 c5 s0 s1 f0
     obtain ⟨c0,c1,c2,c3,c4,c5,s0,s1,f0⟩:=hq
     refine wpAnyH_done (by kernel_rfl) ?_ _
     go_wp2
     go_roundw
     case rel => exact ⟨k + 1,by omega,by go_num,by rw [(HST2.out (by rw [HGS.out]; show (true && !st && pr _)=false; rw [Bool.true_and]; exact HRR.out)).2],by rw [(HST2.out (by rw [HGS.out]; show (true && !st && pr _)=false; rw [Bool.true_and]; exact HRR.out)).1]; exact HRW.out,HB2.out⟩
     case measure => simp [intOf]; omega
    ·go_wp2_with fail
     refine wp_region_held_drew (S:=fun w' => w'.cell? ⟨gb,k * 6,none⟩=some (.bool true)∧w'.cell? ⟨gb,k * 6 + 1,none⟩=some (.int .i64 a)∧w'.cell? ⟨gb,k * 6 + 2,none⟩=some (.int .u64 (q:Int))∧w'.cell? ⟨gb,k * 6 + 3,none⟩=some (.int .i64 p)∧w'.cell? ⟨gb,k * 6 + 4,none⟩=some (.bool st)∧w'.cell? ⟨gb,k * 6 + 5,none⟩=some (.int .u32 (s:Int))∧w'.cell? ⟨w.heap.size,0,none⟩=some (.int .i64 fp)∧w'.cell? ⟨w.heap.size,1,none⟩=some (.int .i64 fv)∧(∀ o,w'.frozen? ⟨gb,o,none⟩=false)) (by kernel_rfl) ?_ (fun hHeld => ?_)
     ·exact ⟨c0,c1,c2,c3,c4,c5,s0,s1,f0⟩
     refine tkR 0 rfl ?_
     refine tkR 1 rfl ?_
     refine tkR 2 rfl ?_
     refine tkR 3 rfl ?_
     refine tkR 4 rfl ?_
     refine tkR 5 rfl ?_
     refine tkR 6 rfl ?_
     refine tkR 7 rfl ?_
     refine tkR 8 rfl ?_
     refine tkR 9 rfl ?_
     refine tkR 10 rfl ?_
     refine tkR 11 rfl ?_
     refine clR 12 rfl fun K hK => ?_
     go_simp
     refine Calls.mono (HHI.out _) ?_
     rintro e w2 ⟨rfl,hb⟩
     have hbw:Below wr.heap.size wr w2:=((Below.refl wr.heap.size wr).drew).trans hb
     have HRW:=Lib.hid (HR.out.below hbw)
     have HB2:=Lib.hid (HB.out.trans (hbw.mono (by omega)))
     clear hbw
     have hz2:gb < w2.heap.size:=by have:=hb.size; simp at this; omega
     refine hK.out _ _ ?_ (fun hHeld => ?_)
     ·(try dsimp only)
      obtain ⟨c0,c1,c2,c3,c4,c5,s0,s1,f0⟩:=hHeld
      obtain ⟨hcc,hff⟩:=bcell hb
      exact ⟨(hcc _ _ (by go_size)).trans c0,(hcc _ _ (by go_size)).trans c1,(hcc _ _ (by go_size)).trans c2,(hcc _ _ (by go_size)).trans c3,(hcc _ _ (by go_size)).trans c4,(hcc _ _ (by go_size)).trans c5,(hcc _ _ (by go_size)).trans s0,(hcc _ _ (by go_size)).trans s1,fun o => (hff _ _ (by go_size)).trans (f0 o)⟩
     clear hK K
     refine tkR 13 rfl ?_
     have hq:=hHeld
     clear c0 c1 c2 c3 c4 c5 s0 s1 f0
     obtain ⟨c0,c1,c2,c3,c4,c5,s0,s1,f0⟩:=hq
     refine wpAnyH_done (by kernel_rfl) ?_ _
     obtain ⟨gb2,cap3,hv3,_,_,k8,_,_,_,j9⟩:=HRW.out.open_ (by omega)
     injection hv3 with q1 q2 q3
     injection q1 with q1
     injection q1 with q1 _ _
     subst q1 q3
     have HJ9:=Lib.hid (j9 k false 0 0 0 false 0)
     clear j9 HRW HK7
     go_wp2
     go_roundw
     case rel =>
      have hg:=HGO.out (by rw [HGS.out]; show (true && !st && pr _)=true; rw [Bool.true_and]; exact HRR.out)
      refine ⟨k + 1,by omega,by go_num,by rw [hg.2]; simp,?_,setP_below HB2.out (by omega) (k * 6) false 0 0 0 false 0⟩
      show RowOf _ _ _ _ _ _
      rw [hg.1]
      exact HJ9.out
     case measure => simp [intOf]; omega
  ·have:k=n:=by omega
   subst this
   go_wp2
   go_ret2
   refine ⟨.slice A1 k c1,?_,(HR.out.congr (partF_all G pr k)).base (by omega),HB1.out.trans (HB.out.mono (by omega))⟩
   rw [HGN.out]; rfl
end Go.Proofs.YthloabdfkakehaaGreat
