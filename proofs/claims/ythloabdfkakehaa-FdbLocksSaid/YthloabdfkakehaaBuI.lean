/-
  Words and contracts that a statement's proof rests on (BuI). No statement is proved here.
-/
import Derived.Test.YthloabdfkakehaaBuG
set_option linter.unusedVariables false
set_option linter.unusedSimpArgs false
namespace Go.Proofs.Ythloabdfkakehaa
open Go.RowKit
def hitE (fp fv:Int) (e:En):Bool:=(fp == -1 || fp == e.port) && (fv == -1 || fv == e.vid)
def oldE (now lim:Nat) (e:En):Bool:=oldB now e.stamp lim
def partF (f:Nat→Pl) (g:En→Bool) (k i:Nat):Pl:=if i < k then sweepF f g i else f i
theorem partF_zero (f:Nat→Pl) (g:En→Bool):partF f g 0=f:=by funext i; unfold partF; rw [if_neg (by omega)]
theorem partF_at (f:Nat→Pl) (g:En→Bool) (k:Nat):partF f g k k=f k:=by unfold partF; rw [if_neg (by omega)]
theorem partF_gone {f:Nat→Pl} {g:En→Bool} {k:Nat} (h:goesF f g k=true):partF f g (k + 1)=updP (partF f g k) k pl0:=by
 funext i
 unfold partF updP sweepF
 by_cases h1:i=k
 ·subst h1; simp [h]
 ·by_cases h2:i < k
  ·simp [h1,h2,show i < k + 1 by omega]
  ·simp [h1,h2,show ¬ i < k + 1 by omega]
theorem partF_stays {f:Nat→Pl} {g:En→Bool} {k:Nat} (h:goesF f g k=false):partF f g (k + 1)=partF f g k:=by
 funext i
 unfold partF sweepF
 by_cases h1:i=k
 ·subst h1; simp [h]
 ·by_cases h2:i < k
  ·simp [h2,show i < k + 1 by omega]
  ·simp [h2,show ¬ i < k + 1 by omega]
theorem partF_all (f:Nat→Pl) (g:En→Bool) (n:Nat):∀ i,i < n→partF f g n i=sweepF f g i:=by
 intro i hi; unfold partF; rw [if_pos hi]
theorem goneF_yes {f:Nat→Pl} {g:En→Bool} {k:Nat} (h:goesF f g k=true):goneF f g (k + 1)=goneF f g k + 1:=by rw [goneF,if_pos h]
theorem goneF_no {f:Nat→Pl} {g:En→Bool} {k:Nat} (h:goesF f g k=false):goneF f g (k + 1)=goneF f g k:=by rw [goneF,if_neg (by simp [h])]; rfl
set_option maxHeartbeats 1600000 in
theorem bucket_Age1 (a:Int) (q:Nat) (p:Int) (st:Bool) (s:Nat) (hs:s < 4294967296) (now lim:Nat) (hnow:now < 4294967296) (b1 b2:Nat) (w:World) (h1:w.cell? ⟨b1,0,none⟩=some (.int .u32 (now:Int))) (h2:w.cell? ⟨b2,0,none⟩=some (.int .u32 (lim:Int))) (hb1:b1 < w.heap.size) (hb2:b2 < w.heap.size) :
  Calls Try.prog 98 #[.agg #[.int .i64 a,.int .u64 (q:Int),.int .i64 p,.bool st,.int .u32 (s:Int)],.pointer (some ⟨b1,0,none⟩),.pointer (some ⟨b2,0,none⟩)] w (Says (.bool (oldE now lim ⟨a,q,p,st,s⟩)) w):=by
 have HO:=Lib.hid fun W => ticks_Old now s lim hnow hs W
 change Hid (∀ W,Calls _ _ _ W fun e w' => e=.returned (.bool (oldE now lim ⟨a,q,p,st,s⟩))∧W=w') at HO
 generalize oldE now lim ⟨a,q,p,st,s⟩=r at *
 have k1:∀ o,(w.alloc o).cell? ⟨b1,0,none⟩=some (.int .u32 (now:Int)):=fun o => by rw [World.cell?_alloc_lt _ _ _ (by show b1 < _; omega)]; exact h1
 have k2:∀ o,(w.alloc o).cell? ⟨b2,0,none⟩=some (.int .u32 (lim:Int)):=fun o => by rw [World.cell?_alloc_lt _ _ _ (by show b2 < _; omega)]; exact h2
 clear h1 h2 hs hnow
 go_enter Try.func98,Try.ntmps98
 go_wp2_with fail
 refine (HO.out _).mono ?_
 rintro e w1 ⟨rfl,rfl⟩
 go_wp2
 go_ret
 exact ⟨rfl,(by (repeat' (first | (with_reducible exact Below.refl _ _) | (with_reducible assumption) | (with_reducible refine Below.setCell ?_ ?_ _) | (with_reducible refine Below.alloc ?_ ?_ _) | (with_reducible refine below_drewN ?_ _) | (with_reducible refine Below.drew ?_) | go_size)))⟩
set_option maxHeartbeats 1600000 in
theorem bucket_Flush1 (a:Int) (q:Nat) (p:Int) (st:Bool) (s:Nat) (fp fv:Int) (b1:Nat) (w:World) (h1:w.cell? ⟨b1,0,none⟩=some (.int .i64 fp)) (h2:w.cell? ⟨b1,1,none⟩=some (.int .i64 fv)) (hb1:b1 < w.heap.size) :
  Calls Try.prog 100 #[.agg #[.int .i64 a,.int .u64 (q:Int),.int .i64 p,.bool st,.int .u32 (s:Int)],.pointer (some ⟨b1,0,none⟩)] w (Says (.bool (hitE fp fv ⟨a,q,p,st,s⟩)) w):=by
 have k1:∀ o,(w.alloc o).cell? ⟨b1,0,none⟩=some (.int .i64 fp):=fun o => by rw [World.cell?_alloc_lt _ _ _ (by show b1 < _; omega)]; exact h1
 have k2:∀ o,(w.alloc o).cell? ⟨b1,1,none⟩=some (.int .i64 fv):=fun o => by rw [World.cell?_alloc_lt _ _ _ (by show b1 < _; omega)]; exact h2
 clear h1 h2
 rcases (show fp=-1 ∨ (¬ fp=-1∧fp=p) ∨ (¬ fp=-1∧¬ fp=p) by omega) with rfl | ⟨x1,rfl⟩ | ⟨x1,x2⟩
 all_goals rcases (show fv=-1 ∨ (¬ fv=-1∧fv=a) ∨ (¬ fv=-1∧¬ fv=a) by omega) with rfl | ⟨y1,rfl⟩ | ⟨y1,y2⟩
 all_goals
  go_enter Try.func100,Try.ntmps100
  go_wp2
  go_ret
  exact ⟨ret_bool (by unfold hitE; first | (simp; done) | (simp_all; done)),(by (repeat' (first | (with_reducible exact Below.refl _ _) | (with_reducible assumption) | (with_reducible refine Below.setCell ?_ ?_ _) | (with_reducible refine Below.alloc ?_ ?_ _) | (with_reducible refine below_drewN ?_ _) | (with_reducible refine Below.drew ?_) | go_size)))⟩
set_option maxHeartbeats 6400000 in
theorem sweep_Age {f:Nat→Pl} {n:Nat} {y:Value} {w:World} {B:Nat} (hn:n≤1000000) (hv:PlRow w B y n f) (hB:B≤w.heap.size) (now lim:Nat) (hnow:now < 4294967296) (b1 b2:Nat) (h1:w.cell? ⟨b1,0,none⟩=some (.int .u32 (now:Int))) (h2:w.cell? ⟨b2,0,none⟩=some (.int .u32 (lim:Int))) (hb1:b1 < w.heap.size) (hb2:b2 < w.heap.size) (hst:∀ i,i < n→(f i).e.stamp < 4294967296) :
  Calls Try.prog 97 #[y,.func (.func 98) #[] #[.pointer (some ⟨b1,0,none⟩),.pointer (some ⟨b2,0,none⟩)]] w (Gives 127 n (sweepF (fun i => ownP (f i)) (oldE now lim)) (fun u => .tuple #[u,.int .i64 (goneF (fun i => ownP (f i)) (oldE now lim) n:Nat)]) w):=by
 have HOW:=Lib.hid (bucket_own hn hv hB)
 have HNOW:=Lib.hid hnow
 clear hnow
 have HN:=Lib.hid hn
 clear hv hn
 obtain ⟨G,hG⟩:∃ G,G=(fun i => ownP (f i)):=⟨_,rfl⟩
 obtain ⟨pr,hpr⟩:∃ pr,pr=(oldE now lim):=⟨_,rfl⟩
 have HST:Hid (∀ i,i < n→(G i).e.stamp < 4294967296):=by rw [hG]; exact own_stamp hst
 clear hst
 rw [← hG] at HOW ⊢
 rw [← hpr]
 have HPR:=Lib.hid hpr
 clear hG hpr
 go_enter Try.func97,Try.ntmps97
 go_wp2_with fail
 refine (HOW.out).mono ?_
 rintro e w1 ⟨v1,he,hrow,hb⟩
 simp only [id] at he
 subst he
 have HROW:=Lib.hid hrow
 have HB1:=Lib.hid hb
 obtain ⟨A1,c1,rfl,hc1,hm1,_⟩:=hrow
 unfold maxLen at hm1
 have x0:w1.cell? ⟨b1,0,none⟩=some (.int .u32 (now:Int)):=((bcell hb).1 b1 0 (by omega)).trans h1
 have x1:w1.cell? ⟨b2,0,none⟩=some (.int .u32 (lim:Int)):=((bcell hb).1 b2 0 (by omega)).trans h2
 have h1':=h1
 have h2':=h2
 clear hb h1 h2 HOW x0 x1
 have hn0:=HN.out
 go_wp2
 clear hn0
 go_loopw [6,13] (fun gn i wr => ∃ k:Nat,k≤n∧i=.int .i64 k∧gn=.int .i64 (goneF G pr k:Nat)∧Hid (RowOf wr 127 w.heap.size (.slice A1 n c1) n (partF G pr k))∧Hid (Below w.heap.size w wr)) (fun _ i _ => n - (intOf i).toNat)
 case atStart => exact ⟨0,by omega,rfl,rfl,by rw [partF_zero]; exact HROW.out,HB1.out⟩
 case round =>
  obtain ⟨k,hk,rfl,rfl,HR,HB⟩:=hrel
  have hzw:=HB.out.size
  have hgl:=goneF_le G pr k
  obtain ⟨gn,hgn⟩:∃ gn,gn=goneF G pr k:=⟨_,rfl⟩
  rw [← hgn] at hgl ⊢
  have HGN:=Lib.hid hgn.symm
  clear hgn
  by_cases hlt:k < n
  ·obtain ⟨gb,cap2,hv2,k1,k2,k3,k4,k5,k6,k7⟩:=HR.out.open_ (by omega)
   injection hv2 with q1 q2 q3
   subst q1 q3
   have g0:(0:Int)≤(k:Int):=Int.natCast_nonneg _
   have g1:(k:Int) < (n:Int):=by omega
   have hgn2:gn < 1000001:=by have:=HN.out; omega
   have hcx:=k5 k hlt
   rw [partF_at] at hcx
   have HRA:∀ o,Hid (RowOf (wr.alloc o) 127 w.heap.size (.slice (some ⟨gb,0,none⟩) n c1) n (partF G pr k)):=fun o => HR.out.below ((Below.refl _ _).alloc (Nat.le_refl _) _)
   obtain ⟨x,hx⟩:∃ x,x=G k:=⟨_,rfl⟩
   rw [← hx] at hcx
   have HX:=Lib.hid hx.symm
   have HSS0:=Lib.hid (HST.out k hlt)
   have HGS:Hid (goesF G pr k=(x.used && !x.e.st && pr x.e)):=by show _=_; rw [hx]; rfl
   have HGO:Hid (goesF G pr k=true→partF G pr (k + 1)=updP (partF G pr k) k pl0∧goneF G pr (k + 1)=gn + 1):=fun h => ⟨partF_gone h,by rw [goneF_yes h,HGN.out]⟩
   have HST2:Hid (goesF G pr k=false→partF G pr (k + 1)=partF G pr k∧goneF G pr (k + 1)=gn):=fun h => ⟨partF_stays h,by rw [goneF_no h,HGN.out]⟩
   rw [show (G k).e.stamp=x.e.stamp by rw [hx]] at HSS0
   clear hx
   obtain ⟨u,⟨a,q,p,st,s⟩⟩:=x
   have HSS:Hid (s < 4294967296):=HSS0.out
   clear HSS0
   obtain ⟨c0',c1',c2',c3',c4',c5'⟩:=hcx
   have c0:wr.cell? ⟨gb,k * 6,none⟩=some (.bool u):=c0'
   have c1:wr.cell? ⟨gb,k * 6 + 1,none⟩=some (.int .i64 a):=c1'
   have c2:wr.cell? ⟨gb,k * 6 + 2,none⟩=some (.int .u64 (q:Int)):=c2'
   have c3:wr.cell? ⟨gb,k * 6 + 3,none⟩=some (.int .i64 p):=c3'
   have c4:wr.cell? ⟨gb,k * 6 + 4,none⟩=some (.bool st):=c4'
   have c5:wr.cell? ⟨gb,k * 6 + 5,none⟩=some (.int .u32 (s:Int)):=c5'
   clear c0' c1' c2' c3' c4' c5'
   have y0:wr.cell? ⟨b1,0,none⟩=some (.int .u32 (now:Int)):=((bcell HB.out).1 b1 0 (by omega)).trans h1'
   have y1:wr.cell? ⟨b2,0,none⟩=some (.int .u32 (lim:Int)):=((bcell HB.out).1 b2 0 (by omega)).trans h2'
   have z0:∀ o,(wr.alloc o).cell? ⟨b1,0,none⟩=some (.int .u32 (now:Int)):=fun o => by rw [World.cell?_alloc_lt _ _ _ (by show b1 < _; omega)]; exact y0
   have z1:∀ o,(wr.alloc o).cell? ⟨b2,0,none⟩=some (.int .u32 (lim:Int)):=fun o => by rw [World.cell?_alloc_lt _ _ _ (by show b2 < _; omega)]; exact y1
   clear k5 k7
   cases u
   ·go_wp2
    go_roundw
    case rel => exact ⟨k + 1,by omega,by go_num,by rw [(HST2.out (by rw [HGS.out]; rfl)).2],by rw [(HST2.out (by rw [HGS.out]; rfl)).1]; exact HRA _,HB.out.alloc (by omega) _⟩
    case measure => simp [intOf]; omega
   ·cases st
    ·go_wp2_with fail
     refine (bucket_Age1 a q p false s HSS.out now lim HNOW.out b1 b2 _ (by exact z0 _) (by exact z1 _) (by simp; omega) (by simp; omega)).mono ?_
     rw [← show pr ⟨a,q,p,false,s⟩=(oldE now lim) ⟨a,q,p,false,s⟩ from by rw [HPR.out]]
     rintro e w2 ⟨rfl,hb⟩
     have HRW:=Lib.hid ((HRA _).out.below hb)
     have HB2:=Lib.hid ((HB.out.alloc hzw _).trans (hb.mono (by simp; omega)))
     have hz2:gb < w2.heap.size:=by have:=hb.size; simp at this; omega
     clear hb HRA
     obtain ⟨r,hr⟩:∃ r,r=pr ⟨a,q,p,false,s⟩:=⟨_,rfl⟩
     rw [← hr]
     have HRR:=Lib.hid hr.symm
     clear hr
     cases r
     ·go_wp2
      go_roundw
      case rel => exact ⟨k + 1,by omega,by go_num,by rw [(HST2.out (by rw [HGS.out]; show (true && !false && pr _)=false; rw [HRR.out]; rfl)).2],by rw [(HST2.out (by rw [HGS.out]; show (true && !false && pr _)=false; rw [HRR.out]; rfl)).1]; exact HRW.out,HB2.out⟩
      case measure => simp [intOf]; omega
     ·obtain ⟨gb2,cap3,hv3,_,_,k8,_,j5,j6,j9⟩:=HRW.out.open_ (by omega)
      injection hv3 with q1 q2 q3
      injection q1 with q1
      injection q1 with q1 _ _
      subst q1 q3
      obtain ⟨m0,m1,m2,m3,m4,m5⟩:=j5 k hlt
      rw [partF_at,HX.out] at m0 m1 m2 m3 m4 m5
      have n0:w2.cell? ⟨gb,k * 6,none⟩=some (.bool true):=m0
      have n1:w2.cell? ⟨gb,k * 6 + 1,none⟩=some (.int .i64 a):=m1
      have n2:w2.cell? ⟨gb,k * 6 + 2,none⟩=some (.int .u64 (q:Int)):=m2
      have n3:w2.cell? ⟨gb,k * 6 + 3,none⟩=some (.int .i64 p):=m3
      have n4:w2.cell? ⟨gb,k * 6 + 4,none⟩=some (.bool false):=m4
      have n5:w2.cell? ⟨gb,k * 6 + 5,none⟩=some (.int .u32 (s:Int)):=m5
      have HJ9:=Lib.hid (j9 k false 0 0 0 false 0)
      clear m0 m1 m2 m3 m4 m5 j5 j9 HRW
      go_wp2
      go_roundw
      case rel =>
       have hg:=HGO.out (by rw [HGS.out]; show (true && !false && pr _)=true; rw [HRR.out]; rfl)
       refine ⟨k + 1,by omega,by go_num,by rw [hg.2]; simp,?_,setP_below HB2.out k8 (k * 6) false 0 0 0 false 0⟩
       show RowOf _ _ _ _ _ _
       rw [hg.1]
       exact HJ9.out
      case measure => simp [intOf]; omega
    ·go_wp2
     go_roundw
     case rel => exact ⟨k + 1,by omega,by go_num,by rw [(HST2.out (by rw [HGS.out]; rfl)).2],by rw [(HST2.out (by rw [HGS.out]; rfl)).1]; exact HRA _,HB.out.alloc (by omega) _⟩
     case measure => simp [intOf]; omega
  ·have:k=n:=by omega
   subst this
   go_wp2
   go_ret2
   refine ⟨.slice A1 k c1,?_,HR.out.congr (partF_all G pr k),HB.out⟩
   rw [HGN.out]; rfl
set_option maxHeartbeats 6400000 in
theorem sweep_Flush {f:Nat→Pl} {n:Nat} {y:Value} {w:World} {B:Nat} (hn:n≤1000000) (hv:PlRow w B y n f) (hB:B≤w.heap.size) (fp fv:Int) (b1:Nat) (h1:w.cell? ⟨b1,0,none⟩=some (.int .i64 fp)) (h2:w.cell? ⟨b1,1,none⟩=some (.int .i64 fv)) (hb1:b1 < w.heap.size) :
  Calls Try.prog 97 #[y,.func (.func 100) #[] #[.pointer (some ⟨b1,0,none⟩)]] w (Gives 127 n (sweepF (fun i => ownP (f i)) (hitE fp fv)) (fun u => .tuple #[u,.int .i64 (goneF (fun i => ownP (f i)) (hitE fp fv) n:Nat)]) w):=by
 have HOW:=Lib.hid (bucket_own hn hv hB)
 have HN:=Lib.hid hn
 clear hv hn
 obtain ⟨G,hG⟩:∃ G,G=(fun i => ownP (f i)):=⟨_,rfl⟩
 obtain ⟨pr,hpr⟩:∃ pr,pr=(hitE fp fv):=⟨_,rfl⟩
 rw [← hG] at HOW ⊢
 rw [← hpr]
 have HPR:=Lib.hid hpr
 clear hG hpr
 go_enter Try.func97,Try.ntmps97
 go_wp2_with fail
 refine (HOW.out).mono ?_
 rintro e w1 ⟨v1,he,hrow,hb⟩
 simp only [id] at he
 subst he
 have HROW:=Lib.hid hrow
 have HB1:=Lib.hid hb
 obtain ⟨A1,c1,rfl,hc1,hm1,_⟩:=hrow
 unfold maxLen at hm1
 have x0:w1.cell? ⟨b1,0,none⟩=some (.int .i64 fp):=((bcell hb).1 b1 0 (by omega)).trans h1
 have x1:w1.cell? ⟨b1,1,none⟩=some (.int .i64 fv):=((bcell hb).1 b1 1 (by omega)).trans h2
 have h1':=h1
 have h2':=h2
 clear hb h1 h2 HOW x0 x1
 have hn0:=HN.out
 go_wp2
 clear hn0
 go_loopw [6,13] (fun gn i wr => ∃ k:Nat,k≤n∧i=.int .i64 k∧gn=.int .i64 (goneF G pr k:Nat)∧Hid (RowOf wr 127 w.heap.size (.slice A1 n c1) n (partF G pr k))∧Hid (Below w.heap.size w wr)) (fun _ i _ => n - (intOf i).toNat)
 case atStart => exact ⟨0,by omega,rfl,rfl,by rw [partF_zero]; exact HROW.out,HB1.out⟩
 case round =>
  obtain ⟨k,hk,rfl,rfl,HR,HB⟩:=hrel
  have hzw:=HB.out.size
  have hgl:=goneF_le G pr k
  obtain ⟨gn,hgn⟩:∃ gn,gn=goneF G pr k:=⟨_,rfl⟩
  rw [← hgn] at hgl ⊢
  have HGN:=Lib.hid hgn.symm
  clear hgn
  by_cases hlt:k < n
  ·obtain ⟨gb,cap2,hv2,k1,k2,k3,k4,k5,k6,k7⟩:=HR.out.open_ (by omega)
   injection hv2 with q1 q2 q3
   subst q1 q3
   have g0:(0:Int)≤(k:Int):=Int.natCast_nonneg _
   have g1:(k:Int) < (n:Int):=by omega
   have hgn2:gn < 1000001:=by have:=HN.out; omega
   have hcx:=k5 k hlt
   rw [partF_at] at hcx
   have HRA:∀ o,Hid (RowOf (wr.alloc o) 127 w.heap.size (.slice (some ⟨gb,0,none⟩) n c1) n (partF G pr k)):=fun o => HR.out.below ((Below.refl _ _).alloc (Nat.le_refl _) _)
   obtain ⟨x,hx⟩:∃ x,x=G k:=⟨_,rfl⟩
   rw [← hx] at hcx
   have HX:=Lib.hid hx.symm
   have HGS:Hid (goesF G pr k=(x.used && !x.e.st && pr x.e)):=by show _=_; rw [hx]; rfl
   have HGO:Hid (goesF G pr k=true→partF G pr (k + 1)=updP (partF G pr k) k pl0∧goneF G pr (k + 1)=gn + 1):=fun h => ⟨partF_gone h,by rw [goneF_yes h,HGN.out]⟩
   have HST2:Hid (goesF G pr k=false→partF G pr (k + 1)=partF G pr k∧goneF G pr (k + 1)=gn):=fun h => ⟨partF_stays h,by rw [goneF_no h,HGN.out]⟩
   clear hx
   obtain ⟨u,⟨a,q,p,st,s⟩⟩:=x
   obtain ⟨c0',c1',c2',c3',c4',c5'⟩:=hcx
   have c0:wr.cell? ⟨gb,k * 6,none⟩=some (.bool u):=c0'
   have c1:wr.cell? ⟨gb,k * 6 + 1,none⟩=some (.int .i64 a):=c1'
   have c2:wr.cell? ⟨gb,k * 6 + 2,none⟩=some (.int .u64 (q:Int)):=c2'
   have c3:wr.cell? ⟨gb,k * 6 + 3,none⟩=some (.int .i64 p):=c3'
   have c4:wr.cell? ⟨gb,k * 6 + 4,none⟩=some (.bool st):=c4'
   have c5:wr.cell? ⟨gb,k * 6 + 5,none⟩=some (.int .u32 (s:Int)):=c5'
   clear c0' c1' c2' c3' c4' c5'
   have y0:wr.cell? ⟨b1,0,none⟩=some (.int .i64 fp):=((bcell HB.out).1 b1 0 (by omega)).trans h1'
   have y1:wr.cell? ⟨b1,1,none⟩=some (.int .i64 fv):=((bcell HB.out).1 b1 1 (by omega)).trans h2'
   have z0:∀ o,(wr.alloc o).cell? ⟨b1,0,none⟩=some (.int .i64 fp):=fun o => by rw [World.cell?_alloc_lt _ _ _ (by show b1 < _; omega)]; exact y0
   have z1:∀ o,(wr.alloc o).cell? ⟨b1,1,none⟩=some (.int .i64 fv):=fun o => by rw [World.cell?_alloc_lt _ _ _ (by show b1 < _; omega)]; exact y1
   clear k5 k7
   cases u
   ·go_wp2
    go_roundw
    case rel => exact ⟨k + 1,by omega,by go_num,by rw [(HST2.out (by rw [HGS.out]; rfl)).2],by rw [(HST2.out (by rw [HGS.out]; rfl)).1]; exact HRA _,HB.out.alloc (by omega) _⟩
    case measure => simp [intOf]; omega
   ·cases st
    ·go_wp2_with fail
     refine (bucket_Flush1 a q p false s fp fv b1 _ (by exact z0 _) (by exact z1 _) (by simp; omega)).mono ?_
     rw [← show pr ⟨a,q,p,false,s⟩=(hitE fp fv) ⟨a,q,p,false,s⟩ from by rw [HPR.out]]
     rintro e w2 ⟨rfl,hb⟩
     have HRW:=Lib.hid ((HRA _).out.below hb)
     have HB2:=Lib.hid ((HB.out.alloc hzw _).trans (hb.mono (by simp; omega)))
     have hz2:gb < w2.heap.size:=by have:=hb.size; simp at this; omega
     clear hb HRA
     obtain ⟨r,hr⟩:∃ r,r=pr ⟨a,q,p,false,s⟩:=⟨_,rfl⟩
     rw [← hr]
     have HRR:=Lib.hid hr.symm
     clear hr
     cases r
     ·go_wp2
      go_roundw
      case rel => exact ⟨k + 1,by omega,by go_num,by rw [(HST2.out (by rw [HGS.out]; show (true && !false && pr _)=false; rw [HRR.out]; rfl)).2],by rw [(HST2.out (by rw [HGS.out]; show (true && !false && pr _)=false; rw [HRR.out]; rfl)).1]; exact HRW.out,HB2.out⟩
      case measure => simp [intOf]; omega
     ·obtain ⟨gb2,cap3,hv3,_,_,k8,_,j5,j6,j9⟩:=HRW.out.open_ (by omega)
      injection hv3 with q1 q2 q3
      injection q1 with q1
      injection q1 with q1 _ _
      subst q1 q3
      obtain ⟨m0,m1,m2,m3,m4,m5⟩:=j5 k hlt
      rw [partF_at,HX.out] at m0 m1 m2 m3 m4 m5
      have n0:w2.cell? ⟨gb,k * 6,none⟩=some (.bool true):=m0
      have n1:w2.cell? ⟨gb,k * 6 + 1,none⟩=some (.int .i64 a):=m1
      have n2:w2.cell? ⟨gb,k * 6 + 2,none⟩=some (.int .u64 (q:Int)):=m2
      have n3:w2.cell? ⟨gb,k * 6 + 3,none⟩=some (.int .i64 p):=m3
      have n4:w2.cell? ⟨gb,k * 6 + 4,none⟩=some (.bool false):=m4
      have n5:w2.cell? ⟨gb,k * 6 + 5,none⟩=some (.int .u32 (s:Int)):=m5
      have HJ9:=Lib.hid (j9 k false 0 0 0 false 0)
      clear m0 m1 m2 m3 m4 m5 j5 j9 HRW
      go_wp2
      go_roundw
      case rel =>
       have hg:=HGO.out (by rw [HGS.out]; show (true && !false && pr _)=true; rw [HRR.out]; rfl)
       refine ⟨k + 1,by omega,by go_num,by rw [hg.2]; simp,?_,setP_below HB2.out k8 (k * 6) false 0 0 0 false 0⟩
       show RowOf _ _ _ _ _ _
       rw [hg.1]
       exact HJ9.out
      case measure => simp [intOf]; omega
    ·go_wp2
     go_roundw
     case rel => exact ⟨k + 1,by omega,by go_num,by rw [(HST2.out (by rw [HGS.out]; rfl)).2],by rw [(HST2.out (by rw [HGS.out]; rfl)).1]; exact HRA _,HB.out.alloc (by omega) _⟩
     case measure => simp [intOf]; omega
  ·have:k=n:=by omega
   subst this
   go_wp2
   go_ret2
   refine ⟨.slice A1 k c1,?_,HR.out.congr (partF_all G pr k),HB.out⟩
   rw [HGN.out]; rfl
set_option maxHeartbeats 1600000 in
theorem bucket_Age {f:Nat→Pl} {n:Nat} {y:Value} {w:World} {B:Nat} (hn:n≤1000000) (hv:PlRow w B y n f) (hB:B≤w.heap.size) (now lim:Nat) (hnow:now < 4294967296) (hst:∀ i,i < n→(f i).e.stamp < 4294967296) :
  Calls Try.prog 70 #[y,.int .u32 (now:Int),.int .u32 (lim:Int)] w (Gives 127 n (sweepF (fun i => ownP (f i)) (oldE now lim)) (fun u => .tuple #[u,.int .i64 (goneF (fun i => ownP (f i)) (oldE now lim) n:Nat)]) w):=by
 obtain ⟨w0,hw0⟩:∃ w0,w0=(w.alloc (.cells #[.int .u32 (now:Int)] 55)).alloc (.cells #[.int .u32 (lim:Int)] 55):=⟨_,rfl⟩
 have x1:w0.cell? ⟨w.heap.size,0,none⟩=some (.int .u32 (now:Int)):=by rw [hw0]; simp [go_sem]
 have x2:w0.cell? ⟨w.heap.size + 1,0,none⟩=some (.int .u32 (lim:Int)):=by rw [hw0]; simp [go_sem]
 have hz:w0.heap.size=w.heap.size + 2:=by rw [hw0]; simp
 have hB0:Below w.heap.size w w0:=by rw [hw0]; exact (by (repeat' (first | (with_reducible exact Below.refl _ _) | (with_reducible assumption) | (with_reducible refine Below.setCell ?_ ?_ _) | (with_reducible refine Below.alloc ?_ ?_ _) | (with_reducible refine below_drewN ?_ _) | (with_reducible refine Below.drew ?_) | go_size)))
 have HS:=Lib.hid (sweep_Age hn (hv.below (hB0.mono hB)) (by omega) now lim hnow w.heap.size (w.heap.size + 1) x1 x2 (by omega) (by omega) hst)
 have HB0:=Lib.hid hB0
 clear x1 x2 hB0 hv hst hnow hn
 generalize sweepF (fun i => ownP (f i)) (oldE now lim)=r at *
 generalize goneF (fun i => ownP (f i)) (oldE now lim) n=c at *
 go_enter Try.func70,Try.ntmps70
 go_wp2_with fail
 rw [← hw0]
 refine HS.out.mono ?_
 rintro e w1 ⟨v1,rfl,hrow,hb⟩
 have HR:=Lib.hid (hrow.base (show w.heap.size≤w0.heap.size by omega))
 have HB:=Lib.hid (HB0.out.trans (hb.mono (by omega)))
 clear hrow hb hw0 HS
 go_wp2
 go_ret2
 exact ⟨v1,rfl,HR.out,HB.out⟩
set_option maxHeartbeats 1600000 in
theorem bucket_Flush {f:Nat→Pl} {n:Nat} {y:Value} {w:World} {B:Nat} (hn:n≤1000000) (hv:PlRow w B y n f) (hB:B≤w.heap.size) (fp fv:Int) :
  Calls Try.prog 72 #[y,.agg #[.int .i64 fp,.int .i64 fv]] w (Gives 127 n (sweepF (fun i => ownP (f i)) (hitE fp fv)) (fun u => .tuple #[u,.int .i64 (goneF (fun i => ownP (f i)) (hitE fp fv) n:Nat)]) w):=by
 obtain ⟨w0,hw0⟩:∃ w0,w0=w.alloc (.cells #[.int .i64 fp,.int .i64 fv] 59):=⟨_,rfl⟩
 have x1:w0.cell? ⟨w.heap.size,0,none⟩=some (.int .i64 fp):=by rw [hw0]; simp [go_sem]
 have x2:w0.cell? ⟨w.heap.size,1,none⟩=some (.int .i64 fv):=by rw [hw0]; simp [go_sem]
 have hz:w0.heap.size=w.heap.size + 1:=by rw [hw0]; simp
 have hB0:Below w.heap.size w w0:=by rw [hw0]; exact (by (repeat' (first | (with_reducible exact Below.refl _ _) | (with_reducible assumption) | (with_reducible refine Below.setCell ?_ ?_ _) | (with_reducible refine Below.alloc ?_ ?_ _) | (with_reducible refine below_drewN ?_ _) | (with_reducible refine Below.drew ?_) | go_size)))
 have HS:=Lib.hid (sweep_Flush hn (hv.below (hB0.mono hB)) (by omega) fp fv w.heap.size x1 x2 (by omega))
 have HB0:=Lib.hid hB0
 clear x1 x2 hB0 hv hn
 generalize sweepF (fun i => ownP (f i)) (hitE fp fv)=r at *
 generalize goneF (fun i => ownP (f i)) (hitE fp fv) n=c at *
 go_enter Try.func72,Try.ntmps72
 go_wp2_with fail
 rw [← hw0]
 refine HS.out.mono ?_
 rintro e w1 ⟨v1,rfl,hrow,hb⟩
 have HR:=Lib.hid (hrow.base (show w.heap.size≤w0.heap.size by omega))
 have HB:=Lib.hid (HB0.out.trans (hb.mono (by omega)))
 clear hrow hb hw0 HS
 go_wp2
 go_ret2
 exact ⟨v1,rfl,HR.out,HB.out⟩
end Go.Proofs.Ythloabdfkakehaa
