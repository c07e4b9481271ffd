/-
  Words and contracts that a statement's proof rests on (SlotB, KeyC, SlotC, BuN, BuO, BkF, BkG, BkH, BkJ, BkK, MoS, MrU, BkT, MrN). No statement is proved here.
-/
import Derived.Deep.RegionHeld3
import Derived.Test.YtfekhdgjgjodlaaVlanH
import Derived.Test.YtfekhdgjgjodlaaKeyA
import Derived.Test.YtfekhdgjgjodlaaKeyB
import Derived.Test.YtfekhdgjgjodlaaBuF
import Derived.Test.YtfekhdgjgjodlaaBkE
import Derived.Test.YtfekhdgjgjodlaaPlainPt
import Derived.Test.YtfekhdgjgjodlaaMoU
import Derived.Test.YtfekhdgjgjodlaaBkI
import Derived.Test.YtfekhdgjgjodlaaSrA
set_option linter.unusedVariables false
set_option linter.unusedSimpArgs false
namespace Go.Proofs.Ytfekhdgjgjodlaa
section
open Go.RowKit
end
section
open Go.RowKit
set_option maxHeartbeats 400000 in
theorem law8_To (v m:Int) (w:World) :
  Calls Try.prog 18 #[.agg #[.int .i64 v,.int .u64 m]] w (Says (.agg #[.int .i64 v,.int .u64 m]) w):=by
 go_enter Try.func18,Try.ntmps18
 go_wp2
 exact bodyPost_ret (v:=.agg #[.int .i64 v,.int .u64 m]) (by simp [results,Try.results18,go_sem]) rfl ⟨rfl,(by (repeat' (first | (with_reducible exact Below.refl _ _) | (with_reducible assumption) | (with_reducible refine Below.setCell ?_ ?_ _) | (with_reducible refine Below.alloc ?_ ?_ _) | go_size)))⟩
end
section
open Go.RowKit
end
section
open Go.RowKit
end
section
open Go.RowKit
end
section
open Go.RowKit
end
section
open Go.RowKit
def R1:Nat→Pl:=(putF (fun _ => ownP pl0) ⟨1,2,3,false,5⟩ 5 1).1
def R2:Nat→Pl:=(putF (fun i => ownP (R1 i)) ⟨1,4,1,false,6⟩ 6 1).1
def g1:Nat→Nat→Pl:=updR (fun _ _ => pl0) 0 R1
def g2:Nat→Nat→Pl:=updR g1 0 R2
end
section
open Go.RowKit
set_option maxHeartbeats 800000 in
theorem law11_To (a b c:Int) (w:World) :
  Calls Try.prog 20 #[.agg #[.int .i64 a,.int .i64 b,.int .i64 c]] w (Says (.agg #[.int .i64 a,.int .i64 b,.int .i64 c]) w):=by
 go_enter Try.func20,Try.ntmps20
 go_wp2
 exact bodyPost_ret (v:=.agg #[.int .i64 a,.int .i64 b,.int .i64 c]) (by simp [results,Try.results20,go_sem]) rfl ⟨rfl,(by (repeat' (first | (with_reducible exact Below.refl _ _) | (with_reducible refine Below.setCell ?_ ?_ _) | (with_reducible refine Below.alloc ?_ ?_ _) | go_size)))⟩
end
section
open Go.RowKit
def flR (a b:Int) (f:Nat→Pl):Nat→Pl:=sweepF (fun i => ownP (f i)) (hitE a b)
def flN (a b:Int) (f:Nat→Pl) (n:Nat):Nat:=goneF (fun i => ownP (f i)) (hitE a b) n
def flC (a b:Int) (g:Nat→Nat→Pl) (n:Nat):Nat→Nat
 | 0 => 0
 | k + 1 => flC a b g n k + flN a b (g k) n
def flG (a b:Int) (g:Nat→Nat→Pl) (k j:Nat):Nat→Pl:=if j < k then flR a b (g j) else g j
theorem flC_le (a b:Int) (g:Nat→Nat→Pl) (n:Nat):∀ k,flC a b g n k≤k * n
 | 0 => by simp [flC]
 | k + 1 => by
  have h1:=flC_le a b g n k
  have h2:flN a b (g k) n≤n:=goneF_le _ _ n
  rw [flC,Nat.add_mul]
  omega
theorem BkAt.congr {w:World} {D:Nat→Prop} {p q S B n:Nat} {g g':Nat→Nat→Pl} (h:BkAt w D p q S B n g) (hg:∀ i,i < S * B→g i=g' i):BkAt w D p q S B n g':=by
 obtain ⟨h0,h1,h2,h3,h4,h5,h6,h9,h10⟩:=h
 refine ⟨h0,h1,h2,h3,h4,h5,h6,h9,fun i hi => ?_⟩
 obtain ⟨v,hv,hr⟩:=h10 i hi
 exact ⟨v,hv,by rw [← hg i hi]; exact hr⟩
theorem add_in {c d:Nat} (h:c + d≤1024):wrap64 ((c:Int) + (d:Int))=((c + d:Nat):Int)∧IntKind.i64.wrap ((c:Int) + (d:Int))=((c + d:Nat):Int):=by
 have e:(c:Int) + (d:Int)=((c + d:Nat):Int):=by simp
 rw [e]
 exact ⟨IntWalk.wrap64_in _ (by omega),IntWalk.i64_in _ (by omega)⟩
set_option maxRecDepth 20000 in
set_option maxHeartbeats 6400000 in
theorem book_Flush {w:World} {D:Nat→Prop} {p q S B n:Nat} {g:Nat→Nat→Pl} (h:BkAt w D p q S B n g) (hD:∀ b,D b→b < w.heap.size) (hq:D q) (hS:1≤S∧S≤8) (hB:1≤B∧B≤16) (hn:n≤8) (a b:Int) :
  Calls Try.prog 59 #[.pointer (some ⟨p,0,none⟩),.agg #[.int .i64 a,.int .i64 b]] w fun e w' =>
   e=.returned (.int .i64 (flC a b g n (S * B):Nat))∧BkAt w' D p q S B n (flG a b g (S * B))∧But q w w':=by
 obtain ⟨M,hM⟩:∃ M,M=S * B:=⟨_,rfl⟩
 have hMB:M≤128:=by rw [hM]; exact Nat.mul_le_mul hS.2 hB.2
 have HF:=Lib.hid fun f w u (hr:PlRow w w.heap.size u n f) => bucket_Flush (show n≤1000000 by omega) hr (Nat.le_refl _) a b
 change Hid (∀ f w u (hr:PlRow w w.heap.size u n f),Calls Try.prog 75 #[u,.agg #[.int .i64 a,.int .i64 b]] w (Gives 140 n (flR a b f) (fun u => .tuple #[u,.int .i64 (flN a b f n:Nat)]) w)) at HF
 have HBK:=Lib.hid h
 have HM:=Lib.hid hM
 have HD:=Lib.hid hD
 have HLE:=Lib.hid fun k => flC_le a b g n k
 obtain ⟨hp,hq0,hpq,_,_,_,⟨cap,c1,c2,s2⟩,_,_⟩:=h
 rw [← hM] at c1 s2
 unfold maxLen at c2
 have k3:∀ o,(w.alloc o).cell? ⟨p,3,none⟩=some (.slice (some ⟨q,0,none⟩) M cap):=fun o => (World.cell?_alloc_lt _ _ _ (by show p < _; omega)).trans s2
 rw [← hM]
 have HK3:=Lib.hid k3
 clear hM hD s2
 go_enter Try.func59,Try.ntmps59
 go_wp2
 clear k3
 go_loopw [5,17] (fun gone i wr => ∃ k:Nat,k≤M∧i=.int .i64 k∧gone=.int .i64 (flC a b g n k:Nat)∧Hid (BkAt wr D p q S B n (flG a b g k))∧Hid (But q w wr)∧Hid (wr.cell? ⟨w.heap.size,0,none⟩=some (.int .i64 a)∧wr.cell? ⟨w.heap.size,1,none⟩=some (.int .i64 b)∧wr.cell? ⟨p,3,none⟩=some (.slice (some ⟨q,0,none⟩) M cap)∧w.heap.size < wr.heap.size)) (fun _ i _ => M - (intOf i).toNat)
 case atStart => exact ⟨0,by omega,rfl,rfl,(HBK.out.call ((Below.refl _ _).alloc (Nat.le_refl _) _)).congr fun i _ => by unfold flG; rw [if_neg (by omega)],But.of ((Below.refl _ _).alloc (Nat.le_refl _) _) (by omega),by simp [go_sem],by simp [go_sem],HK3.out _,by simp⟩
 case round =>
  obtain ⟨k,hk,rfl,rfl,HBW,HBT,HX⟩:=hrel
  obtain ⟨x0,x1,x3,xz⟩:=HX.out
  by_cases hlt:k < M
  ·have g0:(0:Int)≤(k:Int):=Int.natCast_nonneg _
   have g1:(k:Int) < (M:Int):=by omega
   obtain ⟨hp',hq',_,_,_,_,_,hfz,hrows⟩:=HBW.out
   obtain ⟨v0,s3,hrow⟩:=hrows k (by rw [← HM.out]; exact hlt)
   have hgk:flG a b g k k=g k:=by unfold flG; rw [if_neg (by omega)]
   rw [hgk] at hrow
   have hle:=HLE.out k
   have hle2:=HLE.out (k + 1)
   have hkn:(k + 1) * n≤1024:=by
    have:(k + 1) * n≤128 * 8:=Nat.mul_le_mul (by omega) hn
    omega
   have hc1:flC a b g n (k + 1)=flC a b g n k + flN a b (g k) n:=rfl
   have HROW:=Lib.hid hrow.row
   have HNXG:Hid (∀ i,updR (flG a b g k) k (flR a b (g k)) i=flG a b g (k + 1) i):=fun i => by
    unfold updR flG
    by_cases h1:i=k
    ·subst h1; rw [if_pos rfl,if_pos (by omega)]
    ·rw [if_neg h1]
     by_cases h2:i < k
     ·rw [if_pos h2,if_pos (by omega)]
     ·rw [if_neg h2,if_neg (by omega)]
   have HFK:=Lib.hid (HF.out (g k))
   obtain ⟨c,hc⟩:∃ c,c=flC a b g n k:=⟨_,rfl⟩
   obtain ⟨c',hc'⟩:∃ c',c'=flN a b (g k) n:=⟨_,rfl⟩
   rw [← hc,← hc'] at hc1
   rw [← hc'] at HFK
   rw [← hc]
   have HC1:=Lib.hid hc1
   have hsum:c + c'≤1024:=by omega
   obtain ⟨hadd,hadd3⟩:=add_in hsum
   clear hrow hrows hgk hle hle2 hkn hc1 hc hc'
   go_wp2_with fail
   refine Calls.mono (HFK.out _ _ HROW.out) ?_
   intro e w4 hpost
   obtain ⟨va,he,hra,hb⟩:=hpost
   subst he
   have HRA:=Lib.hid hra
   obtain ⟨Av,cv,hva,_⟩:=hra
   subst hva
   have HBK4:=Lib.hid (HBW.out.call hb)
   have s4:=(hb.cell (p:=⟨q,k,none⟩) hq').trans s3
   have f4:∀ o,w4.frozen? ⟨q,o,none⟩=false:=HBK4.out.2.2.2.2.2.2.2.1
   have y0:=(hb.cell (p:=⟨w.heap.size,0,none⟩) xz).trans x0
   have y1:=(hb.cell (p:=⟨w.heap.size,1,none⟩) xz).trans x1
   have y3:=(hb.cell (p:=⟨p,3,none⟩) hp').trans x3
   have hz4:=hb.size
   have HBT4:Hid (But q w w4):=HBT.out.trans (But.of hb (by omega))
   have hwr:=HBT.out.below.size
   have HST:Hid (∀ v,But q w4 (w4.setCell ⟨q,k,none⟩ v)):=fun v => But.set k v
   have HPUT:Hid (BkAt (w4.setCell ⟨q,k,none⟩ (.slice Av n cv)) D p q S B n (flG a b g (k + 1))) :=
    (HBK4.out.put (by rw [← HM.out]; exact hlt) (PlRowD.of_own HRA.out fun b hb => by have:=HD.out b hb; omega) hq).congr fun i _ => HNXG.out i
   clear hb HRA HROW HFK s3 x0 x1 x3 HNXG HBW HBT
   go_wp2
   go_roundw
   case rel =>
    refine ⟨k + 1,by omega,by go_num,(by rw [HC1.out]; first | rfl | (simp; done)),HPUT,HBT4.out.trans (HST.out _),?_⟩
    exact ⟨((HST.out _).cell (show w.heap.size < _ by omega) (show w.heap.size ≠ q by omega)).trans y0,((HST.out _).cell (show w.heap.size < _ by omega) (show w.heap.size ≠ q by omega)).trans y1,((HST.out _).cell (show p < _ by omega) hpq).trans y3,by rw [World.size_setCell]; omega⟩
   case measure => simp [intOf]; omega
  ·have hkM:M=k:=by omega
   subst hkM
   go_wp2
   go_ret
   exact ⟨rfl,HBW.out,HBT.out⟩
end
section
open Go.RowKit
def doG (K:Nat) (v:Int) (m:Nat) (port vid:Int) (now old:Nat) (S B n:Nat) (g:Nat→Nat→Pl):(Nat→Nat→Pl) × Int :=
 if K=0 then (g,portF (g (homeN v m S B)) v m n)
 else if K=3 then (updR g (homeN v m S B) (putF (fun i => ownP (g (homeN v m S B) i)) ⟨v,m,port,true,0⟩ now n).1,((putF (fun i => ownP (g (homeN v m S B) i)) ⟨v,m,port,true,0⟩ now n).2:Nat))
 else if K=4 then (updR g (homeN v m S B) (dropF (fun i => ownP (g (homeN v m S B) i)) v m n).1,if (dropF (fun i => ownP (g (homeN v m S B) i)) v m n).2=true then 1 else 0)
 else if K=5 then (if atI S B port vid < 0 then (g,0) else (updR g (atI S B port vid).toNat (ageR g (atI S B port vid).toNat now old),(ageC g (atI S B port vid).toNat now old n:Nat)))
 else if K=6 then (flG port vid g (S * B),(flC port vid g n (S * B):Nat))
 else (updR g (homeN v m S B) (putF (fun i => ownP (g (homeN v m S B) i)) ⟨v,m,port,false,now⟩ now n).1,((putF (fun i => ownP (g (homeN v m S B) i)) ⟨v,m,port,false,now⟩ now n).2:Nat))
def stG (g:Nat→Nat→Pl):Prop:=∀ i j,(g i j).e.stamp < 4294967296
theorem own_st {f:Nat→Pl} (h:∀ j,(f j).e.stamp < 4294967296) (j:Nat):(ownP (f j)).e.stamp < 4294967296:=by
 unfold ownP
 split
 ·exact h j
 ·show (0:Nat) < _; omega
theorem updP_st {f:Nat→Pl} {x:Pl} (h:∀ j,(f j).e.stamp < 4294967296) (hx:x.e.stamp < 4294967296) (k j:Nat):(updP f k x j).e.stamp < 4294967296:=by
 unfold updP
 split
 ·exact hx
 ·exact h j
theorem put_st {f:Nat→Pl} {e:En} {now n:Nat} (h:∀ j,(f j).e.stamp < 4294967296) (he:e.stamp < 4294967296) (j:Nat):((putF f e now n).1 j).e.stamp < 4294967296:=by
 unfold putF
 split
 ·exact h j
 ·split
  ·split
   ·exact h j
   ·exact updP_st h he _ j
  ·split
   ·exact h j
   ·exact updP_st h he _ j
theorem drop_st {f:Nat→Pl} {v:Int} {m n:Nat} (h:∀ j,(f j).e.stamp < 4294967296) (j:Nat):((dropF f v m n).1 j).e.stamp < 4294967296:=by
 unfold dropF
 split
 ·exact h j
 ·split
  ·exact updP_st h (by show (0:Nat) < _; omega) _ j
  ·exact h j
theorem sweep_st {f:Nat→Pl} {c:En→Bool} (h:∀ j,(f j).e.stamp < 4294967296) (j:Nat):(sweepF f c j).e.stamp < 4294967296:=by
 unfold sweepF
 split
 ·show (0:Nat) < _; omega
 ·exact h j
theorem updR_st {g:Nat→Nat→Pl} {f:Nat→Pl} (h:stG g) (hf:∀ j,(f j).e.stamp < 4294967296) (k:Nat):stG (updR g k f):=by
 intro i j
 unfold updR
 split
 ·exact hf j
 ·exact h i j
theorem doG_st (K:Nat) (v:Int) (m:Nat) (port vid:Int) (now old:Nat) (S B n:Nat) (g:Nat→Nat→Pl) (h:stG g) (hnow:now < 4294967296):stG (doG K v m port vid now old S B n g).1:=by
 unfold doG
 split
 ·exact h
 ·split
  ·exact updR_st h (put_st (own_st (h _)) (by show (0:Nat) < _; omega)) _
  ·split
   ·exact updR_st h (drop_st (own_st (h _))) _
   ·split
    ·split
     ·exact h
     ·exact updR_st h (sweep_st (own_st (h _))) _
    ·split
     ·intro i j
      show (flG port vid g (S * B) i j).e.stamp < 4294967296
      unfold flG
      split
      ·exact sweep_st (own_st (h _)) j
      ·exact h i j
     ·exact updR_st h (put_st (own_st (h _)) hnow) _
end
section
open Go.RowKit
set_option maxHeartbeats 1600000 in
theorem ref11_Fix (a b c:Int) (S B n:Nat) (h1:wrap64 (1 + wrap64 ((IntKind.u64.wrap a).tmod ((8:Nat):Int)))=(S:Int)) (h2:wrap64 (1 + wrap64 ((IntKind.u64.wrap b).tmod ((16:Nat):Int)))=(B:Int)) (h3:wrap64 (1 + wrap64 ((IntKind.u64.wrap c).tmod ((8:Nat):Int)))=(n:Int)) (w:World) :
  Calls Try.prog 21 #[.agg #[.int .i64 a,.int .i64 b,.int .i64 c]] w (Says (.agg #[.int .i64 (S:Nat),.int .i64 (B:Nat),.int .i64 (n:Nat)]) w):=by
 rw [show ((8:Nat):Int)=8 from rfl] at h1 h3
 rw [show ((16:Nat):Int)=16 from rfl] at h2
 go_enter Try.func21,Try.ntmps21
 go_wp2
 exact bodyPost_ret (v:=.agg #[.int .i64 (S:Nat),.int .i64 (B:Nat),.int .i64 (n:Nat)]) (by simp [results,Try.results21,go_sem]) rfl ⟨rfl,(by (repeat' (first | (with_reducible exact Below.refl _ _) | (with_reducible refine Below.setCell ?_ ?_ _) | (with_reducible refine Below.alloc ?_ ?_ _) | go_size)))⟩
end
section
open Go.RowKit
section
variable {E E':Nat→Prop} {w w1 w':World} {L A S1 Q bp bq P r S B n nv cQ:Nat} {X:Nat→Value} {uv:Value} {lv:List Vl} {st:Nat→Int × Nat} {g:Nat→Nat→Pl} {G:Nat→Value} {R:Nat→Nat} {qv:Nat→Nat→Value} {qs:Nat→Nat→List Int}
end
end
section
open Go.RowKit
end
section
open Go.RowKit
theorem own_rowIs {w:World} {base n:Nat} {T:TypeId} {v:Value} {xs:List Value} (h:w.ownsRow base T 1 v n xs) (hn:0 < n) :
  ∃ (b cap:Nat) (F:Nat→Value),v=.slice (some ⟨b,0,none⟩) n cap∧n≤cap∧base≤b∧w.rowIs b T cap F∧∀ i,i < n→xs[i]?=some (F i):=by
 rcases h.2 with hn' | ⟨b,cap,cur,hv,hb,hh,hnc,hcm,hcs,ht⟩
 ·obtain ⟨hv,hx⟩:=hn'
  have h1:=h.1
  rw [hx] at h1
  simp at h1
  omega
 ·subst hv
  have hr:w.rowIs b T cap (fun i => (cur[i]?).getD (.bool false)):=⟨cur,hh,by simpa using hcs,fun i hi => by
   have hlt:i < cur.size:=by rw [hcs]; omega
   show cur[i]?=some ((cur[i]?).getD (.bool false))
   rw [Array.getElem?_eq_getElem hlt]
   rfl⟩
  refine ⟨b,cap,_,rfl,hnc,hb,hr,fun i hi => ?_⟩
  have h1:=h.cellAt i (by omega)
  rw [← h1]
  exact hr.cell (by omega)
theorem BkAt.grow {w w':World} {D:Nat→Prop} {p q S B n:Nat} {g:Nat→Nat→Pl} (h:BkAt w D p q S B n g) (hb:Below w.heap.size w w'):BkAt w' (fun b => D b ∨ (w.heap.size≤b∧b < w'.heap.size)) p q S B n g:=by
 have hbq:=h.2.1
 obtain ⟨k0,k1,k2,k3,k4,k5,k6,k9,k10⟩:=h.call hb
 obtain ⟨_,_,_,_,_,_,_,_,m10⟩:=h
 refine ⟨k0,k1,k2,k3,k4,k5,k6,k9,fun a ha => ?_⟩
 obtain ⟨v0,hv0,hrow0⟩:=m10 a ha
 obtain ⟨v,hv,Ax,cap,e1,e2,e3,e4⟩:=k10 a ha
 refine ⟨v,hv,Ax,cap,e1,e2,e3,fun hn => ?_⟩
 obtain ⟨b,off,f1,f2,f3,f4⟩:=e4 hn
 refine ⟨b,off,f1,f2,fun hd => ?_,f4⟩
 rcases hd with hd | hd
 ·exact f3 hd
 ·obtain ⟨Ay,cay,y1,y2,y3,y4⟩:=hrow0
  obtain ⟨b',off',z1,z2,z3,z4⟩:=y4 hn
  have hq0:w'.cell? ⟨q,a,none⟩=w.cell? ⟨q,a,none⟩:=hb.cell hbq
  rw [hq0,hv0] at hv
  injection hv with hv
  rw [y1,e1] at hv
  injection hv with hv
  rw [z1,f1] at hv
  injection hv with hv
  injection hv with hv
  omega
section
variable {w w1 w':World} {L A S1 Q cQ:Nat} {X:Nat→Value} {bp bq P r S B n nv H0:Nat} {uv:Value} {lv:List Vl} {st:Nat→Int × Nat} {G:Nat→Value} {R:Nat→Nat}
end
end
end Go.Proofs.Ytfekhdgjgjodlaa
