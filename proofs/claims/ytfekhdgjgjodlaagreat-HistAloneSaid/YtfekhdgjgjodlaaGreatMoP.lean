/-
  Words and contracts that a statement's proof rests on (BkI, BkJ, BkK, SrJ, MoP). No statement is proved here.
-/
import Derived.Deep.RegionHeld3
import Derived.Test.YtfekhdgjgjodlaaGreatBkC
import Derived.Test.YtfekhdgjgjodlaaGreatMoD
import Derived.Test.YtfekhdgjgjodlaaGreatBkE
import Derived.Test.YtfekhdgjgjodlaaGreatMoR
import Derived.Test.YtfekhdgjgjodlaaGreatSrA
import Derived.Test.YtfekhdgjgjodlaaGreatSrF
set_option linter.unusedVariables false
set_option linter.unusedSimpArgs false
namespace Go.Proofs.YtfekhdgjgjodlaaGreat
section
open Go.RowKit
set_option maxRecDepth 20000 in
set_option maxHeartbeats 6400000 in
theorem book_Order {w:World} {D:Nat→Prop} {p q S B n:Nat} {g:Nat→Nat→Pl} (h:BkAt w D p q S B n g) (hD:∀ b,D b→b < w.heap.size) (hq:D q) (hS:1≤S∧S≤8) (hB:1≤B∧B≤16) (hn:n≤1000000) (hst:∀ i,i < S * B→∀ j,j < n→(g i j).e.stamp < 4294967296)
  (v:Int) (m:Nat) (hm:m < 18446744073709551616) (port:Int) (now:Nat) (hnow:now < 4294967296) :
  Calls Tryz.prog 85 #[.pointer (some ⟨p,0,none⟩),.agg #[.int .i64 v,.int .u64 (m:Int)],.int .i64 port,.int .u32 (now:Int)] w fun e w' =>
   e=.returned (.int .i64 ((putF (fun i => ownP (g (homeN v m S B) i)) ⟨v,m,port,true,0⟩ now n).2:Nat))∧BkAt w' D p q S B n (updR g (homeN v m S B) (putF (fun i => ownP (g (homeN v m S B) i)) ⟨v,m,port,true,0⟩ now n).1)∧But q w w':=by
 obtain ⟨M,hM⟩:∃ M,M=S * B:=⟨_,rfl⟩
 obtain ⟨H,hH⟩:∃ H,H=homeN v m S B:=⟨_,rfl⟩
 have hhome:=home_in (v:=v) (m:=m) hS.1 hB.1
 rw [← hH,← hM] at hhome
 obtain ⟨hh1,hh2⟩:=hhome
 have hMB:M≤128:=by rw [hM]; exact Nat.mul_le_mul hS.2 hB.2
 have hhm:=fun w' (hb:Below w.heap.size w w') => book_home ((SizeOf.of h).call hb) (by omega) (by omega) (by omega) v m hm
 rw [hh1] at hhm
 have HHM:=Lib.hid hhm
 have HBK:=Lib.hid h
 have HM:=Lib.hid hM
 clear hhm hh1 hM
 have HL:=Lib.hid fun w u (hr:PlRow w w.heap.size u n (g H)) => bucket_Order hn hr (Nat.le_refl _) (hst H (by rw [← HM.out]; exact hh2)) v m hm port now hnow
 rw [← hH]
 generalize (putF (fun i => ownP (g H i)) ⟨v,m,port,true,0⟩ now n)=r at *
 obtain ⟨r1,r2⟩:=r
 simp only at HL ⊢
 have HD:=Lib.hid hD
 clear hst hn hm hnow hH hD h
 go_enter Tryz.func85,Tryz.ntmps85
 go_wp2_with fail
 refine (HHM.out _ ((Below.refl _ _).alloc (Nat.le_refl _) _)).mono ?_
 rintro e w2 ⟨rfl,hb⟩
 have HB2:Hid (Below w.heap.size w w2):=Below.trans ((Below.refl _ _).alloc (Nat.le_refl _) _) (hb.mono (by simp))
 have s0:w2.cell? ⟨w.heap.size,0,none⟩=some (.int .i64 v):=by rw [(bcell hb).1 _ _ (by simp)]; simp [go_sem]
 have s1:w2.cell? ⟨w.heap.size,1,none⟩=some (.int .u64 (m:Int)):=by rw [(bcell hb).1 _ _ (by simp)]; simp [go_sem]
 have hz2:w.heap.size + 1≤w2.heap.size:=by have:=hb.size; simpa using this
 have HBK2:=Lib.hid (HBK.out.call HB2.out)
 clear hb HHM
 obtain ⟨hp,hq0,hpq,_,_,_,⟨cap,c1,c2,s2⟩,hfz,hrows⟩:=HBK2.out
 have hpw:p < w.heap.size:=HBK.out.1
 have hqw:q < w.heap.size:=HBK.out.2.1
 rw [← HM.out] at c1 s2 hrows
 obtain ⟨v0,s3,hrow⟩:=hrows H hh2
 unfold maxLen at c2
 have g0:(0:Int)≤(H:Int):=Int.natCast_nonneg _
 have g1:(H:Int) < (M:Int):=by omega
 have g2:(H:Int) ≥ 0:=g0
 have HROW:=Lib.hid hrow.row
 clear hrow hrows
 go_wp2_with fail
 refine wp_region_held_drew (S:=fun w' => w'.cell? ⟨p,3,none⟩=some (.slice (some ⟨q,0,none⟩) M cap)∧w'.cell? ⟨w.heap.size,0,none⟩=some (.int .i64 v)∧w'.cell? ⟨w.heap.size,1,none⟩=some (.int .u64 (m:Int))) (by kernel_rfl) ?_ (fun hHeld => ?_)
 ·exact ⟨s2,s0,s1⟩
 refine tkR 0 rfl ?_
 refine tkR 1 rfl ?_
 refine tkR 2 rfl ?_
 refine tkR 3 rfl ?_
 refine tkR 4 rfl ?_
 refine tkR 5 rfl ?_
 refine tkR 6 rfl ?_
 refine tkR 7 rfl ?_
 refine tkR 8 rfl ?_
 refine tkR 9 rfl ?_
 refine tkR 10 rfl ?_
 refine tkR 12 rfl ?_
 refine tkR 13 rfl ?_
 refine tkR 14 rfl ?_
 refine clR 11 rfl fun K hK => ?_
 go_simp
 refine hK.out _ _ ?_ (fun hHeld => ?_)
 ·(try dsimp only)
  exact hHeld
 clear hK K
 (try simp only [Act.put,sqA,sqB,sqC])
 refine clR 15 rfl fun K hK => ?_
 go_simp
 refine Calls.mono (HL.out _ _ (HROW.out.below (by (repeat' (first | (with_reducible exact Below.refl _ _) | (with_reducible assumption) | (with_reducible refine Below.setCell ?_ ?_ _) | (with_reducible refine Below.alloc ?_ ?_ _) | (with_reducible refine below_drewN ?_ _) | (with_reducible refine Below.drew ?_) | go_size))))) ?_
 intro e w4 hpost
 obtain ⟨va,he,hra,hb⟩:=hpost
 subst he
 have HRA:=Lib.hid hra
 obtain ⟨Av,cv,hva,_⟩:=hra
 subst hva
 have hbd:Below w2.heap.size w2 w4:=((Below.refl w2.heap.size w2).drew).trans hb
 have HBK4:=Lib.hid (HBK2.out.call hbd)
 have s4:=(hbd.cell (p:=⟨q,H,none⟩) hq0).trans s3
 have f4:∀ o,w4.frozen? ⟨q,o,none⟩=false:=HBK4.out.2.2.2.2.2.2.2.1
 have hz4:=hbd.size
 refine hK.out _ _ ?_ (fun hHeld => ?_)
 ·(try dsimp only)
  obtain ⟨q0,q1,q2⟩:=hHeld
  exact ⟨(hb.cell (p:=⟨p,_,none⟩) (by show p < w2.heap.size; omega)).trans q0,(hb.cell (p:=⟨w.heap.size,_,none⟩) (by show w.heap.size < w2.heap.size; omega)).trans q1,(hb.cell (p:=⟨w.heap.size,_,none⟩) (by show w.heap.size < w2.heap.size; omega)).trans q2⟩
 clear hK K
 refine tkR 16 rfl ?_
 refine tkR 17 rfl ?_
 refine tkR 18 rfl ?_
 refine tkR 19 rfl ?_
 refine clR 20 rfl fun K hK => ?_
 go_simp
 refine hK.out _ _ ?_ (fun hHeld => ?_)
 ·(try dsimp only)
  obtain ⟨q0,q1,q2⟩:=hHeld
  exact ⟨((But.set H _).cell (show p < w4.heap.size by omega) (show p ≠ q by omega)).trans q0,((But.set H _).cell (show w.heap.size < w4.heap.size by omega) (show w.heap.size ≠ q by omega)).trans q1,((But.set H _).cell (show w.heap.size < w4.heap.size by omega) (show w.heap.size ≠ q by omega)).trans q2⟩
 clear hK K
 refine tkR 21 rfl ?_
 refine wpAnyH_done (by kernel_rfl) ?_ _
 go_wp2
 go_ret
 refine ⟨by first | rfl | (simp; done),?_,?_⟩
 ·exact HBK4.out.put (by rw [← HM.out]; exact hh2) (PlRowD.of_own HRA.out fun b hb => by have:=HD.out b hb; show b < w2.heap.size; omega) hq
 ·exact ((But.of HB2.out (by omega)).trans (But.of hbd (by omega))).trans (But.set H _)
set_option maxRecDepth 20000 in
set_option maxHeartbeats 6400000 in
theorem book_Drop {w:World} {D:Nat→Prop} {p q S B n:Nat} {g:Nat→Nat→Pl} (h:BkAt w D p q S B n g) (hD:∀ b,D b→b < w.heap.size) (hq:D q) (hS:1≤S∧S≤8) (hB:1≤B∧B≤16) (hn:n≤1000000) 
  (v:Int) (m:Nat) (hm:m < 18446744073709551616) :
  Calls Tryz.prog 87 #[.pointer (some ⟨p,0,none⟩),.agg #[.int .i64 v,.int .u64 (m:Int)]] w fun e w' =>
   e=.returned (.bool (dropF (fun i => ownP (g (homeN v m S B) i)) v m n).2)∧BkAt w' D p q S B n (updR g (homeN v m S B) (dropF (fun i => ownP (g (homeN v m S B) i)) v m n).1)∧But q w w':=by
 obtain ⟨M,hM⟩:∃ M,M=S * B:=⟨_,rfl⟩
 obtain ⟨H,hH⟩:∃ H,H=homeN v m S B:=⟨_,rfl⟩
 have hhome:=home_in (v:=v) (m:=m) hS.1 hB.1
 rw [← hH,← hM] at hhome
 obtain ⟨hh1,hh2⟩:=hhome
 have hMB:M≤128:=by rw [hM]; exact Nat.mul_le_mul hS.2 hB.2
 have hhm:=fun w' (hb:Below w.heap.size w w') => book_home ((SizeOf.of h).call hb) (by omega) (by omega) (by omega) v m hm
 rw [hh1] at hhm
 have HHM:=Lib.hid hhm
 have HBK:=Lib.hid h
 have HM:=Lib.hid hM
 clear hhm hh1 hM
 have HL:=Lib.hid fun w u (hr:PlRow w w.heap.size u n (g H)) => bucket_Drop hn hr (Nat.le_refl _) v m
 rw [← hH]
 generalize (dropF (fun i => ownP (g H i)) v m n)=r at *
 obtain ⟨r1,r2⟩:=r
 simp only at HL ⊢
 have HD:=Lib.hid hD
 clear hn hm hH hD h
 go_enter Tryz.func87,Tryz.ntmps87
 go_wp2_with fail
 refine (HHM.out _ ((Below.refl _ _).alloc (Nat.le_refl _) _)).mono ?_
 rintro e w2 ⟨rfl,hb⟩
 have HB2:Hid (Below w.heap.size w w2):=Below.trans ((Below.refl _ _).alloc (Nat.le_refl _) _) (hb.mono (by simp))
 have s0:w2.cell? ⟨w.heap.size,0,none⟩=some (.int .i64 v):=by rw [(bcell hb).1 _ _ (by simp)]; simp [go_sem]
 have s1:w2.cell? ⟨w.heap.size,1,none⟩=some (.int .u64 (m:Int)):=by rw [(bcell hb).1 _ _ (by simp)]; simp [go_sem]
 have hz2:w.heap.size + 1≤w2.heap.size:=by have:=hb.size; simpa using this
 have HBK2:=Lib.hid (HBK.out.call HB2.out)
 clear hb HHM
 obtain ⟨hp,hq0,hpq,_,_,_,⟨cap,c1,c2,s2⟩,hfz,hrows⟩:=HBK2.out
 have hpw:p < w.heap.size:=HBK.out.1
 have hqw:q < w.heap.size:=HBK.out.2.1
 rw [← HM.out] at c1 s2 hrows
 obtain ⟨v0,s3,hrow⟩:=hrows H hh2
 unfold maxLen at c2
 have g0:(0:Int)≤(H:Int):=Int.natCast_nonneg _
 have g1:(H:Int) < (M:Int):=by omega
 have g2:(H:Int) ≥ 0:=g0
 have HROW:=Lib.hid hrow.row
 clear hrow hrows
 go_wp2_with fail
 refine wp_region_held_drew (S:=fun w' => w'.cell? ⟨p,3,none⟩=some (.slice (some ⟨q,0,none⟩) M cap)∧w'.cell? ⟨w.heap.size,0,none⟩=some (.int .i64 v)∧w'.cell? ⟨w.heap.size,1,none⟩=some (.int .u64 (m:Int))) (by kernel_rfl) ?_ (fun hHeld => ?_)
 ·exact ⟨s2,s0,s1⟩
 refine tkR 0 rfl ?_
 refine tkR 1 rfl ?_
 refine tkR 2 rfl ?_
 refine tkR 3 rfl ?_
 refine tkR 4 rfl ?_
 refine tkR 5 rfl ?_
 refine tkR 6 rfl ?_
 refine tkR 7 rfl ?_
 refine tkR 8 rfl ?_
 refine tkR 9 rfl ?_
 refine tkR 10 rfl ?_
 refine tkR 12 rfl ?_
 refine clR 11 rfl fun K hK => ?_
 go_simp
 refine hK.out _ _ ?_ (fun hHeld => ?_)
 ·(try dsimp only)
  exact hHeld
 clear hK K
 (try simp only [Act.put,sqA,sqB,sqC])
 refine clR 13 rfl fun K hK => ?_
 go_simp
 refine Calls.mono (HL.out _ _ (HROW.out.below (by (repeat' (first | (with_reducible exact Below.refl _ _) | (with_reducible assumption) | (with_reducible refine Below.setCell ?_ ?_ _) | (with_reducible refine Below.alloc ?_ ?_ _) | (with_reducible refine below_drewN ?_ _) | (with_reducible refine Below.drew ?_) | go_size))))) ?_
 intro e w4 hpost
 obtain ⟨va,he,hra,hb⟩:=hpost
 subst he
 have HRA:=Lib.hid hra
 obtain ⟨Av,cv,hva,_⟩:=hra
 subst hva
 have hbd:Below w2.heap.size w2 w4:=((Below.refl w2.heap.size w2).drew).trans hb
 have HBK4:=Lib.hid (HBK2.out.call hbd)
 have s4:=(hbd.cell (p:=⟨q,H,none⟩) hq0).trans s3
 have f4:∀ o,w4.frozen? ⟨q,o,none⟩=false:=HBK4.out.2.2.2.2.2.2.2.1
 have hz4:=hbd.size
 refine hK.out _ _ ?_ (fun hHeld => ?_)
 ·(try dsimp only)
  obtain ⟨q0,q1,q2⟩:=hHeld
  exact ⟨(hb.cell (p:=⟨p,_,none⟩) (by show p < w2.heap.size; omega)).trans q0,(hb.cell (p:=⟨w.heap.size,_,none⟩) (by show w.heap.size < w2.heap.size; omega)).trans q1,(hb.cell (p:=⟨w.heap.size,_,none⟩) (by show w.heap.size < w2.heap.size; omega)).trans q2⟩
 clear hK K
 refine tkR 14 rfl ?_
 refine tkR 15 rfl ?_
 refine tkR 16 rfl ?_
 refine tkR 17 rfl ?_
 refine clR 18 rfl fun K hK => ?_
 go_simp
 refine hK.out _ _ ?_ (fun hHeld => ?_)
 ·(try dsimp only)
  obtain ⟨q0,q1,q2⟩:=hHeld
  exact ⟨((But.set H _).cell (show p < w4.heap.size by omega) (show p ≠ q by omega)).trans q0,((But.set H _).cell (show w.heap.size < w4.heap.size by omega) (show w.heap.size ≠ q by omega)).trans q1,((But.set H _).cell (show w.heap.size < w4.heap.size by omega) (show w.heap.size ≠ q by omega)).trans q2⟩
 clear hK K
 refine tkR 19 rfl ?_
 refine wpAnyH_done (by kernel_rfl) ?_ _
 go_wp2
 go_ret
 refine ⟨by first | rfl | (simp; done),?_,?_⟩
 ·exact HBK4.out.put (by rw [← HM.out]; exact hh2) (PlRowD.of_own HRA.out fun b hb => by have:=HD.out b hb; show b < w2.heap.size; omega) hq
 ·exact ((But.of HB2.out (by omega)).trans (But.of hbd (by omega))).trans (But.set H _)
def ageR (g:Nat→Nat→Pl) (H now lim:Nat):Nat→Pl:=sweepF (fun i => ownP (g H i)) (oldE now lim)
def ageC (g:Nat→Nat→Pl) (H now lim n:Nat):Nat:=goneF (fun i => ownP (g H i)) (oldE now lim) n
set_option maxRecDepth 20000 in
set_option maxHeartbeats 6400000 in
theorem book_Age {w:World} {D:Nat→Prop} {p q S B n:Nat} {g:Nat→Nat→Pl} (h:BkAt w D p q S B n g) (hD:∀ b,D b→b < w.heap.size) (hq:D q) (hS:1≤S∧S≤8) (hB:1≤B∧B≤16) (hn:n≤1000000) (hst:∀ i,i < S * B→∀ j,j < n→(g i j).e.stamp < 4294967296)
  (s t:Int) (now lim:Nat) (hnow:now < 4294967296) (H:Nat) (hh2:H < S * B) (ha:atI S B s t=(H:Int)) :
  Calls Tryz.prog 88 #[.pointer (some ⟨p,0,none⟩),.int .i64 s,.int .i64 t,.int .u32 (now:Int),.int .u32 (lim:Int)] w fun e w' =>
   e=.returned (.int .i64 (ageC g H now lim n:Nat))∧BkAt w' D p q S B n (updR g H (ageR g H now lim))∧But q w w':=by
 obtain ⟨M,hM⟩:∃ M,M=S * B:=⟨_,rfl⟩
 rw [← hM] at hh2
 have hMB:M≤128:=by rw [hM]; exact Nat.mul_le_mul hS.2 hB.2
 have hhm:=fun w' (hb:Below w.heap.size w w') => book_at ((SizeOf.of h).call hb) (by omega) (by omega) (by omega) s t
 rw [ha] at hhm
 have HHM:=Lib.hid hhm
 have HBK:=Lib.hid h
 have HM:=Lib.hid hM
 have HL:=Lib.hid fun w u (hr:PlRow w w.heap.size u n (g H)) => bucket_Age hn hr (Nat.le_refl _) now lim hnow (hst H (by rw [← HM.out]; exact hh2))
 change Hid (∀ w u (hr:PlRow w w.heap.size u n (g H)),Calls Tryz.prog 112 #[u,.int .u32 (now:Int),.int .u32 (lim:Int)] w (Gives 195 n (ageR g H now lim) (fun u => .tuple #[u,.int .i64 (ageC g H now lim n:Nat)]) w)) at HL
 generalize ageR g H now lim=r1 at *
 generalize ageC g H now lim n=r2 at *
 have HD:=Lib.hid hD
 clear hst hn hnow hM hD h ha hhm
 go_enter Tryz.func88,Tryz.ntmps88
 go_wp2_with fail
 refine (HHM.out _ (Below.refl _ _)).mono ?_
 rintro e w2 ⟨rfl,hb⟩
 have HB2:Hid (Below w.heap.size w w2):=hb
 have hz2:w.heap.size≤w2.heap.size:=hb.size
 have HBK2:=Lib.hid (HBK.out.call HB2.out)
 clear hb HHM
 obtain ⟨hp,hq0,hpq,_,_,_,⟨cap,c1,c2,s2⟩,hfz,hrows⟩:=HBK2.out
 have hpw:p < w.heap.size:=HBK.out.1
 have hqw:q < w.heap.size:=HBK.out.2.1
 rw [← HM.out] at c1 s2 hrows
 obtain ⟨v0,s3,hrow⟩:=hrows H hh2
 unfold maxLen at c2
 have g0:(0:Int)≤(H:Int):=Int.natCast_nonneg _
 have g1:(H:Int) < (M:Int):=by omega
 have g2:(H:Int) ≥ 0:=g0
 have HROW:=Lib.hid hrow.row
 clear hrow hrows
 go_wp2_with fail
 refine wp_region_held_drew (S:=fun w' => w'.cell? ⟨p,3,none⟩=some (.slice (some ⟨q,0,none⟩) M cap)) (by kernel_rfl) ?_ (fun hHeld => ?_)
 ·exact s2
 refine tkR 0 rfl ?_
 refine tkR 1 rfl ?_
 refine tkR 2 rfl ?_
 refine tkR 3 rfl ?_
 refine tkR 4 rfl ?_
 refine tkR 5 rfl ?_
 refine tkR 6 rfl ?_
 refine tkR 7 rfl ?_
 refine tkR 8 rfl ?_
 refine tkR 9 rfl ?_
 refine tkR 10 rfl ?_
 refine tkR 12 rfl ?_
 refine tkR 13 rfl ?_
 refine clR 11 rfl fun K hK => ?_
 go_simp
 refine hK.out _ _ ?_ (fun hHeld => ?_)
 ·(try dsimp only)
  exact hHeld
 clear hK K
 (try simp only [Act.put,sqA,sqB,sqC])
 refine clR 14 rfl fun K hK => ?_
 go_simp
 refine Calls.mono (HL.out _ _ (HROW.out.below (by (repeat' (first | (with_reducible exact Below.refl _ _) | (with_reducible assumption) | (with_reducible refine Below.setCell ?_ ?_ _) | (with_reducible refine Below.alloc ?_ ?_ _) | (with_reducible refine below_drewN ?_ _) | (with_reducible refine Below.drew ?_) | go_size))))) ?_
 intro e w4 hpost
 obtain ⟨va,he,hra,hb⟩:=hpost
 subst he
 have HRA:=Lib.hid hra
 obtain ⟨Av,cv,hva,_⟩:=hra
 subst hva
 have hbd:Below w2.heap.size w2 w4:=((Below.refl w2.heap.size w2).drew).trans hb
 have HBK4:=Lib.hid (HBK2.out.call hbd)
 have s4:=(hbd.cell (p:=⟨q,H,none⟩) hq0).trans s3
 have f4:∀ o,w4.frozen? ⟨q,o,none⟩=false:=HBK4.out.2.2.2.2.2.2.2.1
 have hz4:=hbd.size
 refine hK.out _ _ ?_ (fun hHeld => ?_)
 ·(try dsimp only)
  exact (hb.cell (p:=⟨p,_,none⟩) (by show p < w2.heap.size; omega)).trans hHeld
 clear hK K
 refine tkR 15 rfl ?_
 refine tkR 16 rfl ?_
 refine tkR 17 rfl ?_
 refine tkR 18 rfl ?_
 refine clR 19 rfl fun K hK => ?_
 go_simp
 refine hK.out _ _ ?_ (fun hHeld => ?_)
 ·(try dsimp only)
  exact ((But.set H _).cell (show p < w4.heap.size by omega) (show p ≠ q by omega)).trans hHeld
 clear hK K
 refine tkR 20 rfl ?_
 refine wpAnyH_done (by kernel_rfl) ?_ _
 go_wp2
 go_ret
 refine ⟨by first | rfl | (simp; done),?_,?_⟩
 ·exact HBK4.out.put (by rw [← HM.out]; exact hh2) (PlRowD.of_own HRA.out fun b hb => by have:=HD.out b hb; show b < w2.heap.size; omega) hq
 ·exact ((But.of HB2.out (by omega)).trans (But.of hbd (by omega))).trans (But.set H _)
set_option maxHeartbeats 1600000 in
theorem book_AgeNo {w:World} {D:Nat→Prop} {p q S B n:Nat} {g:Nat→Nat→Pl} (h:BkAt w D p q S B n g) (hS:1≤S∧S≤8) (hB:1≤B∧B≤16)
  (s t:Int) (now lim:Int) (ha:atI S B s t=-1) :
  Calls Tryz.prog 88 #[.pointer (some ⟨p,0,none⟩),.int .i64 s,.int .i64 t,.int .u32 now,.int .u32 lim] w (Says (.int .i64 0) w):=by
 have hMB:S * B≤128:=Nat.mul_le_mul hS.2 hB.2
 have hhm:=fun w' (hb:Below w.heap.size w w') => book_at ((SizeOf.of h).call hb) (by omega) (by omega) (by omega) s t
 rw [ha] at hhm
 have HHM:=Lib.hid hhm
 clear hhm ha h hMB
 go_enter Tryz.func88,Tryz.ntmps88
 go_wp2_with fail
 refine (HHM.out _ (Below.refl _ _)).mono ?_
 rintro e w2 ⟨rfl,hb⟩
 have HB2:Hid (Below w.heap.size w w2):=hb
 clear hb
 go_wp2
 go_ret
 exact ⟨rfl,HB2.out⟩
end
section
open Go.RowKit
def flR (a b:Int) (f:Nat→Pl):Nat→Pl:=sweepF (fun i => ownP (f i)) (hitE a b)
def flN (a b:Int) (f:Nat→Pl) (n:Nat):Nat:=goneF (fun i => ownP (f i)) (hitE a b) n
def flC (a b:Int) (g:Nat→Nat→Pl) (n:Nat):Nat→Nat
 | 0 => 0
 | k + 1 => flC a b g n k + flN a b (g k) n
def flG (a b:Int) (g:Nat→Nat→Pl) (k j:Nat):Nat→Pl:=if j < k then flR a b (g j) else g j
theorem flC_le (a b:Int) (g:Nat→Nat→Pl) (n:Nat):∀ k,flC a b g n k≤k * n
 | 0 => by simp [flC]
 | k + 1 => by
  have h1:=flC_le a b g n k
  have h2:flN a b (g k) n≤n:=goneF_le _ _ n
  rw [flC,Nat.add_mul]
  omega
theorem BkAt.congr {w:World} {D:Nat→Prop} {p q S B n:Nat} {g g':Nat→Nat→Pl} (h:BkAt w D p q S B n g) (hg:∀ i,i < S * B→g i=g' i):BkAt w D p q S B n g':=by
 obtain ⟨h0,h1,h2,h3,h4,h5,h6,h9,h10⟩:=h
 refine ⟨h0,h1,h2,h3,h4,h5,h6,h9,fun i hi => ?_⟩
 obtain ⟨v,hv,hr⟩:=h10 i hi
 exact ⟨v,hv,by rw [← hg i hi]; exact hr⟩
theorem add_in {c d:Nat} (h:c + d≤1024):wrap64 ((c:Int) + (d:Int))=((c + d:Nat):Int)∧IntKind.i64.wrap ((c:Int) + (d:Int))=((c + d:Nat):Int):=by
 have e:(c:Int) + (d:Int)=((c + d:Nat):Int):=by simp
 rw [e]
 exact ⟨IntWalk.wrap64_in _ (by omega),IntWalk.i64_in _ (by omega)⟩
set_option maxRecDepth 20000 in
set_option maxHeartbeats 6400000 in
theorem book_Flush {w:World} {D:Nat→Prop} {p q S B n:Nat} {g:Nat→Nat→Pl} (h:BkAt w D p q S B n g) (hD:∀ b,D b→b < w.heap.size) (hq:D q) (hS:1≤S∧S≤8) (hB:1≤B∧B≤16) (hn:n≤8) (a b:Int) :
  Calls Tryz.prog 89 #[.pointer (some ⟨p,0,none⟩),.agg #[.int .i64 a,.int .i64 b]] w fun e w' =>
   e=.returned (.int .i64 (flC a b g n (S * B):Nat))∧BkAt w' D p q S B n (flG a b g (S * B))∧But q w w':=by
 obtain ⟨M,hM⟩:∃ M,M=S * B:=⟨_,rfl⟩
 have hMB:M≤128:=by rw [hM]; exact Nat.mul_le_mul hS.2 hB.2
 have HF:=Lib.hid fun f w u (hr:PlRow w w.heap.size u n f) => bucket_Flush (show n≤1000000 by omega) hr (Nat.le_refl _) a b
 change Hid (∀ f w u (hr:PlRow w w.heap.size u n f),Calls Tryz.prog 113 #[u,.agg #[.int .i64 a,.int .i64 b]] w (Gives 195 n (flR a b f) (fun u => .tuple #[u,.int .i64 (flN a b f n:Nat)]) w)) at HF
 have HBK:=Lib.hid h
 have HM:=Lib.hid hM
 have HD:=Lib.hid hD
 have HLE:=Lib.hid fun k => flC_le a b g n k
 obtain ⟨hp,hq0,hpq,_,_,_,⟨cap,c1,c2,s2⟩,_,_⟩:=h
 rw [← hM] at c1 s2
 unfold maxLen at c2
 have k3:∀ o,(w.alloc o).cell? ⟨p,3,none⟩=some (.slice (some ⟨q,0,none⟩) M cap):=fun o => (World.cell?_alloc_lt _ _ _ (by show p < _; omega)).trans s2
 rw [← hM]
 have HK3:=Lib.hid k3
 clear hM hD s2
 go_enter Tryz.func89,Tryz.ntmps89
 go_wp2
 clear k3
 go_loopw [5,17] (fun gone i wr => ∃ k:Nat,k≤M∧i=.int .i64 k∧gone=.int .i64 (flC a b g n k:Nat)∧Hid (BkAt wr D p q S B n (flG a b g k))∧Hid (But q w wr)∧Hid (wr.cell? ⟨w.heap.size,0,none⟩=some (.int .i64 a)∧wr.cell? ⟨w.heap.size,1,none⟩=some (.int .i64 b)∧wr.cell? ⟨p,3,none⟩=some (.slice (some ⟨q,0,none⟩) M cap)∧w.heap.size < wr.heap.size)) (fun _ i _ => M - (intOf i).toNat)
 case atStart => exact ⟨0,by omega,rfl,rfl,(HBK.out.call ((Below.refl _ _).alloc (Nat.le_refl _) _)).congr fun i _ => by unfold flG; rw [if_neg (by omega)],But.of ((Below.refl _ _).alloc (Nat.le_refl _) _) (by omega),by simp [go_sem],by simp [go_sem],HK3.out _,by simp⟩
 case round =>
  obtain ⟨k,hk,rfl,rfl,HBW,HBT,HX⟩:=hrel
  obtain ⟨x0,x1,x3,xz⟩:=HX.out
  by_cases hlt:k < M
  ·have g0:(0:Int)≤(k:Int):=Int.natCast_nonneg _
   have g1:(k:Int) < (M:Int):=by omega
   obtain ⟨hp',hq',_,_,_,_,_,hfz,hrows⟩:=HBW.out
   obtain ⟨v0,s3,hrow⟩:=hrows k (by rw [← HM.out]; exact hlt)
   have hgk:flG a b g k k=g k:=by unfold flG; rw [if_neg (by omega)]
   rw [hgk] at hrow
   have hle:=HLE.out k
   have hle2:=HLE.out (k + 1)
   have hkn:(k + 1) * n≤1024:=by
    have:(k + 1) * n≤128 * 8:=Nat.mul_le_mul (by omega) hn
    omega
   have hc1:flC a b g n (k + 1)=flC a b g n k + flN a b (g k) n:=rfl
   have HROW:=Lib.hid hrow.row
   have HNXG:Hid (∀ i,updR (flG a b g k) k (flR a b (g k)) i=flG a b g (k + 1) i):=fun i => by
    unfold updR flG
    by_cases h1:i=k
    ·subst h1; rw [if_pos rfl,if_pos (by omega)]
    ·rw [if_neg h1]
     by_cases h2:i < k
     ·rw [if_pos h2,if_pos (by omega)]
     ·rw [if_neg h2,if_neg (by omega)]
   have HFK:=Lib.hid (HF.out (g k))
   obtain ⟨c,hc⟩:∃ c,c=flC a b g n k:=⟨_,rfl⟩
   obtain ⟨c',hc'⟩:∃ c',c'=flN a b (g k) n:=⟨_,rfl⟩
   rw [← hc,← hc'] at hc1
   rw [← hc'] at HFK
   rw [← hc]
   have HC1:=Lib.hid hc1
   have hsum:c + c'≤1024:=by omega
   obtain ⟨hadd,hadd3⟩:=add_in hsum
   clear hrow hrows hgk hle hle2 hkn hc1 hc hc'
   go_wp2_with fail
   refine Calls.mono (HFK.out _ _ HROW.out) ?_
   intro e w4 hpost
   obtain ⟨va,he,hra,hb⟩:=hpost
   subst he
   have HRA:=Lib.hid hra
   obtain ⟨Av,cv,hva,_⟩:=hra
   subst hva
   have HBK4:=Lib.hid (HBW.out.call hb)
   have s4:=(hb.cell (p:=⟨q,k,none⟩) hq').trans s3
   have f4:∀ o,w4.frozen? ⟨q,o,none⟩=false:=HBK4.out.2.2.2.2.2.2.2.1
   have y0:=(hb.cell (p:=⟨w.heap.size,0,none⟩) xz).trans x0
   have y1:=(hb.cell (p:=⟨w.heap.size,1,none⟩) xz).trans x1
   have y3:=(hb.cell (p:=⟨p,3,none⟩) hp').trans x3
   have hz4:=hb.size
   have HBT4:Hid (But q w w4):=HBT.out.trans (But.of hb (by omega))
   have hwr:=HBT.out.below.size
   have HST:Hid (∀ v,But q w4 (w4.setCell ⟨q,k,none⟩ v)):=fun v => But.set k v
   have HPUT:Hid (BkAt (w4.setCell ⟨q,k,none⟩ (.slice Av n cv)) D p q S B n (flG a b g (k + 1))) :=
    (HBK4.out.put (by rw [← HM.out]; exact hlt) (PlRowD.of_own HRA.out fun b hb => by have:=HD.out b hb; omega) hq).congr fun i _ => HNXG.out i
   clear hb HRA HROW HFK s3 x0 x1 x3 HNXG HBW HBT
   go_wp2
   go_roundw
   case rel =>
    refine ⟨k + 1,by omega,by go_num,(by rw [HC1.out]; first | rfl | (simp; done)),HPUT,HBT4.out.trans (HST.out _),?_⟩
    exact ⟨((HST.out _).cell (show w.heap.size < _ by omega) (show w.heap.size ≠ q by omega)).trans y0,((HST.out _).cell (show w.heap.size < _ by omega) (show w.heap.size ≠ q by omega)).trans y1,((HST.out _).cell (show p < _ by omega) hpq).trans y3,by rw [World.size_setCell]; omega⟩
   case measure => simp [intOf]; omega
  ·have hkM:M=k:=by omega
   subst hkM
   go_wp2
   go_ret
   exact ⟨rfl,HBW.out,HBT.out⟩
end
section
open Go.RowKit
def doG (K:Nat) (v:Int) (m:Nat) (port vid:Int) (now old:Nat) (S B n:Nat) (g:Nat→Nat→Pl):(Nat→Nat→Pl) × Int :=
 if K=0 then (g,portF (g (homeN v m S B)) v m n)
 else if K=3 then (updR g (homeN v m S B) (putF (fun i => ownP (g (homeN v m S B) i)) ⟨v,m,port,true,0⟩ now n).1,((putF (fun i => ownP (g (homeN v m S B) i)) ⟨v,m,port,true,0⟩ now n).2:Nat))
 else if K=4 then (updR g (homeN v m S B) (dropF (fun i => ownP (g (homeN v m S B) i)) v m n).1,if (dropF (fun i => ownP (g (homeN v m S B) i)) v m n).2=true then 1 else 0)
 else if K=5 then (if atI S B port vid < 0 then (g,0) else (updR g (atI S B port vid).toNat (ageR g (atI S B port vid).toNat now old),(ageC g (atI S B port vid).toNat now old n:Nat)))
 else if K=6 then (flG port vid g (S * B),(flC port vid g n (S * B):Nat))
 else (updR g (homeN v m S B) (putF (fun i => ownP (g (homeN v m S B) i)) ⟨v,m,port,false,now⟩ now n).1,((putF (fun i => ownP (g (homeN v m S B) i)) ⟨v,m,port,false,now⟩ now n).2:Nat))
def stG (g:Nat→Nat→Pl):Prop:=∀ i j,(g i j).e.stamp < 4294967296
theorem own_st {f:Nat→Pl} (h:∀ j,(f j).e.stamp < 4294967296) (j:Nat):(ownP (f j)).e.stamp < 4294967296:=by
 unfold ownP
 split
 ·exact h j
 ·show (0:Nat) < _; omega
theorem updP_st {f:Nat→Pl} {x:Pl} (h:∀ j,(f j).e.stamp < 4294967296) (hx:x.e.stamp < 4294967296) (k j:Nat):(updP f k x j).e.stamp < 4294967296:=by
 unfold updP
 split
 ·exact hx
 ·exact h j
theorem put_st {f:Nat→Pl} {e:En} {now n:Nat} (h:∀ j,(f j).e.stamp < 4294967296) (he:e.stamp < 4294967296) (j:Nat):((putF f e now n).1 j).e.stamp < 4294967296:=by
 unfold putF
 split
 ·exact h j
 ·split
  ·split
   ·exact h j
   ·exact updP_st h he _ j
  ·split
   ·exact h j
   ·exact updP_st h he _ j
theorem drop_st {f:Nat→Pl} {v:Int} {m n:Nat} (h:∀ j,(f j).e.stamp < 4294967296) (j:Nat):((dropF f v m n).1 j).e.stamp < 4294967296:=by
 unfold dropF
 split
 ·exact h j
 ·split
  ·exact updP_st h (by show (0:Nat) < _; omega) _ j
  ·exact h j
theorem sweep_st {f:Nat→Pl} {c:En→Bool} (h:∀ j,(f j).e.stamp < 4294967296) (j:Nat):(sweepF f c j).e.stamp < 4294967296:=by
 unfold sweepF
 split
 ·show (0:Nat) < _; omega
 ·exact h j
theorem updR_st {g:Nat→Nat→Pl} {f:Nat→Pl} (h:stG g) (hf:∀ j,(f j).e.stamp < 4294967296) (k:Nat):stG (updR g k f):=by
 intro i j
 unfold updR
 split
 ·exact hf j
 ·exact h i j
theorem doG_st (K:Nat) (v:Int) (m:Nat) (port vid:Int) (now old:Nat) (S B n:Nat) (g:Nat→Nat→Pl) (h:stG g) (hnow:now < 4294967296):stG (doG K v m port vid now old S B n g).1:=by
 unfold doG
 split
 ·exact h
 ·split
  ·exact updR_st h (put_st (own_st (h _)) (by show (0:Nat) < _; omega)) _
  ·split
   ·exact updR_st h (drop_st (own_st (h _))) _
   ·split
    ·split
     ·exact h
     ·exact updR_st h (sweep_st (own_st (h _))) _
    ·split
     ·intro i j
      show (flG port vid g (S * B) i j).e.stamp < 4294967296
      unfold flG
      split
      ·exact sweep_st (own_st (h _)) j
      ·exact h i j
     ·exact updR_st h (put_st (own_st (h _)) hnow) _
end
section
open Go.RowKit
section
variable {pb n cp lb N:Nat} {key:Nat→Int}
set_option maxRecDepth 20000 in
set_option maxHeartbeats 12800000 in
theorem sort_row (hn:n≤1000000) {w:World} {f:Nat→Nat} (h:SrAt w pb n lb N key f) (ht:StK key f 0 n) :
  Calls Tryz.prog 34 #[.slice (some ⟨pb,0,none⟩) n cp,(.func (.func 35) #[] #[.pointer (some ⟨lb,0,none⟩)])] w (MgAt w pb n lb N key f 0 n):=by
 have HC:=Lib.hid (stable_row (cp:=cp) hn h ht)
 clear h ht
 go_enter Tryz.func34,Tryz.ntmps34
 go_wp2_with first
  | ((with_reducible refine Calls.mono HC.out ?_); rintro _ w1 ⟨rfl,g3,m1,m2,m3⟩; have HM:Hid (MgAt w pb n lb N key f 0 n (.returned (.tuple #[])) w1):=⟨rfl,g3,m1,m2,m3⟩; clear m1 m2 m3)
  | fail
 first | go_end0 | go_ret
 exact HM.out
end
end
section
open Go.RowKit
theorem kv_onesM (L:List Int):∀ u ∈ kv .i64 L,u.oneCell'=true:=by
 intro u hu
 simp only [kv,List.mem_map] at hu
 obtain ⟨x,_,rfl⟩:=hu
 rfl
end
end Go.Proofs.YtfekhdgjgjodlaaGreat
