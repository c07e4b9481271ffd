/-
  Words and contracts that a statement's proof rests on (BkC). No statement is proved here.
-/
import Derived.Deep.RegionHeld3
import Derived.Test.YtfekhdgjgjodlaaBkB
set_option linter.unusedVariables false
set_option linter.unusedSimpArgs false
namespace Go.Proofs.Ytfekhdgjgjodlaa
open Go.RowKit
set_option maxRecDepth 20000 in
set_option maxHeartbeats 6400000 in
theorem book_Learn {w:World} {D:Nat→Prop} {p q S B n:Nat} {g:Nat→Nat→Pl} (h:BkAt w D p q S B n g) (hD:∀ b,D b→b < w.heap.size) (hq:D q) (hS:1≤S∧S≤8) (hB:1≤B∧B≤16) (hn:n≤1000000) (hst:∀ i,i < S * B→∀ j,j < n→(g i j).e.stamp < 4294967296)
  (v:Int) (m:Nat) (hm:m < 18446744073709551616) (port:Int) (now:Nat) (hnow:now < 4294967296) :
  Calls Try.prog 53 #[.pointer (some ⟨p,0,none⟩),.agg #[.int .i64 v,.int .u64 (m:Int)],.int .i64 port,.int .u32 (now:Int)] w fun e w' =>
   e=.returned (.int .i64 ((putF (fun i => ownP (g (homeN v m S B) i)) ⟨v,m,port,false,now⟩ now n).2:Nat))∧BkAt w' D p q S B n (updR g (homeN v m S B) (putF (fun i => ownP (g (homeN v m S B) i)) ⟨v,m,port,false,now⟩ now n).1)∧But q w w':=by
 obtain ⟨M,hM⟩:∃ M,M=S * B:=⟨_,rfl⟩
 obtain ⟨H,hH⟩:∃ H,H=homeN v m S B:=⟨_,rfl⟩
 have hhome:=home_in (v:=v) (m:=m) hS.1 hB.1
 rw [← hH,← hM] at hhome
 obtain ⟨hh1,hh2⟩:=hhome
 have hMB:M≤128:=by rw [hM]; exact Nat.mul_le_mul hS.2 hB.2
 have hhm:=fun w' (hb:Below w.heap.size w w') => book_home ((SizeOf.of h).call hb) (by omega) (by omega) (by omega) v m hm
 rw [hh1] at hhm
 have HHM:=Lib.hid hhm
 have HBK:=Lib.hid h
 have HM:=Lib.hid hM
 clear hhm hh1 hM
 have HL:=Lib.hid fun w u (hr:PlRow w w.heap.size u n (g H)) => bucket_Learn hn hr (Nat.le_refl _) (hst H (by rw [← HM.out]; exact hh2)) v m hm port now hnow
 rw [← hH]
 generalize putF (fun i => ownP (g H i)) ⟨v,m,port,false,now⟩ now n=r at *
 obtain ⟨r1,r2⟩:=r
 simp only at HL ⊢
 have HD:=Lib.hid hD
 clear hst hn hm hnow hH hD h
 go_enter Try.func53,Try.ntmps53
 go_wp2_with fail
 refine (HHM.out _ ((Below.refl _ _).alloc (Nat.le_refl _) _)).mono ?_
 rintro e w2 ⟨rfl,hb⟩
 have HB2:Hid (Below w.heap.size w w2):=Below.trans ((Below.refl _ _).alloc (Nat.le_refl _) _) (hb.mono (by simp))
 have s0:w2.cell? ⟨w.heap.size,0,none⟩=some (.int .i64 v):=by rw [(bcell hb).1 _ _ (by simp)]; simp [go_sem]
 have s1:w2.cell? ⟨w.heap.size,1,none⟩=some (.int .u64 (m:Int)):=by rw [(bcell hb).1 _ _ (by simp)]; simp [go_sem]
 have hz2:w.heap.size + 1≤w2.heap.size:=by have:=hb.size; simpa using this
 have HBK2:=Lib.hid (HBK.out.call HB2.out)
 clear hb HHM
 obtain ⟨hp,hq0,hpq,_,_,_,⟨cap,c1,c2,s2⟩,hfz,hrows⟩:=HBK2.out
 have hpw:p < w.heap.size:=HBK.out.1
 have hqw:q < w.heap.size:=HBK.out.2.1
 rw [← HM.out] at c1 s2 hrows
 obtain ⟨v0,s3,hrow⟩:=hrows H hh2
 unfold maxLen at c2
 have g0:(0:Int)≤(H:Int):=Int.natCast_nonneg _
 have g1:(H:Int) < (M:Int):=by omega
 have g2:(H:Int) ≥ 0:=g0
 have HROW:=Lib.hid hrow.row
 clear hrow hrows
 go_wp2_with fail
 refine wp_region_held_drew (S:=fun w' => w'.cell? ⟨p,3,none⟩=some (.slice (some ⟨q,0,none⟩) M cap)∧w'.cell? ⟨w.heap.size,0,none⟩=some (.int .i64 v)∧w'.cell? ⟨w.heap.size,1,none⟩=some (.int .u64 (m:Int))) (by kernel_rfl) ?_ (fun hHeld => ?_)
 ·exact ⟨s2,s0,s1⟩
 refine tkR 0 rfl ?_
 refine tkR 1 rfl ?_
 refine tkR 2 rfl ?_
 refine tkR 3 rfl ?_
 refine tkR 4 rfl ?_
 refine tkR 5 rfl ?_
 refine tkR 6 rfl ?_
 refine tkR 7 rfl ?_
 refine tkR 8 rfl ?_
 refine tkR 9 rfl ?_
 refine tkR 10 rfl ?_
 refine tkR 12 rfl ?_
 refine tkR 13 rfl ?_
 refine tkR 14 rfl ?_
 refine clR 11 rfl fun K hK => ?_
 go_simp
 refine hK.out _ _ ?_ (fun hHeld => ?_)
 ·(try dsimp only)
  exact hHeld
 clear hK K
 (try simp only [Act.put,sqA,sqB,sqC])
 refine clR 15 rfl fun K hK => ?_
 go_simp
 refine Calls.mono (HL.out _ _ (HROW.out.below (by (repeat' (first | (with_reducible exact Below.refl _ _) | (with_reducible assumption) | (with_reducible refine Below.setCell ?_ ?_ _) | (with_reducible refine Below.alloc ?_ ?_ _) | (with_reducible refine below_drewN ?_ _) | (with_reducible refine Below.drew ?_) | go_size))))) ?_
 intro e w4 hpost
 obtain ⟨va,he,hra,hb⟩:=hpost
 subst he
 have HRA:=Lib.hid hra
 obtain ⟨Av,cv,hva,_⟩:=hra
 subst hva
 have hbd:Below w2.heap.size w2 w4:=((Below.refl w2.heap.size w2).drew).trans hb
 have HBK4:=Lib.hid (HBK2.out.call hbd)
 have s4:=(hbd.cell (p:=⟨q,H,none⟩) hq0).trans s3
 have f4:∀ o,w4.frozen? ⟨q,o,none⟩=false:=HBK4.out.2.2.2.2.2.2.2.1
 have hz4:=hbd.size
 refine hK.out _ _ ?_ (fun hHeld => ?_)
 ·(try dsimp only)
  obtain ⟨q0,q1,q2⟩:=hHeld
  exact ⟨(hb.cell (p:=⟨p,_,none⟩) hp).trans q0,(hb.cell (p:=⟨w.heap.size,_,none⟩) (by show w.heap.size < w2.heap.size; omega)).trans q1,(hb.cell (p:=⟨w.heap.size,_,none⟩) (by show w.heap.size < w2.heap.size; omega)).trans q2⟩
 clear hK K
 refine tkR 16 rfl ?_
 refine tkR 17 rfl ?_
 refine tkR 18 rfl ?_
 refine tkR 19 rfl ?_
 refine clR 20 rfl fun K hK => ?_
 go_simp
 refine hK.out _ _ ?_ (fun hHeld => ?_)
 ·(try dsimp only)
  obtain ⟨q0,q1,q2⟩:=hHeld
  exact ⟨((But.set H _).cell (show p < w4.heap.size by omega) hpq).trans q0,((But.set H _).cell (show w.heap.size < w4.heap.size by omega) (show w.heap.size ≠ q by omega)).trans q1,((But.set H _).cell (show w.heap.size < w4.heap.size by omega) (show w.heap.size ≠ q by omega)).trans q2⟩
 clear hK K
 refine tkR 21 rfl ?_
 refine wpAnyH_done (by kernel_rfl) ?_ _
 go_wp2
 go_ret
 refine ⟨rfl,?_,?_⟩
 ·exact HBK4.out.put (by rw [← HM.out]; exact hh2) (PlRowD.of_own HRA.out fun b hb => by have:=HD.out b hb; show b < w2.heap.size; omega) hq
 ·exact ((But.of HB2.out (by omega)).trans (But.of hbd (by omega))).trans (But.set H _)
def portF (f:Nat→Pl) (v:Int) (m n:Nat):Int:=if findF f v m n < 0 then -1 else (f (findF f v m n).toNat).e.port
set_option maxRecDepth 20000 in
set_option maxHeartbeats 6400000 in
theorem book_Lookup {w:World} {D:Nat→Prop} {p q S B n:Nat} {g:Nat→Nat→Pl} (h:BkAt w D p q S B n g) (hS:1≤S∧S≤8) (hB:1≤B∧B≤16) (hn:n≤1000000)
  (v:Int) (m:Nat) (hm:m < 18446744073709551616) :
  Calls Try.prog 54 #[.pointer (some ⟨p,0,none⟩),.agg #[.int .i64 v,.int .u64 (m:Int)]] w (Says (.int .i64 (portF (g (homeN v m S B)) v m n)) w):=by
 obtain ⟨M,hM⟩:∃ M,M=S * B:=⟨_,rfl⟩
 obtain ⟨H,hH⟩:∃ H,H=homeN v m S B:=⟨_,rfl⟩
 have hhome:=home_in (v:=v) (m:=m) hS.1 hB.1
 rw [← hH,← hM] at hhome
 obtain ⟨hh1,hh2⟩:=hhome
 have hMB:M≤128:=by rw [hM]; exact Nat.mul_le_mul hS.2 hB.2
 have hhm:=fun w' (hb:Below w.heap.size w w') => book_home ((SizeOf.of h).call hb) (by omega) (by omega) (by omega) v m hm
 rw [hh1] at hhm
 have HHM:=Lib.hid hhm
 have HBK:=Lib.hid h
 have HM:=Lib.hid hM
 clear hhm hh1 hM
 have HF:=Lib.hid fun w u (hr:PlRow w w.heap.size u n (g H)) => bucket_Find hr (Nat.le_refl _) v m
 have hbd:=firstJ_bd (keyF (g H) v m) n
 change -1≤findF (g H) v m n∧findF (g H) v m n < n at hbd
 rw [← hH]
 have HP1:Hid (findF (g H) v m n=-1→portF (g H) v m n=-1):=fun h => by unfold portF; rw [h]; rfl
 have HP2:Hid (∀ j:Nat,findF (g H) v m n=(j:Int)→portF (g H) v m n=(g H j).e.port):=fun j h => by unfold portF; rw [h,if_neg (by omega),Int.toNat_natCast]
 generalize portF (g H) v m n=r at *
 generalize findF (g H) v m n=x at *
 clear hm hH h
 go_enter Try.func54,Try.ntmps54
 go_wp2_with fail
 refine (HHM.out _ ((Below.refl _ _).alloc (Nat.le_refl _) _)).mono ?_
 rintro e w2 ⟨rfl,hb⟩
 have HB2:Hid (Below w.heap.size w w2):=Below.trans ((Below.refl _ _).alloc (Nat.le_refl _) _) (hb.mono (by simp))
 have s0:w2.cell? ⟨w.heap.size,0,none⟩=some (.int .i64 v):=by rw [(bcell hb).1 _ _ (by simp)]; simp [go_sem]
 have s1:w2.cell? ⟨w.heap.size,1,none⟩=some (.int .u64 (m:Int)):=by rw [(bcell hb).1 _ _ (by simp)]; simp [go_sem]
 have hz2:w.heap.size + 1≤w2.heap.size:=by have:=hb.size; simpa using this
 have HBK2:=Lib.hid (HBK.out.call HB2.out)
 clear hb HHM
 obtain ⟨hp,hq0,hpq,_,_,_,⟨cap,c1,c2,s2⟩,hfz,hrows⟩:=HBK2.out
 have hpw:p < w.heap.size:=HBK.out.1
 have hqw:q < w.heap.size:=HBK.out.2.1
 rw [← HM.out] at c1 s2 hrows
 obtain ⟨v0,s3,hrow⟩:=hrows H hh2
 unfold maxLen at c2
 have g0:(0:Int)≤(H:Int):=Int.natCast_nonneg _
 have g1:(H:Int) < (M:Int):=by omega
 have g2:(H:Int) ≥ 0:=g0
 have HROW:=Lib.hid hrow.row
 clear hrow hrows
 go_wp2_with fail
 refine wp_region_held_drew (S:=fun w' => w'.cell? ⟨p,3,none⟩=some (.slice (some ⟨q,0,none⟩) M cap)∧w'.cell? ⟨w.heap.size,0,none⟩=some (.int .i64 v)∧w'.cell? ⟨w.heap.size,1,none⟩=some (.int .u64 (m:Int))∧w'.cell? ⟨q,H,none⟩=some v0) (by kernel_rfl) ?_ (fun hHeld => ?_)
 ·exact ⟨s2,s0,s1,s3⟩
 refine tkR 0 rfl ?_
 refine tkR 1 rfl ?_
 refine tkR 2 rfl ?_
 refine tkR 3 rfl ?_
 refine tkR 4 rfl ?_
 refine tkR 5 rfl ?_
 refine tkR 6 rfl ?_
 refine tkR 7 rfl ?_
 refine clR 8 rfl fun K hK => ?_
 go_simp
 refine Calls.mono (HF.out _ _ (HROW.out.below (by (repeat' (first | (with_reducible exact Below.refl _ _) | (with_reducible assumption) | (with_reducible refine Below.setCell ?_ ?_ _) | (with_reducible refine Below.alloc ?_ ?_ _) | (with_reducible refine below_drewN ?_ _) | (with_reducible refine Below.drew ?_) | go_size))))) ?_
 intro e w4 hpost
 obtain ⟨rfl,hb⟩:=hpost
 have hbd4:Below w2.heap.size w2 w4:=((Below.refl w2.heap.size w2).drew).trans hb
 refine hK.out _ _ ?_ (fun hHeld => ?_)
 ·(try dsimp only)
  obtain ⟨q0,q1,q2,q3⟩:=hHeld
  exact ⟨(hb.cell (p:=⟨p,_,none⟩) hp).trans q0,(hb.cell (p:=⟨w.heap.size,_,none⟩) (by show w.heap.size < w2.heap.size; omega)).trans q1,(hb.cell (p:=⟨w.heap.size,_,none⟩) (by show w.heap.size < w2.heap.size; omega)).trans q2,(hb.cell (p:=⟨q,_,none⟩) hq0).trans q3⟩
 clear hK K
 refine tkR 9 rfl ?_
 refine wpAnyH_done (by kernel_rfl) ?_ _
 have HB4:Hid (Below w.heap.size w w4):=HB2.out.trans (hbd4.mono (by omega))
 have HROW4:=Lib.hid (HROW.out.below hbd4)
 have t2:=(hbd4.cell (p:=⟨p,3,none⟩) hp).trans s2
 have t3:=(hbd4.cell (p:=⟨q,H,none⟩) hq0).trans s3
 clear hHeld hb hbd4 HROW s0 s1 s2 s3 HBK2 HBK hfz
 rcases (show x=-1 ∨ 0≤x by omega) with hx | hx
 ·subst hx
  have hr:=HP1.out rfl
  subst hr
  clear HP1 HP2
  go_wp2
  go_ret
  exact ⟨by first | rfl | (simp; done),HB4.out⟩
 ·obtain ⟨j,rfl⟩:=Int.eq_ofNat_of_zero_le hx
  have hr:=HP2.out j rfl
  clear HP1 HP2
  subst hr
  have d1:(0:Int)≤(j:Int):=Int.natCast_nonneg _
  have d2:(j:Int) < (n:Int):=by omega
  have d3:¬ (j:Int) < 0:=by omega
  obtain ⟨A,cap2,rfl,x1,x2,x3⟩:=HROW4.out
  obtain ⟨b,off,rfl,hbb,hc⟩:=x3 (by omega)
  unfold maxLen at x2
  have hcj:=(hc j (by omega)).2.2.2.1
  clear hc x3
  generalize (g H j).e.port=pt at *
  have hcj':w4.cell? ⟨b,off + j * 6 + 3,none⟩=some (.int .i64 pt):=hcj
  clear hcj
  go_wp2
  go_ret
  exact ⟨by first | rfl | (simp; done),HB4.out⟩
end Go.Proofs.Ytfekhdgjgjodlaa
