/-
  Words and contracts that a statement's proof rests on (BkR). No statement is proved here.
-/
import Derived.Deep.RegionHeld3
import Derived.Test.YthloabdfkakehaaGreatBkH
import Derived.Test.YthloabdfkakehaaGreatBuJ
import Derived.Test.YthloabdfkakehaaGreatBuL
import Derived.Test.YthloabdfkakehaaGreatBuM
set_option linter.unusedVariables false
set_option linter.unusedSimpArgs false
namespace Go.Proofs.YthloabdfkakehaaGreat
open Go.RowKit
theorem home_nums (v:Int) (m:Nat) {S B:Nat} (hS:1≤S∧S≤8) (hB:1≤B∧B≤16):∃ a b:Nat,plS v m S B=(a:Int)∧plB v m S B=(b:Int)∧homeN v m S B=a * B + b∧wrap64 ((a:Int) * (B:Int))=((a * B:Nat):Int)∧wrap64 (((a * B:Nat):Int) + (b:Int))=((a * B + b:Nat):Int) ∧
  IntKind.i64.wrap ((a:Int) * (B:Int))=((a * B:Nat):Int)∧IntKind.i64.wrap (((a * B:Nat):Int) + (b:Int))=((a * B + b:Nat):Int):=by
 obtain ⟨h1,h2,h3,h4⟩:=pl_bd v m (S:Int) (B:Int)
 obtain ⟨a,ha⟩:=Int.eq_ofNat_of_zero_le h1
 obtain ⟨b,hb⟩:=Int.eq_ofNat_of_zero_le h3
 have ha2:a < S:=by have:=h2 (by omega); omega
 have hb2:b < B:=by have:=h4 (by omega); omega
 have hab:a * B≤8 * 16:=Nat.mul_le_mul (by omega) hB.2
 have e1:(a:Int) * (B:Int)=((a * B:Nat):Int):=by simp
 have e2:((a * B:Nat):Int) + (b:Int)=((a * B + b:Nat):Int):=by simp
 refine ⟨a,b,ha,hb,?_,?_,?_,?_,?_⟩
 ·unfold homeN; rw [ha,hb]; simp
 ·rw [e1]; exact IntWalk.wrap64_in _ (by omega)
 ·rw [e2]; exact IntWalk.wrap64_in _ (by omega)
 ·rw [e1]; exact IntWalk.i64_in _ (by omega)
 ·rw [e2]; exact IntWalk.i64_in _ (by omega)
set_option maxRecDepth 20000 in
set_option maxHeartbeats 1600000 in
theorem ref11_at {w:World} {D:Nat→Prop} {p q S B n:Nat} {g:Nat→Nat→Pl} (h:BkAt w D p q S B n g) (hS:1≤S∧S≤8) (hB:1≤B∧B≤16) (v:Int) (m:Nat) (hm:m < 18446744073709551616) :
  Calls Tryz.prog 66 #[.pointer (some ⟨p,0,none⟩),.agg #[.int .i64 v,.int .u64 (m:Int)]] w (Says (.int .i64 (homeN v m S B:Nat)) w):=by
 obtain ⟨a,b,h1,h2,h3,h4,h5,h6,h7⟩:=home_nums v m hS hB
 have hpl:=fun w => ref8_Place v m hm (S:Int) (B:Int) (by omega) (by omega) w
 rw [h1,h2] at hpl
 rw [h3]
 have HPL:=Lib.hid hpl
 obtain ⟨hp,_,_,s0,s1,_⟩:=h
 have c0:=(World.cell?_alloc_lt w (.cells #[.int .i64 v,.int .u64 (m:Int)] 51) ⟨p,0,none⟩ hp).trans s0
 have c1:=(World.cell?_alloc_lt w (.cells #[.int .i64 v,.int .u64 (m:Int)] 51) ⟨p,1,none⟩ hp).trans s1
 have b0:(w.alloc (.cells #[.int .i64 v,.int .u64 (m:Int)] 51)).cell? ⟨w.heap.size,0,none⟩=some (.int .i64 v):=by simp [go_sem]
 have b1:(w.alloc (.cells #[.int .i64 v,.int .u64 (m:Int)] 51)).cell? ⟨w.heap.size,1,none⟩=some (.int .u64 (m:Int)):=by simp [go_sem]
 generalize a * B + b=R at *
 generalize a * B=AB at *
 have hS0:=hS.2
 have hB0:=hB.2
 clear hpl h1 h2 h3 hm s0 s1
 go_enter Tryz.func66,Tryz.ntmps66
 go_wp2_with fail
 obtain ⟨w1,hw1⟩:∃ w1,w1=w.alloc (.cells #[.int .i64 v,.int .u64 (m:Int)] 51):=⟨_,rfl⟩
 have HB1:Hid (Below w.heap.size w w1):=by rw [hw1]; exact (Below.refl _ _).alloc (Nat.le_refl _) _
 have hz1:w1.heap.size=w.heap.size + 1:=by rw [hw1]; simp
 rw [← hw1] at c0 c1 b0 b1 ⊢
 clear hw1
 go_region_held3 (fun w' => w'.cell? ⟨w.heap.size,0,none⟩=some (.int .i64 v)∧w'.cell? ⟨w.heap.size,1,none⟩=some (.int .u64 (m:Int))∧w'.cell? ⟨p,0,none⟩=some (.int .i64 (S:Nat))∧w'.cell? ⟨p,1,none⟩=some (.int .i64 (B:Nat)))
  (first | exact ⟨(hb.cell (p:=⟨w.heap.size,0,none⟩) (by show w.heap.size < w1.heap.size; omega)).trans b0,(hb.cell (p:=⟨w.heap.size,1,none⟩) (by show w.heap.size < w1.heap.size; omega)).trans b1,(hb.cell (p:=⟨p,0,none⟩) (by show p < w1.heap.size; omega)).trans c0,(hb.cell (p:=⟨p,1,none⟩) (by show p < w1.heap.size; omega)).trans c1⟩ | go_keep)
  (first | (go_at_call 28; (with_reducible refine Calls.mono (HPL.out _) ?_); rintro e w2 ⟨rfl,hb'⟩; have hb:Below w1.heap.size w1 w2:=((Below.refl w1.heap.size w1).drew).trans hb'))
 have t1:=(hb.cell (p:=⟨p,1,none⟩) (by show p < w1.heap.size; omega)).trans c1
 have HB2:Hid (Below w.heap.size w w2):=HB1.out.trans (hb.mono (by omega))
 clear hb hb' c0 c1 b0 b1 HB1 HPL
 go_wp2
 go_ret
 exact ⟨by first | rfl | (simp; done),HB2.out⟩
set_option maxRecDepth 20000 in
set_option maxHeartbeats 3200000 in
theorem ref11_Learn {w:World} {D:Nat→Prop} {p q S B n:Nat} {g:Nat→Nat→Pl} (h:BkAt w D p q S B n g) (hD:∀ b,D b→b < w.heap.size) (hq:D q) (hS:1≤S∧S≤8) (hB:1≤B∧B≤16) (hn:n≤1000000) (hst:∀ i,i < S * B→∀ j,j < n→(g i j).e.stamp < 4294967296)
  (v:Int) (m:Nat) (hm:m < 18446744073709551616) (port:Int) (now:Nat) (hnow:now < 4294967296) :
  Calls Tryz.prog 83 #[.pointer (some ⟨p,0,none⟩),.agg #[.int .i64 v,.int .u64 (m:Int)],.int .i64 port,.int .u32 (now:Int)] w fun e w' => e=.returned (.int .i64 ((putF (fun i => ownP (g (homeN v m S B) i)) ⟨v,m,port,false,now⟩ now n).2:Nat))∧BkAt w' D p q S B n (updR g (homeN v m S B) (putF (fun i => ownP (g (homeN v m S B) i)) ⟨v,m,port,false,now⟩ now n).1)∧But q w w':=by
 have hat:=fun w' (hb:Below w.heap.size w w') => ref11_at (h.call hb) hS hB v m hm
 have hhome:=(home_in (v:=v) (m:=m) hS.1 hB.1).2
 obtain ⟨M,hM⟩:∃ M,M=S * B:=⟨_,rfl⟩
 obtain ⟨H,hH⟩:∃ H,H=homeN v m S B:=⟨_,rfl⟩
 rw [← hH,← hM] at hhome
 rw [← hH] at hat
 have hh2:=hhome
 have hMB:M≤128:=by rw [hM]; exact Nat.mul_le_mul hS.2 hB.2
 have HAT:=Lib.hid hat
 have HBK:=Lib.hid h
 have HM:=Lib.hid hM
 have HD:=Lib.hid hD
 have HL:=Lib.hid fun w u (hr:PlRow w w.heap.size u n (g H)) => ref10_Learn hn hr (Nat.le_refl _) (hst H (by rw [← HM.out]; exact hh2)) v m hm port now hnow
 have hpw:p < w.heap.size:=h.1
 have hqw:q < w.heap.size:=h.2.1
 have hpq:p ≠ q:=h.2.2.1
 rw [← hH]
 generalize putF (fun i => ownP (g (H) i)) ⟨v,m,port,false,now⟩ now n=r at *
 obtain ⟨r1,r2⟩:=r
 simp only at HL ⊢
 have b0:(w.alloc (.cells #[.int .i64 v,.int .u64 (m:Int)] 51)).cell? ⟨w.heap.size,0,none⟩=some (.int .i64 v):=by simp [go_sem]
 have b1:(w.alloc (.cells #[.int .i64 v,.int .u64 (m:Int)] 51)).cell? ⟨w.heap.size,1,none⟩=some (.int .u64 (m:Int)):=by simp [go_sem]
 clear hat hH hM hm hD hhome h hst hnow hn
 go_enter Tryz.func83,Tryz.ntmps83
 go_wp2_with fail
 refine (HAT.out _ ((Below.refl _ _).alloc (Nat.le_refl _) _)).mono ?_
 rintro e w2 ⟨rfl,hb⟩
 have HB2:Hid (Below w.heap.size w w2):=Below.trans ((Below.refl _ _).alloc (Nat.le_refl _) _) (hb.mono (by simp))
 have t0:=(hb.cell (p:=⟨w.heap.size,0,none⟩) (by simp)).trans b0
 have t1:=(hb.cell (p:=⟨w.heap.size,1,none⟩) (by simp)).trans b1
 have hz2:w.heap.size + 1≤w2.heap.size:=by have:=hb.size; simpa using this
 have HBK2:=Lib.hid (HBK.out.call HB2.out)
 clear hb HAT b0 b1 HBK
 obtain ⟨hp,hq0,_,_,_,_,⟨cap,c1,c2,s2⟩,hfz,hrows⟩:=HBK2.out
 rw [← HM.out] at c1 s2 hrows
 obtain ⟨v0,s3,hrow⟩:=hrows H hh2
 unfold maxLen at c2
 have g0:(0:Int)≤(H:Int):=Int.natCast_nonneg _
 have g1:(H:Int) < (M:Int):=by omega
 have HROW:Hid (PlRow w2.drew w2.drew.heap.size v0 n (g H)):=hrow.row.below (Below.drew (Below.refl _ _))
 clear hrow hrows
 go_wp2_with fail
 go_region_held3 (fun w' => w'.cell? ⟨p,3,none⟩=some (.slice (some ⟨q,0,none⟩) M cap)∧w'.cell? ⟨q,H,none⟩=some v0∧w'.cell? ⟨w.heap.size,0,none⟩=some (.int .i64 v)∧w'.cell? ⟨w.heap.size,1,none⟩=some (.int .u64 (m:Int)))
  (first | exact ⟨(hbd.cell (p:=⟨p,3,none⟩) hp).trans s2,(hbd.cell (p:=⟨q,H,none⟩) hq0).trans s3,(hbd.cell (p:=⟨w.heap.size,0,none⟩) (by show w.heap.size < w2.heap.size; omega)).trans t0,(hbd.cell (p:=⟨w.heap.size,1,none⟩) (by show w.heap.size < w2.heap.size; omega)).trans t1⟩ | go_keep)
  (first | (go_at_call 122; (with_reducible refine Calls.mono (HL.out _ _ HROW.out) ?_); rintro e w4 ⟨va,rfl,hra,hb'⟩; have hbd:Below w2.heap.size w2 w4:=((Below.refl w2.heap.size w2).drew).trans hb'; have HRA:=Lib.hid hra))
 obtain ⟨Av,cv,hva,_⟩:=HRA.out
 subst hva
 have HBK4:=Lib.hid (HBK2.out.call hbd)
 have t2:=(hbd.cell (p:=⟨p,3,none⟩) hp).trans s2
 have t3:=(hbd.cell (p:=⟨q,H,none⟩) hq0).trans s3
 have f4:∀ o,w4.frozen? ⟨q,o,none⟩=false:=HBK4.out.2.2.2.2.2.2.2.1
 have HB4:=Lib.hid hbd
 clear hra hb' hbd s2 s3 t0 t1 hfz HBK2 HROW HL
 go_wp2
 go_ret
 refine ⟨rfl,?_,?_⟩
 ·exact HBK4.out.put (by rw [← HM.out]; exact hh2) (PlRowD.of_own HRA.out fun b hb => by have:=HD.out b hb; show b < w2.heap.size; omega) hq
 ·exact ((But.of HB2.out (by omega)).trans (But.of HB4.out (by omega))).trans (But.set H _)
set_option maxRecDepth 20000 in
set_option maxHeartbeats 3200000 in
theorem ref11_Order {w:World} {D:Nat→Prop} {p q S B n:Nat} {g:Nat→Nat→Pl} (h:BkAt w D p q S B n g) (hD:∀ b,D b→b < w.heap.size) (hq:D q) (hS:1≤S∧S≤8) (hB:1≤B∧B≤16) (hn:n≤1000000) (hst:∀ i,i < S * B→∀ j,j < n→(g i j).e.stamp < 4294967296)
  (v:Int) (m:Nat) (hm:m < 18446744073709551616) (port:Int) (now:Nat) (hnow:now < 4294967296) :
  Calls Tryz.prog 79 #[.pointer (some ⟨p,0,none⟩),.agg #[.int .i64 v,.int .u64 (m:Int)],.int .i64 port,.int .u32 (now:Int)] w fun e w' => e=.returned (.int .i64 ((putF (fun i => ownP (g (homeN v m S B) i)) ⟨v,m,port,true,0⟩ now n).2:Nat))∧BkAt w' D p q S B n (updR g (homeN v m S B) (putF (fun i => ownP (g (homeN v m S B) i)) ⟨v,m,port,true,0⟩ now n).1)∧But q w w':=by
 have hat:=fun w' (hb:Below w.heap.size w w') => ref11_at (h.call hb) hS hB v m hm
 have hhome:=(home_in (v:=v) (m:=m) hS.1 hB.1).2
 obtain ⟨M,hM⟩:∃ M,M=S * B:=⟨_,rfl⟩
 obtain ⟨H,hH⟩:∃ H,H=homeN v m S B:=⟨_,rfl⟩
 rw [← hH,← hM] at hhome
 rw [← hH] at hat
 have hh2:=hhome
 have hMB:M≤128:=by rw [hM]; exact Nat.mul_le_mul hS.2 hB.2
 have HAT:=Lib.hid hat
 have HBK:=Lib.hid h
 have HM:=Lib.hid hM
 have HD:=Lib.hid hD
 have HL:=Lib.hid fun w u (hr:PlRow w w.heap.size u n (g H)) => ref10_Order hn hr (Nat.le_refl _) (hst H (by rw [← HM.out]; exact hh2)) v m hm port now hnow
 have hpw:p < w.heap.size:=h.1
 have hqw:q < w.heap.size:=h.2.1
 have hpq:p ≠ q:=h.2.2.1
 rw [← hH]
 generalize putF (fun i => ownP (g (H) i)) ⟨v,m,port,true,0⟩ now n=r at *
 obtain ⟨r1,r2⟩:=r
 simp only at HL ⊢
 have b0:(w.alloc (.cells #[.int .i64 v,.int .u64 (m:Int)] 51)).cell? ⟨w.heap.size,0,none⟩=some (.int .i64 v):=by simp [go_sem]
 have b1:(w.alloc (.cells #[.int .i64 v,.int .u64 (m:Int)] 51)).cell? ⟨w.heap.size,1,none⟩=some (.int .u64 (m:Int)):=by simp [go_sem]
 clear hat hH hM hm hD hhome h hst hnow hn
 go_enter Tryz.func79,Tryz.ntmps79
 go_wp2_with fail
 refine (HAT.out _ ((Below.refl _ _).alloc (Nat.le_refl _) _)).mono ?_
 rintro e w2 ⟨rfl,hb⟩
 have HB2:Hid (Below w.heap.size w w2):=Below.trans ((Below.refl _ _).alloc (Nat.le_refl _) _) (hb.mono (by simp))
 have t0:=(hb.cell (p:=⟨w.heap.size,0,none⟩) (by simp)).trans b0
 have t1:=(hb.cell (p:=⟨w.heap.size,1,none⟩) (by simp)).trans b1
 have hz2:w.heap.size + 1≤w2.heap.size:=by have:=hb.size; simpa using this
 have HBK2:=Lib.hid (HBK.out.call HB2.out)
 clear hb HAT b0 b1 HBK
 obtain ⟨hp,hq0,_,_,_,_,⟨cap,c1,c2,s2⟩,hfz,hrows⟩:=HBK2.out
 rw [← HM.out] at c1 s2 hrows
 obtain ⟨v0,s3,hrow⟩:=hrows H hh2
 unfold maxLen at c2
 have g0:(0:Int)≤(H:Int):=Int.natCast_nonneg _
 have g1:(H:Int) < (M:Int):=by omega
 have HROW:Hid (PlRow w2.drew w2.drew.heap.size v0 n (g H)):=hrow.row.below (Below.drew (Below.refl _ _))
 clear hrow hrows
 go_wp2_with fail
 go_region_held3 (fun w' => w'.cell? ⟨p,3,none⟩=some (.slice (some ⟨q,0,none⟩) M cap)∧w'.cell? ⟨q,H,none⟩=some v0∧w'.cell? ⟨w.heap.size,0,none⟩=some (.int .i64 v)∧w'.cell? ⟨w.heap.size,1,none⟩=some (.int .u64 (m:Int)))
  (first | exact ⟨(hbd.cell (p:=⟨p,3,none⟩) hp).trans s2,(hbd.cell (p:=⟨q,H,none⟩) hq0).trans s3,(hbd.cell (p:=⟨w.heap.size,0,none⟩) (by show w.heap.size < w2.heap.size; omega)).trans t0,(hbd.cell (p:=⟨w.heap.size,1,none⟩) (by show w.heap.size < w2.heap.size; omega)).trans t1⟩ | go_keep)
  (first | (go_at_call 118; (with_reducible refine Calls.mono (HL.out _ _ HROW.out) ?_); rintro e w4 ⟨va,rfl,hra,hb'⟩; have hbd:Below w2.heap.size w2 w4:=((Below.refl w2.heap.size w2).drew).trans hb'; have HRA:=Lib.hid hra))
 obtain ⟨Av,cv,hva,_⟩:=HRA.out
 subst hva
 have HBK4:=Lib.hid (HBK2.out.call hbd)
 have t2:=(hbd.cell (p:=⟨p,3,none⟩) hp).trans s2
 have t3:=(hbd.cell (p:=⟨q,H,none⟩) hq0).trans s3
 have f4:∀ o,w4.frozen? ⟨q,o,none⟩=false:=HBK4.out.2.2.2.2.2.2.2.1
 have HB4:=Lib.hid hbd
 clear hra hb' hbd s2 s3 t0 t1 hfz HBK2 HROW HL
 go_wp2
 go_ret
 refine ⟨rfl,?_,?_⟩
 ·exact HBK4.out.put (by rw [← HM.out]; exact hh2) (PlRowD.of_own HRA.out fun b hb => by have:=HD.out b hb; show b < w2.heap.size; omega) hq
 ·exact ((But.of HB2.out (by omega)).trans (But.of HB4.out (by omega))).trans (But.set H _)
set_option maxRecDepth 20000 in
set_option maxHeartbeats 3200000 in
theorem ref11_Drop {w:World} {D:Nat→Prop} {p q S B n:Nat} {g:Nat→Nat→Pl} (h:BkAt w D p q S B n g) (hD:∀ b,D b→b < w.heap.size) (hq:D q) (hS:1≤S∧S≤8) (hB:1≤B∧B≤16) (hn:n≤1000000)
  (v:Int) (m:Nat) (hm:m < 18446744073709551616) :
  Calls Tryz.prog 80 #[.pointer (some ⟨p,0,none⟩),.agg #[.int .i64 v,.int .u64 (m:Int)]] w fun e w' => e=.returned (.bool (dropF (fun i => ownP (g (homeN v m S B) i)) v m n).2)∧BkAt w' D p q S B n (updR g (homeN v m S B) (dropF (fun i => ownP (g (homeN v m S B) i)) v m n).1)∧But q w w':=by
 have hat:=fun w' (hb:Below w.heap.size w w') => ref11_at (h.call hb) hS hB v m hm
 have hhome:=(home_in (v:=v) (m:=m) hS.1 hB.1).2
 obtain ⟨M,hM⟩:∃ M,M=S * B:=⟨_,rfl⟩
 obtain ⟨H,hH⟩:∃ H,H=homeN v m S B:=⟨_,rfl⟩
 rw [← hH,← hM] at hhome
 rw [← hH] at hat
 have hh2:=hhome
 have hMB:M≤128:=by rw [hM]; exact Nat.mul_le_mul hS.2 hB.2
 have HAT:=Lib.hid hat
 have HBK:=Lib.hid h
 have HM:=Lib.hid hM
 have HD:=Lib.hid hD
 have HL:=Lib.hid fun w u (hr:PlRow w w.heap.size u n (g H)) => ref10_Drop hn hr (Nat.le_refl _) v m
 have hpw:p < w.heap.size:=h.1
 have hqw:q < w.heap.size:=h.2.1
 have hpq:p ≠ q:=h.2.2.1
 rw [← hH]
 generalize dropF (fun i => ownP (g (H) i)) v m n=r at *
 obtain ⟨r1,r2⟩:=r
 simp only at HL ⊢
 have b0:(w.alloc (.cells #[.int .i64 v,.int .u64 (m:Int)] 51)).cell? ⟨w.heap.size,0,none⟩=some (.int .i64 v):=by simp [go_sem]
 have b1:(w.alloc (.cells #[.int .i64 v,.int .u64 (m:Int)] 51)).cell? ⟨w.heap.size,1,none⟩=some (.int .u64 (m:Int)):=by simp [go_sem]
 clear hat hH hM hm hD hhome h hn
 go_enter Tryz.func80,Tryz.ntmps80
 go_wp2_with fail
 refine (HAT.out _ ((Below.refl _ _).alloc (Nat.le_refl _) _)).mono ?_
 rintro e w2 ⟨rfl,hb⟩
 have HB2:Hid (Below w.heap.size w w2):=Below.trans ((Below.refl _ _).alloc (Nat.le_refl _) _) (hb.mono (by simp))
 have t0:=(hb.cell (p:=⟨w.heap.size,0,none⟩) (by simp)).trans b0
 have t1:=(hb.cell (p:=⟨w.heap.size,1,none⟩) (by simp)).trans b1
 have hz2:w.heap.size + 1≤w2.heap.size:=by have:=hb.size; simpa using this
 have HBK2:=Lib.hid (HBK.out.call HB2.out)
 clear hb HAT b0 b1 HBK
 obtain ⟨hp,hq0,_,_,_,_,⟨cap,c1,c2,s2⟩,hfz,hrows⟩:=HBK2.out
 rw [← HM.out] at c1 s2 hrows
 obtain ⟨v0,s3,hrow⟩:=hrows H hh2
 unfold maxLen at c2
 have g0:(0:Int)≤(H:Int):=Int.natCast_nonneg _
 have g1:(H:Int) < (M:Int):=by omega
 have HROW:Hid (PlRow w2.drew w2.drew.heap.size v0 n (g H)):=hrow.row.below (Below.drew (Below.refl _ _))
 clear hrow hrows
 go_wp2_with fail
 go_region_held3 (fun w' => w'.cell? ⟨p,3,none⟩=some (.slice (some ⟨q,0,none⟩) M cap)∧w'.cell? ⟨q,H,none⟩=some v0∧w'.cell? ⟨w.heap.size,0,none⟩=some (.int .i64 v)∧w'.cell? ⟨w.heap.size,1,none⟩=some (.int .u64 (m:Int)))
  (first | exact ⟨(hbd.cell (p:=⟨p,3,none⟩) hp).trans s2,(hbd.cell (p:=⟨q,H,none⟩) hq0).trans s3,(hbd.cell (p:=⟨w.heap.size,0,none⟩) (by show w.heap.size < w2.heap.size; omega)).trans t0,(hbd.cell (p:=⟨w.heap.size,1,none⟩) (by show w.heap.size < w2.heap.size; omega)).trans t1⟩ | go_keep)
  (first | (go_at_call 119; (with_reducible refine Calls.mono (HL.out _ _ HROW.out) ?_); rintro e w4 ⟨va,rfl,hra,hb'⟩; have hbd:Below w2.heap.size w2 w4:=((Below.refl w2.heap.size w2).drew).trans hb'; have HRA:=Lib.hid hra))
 obtain ⟨Av,cv,hva,_⟩:=HRA.out
 subst hva
 have HBK4:=Lib.hid (HBK2.out.call hbd)
 have t2:=(hbd.cell (p:=⟨p,3,none⟩) hp).trans s2
 have t3:=(hbd.cell (p:=⟨q,H,none⟩) hq0).trans s3
 have f4:∀ o,w4.frozen? ⟨q,o,none⟩=false:=HBK4.out.2.2.2.2.2.2.2.1
 have HB4:=Lib.hid hbd
 clear hra hb' hbd s2 s3 t0 t1 hfz HBK2 HROW HL
 go_wp2
 go_ret
 refine ⟨rfl,?_,?_⟩
 ·exact HBK4.out.put (by rw [← HM.out]; exact hh2) (PlRowD.of_own HRA.out fun b hb => by have:=HD.out b hb; show b < w2.heap.size; omega) hq
 ·exact ((But.of HB2.out (by omega)).trans (But.of HB4.out (by omega))).trans (But.set H _)
set_option maxRecDepth 20000 in
set_option maxHeartbeats 3200000 in
theorem ref11_Lookup {w:World} {D:Nat→Prop} {p q S B n:Nat} {g:Nat→Nat→Pl} (h:BkAt w D p q S B n g) (hS:1≤S∧S≤8) (hB:1≤B∧B≤16) (hn:n≤1000000) (v:Int) (m:Nat) (hm:m < 18446744073709551616) :
  Calls Tryz.prog 26 #[.pointer (some ⟨p,0,none⟩),.agg #[.int .i64 v,.int .u64 (m:Int)]] w (Says (.int .i64 (portF (g (homeN v m S B)) v m n)) w):=by
 have hat:=fun w' (hb:Below w.heap.size w w') => ref11_at (h.call hb) hS hB v m hm
 have hhome:=(home_in (v:=v) (m:=m) hS.1 hB.1).2
 obtain ⟨M,hM⟩:∃ M,M=S * B:=⟨_,rfl⟩
 obtain ⟨H,hH⟩:∃ H,H=homeN v m S B:=⟨_,rfl⟩
 rw [← hH,← hM] at hhome
 rw [← hH] at hat
 have hh2:=hhome
 have hMB:M≤128:=by rw [hM]; exact Nat.mul_le_mul hS.2 hB.2
 have HAT:=Lib.hid hat
 have HBK:=Lib.hid h
 have HM:=Lib.hid hM
 have HF:=Lib.hid fun w u (hr:PlRow w w.heap.size u n (g H)) => ref10_Find hr (Nat.le_refl _) v m
 have hbd:=firstJ_bd (keyF (g H) v m) n
 change -1≤findF (g H) v m n∧findF (g H) v m n < n at hbd
 rw [← hH]
 have HP1:Hid (findF (g H) v m n=-1→portF (g H) v m n=-1):=fun h => by unfold portF; rw [h]; rfl
 have HP2:Hid (∀ j:Nat,findF (g H) v m n=(j:Int)→portF (g H) v m n=(g H j).e.port):=fun j h => by unfold portF; rw [h,if_neg (by omega),Int.toNat_natCast]
 generalize portF (g H) v m n=r at *
 generalize findF (g H) v m n=x at *
 have hpw:p < w.heap.size:=h.1
 have hqw:q < w.heap.size:=h.2.1
 have b0:(w.alloc (.cells #[.int .i64 v,.int .u64 (m:Int)] 51)).cell? ⟨w.heap.size,0,none⟩=some (.int .i64 v):=by simp [go_sem]
 have b1:(w.alloc (.cells #[.int .i64 v,.int .u64 (m:Int)] 51)).cell? ⟨w.heap.size,1,none⟩=some (.int .u64 (m:Int)):=by simp [go_sem]
 clear hat hH hM hm hhome h
 go_enter Tryz.func26,Tryz.ntmps26
 go_wp2_with fail
 obtain ⟨w2,hw2⟩:∃ w2,w2=w.alloc (.cells #[.int .i64 v,.int .u64 (m:Int)] 51):=⟨_,rfl⟩
 have HB2:Hid (Below w.heap.size w w2):=by rw [hw2]; exact (Below.refl _ _).alloc (Nat.le_refl _) _
 have hz2:w2.heap.size=w.heap.size + 1:=by rw [hw2]; simp
 rw [← hw2] at b0 b1 ⊢
 clear hw2
 have HBK2:=Lib.hid (HBK.out.call HB2.out)
 obtain ⟨hp,hq0,_,_,_,_,⟨cap,c1,c2,s2⟩,hfz,hrows⟩:=HBK2.out
 rw [← HM.out] at c1 s2 hrows
 obtain ⟨v0,s3,hrow⟩:=hrows H hh2
 unfold maxLen at c2
 have g0:(0:Int)≤(H:Int):=Int.natCast_nonneg _
 have g1:(H:Int) < (M:Int):=by omega
 have HAT2:Hid (Calls Tryz.prog 66 #[.pointer (some ⟨p,0,none⟩),.agg #[.int .i64 v,.int .u64 (m:Int)]] w2.drew (Says (.int .i64 (H:Nat)) w2.drew)):=HAT.out _ (HB2.out.drew)
 have HROW:=Lib.hid hrow.row
 clear hrow hrows HAT HBK hfz
 go_region_held3 (fun w' => w'.cell? ⟨p,3,none⟩=some (.slice (some ⟨q,0,none⟩) M cap)∧w'.cell? ⟨q,H,none⟩=some v0∧w'.cell? ⟨w.heap.size,0,none⟩=some (.int .i64 v)∧w'.cell? ⟨w.heap.size,1,none⟩=some (.int .u64 (m:Int)))
  (first | exact ⟨(hbd4.cell (p:=⟨p,3,none⟩) hp).trans s2,(hbd4.cell (p:=⟨q,H,none⟩) hq0).trans s3,(hbd4.cell (p:=⟨w.heap.size,0,none⟩) (by show w.heap.size < w2.heap.size; omega)).trans b0,(hbd4.cell (p:=⟨w.heap.size,1,none⟩) (by show w.heap.size < w2.heap.size; omega)).trans b1⟩ | go_keep)
  (first | (go_at_call 66; (with_reducible refine Calls.mono HAT2.out ?_); rintro e w4 ⟨rfl,hb'⟩; have hbd4:Below w2.heap.size w2 w4:=((Below.refl w2.heap.size w2).drew).trans hb'))
 have u0:=(hbd4.cell (p:=⟨w.heap.size,0,none⟩) (by show w.heap.size < w2.heap.size; omega)).trans b0
 have u1:=(hbd4.cell (p:=⟨w.heap.size,1,none⟩) (by show w.heap.size < w2.heap.size; omega)).trans b1
 have HR4:Hid (PlRow w4 w4.heap.size v0 n (g H)):=by
  have h1:=HROW.out.below hbd4
  obtain ⟨A,cp,e1,e2,e3,e4⟩:=h1
  refine ⟨A,cp,e1,e2,e3,fun hn => ?_⟩
  obtain ⟨b,off,f1,f2,f3⟩:=e4 hn
  exact ⟨b,off,f1,by have:=hbd4.size; omega,f3⟩
 have HB4:Hid (Below w.heap.size w w4):=HB2.out.trans (hbd4.mono (by omega))
 clear hb' hbd4 b0 b1 s2 s3 HROW HBK2 HB2
 go_wp2_with fail
 refine (HF.out _ _ HR4.out).mono ?_
 rintro e w5 ⟨rfl,hb5⟩
 have HR5:=Lib.hid (HR4.out.below hb5)
 have HB5:Hid (Below w.heap.size w w5):=HB4.out.trans (hb5.mono HB4.out.size)
 clear hb5 HR4 HB4
 rcases (show x=-1 ∨ 0≤x by omega) with hx | hx
 ·subst hx
  have hr:=HP1.out rfl
  subst hr
  clear HP1 HP2
  go_wp2
  go_ret
  exact ⟨by first | rfl | (simp; done),HB5.out⟩
 ·obtain ⟨j,rfl⟩:=Int.eq_ofNat_of_zero_le hx
  have hr:=HP2.out j rfl
  clear HP1 HP2
  subst hr
  have d1:(0:Int)≤(j:Int):=Int.natCast_nonneg _
  have d2:(j:Int) < (n:Int):=by omega
  have d3:¬ (j:Int) < 0:=by omega
  obtain ⟨A,cap2,rfl,x1,x2,x3⟩:=HR5.out
  obtain ⟨b,off,rfl,hbb,hc⟩:=x3 (by omega)
  unfold maxLen at x2
  have hcj:=(hc j (by omega)).2.2.2.1
  clear hc x3
  generalize (g H j).e.port=pt at *
  have hcj':w5.cell? ⟨b,off + j * 6 + 3,none⟩=some (.int .i64 pt):=hcj
  clear hcj
  go_wp2
  go_ret
  exact ⟨by first | rfl | (simp; done),HB5.out⟩
set_option maxHeartbeats 1600000 in
theorem ref11_AgeNo {w:World} {D:Nat→Prop} {p q S B n:Nat} {g:Nat→Nat→Pl} (h:BkAt w D p q S B n g) (hS:1≤S∧S≤8) (hB:1≤B∧B≤16) (s t:Int) (now lim:Nat) (ha:atI S B s t < 0) :
  Calls Tryz.prog 81 #[.pointer (some ⟨p,0,none⟩),.int .i64 s,.int .i64 t,.int .u32 (now:Int),.int .u32 (lim:Int)] w fun e w' => e=.returned (.int .i64 0)∧w=w':=by
 have hno:¬ (0≤s∧s < S∧0≤t∧t < B):=fun hc => by
  unfold atI at ha
  rw [if_pos hc] at ha
  have:=Int.mul_nonneg hc.1 (show (0:Int)≤(B:Int) by omega)
  omega
 obtain ⟨hp,_,_,s0,s1,_⟩:=h
 clear ha hp
 rcases (show s < 0 ∨ (¬ s < 0∧(S:Int)≤s) ∨ (¬ s < 0∧¬ (S:Int)≤s∧t < 0) ∨ (¬ s < 0∧¬ (S:Int)≤s∧¬ t < 0∧(B:Int)≤t) by omega) with h1 | ⟨h1,h2⟩ | ⟨h1,h2,h3⟩ | ⟨h1,h2,h3,h4⟩
 ·have d1:decide (s < 0)=true:=by simpa using h1
  clear hno
  go_enter Tryz.func81,Tryz.ntmps81
  go_wp2
  go_ret
  exact ⟨rfl,rfl⟩
 ·have d1:decide (s < 0)=false:=by simpa using h1
  have d2:decide (s ≥ (S:Int))=true:=by simpa using h2
  have d2':decide ((S:Int)≤s)=true:=by simpa using h2
  clear hno
  go_enter Tryz.func81,Tryz.ntmps81
  go_wp2
  go_ret
  exact ⟨rfl,rfl⟩
 ·have d1:decide (s < 0)=false:=by simpa using h1
  have d2:decide (s ≥ (S:Int))=false:=by simpa using h2
  have d2':decide ((S:Int)≤s)=false:=by simpa using h2
  have d3:decide (t < 0)=true:=by simpa using h3
  clear hno
  go_enter Tryz.func81,Tryz.ntmps81
  go_wp2
  go_ret
  exact ⟨rfl,rfl⟩
 ·have d1:decide (s < 0)=false:=by simpa using h1
  have d2:decide (s ≥ (S:Int))=false:=by simpa using h2
  have d2':decide ((S:Int)≤s)=false:=by simpa using h2
  have d3:decide (t < 0)=false:=by simpa using h3
  have d4:decide (t ≥ (B:Int))=true:=by simpa using h4
  have d4':decide ((B:Int)≤t)=true:=by simpa using h4
  clear hno
  go_enter Tryz.func81,Tryz.ntmps81
  go_wp2
  go_ret
  exact ⟨rfl,rfl⟩
set_option maxRecDepth 20000 in
set_option maxHeartbeats 3200000 in
theorem ref11_Age {w:World} {D:Nat→Prop} {p q S B n:Nat} {g:Nat→Nat→Pl} (h:BkAt w D p q S B n g) (hD:∀ b,D b→b < w.heap.size) (hq:D q) (hS:1≤S∧S≤8) (hB:1≤B∧B≤16) (hn:n≤1000000) (hst:∀ i,i < S * B→∀ j,j < n→(g i j).e.stamp < 4294967296) (s t:Int) (now lim:Nat) (hnow:now < 4294967296) (H:Nat) (hh2:H < S * B) (ha:atI S B s t=(H:Int)) :
  Calls Tryz.prog 81 #[.pointer (some ⟨p,0,none⟩),.int .i64 s,.int .i64 t,.int .u32 (now:Int),.int .u32 (lim:Int)] w fun e w' => e=.returned (.int .i64 (ageC g H now lim n:Nat))∧BkAt w' D p q S B n (updR g H (ageR g H now lim))∧But q w w':=by
 have hyes:0≤s∧s < S∧0≤t∧t < B:=by
  refine Decidable.byContradiction fun hc => ?_
  unfold atI at ha
  rw [if_neg hc] at ha
  omega
 obtain ⟨y1,y2,y3,y4⟩:=hyes
 obtain ⟨a,rfl⟩:=Int.eq_ofNat_of_zero_le y1
 obtain ⟨b,rfl⟩:=Int.eq_ofNat_of_zero_le y3
 have hab:a * B≤8 * 16:=Nat.mul_le_mul (by omega) hB.2
 have e1:(a:Int) * (B:Int)=((a * B:Nat):Int):=by simp
 have hH:H=a * B + b:=by
  unfold atI at ha
  rw [if_pos ⟨y1,y2,y3,y4⟩,e1] at ha
  omega
 have N1:Hid (wrap64 ((a:Int) * (B:Int))=((a * B:Nat):Int)):=by show _=_; rw [e1]; exact IntWalk.wrap64_in _ (by omega)
 have N2:Hid (wrap64 (((a * B:Nat):Int) + (b:Int))=(H:Int)):=by show _=_; rw [show ((a * B:Nat):Int) + (b:Int)=(H:Int) by omega]; exact IntWalk.wrap64_in _ (by omega)
 have d1:decide ((a:Int) < 0)=false:=by simp
 have d2:decide ((a:Int) ≥ (S:Int))=false:=by simp; omega
 have d2':decide ((S:Int)≤(a:Int))=false:=by simp; omega
 have d3:decide ((b:Int) < 0)=false:=by simp
 have d4:decide ((b:Int) ≥ (B:Int))=false:=by simp; omega
 have d4':decide ((B:Int)≤(b:Int))=false:=by simp; omega
 have d2n:¬ S≤a:=by omega
 have d4n:¬ B≤b:=by omega
 obtain ⟨M,hM⟩:∃ M,M=S * B:=⟨_,rfl⟩
 have hMB:M≤128:=by rw [hM]; exact Nat.mul_le_mul hS.2 hB.2
 have HBK:=Lib.hid h
 have HM:=Lib.hid hM
 have HD:=Lib.hid hD
 have HL:=Lib.hid fun w u (hr:PlRow w w.heap.size u n (g H)) => ref10_Age hn hr (Nat.le_refl _) now lim hnow (hst H hh2)
 have HH2:=Lib.hid hh2
 change Hid (∀ w u (hr:PlRow w w.heap.size u n (g H)),Calls Tryz.prog 120 #[u,.int .u32 (now:Int),.int .u32 (lim:Int)] w (Gives 123 n (ageR g H now lim) (fun u => .tuple #[u,.int .i64 (ageC g H now lim n:Nat)]) w)) at HL
 obtain ⟨hp,hq0,hpq,s0,s1,_,⟨cap,c1,c2,s2⟩,hfz,hrows⟩:=h
 rw [← hM] at c1 s2 hrows
 obtain ⟨v0,s3,hrow⟩:=hrows H (by rw [hM]; exact hh2)
 unfold maxLen at c2
 have g0:(0:Int)≤(H:Int):=Int.natCast_nonneg _
 have g1:(H:Int) < (M:Int):=by rw [hM]; omega
 have HROW:=Lib.hid hrow.row
 generalize ageR g H now lim=r1 at *
 generalize ageC g H now lim n=r2 at *
 generalize a * B=AB at *
 clear hrow hrows hH e1 ha hab hst hnow hn hM hD y1 y3 hh2
 have n1:=N1.out
 have n2:=N2.out
 go_enter Tryz.func81,Tryz.ntmps81
 go_wp2_with fail
 simp only [n1,n2]
 clear n1 n2
 refine (HL.out _ _ HROW.out).mono ?_
 rintro e w4 ⟨va,rfl,hra,hb⟩
 have HRA:=Lib.hid hra
 obtain ⟨Av,cv,hva,_⟩:=hra
 subst hva
 have HBK4:=Lib.hid (HBK.out.call hb)
 have t2:=(hb.cell (p:=⟨p,3,none⟩) hp).trans s2
 have t3:=(hb.cell (p:=⟨q,H,none⟩) hq0).trans s3
 have f4:∀ o,w4.frozen? ⟨q,o,none⟩=false:=HBK4.out.2.2.2.2.2.2.2.1
 have HB4:=Lib.hid hb
 clear hb s2 s3 hfz HROW HL s0 s1
 go_wp2
 go_ret
 refine ⟨rfl,?_,?_⟩
 ·exact HBK4.out.put HH2.out (PlRowD.of_own HRA.out fun b hb => HD.out b hb) hq
 ·exact (But.of HB4.out (by omega)).trans (But.set H _)
set_option maxHeartbeats 6400000 in
theorem ref11_Flush {w:World} {D:Nat→Prop} {p q S B n:Nat} {g:Nat→Nat→Pl} (h:BkAt w D p q S B n g) (hD:∀ b,D b→b < w.heap.size) (hq:D q) (hS:1≤S∧S≤8) (hB:1≤B∧B≤16) (hn:n≤8) (a b:Int) :
  Calls Tryz.prog 82 #[.pointer (some ⟨p,0,none⟩),.agg #[.int .i64 a,.int .i64 b]] w fun e w' =>
   e=.returned (.int .i64 (flC a b g n (S * B):Nat))∧BkAt w' D p q S B n (flG a b g (S * B))∧But q w w':=by
 obtain ⟨M,hM⟩:∃ M,M=S * B:=⟨_,rfl⟩
 have hMB:M≤128:=by rw [hM]; exact Nat.mul_le_mul hS.2 hB.2
 have HF:=Lib.hid fun f w u (hr:PlRow w w.heap.size u n f) => ref10_Flush (show n≤1000000 by omega) hr (Nat.le_refl _) a b
 change Hid (∀ f w u (hr:PlRow w w.heap.size u n f),Calls Tryz.prog 121 #[u,.agg #[.int .i64 a,.int .i64 b]] w (Gives 123 n (flR a b f) (fun u => .tuple #[u,.int .i64 (flN a b f n:Nat)]) w)) at HF
 have HBK:=Lib.hid h
 have HM:=Lib.hid hM
 have HD:=Lib.hid hD
 have HLE:=Lib.hid fun k => flC_le a b g n k
 obtain ⟨hp,hq0,hpq,_,_,_,⟨cap,c1,c2,s2⟩,_,_⟩:=h
 rw [← hM] at c1 s2
 unfold maxLen at c2
 have k3:∀ o,(w.alloc o).cell? ⟨p,3,none⟩=some (.slice (some ⟨q,0,none⟩) M cap):=fun o => (World.cell?_alloc_lt _ _ _ (by show p < _; omega)).trans s2
 rw [← hM]
 have HK3:=Lib.hid k3
 clear hM hD s2
 go_enter Tryz.func82,Tryz.ntmps82
 go_wp2
 clear k3
 go_loopw [5,6] (fun gone i wr => ∃ k:Nat,k≤M∧i=.int .i64 k∧gone=.int .i64 (flC a b g n k:Nat)∧Hid (BkAt wr D p q S B n (flG a b g k))∧Hid (But q w wr)∧Hid (wr.cell? ⟨w.heap.size,0,none⟩=some (.int .i64 a)∧wr.cell? ⟨w.heap.size,1,none⟩=some (.int .i64 b)∧wr.cell? ⟨p,3,none⟩=some (.slice (some ⟨q,0,none⟩) M cap)∧w.heap.size < wr.heap.size)) (fun _ i _ => M - (intOf i).toNat)
 case atStart => exact ⟨0,by omega,rfl,rfl,(HBK.out.call ((Below.refl _ _).alloc (Nat.le_refl _) _)).congr fun i _ => by unfold flG; rw [if_neg (by omega)],But.of ((Below.refl _ _).alloc (Nat.le_refl _) _) (by omega),by simp [go_sem],by simp [go_sem],HK3.out _,by simp⟩
 case round =>
  obtain ⟨k,hk,rfl,rfl,HBW,HBT,HX⟩:=hrel
  obtain ⟨x0,x1,x3,xz⟩:=HX.out
  by_cases hlt:k < M
  ·have g0:(0:Int)≤(k:Int):=Int.natCast_nonneg _
   have g1:(k:Int) < (M:Int):=by omega
   obtain ⟨hp',hq',_,_,_,_,_,hfz,hrows⟩:=HBW.out
   obtain ⟨v0,s3,hrow⟩:=hrows k (by rw [← HM.out]; exact hlt)
   have hgk:flG a b g k k=g k:=by unfold flG; rw [if_neg (by omega)]
   rw [hgk] at hrow
   have hle:=HLE.out k
   have hle2:=HLE.out (k + 1)
   have hkn:(k + 1) * n≤1024:=by
    have:(k + 1) * n≤128 * 8:=Nat.mul_le_mul (by omega) hn
    omega
   have hc1:flC a b g n (k + 1)=flC a b g n k + flN a b (g k) n:=rfl
   have HROW:Hid (PlRow wr.drew wr.drew.heap.size v0 n (g k)):=hrow.row.below (Below.drew (Below.refl _ _))
   have HNXG:Hid (∀ i,updR (flG a b g k) k (flR a b (g k)) i=flG a b g (k + 1) i):=fun i => by
    unfold updR flG
    by_cases h1:i=k
    ·subst h1; rw [if_pos rfl,if_pos (by omega)]
    ·rw [if_neg h1]
     by_cases h2:i < k
     ·rw [if_pos h2,if_pos (by omega)]
     ·rw [if_neg h2,if_neg (by omega)]
   have HFK:=Lib.hid (HF.out (g k))
   obtain ⟨c,hc⟩:∃ c,c=flC a b g n k:=⟨_,rfl⟩
   obtain ⟨c',hc'⟩:∃ c',c'=flN a b (g k) n:=⟨_,rfl⟩
   rw [← hc,← hc'] at hc1
   rw [← hc'] at HFK
   rw [← hc]
   have HC1:=Lib.hid hc1
   have hsum:c + c'≤1024:=by omega
   obtain ⟨hadd,hadd3⟩:=add_in hsum
   clear hrow hrows hgk hle hle2 hkn hc1 hc hc'
   go_wp2_with fail
   go_region_held3 (fun w' => w'.cell? ⟨p,3,none⟩=some (.slice (some ⟨q,0,none⟩) M cap)∧w'.cell? ⟨q,k,none⟩=some v0∧w'.cell? ⟨w.heap.size,0,none⟩=some (.int .i64 a)∧w'.cell? ⟨w.heap.size,1,none⟩=some (.int .i64 b))
    (first | exact ⟨(hb.cell (p:=⟨p,3,none⟩) hp').trans x3,(hb.cell (p:=⟨q,k,none⟩) hq').trans s3,(hb.cell (p:=⟨w.heap.size,0,none⟩) xz).trans x0,(hb.cell (p:=⟨w.heap.size,1,none⟩) xz).trans x1⟩ | go_keep)
    (first | (go_at_call 121; (with_reducible refine Calls.mono (HFK.out _ _ HROW.out) ?_); rintro e w4 ⟨va,rfl,hra,hb'⟩; have hb:Below wr.heap.size wr w4:=((Below.refl wr.heap.size wr).drew).trans hb'; have HRA:=Lib.hid hra; clear hra))
   obtain ⟨Av,cv,hva,_⟩:=HRA.out
   subst hva
   have HBK4:=Lib.hid (HBW.out.call hb)
   have s4:=(hb.cell (p:=⟨q,k,none⟩) hq').trans s3
   have f4:∀ o,w4.frozen? ⟨q,o,none⟩=false:=HBK4.out.2.2.2.2.2.2.2.1
   have y0:=(hb.cell (p:=⟨w.heap.size,0,none⟩) xz).trans x0
   have y1:=(hb.cell (p:=⟨w.heap.size,1,none⟩) xz).trans x1
   have y3:=(hb.cell (p:=⟨p,3,none⟩) hp').trans x3
   have hz4:=hb.size
   have HBT4:Hid (But q w w4):=HBT.out.trans (But.of hb (by omega))
   have hwr:=HBT.out.below.size
   have HST:Hid (∀ v,But q w4 (w4.setCell ⟨q,k,none⟩ v)):=fun v => But.set k v
   have HPUT:Hid (BkAt (w4.setCell ⟨q,k,none⟩ (.slice Av n cv)) D p q S B n (flG a b g (k + 1))) :=
    (HBK4.out.put (by rw [← HM.out]; exact hlt) (PlRowD.of_own HRA.out fun b hb => by have:=HD.out b hb; show b < wr.heap.size; omega) hq).congr fun i _ => HNXG.out i
   clear hb hb' HRA HROW HFK s3 x0 x1 x3 HNXG HBW HBT
   go_wp2
   go_roundw
   case rel =>
    refine ⟨k + 1,by omega,by go_num,(by rw [HC1.out]; first | rfl | (simp; done)),HPUT,HBT4.out.trans (HST.out _),?_⟩
    exact ⟨((HST.out _).cell (show w.heap.size < _ by omega) (show w.heap.size ≠ q by omega)).trans y0,((HST.out _).cell (show w.heap.size < _ by omega) (show w.heap.size ≠ q by omega)).trans y1,((HST.out _).cell (show p < _ by omega) hpq).trans y3,by rw [World.size_setCell]; omega⟩
   case measure => simp [intOf]; omega
  ·have hkM:M=k:=by omega
   subst hkM
   go_wp2
   go_ret
   exact ⟨rfl,HBW.out,HBT.out⟩
end Go.Proofs.YthloabdfkakehaaGreat
