/-
  Words and contracts that a statement's proof rests on (BkI). No statement is proved here.
-/
import Derived.Deep.RegionHeld3
import Derived.Test.YtfekhdgjgjodlaaGreatBkC
set_option linter.unusedVariables false
set_option linter.unusedSimpArgs false
namespace Go.Proofs.YtfekhdgjgjodlaaGreat
open Go.RowKit
set_option maxRecDepth 20000 in
set_option maxHeartbeats 6400000 in
theorem zmm {w:World} {D:Nat->Prop} {p q S B n:Nat} {g:Nat->Nat->Pl} (h:BkAt w D p q S B n g) (hD:∀ b,D b->b<w.heap.size) (hq:D q) (hS:1<=S/\S<=8) (hB:1<=B/\B<=16) (hn:n<=1000000) (hst:∀ i,i<S*B->∀ j,j<n->(g i j).e.stamp<4294967296)
  (v:Int) (m:Nat) (hm:m<18446744073709551616) (port:Int) (now:Nat) (hnow:now<4294967296) :
  Calls Tryz.prog 85 #[.pointer (some ⟨p,0,none⟩),.agg #[.int .i64 v,.int .u64 (m:Int)],.int .i64 port,.int .u32 (now:Int)] w fun e w' =>
   e=.returned (.int .i64 ((putF (fun i=>ownP (g (zaj v m S B) i)) ⟨v,m,port,true,0⟩ now n).2:Nat))/\BkAt w' D p q S B n (updR g (zaj v m S B) (putF (fun i=>ownP (g (zaj v m S B) i)) ⟨v,m,port,true,0⟩ now n).1)/\But q w w':=by
 obtain ⟨M,hM⟩:∃ M,M=S*B:=⟨_,rfl⟩;obtain ⟨H,hH⟩:∃ H,H=zaj v m S B:=⟨_,rfl⟩;have hhome:=zdo (v:=v) (m:=m) hS.1 hB.1;rw [<- hH,<- hM] at hhome;obtain ⟨hh1,hh2⟩:=hhome
 have hMB:M<=128:=by rw [hM];exact Nat.mul_le_mul hS.2 hB.2
 have hhm:=fun w' (hb:Below w.heap.size w w')=>zem ((zc7.of h).call hb) (by omega) (by omega) (by omega) v m hm
 rw [hh1] at hhm;have HHM:=Lib.hid hhm;have HBK:=Lib.hid h;have HM:=Lib.hid hM;clear hhm hh1 hM
 have HL:=Lib.hid fun w u (hr:zar w w.heap.size u n (g H))=>ziv hn hr (Nat.le_refl _) (hst H (by rw [<- HM.out];exact hh2)) v m hm port now hnow
 rw [<- hH]
 generalize (putF (fun i=>ownP (g H i)) ⟨v,m,port,true,0⟩ now n)=r at *
 obtain ⟨r1,r2⟩:=r
 simp only at HL |-
 have HD:=Lib.hid hD;clear hst hn hm hnow hH hD h
 go_enter Tryz.func85,Tryz.ntmps85
 go_wp2_with fail
 refine (HHM.out _ ((Below.refl _ _).alloc (Nat.le_refl _) _)).mono ?_
 rintro e w2 ⟨rfl,hb⟩
 have HB2:Hid (Below w.heap.size w w2):=Below.trans ((Below.refl _ _).alloc (Nat.le_refl _) _) (hb.mono (by simp))
 have s0:w2.cell? ⟨w.heap.size,0,none⟩=some (.int .i64 v):=by rw [(zao hb).1 _ _ (by simp)];simp [go_sem]
 have s1:w2.cell? ⟨w.heap.size,1,none⟩=some (.int .u64 (m:Int)):=by rw [(zao hb).1 _ _ (by simp)];simp [go_sem]
 have hz2:w.heap.size+1<=w2.heap.size:=by have:=hb.size;simpa using this
 have HBK2:=Lib.hid (HBK.out.call HB2.out);clear hb HHM;obtain ⟨hp,hq0,hpq,_,_,_,⟨cap,c1,c2,s2⟩,hfz,hrows⟩:=HBK2.out;have hpw:p<w.heap.size:=HBK.out.1;have hqw:q<w.heap.size:=HBK.out.2.1;rw [<- HM.out] at c1 s2 hrows;obtain ⟨v0,s3,hrow⟩:=hrows H hh2;unfold maxLen at c2
 have g0:(0:Int)<=(H:Int):=Int.natCast_nonneg _
 have g1:(H:Int)<(M:Int):=by omega
 have g2:(H:Int)≥0:=g0;have HROW:=Lib.hid hrow.row;clear hrow hrows
 go_wp2_with fail
 refine wp_region_held_drew (S:=fun w'=>w'.cell? ⟨p,3,none⟩=some (.slice (some ⟨q,0,none⟩) M cap)/\w'.cell? ⟨w.heap.size,0,none⟩=some (.int .i64 v)/\w'.cell? ⟨w.heap.size,1,none⟩=some (.int .u64 (m:Int))) (by kernel_rfl) ?_ (fun hHeld=>?_)
 ·exact ⟨s2,s0,s1⟩
 refine tk 0 ?_;refine tk 1 ?_;refine tk 2 ?_;refine tk 3 ?_;refine tk 4 ?_;refine tk 5 ?_;refine tk 6 ?_;refine tk 7 ?_;refine tk 8 ?_;refine tk 9 ?_;refine tk 10 ?_;refine tk 12 ?_;refine tk 13 ?_;refine tk 14 ?_
 refine clR 11 rfl fun K hK=>?_
 go_simp
 refine hK.out _ _ ?_ (fun hHeld=>?_)
 ·(try dsimp only)
  exact hHeld
 clear hK K
 (try simp only [Act.put,sqA,sqB,sqC])
 refine clR 15 rfl fun K hK=>?_
 go_simp
 refine Calls.mono (HL.out _ _ (HROW.out.below bq1)) ?_
 intro e w4 hpost;obtain ⟨va,he,hra,hb⟩:=hpost;subst he;have HRA:=Lib.hid hra;obtain ⟨Av,cv,hva,_⟩:=hra;subst hva;have hbd:Below w2.heap.size w2 w4:=((Below.refl w2.heap.size w2).drew).trans hb;have HBK4:=Lib.hid (HBK2.out.call hbd);have s4:=(hbd.cell (p:=⟨q,H,none⟩) hq0).trans s3
 have f4:∀ o,w4.frozen? ⟨q,o,none⟩=false:=HBK4.out.2.2.2.2.2.2.2.1
 have hz4:=hbd.size
 refine hK.out _ _ ?_ (fun hHeld=>?_)
 ·(try dsimp only)
  obtain ⟨q0,q1,q2⟩:=hHeld
  exact ⟨(hb.cell (p:=⟨p,_,none⟩) (by show p<w2.heap.size;omega)).trans q0,(hb.cell (p:=⟨w.heap.size,_,none⟩) (by show w.heap.size<w2.heap.size;omega)).trans q1,(hb.cell (p:=⟨w.heap.size,_,none⟩) (by show w.heap.size<w2.heap.size;omega)).trans q2⟩
 clear hK K;refine tk 16 ?_;refine tk 17 ?_;refine tk 18 ?_;refine tk 19 ?_
 refine clR 20 rfl fun K hK=>?_
 go_simp
 refine hK.out _ _ ?_ (fun hHeld=>?_)
 ·(try dsimp only)
  obtain ⟨q0,q1,q2⟩:=hHeld
  exact ⟨((But.set H _).cell (show p<w4.heap.size by omega) (show p≠q by omega)).trans q0,((But.set H _).cell (show w.heap.size<w4.heap.size by omega) (show w.heap.size≠q by omega)).trans q1,((But.set H _).cell (show w.heap.size<w4.heap.size by omega) (show w.heap.size≠q by omega)).trans q2⟩
 clear hK K;refine tk 21 ?_
 refine dnR ?_
 go_wp2
 go_ret
 refine ⟨by first|rfl|(simp;done),?_,?_⟩
 ·exact HBK4.out.put (by rw [<- HM.out];exact hh2) (za9.of_own HRA.out fun b hb=>by have:=HD.out b hb;show b<w2.heap.size;omega) hq
 ·exact ((But.of HB2.out (by omega)).trans (But.of hbd (by omega))).trans (But.set H _)
set_option maxRecDepth 20000 in
set_option maxHeartbeats 6400000 in
theorem zn0 {w:World} {D:Nat->Prop} {p q S B n:Nat} {g:Nat->Nat->Pl} (h:BkAt w D p q S B n g) (hD:∀ b,D b->b<w.heap.size) (hq:D q) (hS:1<=S/\S<=8) (hB:1<=B/\B<=16) (hn:n<=1000000) 
  (v:Int) (m:Nat) (hm:m<18446744073709551616) :
  Calls Tryz.prog 87 #[.pointer (some ⟨p,0,none⟩),.agg #[.int .i64 v,.int .u64 (m:Int)]] w fun e w' =>
   e=.returned (.bool (zbv (fun i=>ownP (g (zaj v m S B) i)) v m n).2)/\BkAt w' D p q S B n (updR g (zaj v m S B) (zbv (fun i=>ownP (g (zaj v m S B) i)) v m n).1)/\But q w w':=by
 obtain ⟨M,hM⟩:∃ M,M=S*B:=⟨_,rfl⟩;obtain ⟨H,hH⟩:∃ H,H=zaj v m S B:=⟨_,rfl⟩;have hhome:=zdo (v:=v) (m:=m) hS.1 hB.1;rw [<- hH,<- hM] at hhome;obtain ⟨hh1,hh2⟩:=hhome
 have hMB:M<=128:=by rw [hM];exact Nat.mul_le_mul hS.2 hB.2
 have hhm:=fun w' (hb:Below w.heap.size w w')=>zem ((zc7.of h).call hb) (by omega) (by omega) (by omega) v m hm
 rw [hh1] at hhm;have HHM:=Lib.hid hhm;have HBK:=Lib.hid h;have HM:=Lib.hid hM;clear hhm hh1 hM
 have HL:=Lib.hid fun w u (hr:zar w w.heap.size u n (g H))=>zka hn hr (Nat.le_refl _) v m
 rw [<- hH]
 generalize (zbv (fun i=>ownP (g H i)) v m n)=r at *
 obtain ⟨r1,r2⟩:=r
 simp only at HL |-
 have HD:=Lib.hid hD;clear hn hm hH hD h
 go_enter Tryz.func87,Tryz.ntmps87
 go_wp2_with fail
 refine (HHM.out _ ((Below.refl _ _).alloc (Nat.le_refl _) _)).mono ?_
 rintro e w2 ⟨rfl,hb⟩
 have HB2:Hid (Below w.heap.size w w2):=Below.trans ((Below.refl _ _).alloc (Nat.le_refl _) _) (hb.mono (by simp))
 have s0:w2.cell? ⟨w.heap.size,0,none⟩=some (.int .i64 v):=by rw [(zao hb).1 _ _ (by simp)];simp [go_sem]
 have s1:w2.cell? ⟨w.heap.size,1,none⟩=some (.int .u64 (m:Int)):=by rw [(zao hb).1 _ _ (by simp)];simp [go_sem]
 have hz2:w.heap.size+1<=w2.heap.size:=by have:=hb.size;simpa using this
 have HBK2:=Lib.hid (HBK.out.call HB2.out);clear hb HHM;obtain ⟨hp,hq0,hpq,_,_,_,⟨cap,c1,c2,s2⟩,hfz,hrows⟩:=HBK2.out;have hpw:p<w.heap.size:=HBK.out.1;have hqw:q<w.heap.size:=HBK.out.2.1;rw [<- HM.out] at c1 s2 hrows;obtain ⟨v0,s3,hrow⟩:=hrows H hh2;unfold maxLen at c2
 have g0:(0:Int)<=(H:Int):=Int.natCast_nonneg _
 have g1:(H:Int)<(M:Int):=by omega
 have g2:(H:Int)≥0:=g0;have HROW:=Lib.hid hrow.row;clear hrow hrows
 go_wp2_with fail
 refine wp_region_held_drew (S:=fun w'=>w'.cell? ⟨p,3,none⟩=some (.slice (some ⟨q,0,none⟩) M cap)/\w'.cell? ⟨w.heap.size,0,none⟩=some (.int .i64 v)/\w'.cell? ⟨w.heap.size,1,none⟩=some (.int .u64 (m:Int))) (by kernel_rfl) ?_ (fun hHeld=>?_)
 ·exact ⟨s2,s0,s1⟩
 refine tk 0 ?_;refine tk 1 ?_;refine tk 2 ?_;refine tk 3 ?_;refine tk 4 ?_;refine tk 5 ?_;refine tk 6 ?_;refine tk 7 ?_;refine tk 8 ?_;refine tk 9 ?_;refine tk 10 ?_;refine tk 12 ?_
 refine clR 11 rfl fun K hK=>?_
 go_simp
 refine hK.out _ _ ?_ (fun hHeld=>?_)
 ·(try dsimp only)
  exact hHeld
 clear hK K
 (try simp only [Act.put,sqA,sqB,sqC])
 refine clR 13 rfl fun K hK=>?_
 go_simp
 refine Calls.mono (HL.out _ _ (HROW.out.below bq1)) ?_
 intro e w4 hpost;obtain ⟨va,he,hra,hb⟩:=hpost;subst he;have HRA:=Lib.hid hra;obtain ⟨Av,cv,hva,_⟩:=hra;subst hva;have hbd:Below w2.heap.size w2 w4:=((Below.refl w2.heap.size w2).drew).trans hb;have HBK4:=Lib.hid (HBK2.out.call hbd);have s4:=(hbd.cell (p:=⟨q,H,none⟩) hq0).trans s3
 have f4:∀ o,w4.frozen? ⟨q,o,none⟩=false:=HBK4.out.2.2.2.2.2.2.2.1
 have hz4:=hbd.size
 refine hK.out _ _ ?_ (fun hHeld=>?_)
 ·(try dsimp only)
  obtain ⟨q0,q1,q2⟩:=hHeld
  exact ⟨(hb.cell (p:=⟨p,_,none⟩) (by show p<w2.heap.size;omega)).trans q0,(hb.cell (p:=⟨w.heap.size,_,none⟩) (by show w.heap.size<w2.heap.size;omega)).trans q1,(hb.cell (p:=⟨w.heap.size,_,none⟩) (by show w.heap.size<w2.heap.size;omega)).trans q2⟩
 clear hK K;refine tk 14 ?_;refine tk 15 ?_;refine tk 16 ?_;refine tk 17 ?_
 refine clR 18 rfl fun K hK=>?_
 go_simp
 refine hK.out _ _ ?_ (fun hHeld=>?_)
 ·(try dsimp only)
  obtain ⟨q0,q1,q2⟩:=hHeld
  exact ⟨((But.set H _).cell (show p<w4.heap.size by omega) (show p≠q by omega)).trans q0,((But.set H _).cell (show w.heap.size<w4.heap.size by omega) (show w.heap.size≠q by omega)).trans q1,((But.set H _).cell (show w.heap.size<w4.heap.size by omega) (show w.heap.size≠q by omega)).trans q2⟩
 clear hK K;refine tk 19 ?_
 refine dnR ?_
 go_wp2
 go_ret
 refine ⟨by first|rfl|(simp;done),?_,?_⟩
 ·exact HBK4.out.put (by rw [<- HM.out];exact hh2) (za9.of_own HRA.out fun b hb=>by have:=HD.out b hb;show b<w2.heap.size;omega) hq
 ·exact ((But.of HB2.out (by omega)).trans (But.of hbd (by omega))).trans (But.set H _)
def ageR (g:Nat->Nat->Pl) (H now lim:Nat):Nat->Pl:=zci (fun i=>ownP (g H i)) (oldE now lim)
def ageC (g:Nat->Nat->Pl) (H now lim n:Nat):Nat:=zbq (fun i=>ownP (g H i)) (oldE now lim) n
set_option maxRecDepth 20000 in
set_option maxHeartbeats 6400000 in
theorem book_Age {w:World} {D:Nat->Prop} {p q S B n:Nat} {g:Nat->Nat->Pl} (h:BkAt w D p q S B n g) (hD:∀ b,D b->b<w.heap.size) (hq:D q) (hS:1<=S/\S<=8) (hB:1<=B/\B<=16) (hn:n<=1000000) (hst:∀ i,i<S*B->∀ j,j<n->(g i j).e.stamp<4294967296)
  (s t:Int) (now lim:Nat) (hnow:now<4294967296) (H:Nat) (hh2:H<S*B) (ha:atI S B s t=(H:Int)) :
  Calls Tryz.prog 88 #[.pointer (some ⟨p,0,none⟩),.int .i64 s,.int .i64 t,.int .u32 (now:Int),.int .u32 (lim:Int)] w fun e w' =>
   e=.returned (.int .i64 (ageC g H now lim n:Nat))/\BkAt w' D p q S B n (updR g H (ageR g H now lim))/\But q w w':=by
 obtain ⟨M,hM⟩:∃ M,M=S*B:=⟨_,rfl⟩;rw [<- hM] at hh2
 have hMB:M<=128:=by rw [hM];exact Nat.mul_le_mul hS.2 hB.2
 have hhm:=fun w' (hb:Below w.heap.size w w')=>zkj ((zc7.of h).call hb) (by omega) (by omega) (by omega) s t
 rw [ha] at hhm;have HHM:=Lib.hid hhm;have HBK:=Lib.hid h;have HM:=Lib.hid hM
 have HL:=Lib.hid fun w u (hr:zar w w.heap.size u n (g H))=>zm0 hn hr (Nat.le_refl _) now lim hnow (hst H (by rw [<- HM.out];exact hh2))
 change Hid (∀ w u (hr:zar w w.heap.size u n (g H)),Calls Tryz.prog 112 #[u,.int .u32 (now:Int),.int .u32 (lim:Int)] w (zdf 195 n (ageR g H now lim) (fun u=>.tuple #[u,.int .i64 (ageC g H now lim n:Nat)]) w)) at HL
 generalize ageR g H now lim=r1 at *
 generalize ageC g H now lim n=r2 at *
 have HD:=Lib.hid hD;clear hst hn hnow hM hD h ha hhm
 go_enter Tryz.func88,Tryz.ntmps88
 go_wp2_with fail
 refine (HHM.out _ (Below.refl _ _)).mono ?_
 rintro e w2 ⟨rfl,hb⟩;have HB2:Hid (Below w.heap.size w w2):=hb
 have hz2:w.heap.size<=w2.heap.size:=hb.size
 have HBK2:=Lib.hid (HBK.out.call HB2.out);clear hb HHM;obtain ⟨hp,hq0,hpq,_,_,_,⟨cap,c1,c2,s2⟩,hfz,hrows⟩:=HBK2.out;have hpw:p<w.heap.size:=HBK.out.1;have hqw:q<w.heap.size:=HBK.out.2.1;rw [<- HM.out] at c1 s2 hrows;obtain ⟨v0,s3,hrow⟩:=hrows H hh2;unfold maxLen at c2
 have g0:(0:Int)<=(H:Int):=Int.natCast_nonneg _
 have g1:(H:Int)<(M:Int):=by omega
 have g2:(H:Int)≥0:=g0;have HROW:=Lib.hid hrow.row;clear hrow hrows
 go_wp2_with fail
 refine wp_region_held_drew (S:=fun w'=>w'.cell? ⟨p,3,none⟩=some (.slice (some ⟨q,0,none⟩) M cap)) (by kernel_rfl) ?_ (fun hHeld=>?_)
 ·exact s2
 refine tk 0 ?_;refine tk 1 ?_;refine tk 2 ?_;refine tk 3 ?_;refine tk 4 ?_;refine tk 5 ?_;refine tk 6 ?_;refine tk 7 ?_;refine tk 8 ?_;refine tk 9 ?_;refine tk 10 ?_;refine tk 12 ?_;refine tk 13 ?_
 refine clR 11 rfl fun K hK=>?_
 go_simp
 refine hK.out _ _ ?_ (fun hHeld=>?_)
 ·(try dsimp only)
  exact hHeld
 clear hK K
 (try simp only [Act.put,sqA,sqB,sqC])
 refine clR 14 rfl fun K hK=>?_
 go_simp
 refine Calls.mono (HL.out _ _ (HROW.out.below bq1)) ?_
 intro e w4 hpost;obtain ⟨va,he,hra,hb⟩:=hpost;subst he;have HRA:=Lib.hid hra;obtain ⟨Av,cv,hva,_⟩:=hra;subst hva;have hbd:Below w2.heap.size w2 w4:=((Below.refl w2.heap.size w2).drew).trans hb;have HBK4:=Lib.hid (HBK2.out.call hbd);have s4:=(hbd.cell (p:=⟨q,H,none⟩) hq0).trans s3
 have f4:∀ o,w4.frozen? ⟨q,o,none⟩=false:=HBK4.out.2.2.2.2.2.2.2.1
 have hz4:=hbd.size
 refine hK.out _ _ ?_ (fun hHeld=>?_)
 ·(try dsimp only)
  exact (hb.cell (p:=⟨p,_,none⟩) (by show p<w2.heap.size;omega)).trans hHeld
 clear hK K;refine tk 15 ?_;refine tk 16 ?_;refine tk 17 ?_;refine tk 18 ?_
 refine clR 19 rfl fun K hK=>?_
 go_simp
 refine hK.out _ _ ?_ (fun hHeld=>?_)
 ·(try dsimp only)
  exact ((But.set H _).cell (show p<w4.heap.size by omega) (show p≠q by omega)).trans hHeld
 clear hK K;refine tk 20 ?_
 refine dnR ?_
 go_wp2
 go_ret
 refine ⟨by first|rfl|(simp;done),?_,?_⟩
 ·exact HBK4.out.put (by rw [<- HM.out];exact hh2) (za9.of_own HRA.out fun b hb=>by have:=HD.out b hb;show b<w2.heap.size;omega) hq
 ·exact ((But.of HB2.out (by omega)).trans (But.of hbd (by omega))).trans (But.set H _)
set_option maxHeartbeats 1600000 in
theorem znn {w:World} {D:Nat->Prop} {p q S B n:Nat} {g:Nat->Nat->Pl} (h:BkAt w D p q S B n g) (hS:1<=S/\S<=8) (hB:1<=B/\B<=16)
  (s t:Int) (now lim:Int) (ha:atI S B s t=-1) :
  Calls Tryz.prog 88 #[.pointer (some ⟨p,0,none⟩),.int .i64 s,.int .i64 t,.int .u32 now,.int .u32 lim] w (Says (.int .i64 0) w):=by
 have hMB:S*B<=128:=Nat.mul_le_mul hS.2 hB.2
 have hhm:=fun w' (hb:Below w.heap.size w w')=>zkj ((zc7.of h).call hb) (by omega) (by omega) (by omega) s t
 rw [ha] at hhm;have HHM:=Lib.hid hhm;clear hhm ha h hMB
 go_enter Tryz.func88,Tryz.ntmps88
 go_wp2_with fail
 refine (HHM.out _ (Below.refl _ _)).mono ?_
 rintro e w2 ⟨rfl,hb⟩;have HB2:Hid (Below w.heap.size w w2):=hb;clear hb
 go_wp2
 go_ret
 exact ⟨rfl,HB2.out⟩
end Go.Proofs.YtfekhdgjgjodlaaGreat
