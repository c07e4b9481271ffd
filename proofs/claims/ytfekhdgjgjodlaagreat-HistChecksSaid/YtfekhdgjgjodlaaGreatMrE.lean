/-
  Words and contracts that a statement's proof rests on (MrE). No statement is proved here.
-/
import Derived.Test.YtfekhdgjgjodlaaGreatMrD
import Derived.Test.YtfekhdgjgjodlaaGreatBkR
set_option linter.unusedVariables false
set_option linter.unusedSimpArgs false
namespace Go.Proofs.YtfekhdgjgjodlaaGreat
open Go.RowKit
theorem RfAll.bookD {E:Nat->Prop} {w w':World} {L A S1 Q cQ:Nat} {X:Nat->Value} {bp bq P r S B n nv:Nat} {uv:Value} {lv:List Vl} {st:Nat->Int×Nat} {g g':Nat->Nat->Pl} {G:Nat->Value} {R:Nat->Nat} {qv:Nat->Nat->Value} {qs:Nat->Nat->List Int} {D:Nat->Prop} (h:RfAll E w L A S1 Q cQ X bp bq P r S B n nv uv lv st g G R qv qs) (h2:∀ b,D b->b<w.heap.size) (h3:D bq) (h4:∀ b,zc9 A S1 Q P uv R qv b->D b/\b≠bp/\b≠bq) (h5:∀ b,E b->D b/\b≠bp/\b≠bq/\¬ zc9 A S1 Q P uv R qv b)
  (hk:BkAt w' D bp bq S B n g') (hb:But bq w w'):RfAll E w' L A S1 Q cQ X bp bq P r S B n nv uv lv st g' G R qv qs :=
 ⟨h.md.keep fun b hc=>hb.rest b (h.md.lt b hc) (h4 b (.inl hc)).2.2,h.qu.keep fun b hlt hc=>hb.rest b hlt (h4 b (.inr hc)).2.2,h.lbk,D,hk,fun b hd=>Nat.lt_of_lt_of_le (h2 b hd) hb.below.size,h3,h4,h5⟩
set_option maxRecDepth 20000 in
set_option maxHeartbeats 6400000 in
theorem zpw {E:Nat->Prop} {w:World} {L A S1 Q cQ:Nat} {X:Nat->Value} {bp bq P r S B n nv:Nat} {uv:Value} {lv:List Vl} {st:Nat->Int×Nat} {g:Nat->Nat->Pl} {G:Nat->Value} {R:Nat->Nat} {qv:Nat->Nat->Value} {qs:Nat->Nat->List Int} (h:RfAll E w L A S1 Q cQ X bp bq P r S B n nv uv lv st g G R qv qs) (hS:1<=S/\S<=8) (hB:1<=B/\B<=16) (hn:1<=n/\n<=8) (kv:Int) (km:Nat) (hkm:km<18446744073709551616) (po tt vi sx me un nw li sh bu id:Int):Calls Tryz.prog 19 #[.pointer (some ⟨A,0,none⟩),opV 3 po tt vi sx kv ((km:Nat)) me un nw li sh bu id] w (Says (.int .i64 (zd2 (g (zaj kv km S B)) kv km n)) w):=by
 have hfd:=fun w' (hb:Below w.heap.size w w')=>zag (Sl.of_own (h.call hb).md.vlans) (Nat.le_refl _) vi
 have HFD:=Lib.hid hfd;obtain ⟨w0,hw0⟩:∃ z,z=(w.alloc (.cells #[.int .i64 (3),.int .i64 (po),.int .i64 (tt),.int .i64 (vi),.int .i64 (sx),.int .i64 (kv),.int .u64 ((km:Nat)),.int .u64 (me),.int .u64 (un),.int .u32 (nw),.int .u32 (li),.int .i64 (sh),.int .i64 (bu),.int .i64 (id)] 55)):=⟨_,rfl⟩
 have HB0:Hid (Below w.heap.size w w0):=by rw [hw0];exact (Below.refl _ _).alloc (Nat.le_refl _) _
 have HBOX:=Lib.hid (zbp hw0)
 have hwz:w.heap.size<w0.heap.size:=by rw [hw0];simp
 have HH:=Lib.hid h;have hAz:A<w.heap.size:=h.md.cells.lt;clear h hfd;unfold opV
 go_enter Tryz.func19,Tryz.ntmps19
 go_wp2_with (first
  |fail)
 rw [<- hw0];clear hw0;obtain ⟨q0,q1,q2,q3,q4,q5,q6,q7,q8,q9,q10,q11,q12,q13⟩:=HBOX.out _ (Below.refl _ _)
 have c11:w0.cell? ⟨A,11,none⟩=some uv:=(HH.out.call HB0.out).md.cells.cell (by omega)
 refine wp_region_held_drew (S:=fun w'=>w'.cell? ⟨A,11,none⟩=some uv/\w'.cell? ⟨w.heap.size,3,none⟩=some (.int .i64 (vi))) (by kernel_rfl) ?_ (fun hHeld=>?_)
 ·exact ⟨c11,q3⟩
 obtain ⟨v0,hv0⟩:∃ w',w'=w0.drew:=⟨_,rfl⟩
 have hvb:Below w0.heap.size w0 v0:=by rw [hv0];exact (Below.refl _ _).drew
 have HVZ:Hid (v0.heap.size=w0.heap.size):=by show _=_;rw [hv0];rfl
 rw [<- hv0] at hHeld |-;clear hv0;refine tk 0 ?_;refine tk 1 ?_;refine tk 2 ?_;refine tk 3 ?_;refine tk 4 ?_;refine tk 5 ?_
 refine clR 6 rfl fun K hK=>?_
 go_simp
 refine Calls.mono (HFD.out _ (HB0.out.trans (hvb.mono HB0.out.size))) ?_
 rintro e w1 ⟨rfl,hb1⟩
 have HB1':Hid (Below w0.heap.size w0 w1):=hvb.trans (hb1.mono (by rw [HVZ.out];exact Nat.le_refl _))
 have hz1:w0.heap.size<=w1.heap.size:=HB1'.out.size
 refine hK.out _ _ ?_ (fun hHeld=>?_)
 ·(try dsimp only)
  obtain ⟨x0,x1⟩:=hHeld
  exact ⟨(hb1.cell (p:=⟨A,11,none⟩) (by show A<v0.heap.size;rw [HVZ.out];omega)).trans x0,(hb1.cell (p:=⟨w.heap.size,3,none⟩) (by show w.heap.size<v0.heap.size;rw [HVZ.out];omega)).trans x1⟩
 clear hK K;refine tk 7 ?_
 refine dnR ?_
 have HB1:Hid (Below w.heap.size w w1):=HB0.out.trans (HB1'.out.mono HB0.out.size);have HM:=Lib.hid (HH.out.call HB1.out);clear hHeld c11 q0 q1 q2 q3 q4 q5 q6 q7 q8 q9 q10 q11 q12 q13 hb1 hvb;obtain ⟨q0,q1,q2,q3,q4,q5,q6,q7,q8,q9,q10,q11,q12,q13⟩:=HBOX.out _ HB1'.out;obtain ⟨D,hd1,hd2,hd3,hd4,hd5⟩:=HM.out.bk;have HD:=Lib.hid (And.intro hd1 (And.intro hd2 (And.intro hd3 (And.intro hd4 hd5))));clear hd1 hd2 hd3 hd4 hd5
 have c12:w1.cell? ⟨A,12,none⟩=some (.pointer (some ⟨bp,0,none⟩)):=HM.out.md.cells.cell (by omega)
 have hAw:A<w1.heap.size:=HM.out.md.cells.lt
 have hWw:w.heap.size<w1.heap.size:=by omega
 have hAq:A≠bq:=(HD.out.2.2.2.1 A (.inl (.inl rfl))).2.2
 have hWq:w.heap.size≠bq:=by have:=HH.out.bk.choose_spec.1.2.1;omega
 go_wp2_with fail
 refine wp_region_held_drew (S:=fun w'=>w'.cell? ⟨A,12,none⟩=some (.pointer (some ⟨bp,0,none⟩))/\w'.cell? ⟨w.heap.size,5,none⟩=some (.int .i64 (kv))/\w'.cell? ⟨w.heap.size,6,none⟩=some (.int .u64 ((km:Nat)))) (by kernel_rfl) ?_ (fun hHeld=>?_)
 ·exact ⟨c12,q5,q6⟩
 obtain ⟨v1,hv0⟩:∃ w',w'=w1.drew:=⟨_,rfl⟩
 have hvb:Below w1.heap.size w1 v1:=by rw [hv0];exact (Below.refl _ _).drew
 have HVZ:Hid (v1.heap.size=w1.heap.size):=by show _=_;rw [hv0];rfl
 rw [<- hv0] at hHeld |-;clear hv0;have HK0:=Lib.hid (HD.out.1.call hvb)
 have HD0:Hid (∀ b,D b->b<v1.heap.size):=fun b hd=>by rw [HVZ.out];exact HD.out.2.1 b hd
 refine tk 0 ?_;refine tk 1 ?_;refine tk 2 ?_;refine tk 3 ?_;refine tk 4 ?_;refine tk 5 ?_
 refine clR 6 rfl fun K hK=>?_
 go_simp
 refine Calls.mono (zi7 HK0.out hS hB (by omega) kv km hkm) ?_
 rintro e w9 ⟨rfl,hb9⟩
 have HB9:Hid (Below w1.heap.size w1 w9):=hvb.trans (hb9.mono (by rw [HVZ.out];exact Nat.le_refl _))
 refine hK.out _ _ ?_ (fun hHeld=>?_)
 ·(try dsimp only)
  obtain ⟨x0,x1,x2⟩:=hHeld
  exact ⟨(HB9.out.cell (p:=⟨A,12,none⟩) (by show A<w1.heap.size;omega)).trans ((hvb.cell (p:=⟨A,12,none⟩) (by show A<w1.heap.size;omega)).symm.trans x0),(HB9.out.cell (p:=⟨w.heap.size,5,none⟩) (by show w.heap.size<w1.heap.size;omega)).trans ((hvb.cell (p:=⟨w.heap.size,5,none⟩) (by show w.heap.size<w1.heap.size;omega)).symm.trans x1),(HB9.out.cell (p:=⟨w.heap.size,6,none⟩) (by show w.heap.size<w1.heap.size;omega)).trans ((hvb.cell (p:=⟨w.heap.size,6,none⟩) (by show w.heap.size<w1.heap.size;omega)).symm.trans x2)⟩
 clear hK K;refine tk 7 ?_
 refine dnR ?_
 have HBZ:=Lib.hid (HB1.out.trans (HB9.out.mono HB1.out.size));clear hHeld c12 q0 q1 q2 q3 q4 q5 q6 q7 q8 q9 q10 q11 q12 q13
 go_wp2
 go_ret
 exact ⟨by first|rfl|(simp;done),HBZ.out⟩
set_option maxRecDepth 20000 in
set_option maxHeartbeats 6400000 in
theorem zqz {E:Nat->Prop} {w:World} {L A S1 Q cQ:Nat} {X:Nat->Value} {bp bq P r S B n nv:Nat} {uv:Value} {lv:List Vl} {st:Nat->Int×Nat} {g:Nat->Nat->Pl} {G:Nat->Value} {R:Nat->Nat} {qv:Nat->Nat->Value} {qs:Nat->Nat->List Int} (h:RfAll E w L A S1 Q cQ X bp bq P r S B n nv uv lv st g G R qv qs) (hS:1<=S/\S<=8) (hB:1<=B/\B<=16) (hn:1<=n/\n<=8) (hst:∀ i,i<S*B->∀ j,j<n->(g i j).e.stamp<4294967296) (p:Nat) (hp:p<P) (kv:Int) (km:Nat) (hkm:km<18446744073709551616) (nw:Nat) (hnw:nw<4294967296) (tt vi sx me un li sh bu id:Int):Calls Tryz.prog 19 #[.pointer (some ⟨A,0,none⟩),opV 2 ((p:Nat)) tt vi sx kv ((km:Nat)) me un ((nw:Nat)) li sh bu id] w fun e w'=>e=.returned (.int .i64 ((putF (fun i=>ownP (g (zaj kv km S B) i)) ⟨kv,km,p,false,nw⟩ nw n).2:Nat))/\RfAll E w' L A S1 Q cQ X bp bq P r S B n nv uv lv st (updR g (zaj kv km S B) (putF (fun i=>ownP (g (zaj kv km S B) i)) ⟨kv,km,p,false,nw⟩ nw n).1) G R qv qs/\MdFr E w w' L:=by
 have hfd:=fun w' (hb:Below w.heap.size w w')=>zag (Sl.of_own (h.call hb).md.vlans) (Nat.le_refl _) vi
 have HFD:=Lib.hid hfd;obtain ⟨w0,hw0⟩:∃ z,z=(w.alloc (.cells #[.int .i64 (2),.int .i64 ((p:Nat)),.int .i64 (tt),.int .i64 (vi),.int .i64 (sx),.int .i64 (kv),.int .u64 ((km:Nat)),.int .u64 (me),.int .u64 (un),.int .u32 ((nw:Nat)),.int .u32 (li),.int .i64 (sh),.int .i64 (bu),.int .i64 (id)] 55)):=⟨_,rfl⟩
 have HB0:Hid (Below w.heap.size w w0):=by rw [hw0];exact (Below.refl _ _).alloc (Nat.le_refl _) _
 have HBOX:=Lib.hid (zbp hw0)
 have hwz:w.heap.size<w0.heap.size:=by rw [hw0];simp
 have hp0:=fun w' (hb:Below w.heap.size w w')=>zal (h.call hb) ((p:Nat))
 rw [zan hp] at hp0;have HP0:=Lib.hid hp0;clear hp0;have HH:=Lib.hid h;have hAz:A<w.heap.size:=h.md.cells.lt;clear h hfd;unfold opV
 go_enter Tryz.func19,Tryz.ntmps19
 go_wp2_with (first
  |(go_at_call 39;(with_reducible refine Calls.mono (HP0.out _ ((Below.refl _ _).alloc (Nat.le_refl _) _)) ?_);rintro e _ ⟨rfl,rfl⟩)
  |fail)
 rw [<- hw0];clear hw0;obtain ⟨q0,q1,q2,q3,q4,q5,q6,q7,q8,q9,q10,q11,q12,q13⟩:=HBOX.out _ (Below.refl _ _)
 have c11:w0.cell? ⟨A,11,none⟩=some uv:=(HH.out.call HB0.out).md.cells.cell (by omega)
 refine wp_region_held_drew (S:=fun w'=>w'.cell? ⟨A,11,none⟩=some uv/\w'.cell? ⟨w.heap.size,3,none⟩=some (.int .i64 (vi))) (by kernel_rfl) ?_ (fun hHeld=>?_)
 ·exact ⟨c11,q3⟩
 obtain ⟨v0,hv0⟩:∃ w',w'=w0.drew:=⟨_,rfl⟩
 have hvb:Below w0.heap.size w0 v0:=by rw [hv0];exact (Below.refl _ _).drew
 have HVZ:Hid (v0.heap.size=w0.heap.size):=by show _=_;rw [hv0];rfl
 rw [<- hv0] at hHeld |-;clear hv0;refine tk 0 ?_;refine tk 1 ?_;refine tk 2 ?_;refine tk 3 ?_;refine tk 4 ?_;refine tk 5 ?_
 refine clR 6 rfl fun K hK=>?_
 go_simp
 refine Calls.mono (HFD.out _ (HB0.out.trans (hvb.mono HB0.out.size))) ?_
 rintro e w1 ⟨rfl,hb1⟩
 have HB1':Hid (Below w0.heap.size w0 w1):=hvb.trans (hb1.mono (by rw [HVZ.out];exact Nat.le_refl _))
 have hz1:w0.heap.size<=w1.heap.size:=HB1'.out.size
 refine hK.out _ _ ?_ (fun hHeld=>?_)
 ·(try dsimp only)
  obtain ⟨x0,x1⟩:=hHeld
  exact ⟨(hb1.cell (p:=⟨A,11,none⟩) (by show A<v0.heap.size;rw [HVZ.out];omega)).trans x0,(hb1.cell (p:=⟨w.heap.size,3,none⟩) (by show w.heap.size<v0.heap.size;rw [HVZ.out];omega)).trans x1⟩
 clear hK K;refine tk 7 ?_
 refine dnR ?_
 have HB1:Hid (Below w.heap.size w w1):=HB0.out.trans (HB1'.out.mono HB0.out.size);have HM:=Lib.hid (HH.out.call HB1.out);clear hHeld c11 q0 q1 q2 q3 q4 q5 q6 q7 q8 q9 q10 q11 q12 q13 hb1 hvb;obtain ⟨q0,q1,q2,q3,q4,q5,q6,q7,q8,q9,q10,q11,q12,q13⟩:=HBOX.out _ HB1'.out;obtain ⟨D,hd1,hd2,hd3,hd4,hd5⟩:=HM.out.bk;have HD:=Lib.hid (And.intro hd1 (And.intro hd2 (And.intro hd3 (And.intro hd4 hd5))));clear hd1 hd2 hd3 hd4 hd5
 have c12:w1.cell? ⟨A,12,none⟩=some (.pointer (some ⟨bp,0,none⟩)):=HM.out.md.cells.cell (by omega)
 have hAw:A<w1.heap.size:=HM.out.md.cells.lt
 have hWw:w.heap.size<w1.heap.size:=by omega
 have hAq:A≠bq:=(HD.out.2.2.2.1 A (.inl (.inl rfl))).2.2
 have hWq:w.heap.size≠bq:=by have:=HH.out.bk.choose_spec.1.2.1;omega
 go_wp2_with fail
 refine wp_region_held_drew (S:=fun w'=>w'.cell? ⟨A,12,none⟩=some (.pointer (some ⟨bp,0,none⟩))/\w'.cell? ⟨w.heap.size,1,none⟩=some (.int .i64 ((p:Nat)))/\w'.cell? ⟨w.heap.size,5,none⟩=some (.int .i64 (kv))/\w'.cell? ⟨w.heap.size,6,none⟩=some (.int .u64 ((km:Nat)))/\w'.cell? ⟨w.heap.size,9,none⟩=some (.int .u32 ((nw:Nat)))) (by kernel_rfl) ?_ (fun hHeld=>?_)
 ·exact ⟨c12,q1,q5,q6,q9⟩
 obtain ⟨v1,hv0⟩:∃ w',w'=w1.drew:=⟨_,rfl⟩
 have hvb:Below w1.heap.size w1 v1:=by rw [hv0];exact (Below.refl _ _).drew
 have HVZ:Hid (v1.heap.size=w1.heap.size):=by show _=_;rw [hv0];rfl
 rw [<- hv0] at hHeld |-;clear hv0;have HK0:=Lib.hid (HD.out.1.call hvb)
 have HD0:Hid (∀ b,D b->b<v1.heap.size):=fun b hd=>by rw [HVZ.out];exact HD.out.2.1 b hd
 refine tk 0 ?_;refine tk 1 ?_;refine tk 2 ?_;refine tk 3 ?_;refine tk 4 ?_;refine tk 5 ?_;refine tk 6 ?_;refine tk 7 ?_;refine tk 8 ?_;refine tk 9 ?_
 refine clR 10 rfl fun K hK=>?_
 go_simp
 refine Calls.mono (zj6 HK0.out HD0.out HD.out.2.2.1 hS hB (by omega) hst kv km hkm p nw hnw) ?_
 rintro e w9 ⟨rfl,hk9,hb9⟩
 have HB9:Hid (But bq w1 w9):=(But.of hvb (by have:=HD.out.2.1 bq HD.out.2.2.1;omega)).trans hb9
 have HK9:=Lib.hid hk9;clear hb9 hk9
 refine hK.out _ _ ?_ (fun hHeld=>?_)
 ·(try dsimp only)
  obtain ⟨x0,x1,x2,x3,x4⟩:=hHeld
  exact ⟨(HB9.out.cell (p:=⟨A,12,none⟩) (by show A<w1.heap.size;omega) (by show A≠bq;exact hAq)).trans ((hvb.cell (p:=⟨A,12,none⟩) (by show A<w1.heap.size;omega)).symm.trans x0),(HB9.out.cell (p:=⟨w.heap.size,1,none⟩) (by show w.heap.size<w1.heap.size;omega) (by show w.heap.size≠bq;exact hWq)).trans ((hvb.cell (p:=⟨w.heap.size,1,none⟩) (by show w.heap.size<w1.heap.size;omega)).symm.trans x1),(HB9.out.cell (p:=⟨w.heap.size,5,none⟩) (by show w.heap.size<w1.heap.size;omega) (by show w.heap.size≠bq;exact hWq)).trans ((hvb.cell (p:=⟨w.heap.size,5,none⟩) (by show w.heap.size<w1.heap.size;omega)).symm.trans x2),(HB9.out.cell (p:=⟨w.heap.size,6,none⟩) (by show w.heap.size<w1.heap.size;omega) (by show w.heap.size≠bq;exact hWq)).trans ((hvb.cell (p:=⟨w.heap.size,6,none⟩) (by show w.heap.size<w1.heap.size;omega)).symm.trans x3),(HB9.out.cell (p:=⟨w.heap.size,9,none⟩) (by show w.heap.size<w1.heap.size;omega) (by show w.heap.size≠bq;exact hWq)).trans ((hvb.cell (p:=⟨w.heap.size,9,none⟩) (by show w.heap.size<w1.heap.size;omega)).symm.trans x4)⟩
 clear hK K;refine tk 11 ?_
 refine dnR ?_
 have HMD:Hid (RfAll E w9 L A S1 Q cQ X bp bq P r S B n nv uv lv st (updR g (zaj kv km S B) (putF (fun i=>ownP (g (zaj kv km S B) i)) ⟨kv,km,p,false,nw⟩ nw n).1) G R qv qs/\MdFr E w w9 L):=⟨HM.out.bookD HD.out.2.1 HD.out.2.2.1 HD.out.2.2.2.1 HD.out.2.2.2.2 HK9.out HB9.out,RfFr.of_but HH.out HB1.out HB9.out (.inr rfl) HM.out.lbk⟩
 clear hHeld c12 q0 q1 q2 q3 q4 q5 q6 q7 q8 q9 q10 q11 q12 q13
 go_wp2
 go_ret
 exact ⟨by first|rfl|(simp;done),HMD.out.1,HMD.out.2⟩
set_option maxRecDepth 20000 in
set_option maxHeartbeats 6400000 in
theorem znv {E:Nat->Prop} {w:World} {L A S1 Q cQ:Nat} {X:Nat->Value} {bp bq P r S B n nv:Nat} {uv:Value} {lv:List Vl} {st:Nat->Int×Nat} {g:Nat->Nat->Pl} {G:Nat->Value} {R:Nat->Nat} {qv:Nat->Nat->Value} {qs:Nat->Nat->List Int} (h:RfAll E w L A S1 Q cQ X bp bq P r S B n nv uv lv st g G R qv qs) (hS:1<=S/\S<=8) (hB:1<=B/\B<=16) (hn:1<=n/\n<=8) (hst:∀ i,i<S*B->∀ j,j<n->(g i j).e.stamp<4294967296) (p:Nat) (hp:p<P) (kv:Int) (km:Nat) (hkm:km<18446744073709551616) (nw:Nat) (hnw:nw<4294967296) (tt vi sx me un li sh bu id:Int):Calls Tryz.prog 19 #[.pointer (some ⟨A,0,none⟩),opV 4 ((p:Nat)) tt vi sx kv ((km:Nat)) me un ((nw:Nat)) li sh bu id] w fun e w'=>e=.returned (.int .i64 ((putF (fun i=>ownP (g (zaj kv km S B) i)) ⟨kv,km,p,true,0⟩ nw n).2:Nat))/\RfAll E w' L A S1 Q cQ X bp bq P r S B n nv uv lv st (updR g (zaj kv km S B) (putF (fun i=>ownP (g (zaj kv km S B) i)) ⟨kv,km,p,true,0⟩ nw n).1) G R qv qs/\MdFr E w w' L:=by
 have hfd:=fun w' (hb:Below w.heap.size w w')=>zag (Sl.of_own (h.call hb).md.vlans) (Nat.le_refl _) vi
 have HFD:=Lib.hid hfd;obtain ⟨w0,hw0⟩:∃ z,z=(w.alloc (.cells #[.int .i64 (4),.int .i64 ((p:Nat)),.int .i64 (tt),.int .i64 (vi),.int .i64 (sx),.int .i64 (kv),.int .u64 ((km:Nat)),.int .u64 (me),.int .u64 (un),.int .u32 ((nw:Nat)),.int .u32 (li),.int .i64 (sh),.int .i64 (bu),.int .i64 (id)] 55)):=⟨_,rfl⟩
 have HB0:Hid (Below w.heap.size w w0):=by rw [hw0];exact (Below.refl _ _).alloc (Nat.le_refl _) _
 have HBOX:=Lib.hid (zbp hw0)
 have hwz:w.heap.size<w0.heap.size:=by rw [hw0];simp
 have hp0:=fun w' (hb:Below w.heap.size w w')=>zal (h.call hb) ((p:Nat))
 rw [zan hp] at hp0;have HP0:=Lib.hid hp0;clear hp0;have HH:=Lib.hid h;have hAz:A<w.heap.size:=h.md.cells.lt;clear h hfd;unfold opV
 go_enter Tryz.func19,Tryz.ntmps19
 go_wp2_with (first
  |(go_at_call 39;(with_reducible refine Calls.mono (HP0.out _ ((Below.refl _ _).alloc (Nat.le_refl _) _)) ?_);rintro e _ ⟨rfl,rfl⟩)
  |fail)
 rw [<- hw0];clear hw0;obtain ⟨q0,q1,q2,q3,q4,q5,q6,q7,q8,q9,q10,q11,q12,q13⟩:=HBOX.out _ (Below.refl _ _)
 have c11:w0.cell? ⟨A,11,none⟩=some uv:=(HH.out.call HB0.out).md.cells.cell (by omega)
 refine wp_region_held_drew (S:=fun w'=>w'.cell? ⟨A,11,none⟩=some uv/\w'.cell? ⟨w.heap.size,3,none⟩=some (.int .i64 (vi))) (by kernel_rfl) ?_ (fun hHeld=>?_)
 ·exact ⟨c11,q3⟩
 obtain ⟨v0,hv0⟩:∃ w',w'=w0.drew:=⟨_,rfl⟩
 have hvb:Below w0.heap.size w0 v0:=by rw [hv0];exact (Below.refl _ _).drew
 have HVZ:Hid (v0.heap.size=w0.heap.size):=by show _=_;rw [hv0];rfl
 rw [<- hv0] at hHeld |-;clear hv0;refine tk 0 ?_;refine tk 1 ?_;refine tk 2 ?_;refine tk 3 ?_;refine tk 4 ?_;refine tk 5 ?_
 refine clR 6 rfl fun K hK=>?_
 go_simp
 refine Calls.mono (HFD.out _ (HB0.out.trans (hvb.mono HB0.out.size))) ?_
 rintro e w1 ⟨rfl,hb1⟩
 have HB1':Hid (Below w0.heap.size w0 w1):=hvb.trans (hb1.mono (by rw [HVZ.out];exact Nat.le_refl _))
 have hz1:w0.heap.size<=w1.heap.size:=HB1'.out.size
 refine hK.out _ _ ?_ (fun hHeld=>?_)
 ·(try dsimp only)
  obtain ⟨x0,x1⟩:=hHeld
  exact ⟨(hb1.cell (p:=⟨A,11,none⟩) (by show A<v0.heap.size;rw [HVZ.out];omega)).trans x0,(hb1.cell (p:=⟨w.heap.size,3,none⟩) (by show w.heap.size<v0.heap.size;rw [HVZ.out];omega)).trans x1⟩
 clear hK K;refine tk 7 ?_
 refine dnR ?_
 have HB1:Hid (Below w.heap.size w w1):=HB0.out.trans (HB1'.out.mono HB0.out.size);have HM:=Lib.hid (HH.out.call HB1.out);clear hHeld c11 q0 q1 q2 q3 q4 q5 q6 q7 q8 q9 q10 q11 q12 q13 hb1 hvb;obtain ⟨q0,q1,q2,q3,q4,q5,q6,q7,q8,q9,q10,q11,q12,q13⟩:=HBOX.out _ HB1'.out;obtain ⟨D,hd1,hd2,hd3,hd4,hd5⟩:=HM.out.bk;have HD:=Lib.hid (And.intro hd1 (And.intro hd2 (And.intro hd3 (And.intro hd4 hd5))));clear hd1 hd2 hd3 hd4 hd5
 have c12:w1.cell? ⟨A,12,none⟩=some (.pointer (some ⟨bp,0,none⟩)):=HM.out.md.cells.cell (by omega)
 have hAw:A<w1.heap.size:=HM.out.md.cells.lt
 have hWw:w.heap.size<w1.heap.size:=by omega
 have hAq:A≠bq:=(HD.out.2.2.2.1 A (.inl (.inl rfl))).2.2
 have hWq:w.heap.size≠bq:=by have:=HH.out.bk.choose_spec.1.2.1;omega
 go_wp2_with fail
 refine wp_region_held_drew (S:=fun w'=>w'.cell? ⟨A,12,none⟩=some (.pointer (some ⟨bp,0,none⟩))/\w'.cell? ⟨w.heap.size,1,none⟩=some (.int .i64 ((p:Nat)))/\w'.cell? ⟨w.heap.size,5,none⟩=some (.int .i64 (kv))/\w'.cell? ⟨w.heap.size,6,none⟩=some (.int .u64 ((km:Nat)))/\w'.cell? ⟨w.heap.size,9,none⟩=some (.int .u32 ((nw:Nat)))) (by kernel_rfl) ?_ (fun hHeld=>?_)
 ·exact ⟨c12,q1,q5,q6,q9⟩
 obtain ⟨v1,hv0⟩:∃ w',w'=w1.drew:=⟨_,rfl⟩
 have hvb:Below w1.heap.size w1 v1:=by rw [hv0];exact (Below.refl _ _).drew
 have HVZ:Hid (v1.heap.size=w1.heap.size):=by show _=_;rw [hv0];rfl
 rw [<- hv0] at hHeld |-;clear hv0;have HK0:=Lib.hid (HD.out.1.call hvb)
 have HD0:Hid (∀ b,D b->b<v1.heap.size):=fun b hd=>by rw [HVZ.out];exact HD.out.2.1 b hd
 refine tk 0 ?_;refine tk 1 ?_;refine tk 2 ?_;refine tk 3 ?_;refine tk 4 ?_;refine tk 5 ?_;refine tk 6 ?_;refine tk 7 ?_;refine tk 8 ?_;refine tk 9 ?_
 refine clR 10 rfl fun K hK=>?_
 go_simp
 refine Calls.mono (zky HK0.out HD0.out HD.out.2.2.1 hS hB (by omega) hst kv km hkm p nw hnw) ?_
 rintro e w9 ⟨rfl,hk9,hb9⟩
 have HB9:Hid (But bq w1 w9):=(But.of hvb (by have:=HD.out.2.1 bq HD.out.2.2.1;omega)).trans hb9
 have HK9:=Lib.hid hk9;clear hb9 hk9
 refine hK.out _ _ ?_ (fun hHeld=>?_)
 ·(try dsimp only)
  obtain ⟨x0,x1,x2,x3,x4⟩:=hHeld
  exact ⟨(HB9.out.cell (p:=⟨A,12,none⟩) (by show A<w1.heap.size;omega) (by show A≠bq;exact hAq)).trans ((hvb.cell (p:=⟨A,12,none⟩) (by show A<w1.heap.size;omega)).symm.trans x0),(HB9.out.cell (p:=⟨w.heap.size,1,none⟩) (by show w.heap.size<w1.heap.size;omega) (by show w.heap.size≠bq;exact hWq)).trans ((hvb.cell (p:=⟨w.heap.size,1,none⟩) (by show w.heap.size<w1.heap.size;omega)).symm.trans x1),(HB9.out.cell (p:=⟨w.heap.size,5,none⟩) (by show w.heap.size<w1.heap.size;omega) (by show w.heap.size≠bq;exact hWq)).trans ((hvb.cell (p:=⟨w.heap.size,5,none⟩) (by show w.heap.size<w1.heap.size;omega)).symm.trans x2),(HB9.out.cell (p:=⟨w.heap.size,6,none⟩) (by show w.heap.size<w1.heap.size;omega) (by show w.heap.size≠bq;exact hWq)).trans ((hvb.cell (p:=⟨w.heap.size,6,none⟩) (by show w.heap.size<w1.heap.size;omega)).symm.trans x3),(HB9.out.cell (p:=⟨w.heap.size,9,none⟩) (by show w.heap.size<w1.heap.size;omega) (by show w.heap.size≠bq;exact hWq)).trans ((hvb.cell (p:=⟨w.heap.size,9,none⟩) (by show w.heap.size<w1.heap.size;omega)).symm.trans x4)⟩
 clear hK K;refine tk 11 ?_
 refine dnR ?_
 have HMD:Hid (RfAll E w9 L A S1 Q cQ X bp bq P r S B n nv uv lv st (updR g (zaj kv km S B) (putF (fun i=>ownP (g (zaj kv km S B) i)) ⟨kv,km,p,true,0⟩ nw n).1) G R qv qs/\MdFr E w w9 L):=⟨HM.out.bookD HD.out.2.1 HD.out.2.2.1 HD.out.2.2.2.1 HD.out.2.2.2.2 HK9.out HB9.out,RfFr.of_but HH.out HB1.out HB9.out (.inr rfl) HM.out.lbk⟩
 clear hHeld c12 q0 q1 q2 q3 q4 q5 q6 q7 q8 q9 q10 q11 q12 q13
 go_wp2
 go_ret
 exact ⟨by first|rfl|(simp;done),HMD.out.1,HMD.out.2⟩
set_option maxRecDepth 20000 in
set_option maxHeartbeats 6400000 in
theorem zoi {E:Nat->Prop} {w:World} {L A S1 Q cQ:Nat} {X:Nat->Value} {bp bq P r S B n nv:Nat} {uv:Value} {lv:List Vl} {st:Nat->Int×Nat} {g:Nat->Nat->Pl} {G:Nat->Value} {R:Nat->Nat} {qv:Nat->Nat->Value} {qs:Nat->Nat->List Int} (h:RfAll E w L A S1 Q cQ X bp bq P r S B n nv uv lv st g G R qv qs) (hS:1<=S/\S<=8) (hB:1<=B/\B<=16) (hn:1<=n/\n<=8) (po tt vi sx kv km me un nw li sh bu id:Int):Calls Tryz.prog 19 #[.pointer (some ⟨A,0,none⟩),opV 7 po tt vi sx kv km me un nw li sh bu id] w fun e w'=>e=.returned (.int .i64 (flC po vi g n (S*B):Nat))/\RfAll E w' L A S1 Q cQ X bp bq P r S B n nv uv lv st (flG po vi g (S*B)) G R qv qs/\MdFr E w w' L:=by
 have hfd:=fun w' (hb:Below w.heap.size w w')=>zag (Sl.of_own (h.call hb).md.vlans) (Nat.le_refl _) vi
 have HFD:=Lib.hid hfd;obtain ⟨w0,hw0⟩:∃ z,z=(w.alloc (.cells #[.int .i64 (7),.int .i64 (po),.int .i64 (tt),.int .i64 (vi),.int .i64 (sx),.int .i64 (kv),.int .u64 (km),.int .u64 (me),.int .u64 (un),.int .u32 (nw),.int .u32 (li),.int .i64 (sh),.int .i64 (bu),.int .i64 (id)] 55)):=⟨_,rfl⟩
 have HB0:Hid (Below w.heap.size w w0):=by rw [hw0];exact (Below.refl _ _).alloc (Nat.le_refl _) _
 have HBOX:=Lib.hid (zbp hw0)
 have hwz:w.heap.size<w0.heap.size:=by rw [hw0];simp
 have HH:=Lib.hid h;have hAz:A<w.heap.size:=h.md.cells.lt;clear h hfd;unfold opV
 go_enter Tryz.func19,Tryz.ntmps19
 go_wp2_with (first
  |fail)
 rw [<- hw0];clear hw0;obtain ⟨q0,q1,q2,q3,q4,q5,q6,q7,q8,q9,q10,q11,q12,q13⟩:=HBOX.out _ (Below.refl _ _)
 have c11:w0.cell? ⟨A,11,none⟩=some uv:=(HH.out.call HB0.out).md.cells.cell (by omega)
 refine wp_region_held_drew (S:=fun w'=>w'.cell? ⟨A,11,none⟩=some uv/\w'.cell? ⟨w.heap.size,3,none⟩=some (.int .i64 (vi))) (by kernel_rfl) ?_ (fun hHeld=>?_)
 ·exact ⟨c11,q3⟩
 obtain ⟨v0,hv0⟩:∃ w',w'=w0.drew:=⟨_,rfl⟩
 have hvb:Below w0.heap.size w0 v0:=by rw [hv0];exact (Below.refl _ _).drew
 have HVZ:Hid (v0.heap.size=w0.heap.size):=by show _=_;rw [hv0];rfl
 rw [<- hv0] at hHeld |-;clear hv0;refine tk 0 ?_;refine tk 1 ?_;refine tk 2 ?_;refine tk 3 ?_;refine tk 4 ?_;refine tk 5 ?_
 refine clR 6 rfl fun K hK=>?_
 go_simp
 refine Calls.mono (HFD.out _ (HB0.out.trans (hvb.mono HB0.out.size))) ?_
 rintro e w1 ⟨rfl,hb1⟩
 have HB1':Hid (Below w0.heap.size w0 w1):=hvb.trans (hb1.mono (by rw [HVZ.out];exact Nat.le_refl _))
 have hz1:w0.heap.size<=w1.heap.size:=HB1'.out.size
 refine hK.out _ _ ?_ (fun hHeld=>?_)
 ·(try dsimp only)
  obtain ⟨x0,x1⟩:=hHeld
  exact ⟨(hb1.cell (p:=⟨A,11,none⟩) (by show A<v0.heap.size;rw [HVZ.out];omega)).trans x0,(hb1.cell (p:=⟨w.heap.size,3,none⟩) (by show w.heap.size<v0.heap.size;rw [HVZ.out];omega)).trans x1⟩
 clear hK K;refine tk 7 ?_
 refine dnR ?_
 have HB1:Hid (Below w.heap.size w w1):=HB0.out.trans (HB1'.out.mono HB0.out.size);have HM:=Lib.hid (HH.out.call HB1.out);clear hHeld c11 q0 q1 q2 q3 q4 q5 q6 q7 q8 q9 q10 q11 q12 q13 hb1 hvb;obtain ⟨q0,q1,q2,q3,q4,q5,q6,q7,q8,q9,q10,q11,q12,q13⟩:=HBOX.out _ HB1'.out;obtain ⟨D,hd1,hd2,hd3,hd4,hd5⟩:=HM.out.bk;have HD:=Lib.hid (And.intro hd1 (And.intro hd2 (And.intro hd3 (And.intro hd4 hd5))));clear hd1 hd2 hd3 hd4 hd5
 have c12:w1.cell? ⟨A,12,none⟩=some (.pointer (some ⟨bp,0,none⟩)):=HM.out.md.cells.cell (by omega)
 have hAw:A<w1.heap.size:=HM.out.md.cells.lt
 have hWw:w.heap.size<w1.heap.size:=by omega
 have hAq:A≠bq:=(HD.out.2.2.2.1 A (.inl (.inl rfl))).2.2
 have hWq:w.heap.size≠bq:=by have:=HH.out.bk.choose_spec.1.2.1;omega
 go_wp2_with fail
 refine wp_region_held_drew (S:=fun w'=>w'.cell? ⟨A,12,none⟩=some (.pointer (some ⟨bp,0,none⟩))/\w'.cell? ⟨w.heap.size,1,none⟩=some (.int .i64 (po))/\w'.cell? ⟨w.heap.size,3,none⟩=some (.int .i64 (vi))) (by kernel_rfl) ?_ (fun hHeld=>?_)
 ·exact ⟨c12,q1,q3⟩
 obtain ⟨v1,hv0⟩:∃ w',w'=w1.drew:=⟨_,rfl⟩
 have hvb:Below w1.heap.size w1 v1:=by rw [hv0];exact (Below.refl _ _).drew
 have HVZ:Hid (v1.heap.size=w1.heap.size):=by show _=_;rw [hv0];rfl
 rw [<- hv0] at hHeld |-;clear hv0;have HK0:=Lib.hid (HD.out.1.call hvb)
 have HD0:Hid (∀ b,D b->b<v1.heap.size):=fun b hd=>by rw [HVZ.out];exact HD.out.2.1 b hd
 refine tk 0 ?_;refine tk 1 ?_;refine tk 2 ?_;refine tk 3 ?_;refine tk 4 ?_;refine tk 5 ?_;refine tk 6 ?_;refine tk 7 ?_;refine tk 8 ?_
 refine clR 9 rfl fun K hK=>?_
 go_simp
 refine Calls.mono (zks HK0.out HD0.out HD.out.2.2.1 hS hB (by omega) po vi) ?_
 rintro e w9 ⟨rfl,hk9,hb9⟩
 have HB9:Hid (But bq w1 w9):=(But.of hvb (by have:=HD.out.2.1 bq HD.out.2.2.1;omega)).trans hb9
 have HK9:=Lib.hid hk9;clear hb9 hk9
 refine hK.out _ _ ?_ (fun hHeld=>?_)
 ·(try dsimp only)
  obtain ⟨x0,x1,x2⟩:=hHeld
  exact ⟨(HB9.out.cell (p:=⟨A,12,none⟩) (by show A<w1.heap.size;omega) (by show A≠bq;exact hAq)).trans ((hvb.cell (p:=⟨A,12,none⟩) (by show A<w1.heap.size;omega)).symm.trans x0),(HB9.out.cell (p:=⟨w.heap.size,1,none⟩) (by show w.heap.size<w1.heap.size;omega) (by show w.heap.size≠bq;exact hWq)).trans ((hvb.cell (p:=⟨w.heap.size,1,none⟩) (by show w.heap.size<w1.heap.size;omega)).symm.trans x1),(HB9.out.cell (p:=⟨w.heap.size,3,none⟩) (by show w.heap.size<w1.heap.size;omega) (by show w.heap.size≠bq;exact hWq)).trans ((hvb.cell (p:=⟨w.heap.size,3,none⟩) (by show w.heap.size<w1.heap.size;omega)).symm.trans x2)⟩
 clear hK K;refine tk 10 ?_
 refine dnR ?_
 have HMD:Hid (RfAll E w9 L A S1 Q cQ X bp bq P r S B n nv uv lv st (flG po vi g (S*B)) G R qv qs/\MdFr E w w9 L):=⟨HM.out.bookD HD.out.2.1 HD.out.2.2.1 HD.out.2.2.2.1 HD.out.2.2.2.2 HK9.out HB9.out,RfFr.of_but HH.out HB1.out HB9.out (.inr rfl) HM.out.lbk⟩;clear hHeld c12 q0 q1 q2 q3 q4 q5 q6 q7 q8 q9 q10 q11 q12 q13
 go_wp2
 go_ret
 exact ⟨by first|rfl|(simp;done),HMD.out.1,HMD.out.2⟩
set_option maxRecDepth 20000 in
set_option maxHeartbeats 6400000 in
theorem zps {E:Nat->Prop} {w:World} {L A S1 Q cQ:Nat} {X:Nat->Value} {bp bq P r S B n nv:Nat} {uv:Value} {lv:List Vl} {st:Nat->Int×Nat} {g:Nat->Nat->Pl} {G:Nat->Value} {R:Nat->Nat} {qv:Nat->Nat->Value} {qs:Nat->Nat->List Int} (h:RfAll E w L A S1 Q cQ X bp bq P r S B n nv uv lv st g G R qv qs) (hS:1<=S/\S<=8) (hB:1<=B/\B<=16) (hn:1<=n/\n<=8) (hst:∀ i,i<S*B->∀ j,j<n->(g i j).e.stamp<4294967296) (nw:Nat) (hnw:nw<4294967296) (li:Nat) (sh:Int) (bu:Int) (Hh:Nat) (hh2:Hh<S*B) (ha:atI S B sh bu=(Hh:Int)) (po tt vi sx kv km me un id:Int):Calls Tryz.prog 19 #[.pointer (some ⟨A,0,none⟩),opV 6 po tt vi sx kv km me un ((nw:Nat)) ((li:Nat)) sh bu id] w fun e w'=>e=.returned (.int .i64 (ageC g Hh nw li n:Nat))/\RfAll E w' L A S1 Q cQ X bp bq P r S B n nv uv lv st (updR g Hh (ageR g Hh nw li)) G R qv qs/\MdFr E w w' L:=by
 have hfd:=fun w' (hb:Below w.heap.size w w')=>zag (Sl.of_own (h.call hb).md.vlans) (Nat.le_refl _) vi
 have HFD:=Lib.hid hfd;obtain ⟨w0,hw0⟩:∃ z,z=(w.alloc (.cells #[.int .i64 (6),.int .i64 (po),.int .i64 (tt),.int .i64 (vi),.int .i64 (sx),.int .i64 (kv),.int .u64 (km),.int .u64 (me),.int .u64 (un),.int .u32 ((nw:Nat)),.int .u32 ((li:Nat)),.int .i64 (sh),.int .i64 (bu),.int .i64 (id)] 55)):=⟨_,rfl⟩
 have HB0:Hid (Below w.heap.size w w0):=by rw [hw0];exact (Below.refl _ _).alloc (Nat.le_refl _) _
 have HBOX:=Lib.hid (zbp hw0)
 have hwz:w.heap.size<w0.heap.size:=by rw [hw0];simp
 have HH:=Lib.hid h;have hAz:A<w.heap.size:=h.md.cells.lt;clear h hfd;unfold opV
 go_enter Tryz.func19,Tryz.ntmps19
 go_wp2_with (first
  |fail)
 rw [<- hw0];clear hw0;obtain ⟨q0,q1,q2,q3,q4,q5,q6,q7,q8,q9,q10,q11,q12,q13⟩:=HBOX.out _ (Below.refl _ _)
 have c11:w0.cell? ⟨A,11,none⟩=some uv:=(HH.out.call HB0.out).md.cells.cell (by omega)
 refine wp_region_held_drew (S:=fun w'=>w'.cell? ⟨A,11,none⟩=some uv/\w'.cell? ⟨w.heap.size,3,none⟩=some (.int .i64 (vi))) (by kernel_rfl) ?_ (fun hHeld=>?_)
 ·exact ⟨c11,q3⟩
 obtain ⟨v0,hv0⟩:∃ w',w'=w0.drew:=⟨_,rfl⟩
 have hvb:Below w0.heap.size w0 v0:=by rw [hv0];exact (Below.refl _ _).drew
 have HVZ:Hid (v0.heap.size=w0.heap.size):=by show _=_;rw [hv0];rfl
 rw [<- hv0] at hHeld |-;clear hv0;refine tk 0 ?_;refine tk 1 ?_;refine tk 2 ?_;refine tk 3 ?_;refine tk 4 ?_;refine tk 5 ?_
 refine clR 6 rfl fun K hK=>?_
 go_simp
 refine Calls.mono (HFD.out _ (HB0.out.trans (hvb.mono HB0.out.size))) ?_
 rintro e w1 ⟨rfl,hb1⟩
 have HB1':Hid (Below w0.heap.size w0 w1):=hvb.trans (hb1.mono (by rw [HVZ.out];exact Nat.le_refl _))
 have hz1:w0.heap.size<=w1.heap.size:=HB1'.out.size
 refine hK.out _ _ ?_ (fun hHeld=>?_)
 ·(try dsimp only)
  obtain ⟨x0,x1⟩:=hHeld
  exact ⟨(hb1.cell (p:=⟨A,11,none⟩) (by show A<v0.heap.size;rw [HVZ.out];omega)).trans x0,(hb1.cell (p:=⟨w.heap.size,3,none⟩) (by show w.heap.size<v0.heap.size;rw [HVZ.out];omega)).trans x1⟩
 clear hK K;refine tk 7 ?_
 refine dnR ?_
 have HB1:Hid (Below w.heap.size w w1):=HB0.out.trans (HB1'.out.mono HB0.out.size);have HM:=Lib.hid (HH.out.call HB1.out);clear hHeld c11 q0 q1 q2 q3 q4 q5 q6 q7 q8 q9 q10 q11 q12 q13 hb1 hvb;obtain ⟨q0,q1,q2,q3,q4,q5,q6,q7,q8,q9,q10,q11,q12,q13⟩:=HBOX.out _ HB1'.out;obtain ⟨D,hd1,hd2,hd3,hd4,hd5⟩:=HM.out.bk;have HD:=Lib.hid (And.intro hd1 (And.intro hd2 (And.intro hd3 (And.intro hd4 hd5))));clear hd1 hd2 hd3 hd4 hd5
 have c12:w1.cell? ⟨A,12,none⟩=some (.pointer (some ⟨bp,0,none⟩)):=HM.out.md.cells.cell (by omega)
 have hAw:A<w1.heap.size:=HM.out.md.cells.lt
 have hWw:w.heap.size<w1.heap.size:=by omega
 have hAq:A≠bq:=(HD.out.2.2.2.1 A (.inl (.inl rfl))).2.2
 have hWq:w.heap.size≠bq:=by have:=HH.out.bk.choose_spec.1.2.1;omega
 go_wp2_with fail
 refine wp_region_held_drew (S:=fun w'=>w'.cell? ⟨A,12,none⟩=some (.pointer (some ⟨bp,0,none⟩))/\w'.cell? ⟨w.heap.size,9,none⟩=some (.int .u32 ((nw:Nat)))/\w'.cell? ⟨w.heap.size,10,none⟩=some (.int .u32 ((li:Nat)))/\w'.cell? ⟨w.heap.size,11,none⟩=some (.int .i64 (sh))/\w'.cell? ⟨w.heap.size,12,none⟩=some (.int .i64 (bu))) (by kernel_rfl) ?_ (fun hHeld=>?_)
 ·exact ⟨c12,q9,q10,q11,q12⟩
 obtain ⟨v1,hv0⟩:∃ w',w'=w1.drew:=⟨_,rfl⟩
 have hvb:Below w1.heap.size w1 v1:=by rw [hv0];exact (Below.refl _ _).drew
 have HVZ:Hid (v1.heap.size=w1.heap.size):=by show _=_;rw [hv0];rfl
 rw [<- hv0] at hHeld |-;clear hv0;have HK0:=Lib.hid (HD.out.1.call hvb)
 have HD0:Hid (∀ b,D b->b<v1.heap.size):=fun b hd=>by rw [HVZ.out];exact HD.out.2.1 b hd
 refine tk 0 ?_;refine tk 1 ?_;refine tk 2 ?_;refine tk 3 ?_;refine tk 4 ?_;refine tk 5 ?_;refine tk 6 ?_;refine tk 7 ?_;refine tk 8 ?_;refine tk 9 ?_;refine tk 10 ?_;refine tk 11 ?_
 refine clR 12 rfl fun K hK=>?_
 go_simp
 refine Calls.mono (zpu HK0.out HD0.out HD.out.2.2.1 hS hB (by omega) hst sh bu nw li hnw Hh hh2 ha) ?_
 rintro e w9 ⟨rfl,hk9,hb9⟩
 have HB9:Hid (But bq w1 w9):=(But.of hvb (by have:=HD.out.2.1 bq HD.out.2.2.1;omega)).trans hb9
 have HK9:=Lib.hid hk9;clear hb9 hk9
 refine hK.out _ _ ?_ (fun hHeld=>?_)
 ·(try dsimp only)
  obtain ⟨x0,x1,x2,x3,x4⟩:=hHeld
  exact ⟨(HB9.out.cell (p:=⟨A,12,none⟩) (by show A<w1.heap.size;omega) (by show A≠bq;exact hAq)).trans ((hvb.cell (p:=⟨A,12,none⟩) (by show A<w1.heap.size;omega)).symm.trans x0),(HB9.out.cell (p:=⟨w.heap.size,9,none⟩) (by show w.heap.size<w1.heap.size;omega) (by show w.heap.size≠bq;exact hWq)).trans ((hvb.cell (p:=⟨w.heap.size,9,none⟩) (by show w.heap.size<w1.heap.size;omega)).symm.trans x1),(HB9.out.cell (p:=⟨w.heap.size,10,none⟩) (by show w.heap.size<w1.heap.size;omega) (by show w.heap.size≠bq;exact hWq)).trans ((hvb.cell (p:=⟨w.heap.size,10,none⟩) (by show w.heap.size<w1.heap.size;omega)).symm.trans x2),(HB9.out.cell (p:=⟨w.heap.size,11,none⟩) (by show w.heap.size<w1.heap.size;omega) (by show w.heap.size≠bq;exact hWq)).trans ((hvb.cell (p:=⟨w.heap.size,11,none⟩) (by show w.heap.size<w1.heap.size;omega)).symm.trans x3),(HB9.out.cell (p:=⟨w.heap.size,12,none⟩) (by show w.heap.size<w1.heap.size;omega) (by show w.heap.size≠bq;exact hWq)).trans ((hvb.cell (p:=⟨w.heap.size,12,none⟩) (by show w.heap.size<w1.heap.size;omega)).symm.trans x4)⟩
 clear hK K;refine tk 13 ?_
 refine dnR ?_
 have HMD:Hid (RfAll E w9 L A S1 Q cQ X bp bq P r S B n nv uv lv st (updR g Hh (ageR g Hh nw li)) G R qv qs/\MdFr E w w9 L):=⟨HM.out.bookD HD.out.2.1 HD.out.2.2.1 HD.out.2.2.2.1 HD.out.2.2.2.2 HK9.out HB9.out,RfFr.of_but HH.out HB1.out HB9.out (.inr rfl) HM.out.lbk⟩;clear hHeld c12 q0 q1 q2 q3 q4 q5 q6 q7 q8 q9 q10 q11 q12 q13
 go_wp2
 go_ret
 exact ⟨by first|rfl|(simp;done),HMD.out.1,HMD.out.2⟩
set_option maxRecDepth 20000 in
set_option maxHeartbeats 6400000 in
theorem zkk {E:Nat->Prop} {w:World} {L A S1 Q cQ:Nat} {X:Nat->Value} {bp bq P r S B n nv:Nat} {uv:Value} {lv:List Vl} {st:Nat->Int×Nat} {g:Nat->Nat->Pl} {G:Nat->Value} {R:Nat->Nat} {qv:Nat->Nat->Value} {qs:Nat->Nat->List Int} (h:RfAll E w L A S1 Q cQ X bp bq P r S B n nv uv lv st g G R qv qs) (hS:1<=S/\S<=8) (hB:1<=B/\B<=16) (hn:1<=n/\n<=8) (nw:Nat) (li:Nat) (sh:Int) (bu:Int) (ha:atI S B sh bu<0) (po tt vi sx kv km me un id:Int):Calls Tryz.prog 19 #[.pointer (some ⟨A,0,none⟩),opV 6 po tt vi sx kv km me un ((nw:Nat)) ((li:Nat)) sh bu id] w (Says (.int .i64 0) w):=by
 have hfd:=fun w' (hb:Below w.heap.size w w')=>zag (Sl.of_own (h.call hb).md.vlans) (Nat.le_refl _) vi
 have HFD:=Lib.hid hfd;obtain ⟨w0,hw0⟩:∃ z,z=(w.alloc (.cells #[.int .i64 (6),.int .i64 (po),.int .i64 (tt),.int .i64 (vi),.int .i64 (sx),.int .i64 (kv),.int .u64 (km),.int .u64 (me),.int .u64 (un),.int .u32 ((nw:Nat)),.int .u32 ((li:Nat)),.int .i64 (sh),.int .i64 (bu),.int .i64 (id)] 55)):=⟨_,rfl⟩
 have HB0:Hid (Below w.heap.size w w0):=by rw [hw0];exact (Below.refl _ _).alloc (Nat.le_refl _) _
 have HBOX:=Lib.hid (zbp hw0)
 have hwz:w.heap.size<w0.heap.size:=by rw [hw0];simp
 have HH:=Lib.hid h;have hAz:A<w.heap.size:=h.md.cells.lt;clear h hfd;unfold opV
 go_enter Tryz.func19,Tryz.ntmps19
 go_wp2_with (first
  |fail)
 rw [<- hw0];clear hw0;obtain ⟨q0,q1,q2,q3,q4,q5,q6,q7,q8,q9,q10,q11,q12,q13⟩:=HBOX.out _ (Below.refl _ _)
 have c11:w0.cell? ⟨A,11,none⟩=some uv:=(HH.out.call HB0.out).md.cells.cell (by omega)
 refine wp_region_held_drew (S:=fun w'=>w'.cell? ⟨A,11,none⟩=some uv/\w'.cell? ⟨w.heap.size,3,none⟩=some (.int .i64 (vi))) (by kernel_rfl) ?_ (fun hHeld=>?_)
 ·exact ⟨c11,q3⟩
 obtain ⟨v0,hv0⟩:∃ w',w'=w0.drew:=⟨_,rfl⟩
 have hvb:Below w0.heap.size w0 v0:=by rw [hv0];exact (Below.refl _ _).drew
 have HVZ:Hid (v0.heap.size=w0.heap.size):=by show _=_;rw [hv0];rfl
 rw [<- hv0] at hHeld |-;clear hv0;refine tk 0 ?_;refine tk 1 ?_;refine tk 2 ?_;refine tk 3 ?_;refine tk 4 ?_;refine tk 5 ?_
 refine clR 6 rfl fun K hK=>?_
 go_simp
 refine Calls.mono (HFD.out _ (HB0.out.trans (hvb.mono HB0.out.size))) ?_
 rintro e w1 ⟨rfl,hb1⟩
 have HB1':Hid (Below w0.heap.size w0 w1):=hvb.trans (hb1.mono (by rw [HVZ.out];exact Nat.le_refl _))
 have hz1:w0.heap.size<=w1.heap.size:=HB1'.out.size
 refine hK.out _ _ ?_ (fun hHeld=>?_)
 ·(try dsimp only)
  obtain ⟨x0,x1⟩:=hHeld
  exact ⟨(hb1.cell (p:=⟨A,11,none⟩) (by show A<v0.heap.size;rw [HVZ.out];omega)).trans x0,(hb1.cell (p:=⟨w.heap.size,3,none⟩) (by show w.heap.size<v0.heap.size;rw [HVZ.out];omega)).trans x1⟩
 clear hK K;refine tk 7 ?_
 refine dnR ?_
 have HB1:Hid (Below w.heap.size w w1):=HB0.out.trans (HB1'.out.mono HB0.out.size);have HM:=Lib.hid (HH.out.call HB1.out);clear hHeld c11 q0 q1 q2 q3 q4 q5 q6 q7 q8 q9 q10 q11 q12 q13 hb1 hvb;obtain ⟨q0,q1,q2,q3,q4,q5,q6,q7,q8,q9,q10,q11,q12,q13⟩:=HBOX.out _ HB1'.out;obtain ⟨D,hd1,hd2,hd3,hd4,hd5⟩:=HM.out.bk;have HD:=Lib.hid (And.intro hd1 (And.intro hd2 (And.intro hd3 (And.intro hd4 hd5))));clear hd1 hd2 hd3 hd4 hd5
 have c12:w1.cell? ⟨A,12,none⟩=some (.pointer (some ⟨bp,0,none⟩)):=HM.out.md.cells.cell (by omega)
 have hAw:A<w1.heap.size:=HM.out.md.cells.lt
 have hWw:w.heap.size<w1.heap.size:=by omega
 have hAq:A≠bq:=(HD.out.2.2.2.1 A (.inl (.inl rfl))).2.2
 have hWq:w.heap.size≠bq:=by have:=HH.out.bk.choose_spec.1.2.1;omega
 go_wp2_with fail
 refine wp_region_held_drew (S:=fun w'=>w'.cell? ⟨A,12,none⟩=some (.pointer (some ⟨bp,0,none⟩))/\w'.cell? ⟨w.heap.size,9,none⟩=some (.int .u32 ((nw:Nat)))/\w'.cell? ⟨w.heap.size,10,none⟩=some (.int .u32 ((li:Nat)))/\w'.cell? ⟨w.heap.size,11,none⟩=some (.int .i64 (sh))/\w'.cell? ⟨w.heap.size,12,none⟩=some (.int .i64 (bu))) (by kernel_rfl) ?_ (fun hHeld=>?_)
 ·exact ⟨c12,q9,q10,q11,q12⟩
 obtain ⟨v1,hv0⟩:∃ w',w'=w1.drew:=⟨_,rfl⟩
 have hvb:Below w1.heap.size w1 v1:=by rw [hv0];exact (Below.refl _ _).drew
 have HVZ:Hid (v1.heap.size=w1.heap.size):=by show _=_;rw [hv0];rfl
 rw [<- hv0] at hHeld |-;clear hv0;have HK0:=Lib.hid (HD.out.1.call hvb)
 have HD0:Hid (∀ b,D b->b<v1.heap.size):=fun b hd=>by rw [HVZ.out];exact HD.out.2.1 b hd
 refine tk 0 ?_;refine tk 1 ?_;refine tk 2 ?_;refine tk 3 ?_;refine tk 4 ?_;refine tk 5 ?_;refine tk 6 ?_;refine tk 7 ?_;refine tk 8 ?_;refine tk 9 ?_;refine tk 10 ?_;refine tk 11 ?_
 refine clR 12 rfl fun K hK=>?_
 go_simp
 refine Calls.mono (zjx HK0.out hS hB sh bu nw li ha) ?_
 rintro e w9 ⟨rfl,rfl⟩;have HB9:Hid (Below w1.heap.size w1 v1):=hvb
 refine hK.out _ _ ?_ (fun hHeld=>?_)
 ·(try dsimp only)
  obtain ⟨x0,x1,x2,x3,x4⟩:=hHeld
  exact ⟨(HB9.out.cell (p:=⟨A,12,none⟩) (by show A<w1.heap.size;omega)).trans ((hvb.cell (p:=⟨A,12,none⟩) (by show A<w1.heap.size;omega)).symm.trans x0),(HB9.out.cell (p:=⟨w.heap.size,9,none⟩) (by show w.heap.size<w1.heap.size;omega)).trans ((hvb.cell (p:=⟨w.heap.size,9,none⟩) (by show w.heap.size<w1.heap.size;omega)).symm.trans x1),(HB9.out.cell (p:=⟨w.heap.size,10,none⟩) (by show w.heap.size<w1.heap.size;omega)).trans ((hvb.cell (p:=⟨w.heap.size,10,none⟩) (by show w.heap.size<w1.heap.size;omega)).symm.trans x2),(HB9.out.cell (p:=⟨w.heap.size,11,none⟩) (by show w.heap.size<w1.heap.size;omega)).trans ((hvb.cell (p:=⟨w.heap.size,11,none⟩) (by show w.heap.size<w1.heap.size;omega)).symm.trans x3),(HB9.out.cell (p:=⟨w.heap.size,12,none⟩) (by show w.heap.size<w1.heap.size;omega)).trans ((hvb.cell (p:=⟨w.heap.size,12,none⟩) (by show w.heap.size<w1.heap.size;omega)).symm.trans x4)⟩
 clear hK K;refine tk 13 ?_
 refine dnR ?_
 have HBZ:=Lib.hid (HB1.out.trans (HB9.out.mono HB1.out.size));clear hHeld c12 q0 q1 q2 q3 q4 q5 q6 q7 q8 q9 q10 q11 q12 q13
 go_wp2
 go_ret
 exact ⟨by first|rfl|(simp;done),HBZ.out⟩
set_option maxRecDepth 20000 in
set_option maxHeartbeats 6400000 in
theorem zpv {E:Nat->Prop} {w:World} {L A S1 Q cQ:Nat} {X:Nat->Value} {bp bq P r S B n nv:Nat} {uv:Value} {lv:List Vl} {st:Nat->Int×Nat} {g:Nat->Nat->Pl} {G:Nat->Value} {R:Nat->Nat} {qv:Nat->Nat->Value} {qs:Nat->Nat->List Int} (h:RfAll E w L A S1 Q cQ X bp bq P r S B n nv uv lv st g G R qv qs) (hS:1<=S/\S<=8) (hB:1<=B/\B<=16) (hn:1<=n/\n<=8) (kv:Int) (km:Nat) (hkm:km<18446744073709551616) (hdr:(zbv (fun i=>ownP (g (zaj kv km S B) i)) kv km n).2=true) (po tt vi sx me un nw li sh bu id:Int):Calls Tryz.prog 19 #[.pointer (some ⟨A,0,none⟩),opV 5 po tt vi sx kv ((km:Nat)) me un nw li sh bu id] w fun e w'=>e=.returned (.int .i64 1)/\RfAll E w' L A S1 Q cQ X bp bq P r S B n nv uv lv st (updR g (zaj kv km S B) (zbv (fun i=>ownP (g (zaj kv km S B) i)) kv km n).1) G R qv qs/\MdFr E w w' L:=by
 have hfd:=fun w' (hb:Below w.heap.size w w')=>zag (Sl.of_own (h.call hb).md.vlans) (Nat.le_refl _) vi
 have HFD:=Lib.hid hfd;obtain ⟨w0,hw0⟩:∃ z,z=(w.alloc (.cells #[.int .i64 (5),.int .i64 (po),.int .i64 (tt),.int .i64 (vi),.int .i64 (sx),.int .i64 (kv),.int .u64 ((km:Nat)),.int .u64 (me),.int .u64 (un),.int .u32 (nw),.int .u32 (li),.int .i64 (sh),.int .i64 (bu),.int .i64 (id)] 55)):=⟨_,rfl⟩
 have HB0:Hid (Below w.heap.size w w0):=by rw [hw0];exact (Below.refl _ _).alloc (Nat.le_refl _) _
 have HBOX:=Lib.hid (zbp hw0)
 have hwz:w.heap.size<w0.heap.size:=by rw [hw0];simp
 have HH:=Lib.hid h;have hAz:A<w.heap.size:=h.md.cells.lt;clear h hfd;unfold opV
 go_enter Tryz.func19,Tryz.ntmps19
 go_wp2_with (first
  |fail)
 rw [<- hw0];clear hw0;obtain ⟨q0,q1,q2,q3,q4,q5,q6,q7,q8,q9,q10,q11,q12,q13⟩:=HBOX.out _ (Below.refl _ _)
 have c11:w0.cell? ⟨A,11,none⟩=some uv:=(HH.out.call HB0.out).md.cells.cell (by omega)
 refine wp_region_held_drew (S:=fun w'=>w'.cell? ⟨A,11,none⟩=some uv/\w'.cell? ⟨w.heap.size,3,none⟩=some (.int .i64 (vi))) (by kernel_rfl) ?_ (fun hHeld=>?_)
 ·exact ⟨c11,q3⟩
 obtain ⟨v0,hv0⟩:∃ w',w'=w0.drew:=⟨_,rfl⟩
 have hvb:Below w0.heap.size w0 v0:=by rw [hv0];exact (Below.refl _ _).drew
 have HVZ:Hid (v0.heap.size=w0.heap.size):=by show _=_;rw [hv0];rfl
 rw [<- hv0] at hHeld |-;clear hv0;refine tk 0 ?_;refine tk 1 ?_;refine tk 2 ?_;refine tk 3 ?_;refine tk 4 ?_;refine tk 5 ?_
 refine clR 6 rfl fun K hK=>?_
 go_simp
 refine Calls.mono (HFD.out _ (HB0.out.trans (hvb.mono HB0.out.size))) ?_
 rintro e w1 ⟨rfl,hb1⟩
 have HB1':Hid (Below w0.heap.size w0 w1):=hvb.trans (hb1.mono (by rw [HVZ.out];exact Nat.le_refl _))
 have hz1:w0.heap.size<=w1.heap.size:=HB1'.out.size
 refine hK.out _ _ ?_ (fun hHeld=>?_)
 ·(try dsimp only)
  obtain ⟨x0,x1⟩:=hHeld
  exact ⟨(hb1.cell (p:=⟨A,11,none⟩) (by show A<v0.heap.size;rw [HVZ.out];omega)).trans x0,(hb1.cell (p:=⟨w.heap.size,3,none⟩) (by show w.heap.size<v0.heap.size;rw [HVZ.out];omega)).trans x1⟩
 clear hK K;refine tk 7 ?_
 refine dnR ?_
 have HB1:Hid (Below w.heap.size w w1):=HB0.out.trans (HB1'.out.mono HB0.out.size);have HM:=Lib.hid (HH.out.call HB1.out);clear hHeld c11 q0 q1 q2 q3 q4 q5 q6 q7 q8 q9 q10 q11 q12 q13 hb1 hvb;obtain ⟨q0,q1,q2,q3,q4,q5,q6,q7,q8,q9,q10,q11,q12,q13⟩:=HBOX.out _ HB1'.out;obtain ⟨D,hd1,hd2,hd3,hd4,hd5⟩:=HM.out.bk;have HD:=Lib.hid (And.intro hd1 (And.intro hd2 (And.intro hd3 (And.intro hd4 hd5))));clear hd1 hd2 hd3 hd4 hd5
 have c12:w1.cell? ⟨A,12,none⟩=some (.pointer (some ⟨bp,0,none⟩)):=HM.out.md.cells.cell (by omega)
 have hAw:A<w1.heap.size:=HM.out.md.cells.lt
 have hWw:w.heap.size<w1.heap.size:=by omega
 have hAq:A≠bq:=(HD.out.2.2.2.1 A (.inl (.inl rfl))).2.2
 have hWq:w.heap.size≠bq:=by have:=HH.out.bk.choose_spec.1.2.1;omega
 go_wp2_with fail
 refine wp_region_held_drew (S:=fun w'=>w'.cell? ⟨A,12,none⟩=some (.pointer (some ⟨bp,0,none⟩))/\w'.cell? ⟨w.heap.size,5,none⟩=some (.int .i64 (kv))/\w'.cell? ⟨w.heap.size,6,none⟩=some (.int .u64 ((km:Nat)))) (by kernel_rfl) ?_ (fun hHeld=>?_)
 ·exact ⟨c12,q5,q6⟩
 obtain ⟨v1,hv0⟩:∃ w',w'=w1.drew:=⟨_,rfl⟩
 have hvb:Below w1.heap.size w1 v1:=by rw [hv0];exact (Below.refl _ _).drew
 have HVZ:Hid (v1.heap.size=w1.heap.size):=by show _=_;rw [hv0];rfl
 rw [<- hv0] at hHeld |-;clear hv0;have HK0:=Lib.hid (HD.out.1.call hvb)
 have HD0:Hid (∀ b,D b->b<v1.heap.size):=fun b hd=>by rw [HVZ.out];exact HD.out.2.1 b hd
 refine tk 0 ?_;refine tk 1 ?_;refine tk 2 ?_;refine tk 3 ?_;refine tk 4 ?_;refine tk 5 ?_
 refine clR 6 rfl fun K hK=>?_
 go_simp
 have hdc:=zg5 HK0.out HD0.out HD.out.2.2.1 hS hB (by omega) kv km hkm
 rw [hdr] at hdc
 refine Calls.mono hdc ?_
 clear hdc;rintro e w9 ⟨rfl,hk9,hb9⟩
 have HB9:Hid (But bq w1 w9):=(But.of hvb (by have:=HD.out.2.1 bq HD.out.2.2.1;omega)).trans hb9
 have HK9:=Lib.hid hk9;clear hb9 hk9
 refine hK.out _ _ ?_ (fun hHeld=>?_)
 ·(try dsimp only)
  obtain ⟨x0,x1,x2⟩:=hHeld
  exact ⟨(HB9.out.cell (p:=⟨A,12,none⟩) (by show A<w1.heap.size;omega) (by show A≠bq;exact hAq)).trans ((hvb.cell (p:=⟨A,12,none⟩) (by show A<w1.heap.size;omega)).symm.trans x0),(HB9.out.cell (p:=⟨w.heap.size,5,none⟩) (by show w.heap.size<w1.heap.size;omega) (by show w.heap.size≠bq;exact hWq)).trans ((hvb.cell (p:=⟨w.heap.size,5,none⟩) (by show w.heap.size<w1.heap.size;omega)).symm.trans x1),(HB9.out.cell (p:=⟨w.heap.size,6,none⟩) (by show w.heap.size<w1.heap.size;omega) (by show w.heap.size≠bq;exact hWq)).trans ((hvb.cell (p:=⟨w.heap.size,6,none⟩) (by show w.heap.size<w1.heap.size;omega)).symm.trans x2)⟩
 clear hK K
 (try simp only [Act.put,sqA,sqB,sqC])
 refine dnR ?_
 have HMD:Hid (RfAll E w9 L A S1 Q cQ X bp bq P r S B n nv uv lv st (updR g (zaj kv km S B) (zbv (fun i=>ownP (g (zaj kv km S B) i)) kv km n).1) G R qv qs/\MdFr E w w9 L):=⟨HM.out.bookD HD.out.2.1 HD.out.2.2.1 HD.out.2.2.2.1 HD.out.2.2.2.2 HK9.out HB9.out,RfFr.of_but HH.out HB1.out HB9.out (.inr rfl) HM.out.lbk⟩
 clear hHeld c12 q0 q1 q2 q3 q4 q5 q6 q7 q8 q9 q10 q11 q12 q13
 go_wp2
 go_ret
 exact ⟨by first|rfl|(simp;done),HMD.out.1,HMD.out.2⟩
set_option maxRecDepth 20000 in
set_option maxHeartbeats 6400000 in
theorem znq {E:Nat->Prop} {w:World} {L A S1 Q cQ:Nat} {X:Nat->Value} {bp bq P r S B n nv:Nat} {uv:Value} {lv:List Vl} {st:Nat->Int×Nat} {g:Nat->Nat->Pl} {G:Nat->Value} {R:Nat->Nat} {qv:Nat->Nat->Value} {qs:Nat->Nat->List Int} (h:RfAll E w L A S1 Q cQ X bp bq P r S B n nv uv lv st g G R qv qs) (hS:1<=S/\S<=8) (hB:1<=B/\B<=16) (hn:1<=n/\n<=8) (kv:Int) (km:Nat) (hkm:km<18446744073709551616) (hdr:(zbv (fun i=>ownP (g (zaj kv km S B) i)) kv km n).2=false) (po tt vi sx me un nw li sh bu id:Int):Calls Tryz.prog 19 #[.pointer (some ⟨A,0,none⟩),opV 5 po tt vi sx kv ((km:Nat)) me un nw li sh bu id] w fun e w'=>e=.returned (.int .i64 0)/\RfAll E w' L A S1 Q cQ X bp bq P r S B n nv uv lv st (updR g (zaj kv km S B) (zbv (fun i=>ownP (g (zaj kv km S B) i)) kv km n).1) G R qv qs/\MdFr E w w' L:=by
 have hfd:=fun w' (hb:Below w.heap.size w w')=>zag (Sl.of_own (h.call hb).md.vlans) (Nat.le_refl _) vi
 have HFD:=Lib.hid hfd;obtain ⟨w0,hw0⟩:∃ z,z=(w.alloc (.cells #[.int .i64 (5),.int .i64 (po),.int .i64 (tt),.int .i64 (vi),.int .i64 (sx),.int .i64 (kv),.int .u64 ((km:Nat)),.int .u64 (me),.int .u64 (un),.int .u32 (nw),.int .u32 (li),.int .i64 (sh),.int .i64 (bu),.int .i64 (id)] 55)):=⟨_,rfl⟩
 have HB0:Hid (Below w.heap.size w w0):=by rw [hw0];exact (Below.refl _ _).alloc (Nat.le_refl _) _
 have HBOX:=Lib.hid (zbp hw0)
 have hwz:w.heap.size<w0.heap.size:=by rw [hw0];simp
 have HH:=Lib.hid h;have hAz:A<w.heap.size:=h.md.cells.lt;clear h hfd;unfold opV
 go_enter Tryz.func19,Tryz.ntmps19
 go_wp2_with (first
  |fail)
 rw [<- hw0];clear hw0;obtain ⟨q0,q1,q2,q3,q4,q5,q6,q7,q8,q9,q10,q11,q12,q13⟩:=HBOX.out _ (Below.refl _ _)
 have c11:w0.cell? ⟨A,11,none⟩=some uv:=(HH.out.call HB0.out).md.cells.cell (by omega)
 refine wp_region_held_drew (S:=fun w'=>w'.cell? ⟨A,11,none⟩=some uv/\w'.cell? ⟨w.heap.size,3,none⟩=some (.int .i64 (vi))) (by kernel_rfl) ?_ (fun hHeld=>?_)
 ·exact ⟨c11,q3⟩
 obtain ⟨v0,hv0⟩:∃ w',w'=w0.drew:=⟨_,rfl⟩
 have hvb:Below w0.heap.size w0 v0:=by rw [hv0];exact (Below.refl _ _).drew
 have HVZ:Hid (v0.heap.size=w0.heap.size):=by show _=_;rw [hv0];rfl
 rw [<- hv0] at hHeld |-;clear hv0;refine tk 0 ?_;refine tk 1 ?_;refine tk 2 ?_;refine tk 3 ?_;refine tk 4 ?_;refine tk 5 ?_
 refine clR 6 rfl fun K hK=>?_
 go_simp
 refine Calls.mono (HFD.out _ (HB0.out.trans (hvb.mono HB0.out.size))) ?_
 rintro e w1 ⟨rfl,hb1⟩
 have HB1':Hid (Below w0.heap.size w0 w1):=hvb.trans (hb1.mono (by rw [HVZ.out];exact Nat.le_refl _))
 have hz1:w0.heap.size<=w1.heap.size:=HB1'.out.size
 refine hK.out _ _ ?_ (fun hHeld=>?_)
 ·(try dsimp only)
  obtain ⟨x0,x1⟩:=hHeld
  exact ⟨(hb1.cell (p:=⟨A,11,none⟩) (by show A<v0.heap.size;rw [HVZ.out];omega)).trans x0,(hb1.cell (p:=⟨w.heap.size,3,none⟩) (by show w.heap.size<v0.heap.size;rw [HVZ.out];omega)).trans x1⟩
 clear hK K;refine tk 7 ?_
 refine dnR ?_
 have HB1:Hid (Below w.heap.size w w1):=HB0.out.trans (HB1'.out.mono HB0.out.size);have HM:=Lib.hid (HH.out.call HB1.out);clear hHeld c11 q0 q1 q2 q3 q4 q5 q6 q7 q8 q9 q10 q11 q12 q13 hb1 hvb;obtain ⟨q0,q1,q2,q3,q4,q5,q6,q7,q8,q9,q10,q11,q12,q13⟩:=HBOX.out _ HB1'.out;obtain ⟨D,hd1,hd2,hd3,hd4,hd5⟩:=HM.out.bk;have HD:=Lib.hid (And.intro hd1 (And.intro hd2 (And.intro hd3 (And.intro hd4 hd5))));clear hd1 hd2 hd3 hd4 hd5
 have c12:w1.cell? ⟨A,12,none⟩=some (.pointer (some ⟨bp,0,none⟩)):=HM.out.md.cells.cell (by omega)
 have hAw:A<w1.heap.size:=HM.out.md.cells.lt
 have hWw:w.heap.size<w1.heap.size:=by omega
 have hAq:A≠bq:=(HD.out.2.2.2.1 A (.inl (.inl rfl))).2.2
 have hWq:w.heap.size≠bq:=by have:=HH.out.bk.choose_spec.1.2.1;omega
 go_wp2_with fail
 refine wp_region_held_drew (S:=fun w'=>w'.cell? ⟨A,12,none⟩=some (.pointer (some ⟨bp,0,none⟩))/\w'.cell? ⟨w.heap.size,5,none⟩=some (.int .i64 (kv))/\w'.cell? ⟨w.heap.size,6,none⟩=some (.int .u64 ((km:Nat)))) (by kernel_rfl) ?_ (fun hHeld=>?_)
 ·exact ⟨c12,q5,q6⟩
 obtain ⟨v1,hv0⟩:∃ w',w'=w1.drew:=⟨_,rfl⟩
 have hvb:Below w1.heap.size w1 v1:=by rw [hv0];exact (Below.refl _ _).drew
 have HVZ:Hid (v1.heap.size=w1.heap.size):=by show _=_;rw [hv0];rfl
 rw [<- hv0] at hHeld |-;clear hv0;have HK0:=Lib.hid (HD.out.1.call hvb)
 have HD0:Hid (∀ b,D b->b<v1.heap.size):=fun b hd=>by rw [HVZ.out];exact HD.out.2.1 b hd
 refine tk 0 ?_;refine tk 1 ?_;refine tk 2 ?_;refine tk 3 ?_;refine tk 4 ?_;refine tk 5 ?_
 refine clR 6 rfl fun K hK=>?_
 go_simp
 have hdc:=zg5 HK0.out HD0.out HD.out.2.2.1 hS hB (by omega) kv km hkm
 rw [hdr] at hdc
 refine Calls.mono hdc ?_
 clear hdc;rintro e w9 ⟨rfl,hk9,hb9⟩
 have HB9:Hid (But bq w1 w9):=(But.of hvb (by have:=HD.out.2.1 bq HD.out.2.2.1;omega)).trans hb9
 have HK9:=Lib.hid hk9;clear hb9 hk9
 refine hK.out _ _ ?_ (fun hHeld=>?_)
 ·(try dsimp only)
  obtain ⟨x0,x1,x2⟩:=hHeld
  exact ⟨(HB9.out.cell (p:=⟨A,12,none⟩) (by show A<w1.heap.size;omega) (by show A≠bq;exact hAq)).trans ((hvb.cell (p:=⟨A,12,none⟩) (by show A<w1.heap.size;omega)).symm.trans x0),(HB9.out.cell (p:=⟨w.heap.size,5,none⟩) (by show w.heap.size<w1.heap.size;omega) (by show w.heap.size≠bq;exact hWq)).trans ((hvb.cell (p:=⟨w.heap.size,5,none⟩) (by show w.heap.size<w1.heap.size;omega)).symm.trans x1),(HB9.out.cell (p:=⟨w.heap.size,6,none⟩) (by show w.heap.size<w1.heap.size;omega) (by show w.heap.size≠bq;exact hWq)).trans ((hvb.cell (p:=⟨w.heap.size,6,none⟩) (by show w.heap.size<w1.heap.size;omega)).symm.trans x2)⟩
 clear hK K
 (try simp only [Act.put,sqA,sqB,sqC])
 refine dnR ?_
 have HMD:Hid (RfAll E w9 L A S1 Q cQ X bp bq P r S B n nv uv lv st (updR g (zaj kv km S B) (zbv (fun i=>ownP (g (zaj kv km S B) i)) kv km n).1) G R qv qs/\MdFr E w w9 L):=⟨HM.out.bookD HD.out.2.1 HD.out.2.2.1 HD.out.2.2.2.1 HD.out.2.2.2.2 HK9.out HB9.out,RfFr.of_but HH.out HB1.out HB9.out (.inr rfl) HM.out.lbk⟩
 clear hHeld c12 q0 q1 q2 q3 q4 q5 q6 q7 q8 q9 q10 q11 q12 q13
 go_wp2
 go_ret
 exact ⟨by first|rfl|(simp;done),HMD.out.1,HMD.out.2⟩
end Go.Proofs.YtfekhdgjgjodlaaGreat
