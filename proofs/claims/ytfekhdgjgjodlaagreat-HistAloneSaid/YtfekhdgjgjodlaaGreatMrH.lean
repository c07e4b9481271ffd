/-
  Words and contracts that a statement's proof rests on (MrH). No statement is proved here.
-/
import Derived.Test.YtfekhdgjgjodlaaGreatMrG
import Derived.Test.YtfekhdgjgjodlaaGreatMoP
set_option linter.unusedVariables false
set_option linter.unusedSimpArgs false
namespace Go.Proofs.YtfekhdgjgjodlaaGreat
open Go.RowKit
theorem RfAll.putq {E:Nat→Prop} {w v:World} {L A S1 Q cQ:Nat} {X:Nat→Value} {bp bq P r S B n nv:Nat} {uv:Value} {lv:List Vl} {st:Nat→Int × Nat} {g:Nat→Nat→Pl} {G:Nat→Value} {R:Nat→Nat} {qv:Nat→Nat→Value} {qs:Nat→Nat→List Int} {i j:Nat} {u:Value} {l':List Int} (h:RfAll E w L A S1 Q cQ X bp bq P r S B n nv uv lv st g G R qv qs) (hi:i < P) (hj:j < P) (hb:Below w.heap.size w v) (ho:v.ownsRow w.heap.size 3 1 u l'.length (kv .i64 l')) (hu:∃ b,u.ownBlock=some b) :
  RfAll E (v.setCell ⟨R i,j,none⟩ u) L A S1 Q cQ X bp bq P r S B n nv uv lv st g G R (upd2 qv i j u) (upd2 qs i j l')∧MdFr E w (v.setCell ⟨R i,j,none⟩ u) L:=by
 have hr:v.rowIs (R i) 47 (capV (G i)) (qv i):=(h.qu.row i hi).of_block (hb.block _ (h.qu.row i hi).lt)
 have hoth:∀ b,b < w.heap.size→b ≠ R i→(qv i j).ownBlock ≠ some b→(v.setCell ⟨R i,j,none⟩ u).heap[b]?=w.heap[b]?:=fun b hlt h1 _ => (heap_setCell_far _ _ _ (by exact h1)).trans (hb.block b hlt)
 have hat:u.ownBlock=(qv i j).ownBlock ∨ ∃ b,u.ownBlock=some b∧w.heap.size≤b:=by
  obtain ⟨b,hb'⟩:=hu
  exact .inr ⟨b,hb',(ho.lt b hb').1⟩
 have hown:(v.setCell ⟨R i,j,none⟩ u).ownsRow L 3 1 u l'.length (kv .i64 l'):=own_base (own_low' ho fun g e2 => heap_setCell_far _ _ _ (fun e3 => rowIs_own_ne hr ho (by decide) (by rw [e2,e3]))) h.base
 have hL:Below L w (v.setCell ⟨R i,j,none⟩ u):=(hb.mono h.base).setCell (h.qu.low i hi) _
 have hq:=h.qu.step hi hj u l' (hr.set j u) hoth hown hat
 exact ⟨h.queue hi hj (h.md.quiet h.qu hi hj hoth) hq hat hoth hL,RfFr.of_queue h (Below.refl _ _) hi hj hoth hL⟩
theorem sl_one {w:World} {b B:Nat} {x:Value} (h:w.cell? ⟨b,0,none⟩=some x) (hb:b < B):Sl w B 1 (.slice (some ⟨b,0,none⟩) 1 1) 1 [x] :=
 ⟨rfl,_,_,rfl,Nat.le_refl _,by decide,fun _ => ⟨b,0,rfl,hb,fun k hk => (by have e:k=0:=(by omega); subst e; exact h)⟩⟩
theorem sl_tail {w:World} {L cap b k:Nat} {x:Int} {l:List Int} (h:w.ownsRow L 3 1 (.slice (some ⟨b,0,none⟩) (k + 1) cap) (k + 1) (kv .i64 (x :: l))) :
  ∃ A:Addr,(if cap=1 then some (⟨b,0,none⟩:Addr) else some ⟨b,1,none⟩)=some A∧Sl w w.heap.size 1 (.slice (some A) k (cap - 1)) k (kv .i64 l):=by
 obtain ⟨hnc,hcm⟩:k + 1≤cap∧cap≤maxLen:=by
  obtain ⟨A8,c8,h8,h81,h82⟩:=(Sl.of_own h).form
  injection h8 with _ _ h8
  subst h8
  exact ⟨h81,h82⟩
 have hlen:(kv .i64 (x :: l)).length=k + 1:=by have:=h.1; omega
 have hl:(kv .i64 l).length=k:=by simp [kv] at hlen ⊢; omega
 have hb:=(h.lt b rfl).2
 by_cases hc:cap=1
 ·refine ⟨⟨b,0,none⟩,by simp [hc],by omega,_,_,rfl,by omega,by omega,fun hk => by omega⟩
 ·refine ⟨⟨b,1,none⟩,by simp [hc],by omega,_,_,rfl,by omega,by omega,fun hk => ⟨b,1,rfl,hb,fun j hj => ?_⟩⟩
  rw [show 1 + j=j + 1 by omega]
  exact (h.cellAt (j + 1) (by omega)).trans rfl
set_option maxRecDepth 20000 in
set_option maxHeartbeats 6400000 in
theorem ref17_Do11 {E:Nat→Prop} {w:World} {L A S1 Q cQ:Nat} {X:Nat→Value} {bp bq P r S B n nv:Nat} {uv:Value} {lv:List Vl} {st:Nat→Int × Nat} {g:Nat→Nat→Pl} {G:Nat→Value} {R:Nat→Nat} {qv:Nat→Nat→Value} {qs:Nat→Nat→List Int} (h:RfAll E w L A S1 Q cQ X bp bq P r S B n nv uv lv st g G R qv qs) (i:Nat) (j:Nat) (hi:i < P) (hj:j < P) (x:Int) (l:List Int) (hql:qs i j=x :: l) (hlen:(qs i j).length≤1000000) (vi sx kq km me un nw li sh bu id:Int):Calls Tryz.prog 19 #[.pointer (some ⟨A,0,none⟩),opV 11 ((i:Nat)) ((j:Nat)) vi sx kq km me un nw li sh bu id] w fun e w' => e=.returned (.int .i64 x)∧(∃ qv',RfAll E w' L A S1 Q cQ X bp bq P r S B n nv uv lv st g G R qv' (upd2 qs i j l))∧MdFr E w w' L:=by
 have d1:decide (i < P)=true:=decide_eq_true hi
 have d2:decide (j < P)=true:=decide_eq_true hj
 have d3:decide (i < cQ)=true:=decide_eq_true (Nat.lt_of_lt_of_le hi h.md.pq)
 have hicQ:i < cQ:=Nat.lt_of_lt_of_le hi h.md.pq
 obtain ⟨lq,hlq⟩:∃ x,x=(qs i j).length:=⟨_,rfl⟩
 obtain ⟨Au,cu,hv,hcu,hcm⟩:=(Sl.of_own (h.qu.own i j hi hj)).form
 rw [← hlq] at hv hcu
 have HQC:Hid (∀ w',Below w.heap.size w w'→w'.cell? ⟨A,13,none⟩=some (.slice (some ⟨Q,0,none⟩) P cQ)∧w'.cell? ⟨Q,i,none⟩=some (.slice (some ⟨R i,0,none⟩) P (capV (G i)))∧w'.cell? ⟨R i,j,none⟩=some (.slice Au lq cu)∧w'.cell? ⟨A,7,none⟩=some (.int .i64 (r:Nat))):=fun w' hb => by
  have hm:=h.call hb
  exact ⟨hm.md.cells.cell (by omega),(hm.md.queues.cell (Nat.lt_of_lt_of_le hi hm.md.pq)).trans (congrArg some (hm.qu.at_ i hi)),((hm.qu.row i hi).cell (Nat.lt_of_lt_of_le hj (hm.qu.cq i hi))).trans (by rw [hv]),(hm.md.cells.cell (by omega)).trans (congrArg some hm.md.x7)⟩
 have hQ:=h.qu
 have hRz:R i < w.heap.size:=(hQ.row i hi).lt
 have hQz:Q < w.heap.size:=h.md.queues.lt
 have HNE:Hid (A ≠ R i∧Q ≠ R i∧w.heap.size ≠ R i):=⟨rowIs_ne h.md.cells (hQ.row i hi) (by decide),rowIs_ne h.md.queues (hQ.row i hi) (by decide),by omega⟩
 have ho:=hQ.own i j hi hj
 rw [hv,← hlq] at ho
 have HFZ:Hid (∀ w',Below w.heap.size w w'→w'.frozen? ⟨R i,j,none⟩=false):=fun w' hb => (h.qu.call hb).row i hi |>.frozen j
 rw [hql] at ho
 obtain ⟨k,hk⟩:∃ k,k=l.length:=⟨_,rfl⟩
 obtain rfl:lq=k + 1:=by rw [hlq,hql,List.length_cons,hk]
 have hkl:k≤1000000:=by rw [hql,List.length_cons] at hlen; omega
 clear hlen
 obtain ⟨b,rfl⟩:∃ b,Au=some ⟨b,0,none⟩:=by
  rcases ho.2 with hn | ⟨z,cap,cur,hv9,_⟩
  ·cases hn.1
  ·injection hv9 with h1 _ _
   exact ⟨z,h1⟩
 have hbz:b < w.heap.size:=(ho.lt b rfl).2
 have hbR:b ≠ R i:=fun e => rowIs_own_ne (hQ.row i hi) ho (by decide) (by rw [e]; rfl)
 have HTL:=Lib.hid fun w' (hb:Below w.heap.size w w') => sl_tail (own_below ho hb)
 have HX0:Hid (∀ w',Below w.heap.size w w'→w'.cell? ⟨b,0,none⟩=some (.int .i64 x)):=fun w' hb => (hb.cell (p:=⟨b,0,none⟩) hbz).trans ((ho.cellAt 0 (by omega)).trans rfl)
 have hcm':k + 1≤2 ^ 63 - 1:=by unfold maxLen at hcm; omega
 unfold maxLen at hcm
 have d4:((k + 1:Nat):Int) ≠ 0:=by omega
 have d5:(((k + 1:Nat):Int) == 0)=false:=by simp; omega
 have d6:¬ (k:Int) + 1=0:=by omega
 have d7:decide (0 < k + 1)=true:=by simp
 have hp1:(1:Int)≤(k:Int) + 1:=by omega
 have hp2:(k:Int)≤(k:Int) + 1:=by omega
 have HK:=Lib.hid hk
 have HNN:=Lib.hid (And.intro hbR hbz)
 clear hv hlq hQ ho hql hk hbR
 have hfd:=fun w' (hb:Below w.heap.size w w') => ref3_Find (Sl.of_own (h.call hb).md.vlans) (Nat.le_refl _) vi
 have HFD:=Lib.hid hfd
 obtain ⟨w0,hw0⟩:∃ z,z=(w.alloc (.cells #[.int .i64 (11),.int .i64 ((i:Nat)),.int .i64 ((j:Nat)),.int .i64 (vi),.int .i64 (sx),.int .i64 (kq),.int .u64 (km),.int .u64 (me),.int .u64 (un),.int .u32 (nw),.int .u32 (li),.int .i64 (sh),.int .i64 (bu),.int .i64 (id)] 55)):=⟨_,rfl⟩
 have HB0:Hid (Below w.heap.size w w0):=by rw [hw0]; exact (Below.refl _ _).alloc (Nat.le_refl _) _
 have HBOX:=Lib.hid (box14 hw0)
 have hwz:w.heap.size < w0.heap.size:=by rw [hw0]; simp
 have hp0:=fun w' (hb:Below w.heap.size w w') => ref17_has (h.call hb) ((i:Nat))
 rw [portB_in hi] at hp0
 have HP0:=Lib.hid hp0
 clear hp0
 have hp1:=fun w' (hb:Below w.heap.size w w') => ref17_has (h.call hb) ((j:Nat))
 rw [portB_in hj] at hp1
 have HP1:=Lib.hid hp1
 clear hp1
 have HH:=Lib.hid h
 have hAz:A < w.heap.size:=h.md.cells.lt
 clear h hfd
 unfold opV
 go_enter Tryz.func19,Tryz.ntmps19
 go_wp2_with (first
  | (go_at_call 39; (with_reducible refine Calls.mono (HP0.out _ ((Below.refl _ _).alloc (Nat.le_refl _) _)) ?_); rintro e _ ⟨rfl,rfl⟩)
  | (go_at_call 39; (with_reducible refine Calls.mono (HP1.out _ ((Below.refl _ _).alloc (Nat.le_refl _) _)) ?_); rintro e _ ⟨rfl,rfl⟩)
  | fail)
 rw [← hw0]
 clear hw0
 obtain ⟨q0,q1,q2,q3,q4,q5,q6,q7,q8,q9,q10,q11,q12,q13⟩:=HBOX.out _ (Below.refl _ _)
 have c11:w0.cell? ⟨A,11,none⟩=some uv:=(HH.out.call HB0.out).md.cells.cell (by omega)
 refine wp_region_held_drew (S:=fun w' => w'.cell? ⟨A,11,none⟩=some uv∧w'.cell? ⟨w.heap.size,3,none⟩=some (.int .i64 (vi))) (by kernel_rfl) ?_ (fun hHeld => ?_)
 ·exact ⟨c11,q3⟩
 obtain ⟨v0,hv0⟩:∃ w',w'=w0.drew:=⟨_,rfl⟩
 have hvb:Below w0.heap.size w0 v0:=by rw [hv0]; exact (Below.refl _ _).drew
 have HVZ:Hid (v0.heap.size=w0.heap.size):=by show _=_; rw [hv0]; rfl
 rw [← hv0] at hHeld ⊢
 clear hv0
 refine tkR 0 rfl ?_
 refine tkR 1 rfl ?_
 refine tkR 2 rfl ?_
 refine tkR 3 rfl ?_
 refine tkR 4 rfl ?_
 refine tkR 5 rfl ?_
 refine clR 6 rfl fun K hK => ?_
 go_simp
 refine Calls.mono (HFD.out _ (HB0.out.trans (hvb.mono HB0.out.size))) ?_
 rintro e w1 ⟨rfl,hb1⟩
 have HB1':Hid (Below w0.heap.size w0 w1):=hvb.trans (hb1.mono (by rw [HVZ.out]; exact Nat.le_refl _))
 have hz1:w0.heap.size≤w1.heap.size:=HB1'.out.size
 refine hK.out _ _ ?_ (fun hHeld => ?_)
 ·(try dsimp only)
  obtain ⟨x0,x1⟩:=hHeld
  exact ⟨(hb1.cell (p:=⟨A,11,none⟩) (by show A < v0.heap.size; rw [HVZ.out]; omega)).trans x0,(hb1.cell (p:=⟨w.heap.size,3,none⟩) (by show w.heap.size < v0.heap.size; rw [HVZ.out]; omega)).trans x1⟩
 clear hK K
 refine tkR 7 rfl ?_
 refine wpAnyH_done (by kernel_rfl) ?_ _
 have HB1:Hid (Below w.heap.size w w1):=HB0.out.trans (HB1'.out.mono HB0.out.size)
 have HM:=Lib.hid (HH.out.call HB1.out)
 clear hHeld c11 q0 q1 q2 q3 q4 q5 q6 q7 q8 q9 q10 q11 q12 q13 hb1 hvb
 obtain ⟨q0,q1,q2,q3,q4,q5,q6,q7,q8,q9,q10,q11,q12,q13⟩:=HBOX.out _ HB1'.out
 obtain ⟨e13,eq,er,e7⟩:=HQC.out _ HB1.out
 go_wp2_with fail
 refine wp_region_held_drew (S:=fun w' => w'.cell? ⟨A,13,none⟩=some (.slice (some ⟨Q,0,none⟩) P cQ)∧w'.cell? ⟨Q,i,none⟩=some (.slice (some ⟨R i,0,none⟩) P (capV (G i)))∧w'.cell? ⟨R i,j,none⟩=some (.slice (some ⟨b,0,none⟩) (k + 1) cu)∧w'.cell? ⟨w.heap.size,1,none⟩=some (.int .i64 (i:Nat))∧w'.cell? ⟨w.heap.size,2,none⟩=some (.int .i64 (j:Nat))) (by kernel_rfl) ?_ (fun hHeld => ?_)
 ·exact ⟨e13,eq,er,q1,q2⟩
 obtain ⟨v1,hv0⟩:∃ w',w'=w1.drew:=⟨_,rfl⟩
 have hvb:Below w1.heap.size w1 v1:=by rw [hv0]; exact (Below.refl _ _).drew
 have HVZ:Hid (v1.heap.size=w1.heap.size):=by show _=_; rw [hv0]; rfl
 rw [← hv0] at hHeld ⊢
 clear hv0
 refine tkR 0 rfl ?_
 refine tkR 1 rfl ?_
 refine tkR 2 rfl ?_
 refine tkR 3 rfl ?_
 refine tkR 4 rfl ?_
 refine tkR 5 rfl ?_
 refine tkR 6 rfl ?_
 refine tkR 7 rfl ?_
 refine tkR 8 rfl ?_
 refine tkR 9 rfl ?_
 refine tkR 10 rfl ?_
 refine tkR 11 rfl ?_
 refine tkR 12 rfl ?_
 refine wpAnyH_done (by kernel_rfl) ?_ _
 have HBV:Hid (Below w.heap.size w v1):=HB1.out.trans (hvb.mono HB1.out.size)
 have HBW:Hid (Below w0.heap.size w0 v1):=HB1'.out.trans (hvb.mono HB1'.out.size)
 clear hHeld q0 q1 q2 q3 q4 q5 q6 q7 q8 q9 q10 q11 q12 q13 hvb HVZ e13 eq er e7
 obtain ⟨e13,eq,er,e7⟩:=HQC.out _ HBV.out
 obtain ⟨q0,q1,q2,q3,q4,q5,q6,q7,q8,q9,q10,q11,q12,q13⟩:=HBOX.out _ HBW.out
 go_wp2_with fail
 refine wp_region_held_drew (S:=fun w' => w'.cell? ⟨A,13,none⟩=some (.slice (some ⟨Q,0,none⟩) P cQ)∧w'.cell? ⟨Q,i,none⟩=some (.slice (some ⟨R i,0,none⟩) P (capV (G i)))∧w'.cell? ⟨w.heap.size,1,none⟩=some (.int .i64 (i:Nat))∧w'.cell? ⟨w.heap.size,2,none⟩=some (.int .i64 (j:Nat))) (by kernel_rfl) ?_ (fun hHeld => ?_)
 ·exact ⟨e13,eq,q1,q2⟩
 obtain ⟨v2,hv0⟩:∃ w',w'=v1.drew:=⟨_,rfl⟩
 have hvb:Below v1.heap.size v1 v2:=by rw [hv0]; exact (Below.refl _ _).drew
 have HB2:Hid (Below w.heap.size w v2):=HBV.out.trans (hvb.mono HBV.out.size)
 have HBW2:Hid (Below w0.heap.size w0 v2):=HBW.out.trans (hvb.mono HBW.out.size)
 rw [← hv0] at hHeld ⊢
 clear hv0 e13 eq er e7 q0 q1 q2 q3 q4 q5 q6 q7 q8 q9 q10 q11 q12 q13
 obtain ⟨Ab,hAb,hTT⟩:=HTL.out _ HB2.out
 have HTT:=Lib.hid hTT
 clear hTT
 refine tkR 0 rfl ?_
 refine tkR 1 rfl ?_
 refine tkR 2 rfl ?_
 refine tkR 3 rfl ?_
 refine tkR 4 rfl ?_
 refine tkR 5 rfl ?_
 refine tkR 6 rfl ?_
 refine tkR 7 rfl ?_
 refine tkR 8 rfl ?_
 refine tkR 9 rfl ?_
 refine tkR 11 rfl ?_
 refine tkR 12 rfl ?_
 refine wpAnyH_ready (rs:=[10]) (by kernel_rfl) (by simp) ?_
 refine (acR rfl (fun K hK => ?_) AllReadyH.nil)
 go_simp
 refine hK.out _ _ ?_ (fun hHeld => ?_)
 ·(try dsimp only)
  obtain ⟨a1,a2,_,_⟩:=HQC.out _ (HB2.out.alloc HB2.out.size _)
  obtain ⟨_,a3,a4,_⟩:=HBOX.out _ (HBW2.out.alloc HBW2.out.size _)
  exact ⟨a1,a2,a3,a4⟩
 clear hK K
 (try simp only [Act.put,sqA,sqB,sqC])
 obtain ⟨za,hza⟩:∃ o,o=v2.heap.size:=⟨_,rfl⟩
 obtain ⟨wa,hwa⟩:∃ x,x=v2.alloc (.cells #[] 3):=⟨_,rfl⟩
 have HOa:Hid (wa.ownsRow v2.heap.size 3 1 (.slice (some ⟨za,0,none⟩) 0 0) 0 []):=by rw [hwa,hza]; exact ⟨by simp,.inr ⟨v2.heap.size,0,#[],rfl,Nat.le_refl _,heap_alloc_new v2 _,Nat.le_refl _,by simp [maxLen],by simp,by simp⟩⟩
 have hBwa:Below v2.heap.size v2 wa:=by rw [hwa]; exact (Below.refl _ _).alloc (Nat.le_refl _) _
 rw [← hza,← hwa]
 (try rw [← hwa] at hHeld)
 clear hwa hza
 refine wpAnyH_ready (rs:=[13]) (by kernel_rfl) (by simp) ?_
 refine (acR rfl (fun K hK => ?_) AllReadyH.nil)
 refine step_app _ (by rfl) stIntM _ _ (by rfl) v2.heap.size (.slice (some ⟨za,0,none⟩) 0 0) 0 [] (by rfl) HOa.out v2.heap.size (.slice (some Ab) k (cu - 1)) k (kv .i64 l) (by rfl) (HTT.out.below hBwa) (kv_onesM _) (by omega) hBwa.size ?_
 intro v9 w9 hown9 hgr9 hat9 hbel9
 have hBw9:Below v2.heap.size v2 w9:=hBwa.trans hbel9
 obtain ⟨A9,c9,hv9,_,_⟩:=(Sl.of_own hown9).form
 subst hv9
 simp only [Nat.zero_add] at hown9 hat9 ⊢
 have hx9:∃ b,(Value.slice A9 k c9).ownBlock=some b:=by
  rcases hat9 with h8 | h8
  ·exact ⟨_,h8⟩
  ·exact ⟨_,h8⟩
 have HB9:Hid (Below w.heap.size w w9):=HB2.out.trans (hBw9.mono HB2.out.size)
 have HO9:Hid (w9.ownsRow w.heap.size 3 1 (.slice A9 k c9) l.length (kv .i64 l)):=by
  have h8:=own_base hown9 HB2.out.size
  rw [List.nil_append] at h8
  rw [← HK.out]
  exact Lib.hid h8
 have y1:w9.cell? ⟨R i,j,none⟩=some (.slice (some ⟨b,0,none⟩) (k + 1) cu):=(HQC.out _ HB9.out).2.2.1
 have y2:w9.frozen? ⟨R i,j,none⟩=false:=HFZ.out _ HB9.out
 have HW9:Hid (Below w0.heap.size w0 w9):=HBW2.out.trans (hBw9.mono HBW2.out.size)
 clear hown9 hgr9 hat9 hbel9
 refine hK.out _ _ ?_ (fun hHeld => ?_)
 ·(try dsimp only)
  obtain ⟨a1,a2,_,_⟩:=HQC.out _ HB9.out
  obtain ⟨_,a3,a4,_⟩:=HBOX.out _ HW9.out
  exact ⟨a1,a2,a3,a4⟩
 clear hK K
 refine tkR 14 rfl ?_
 refine wpAnyH_ready (rs:=[15]) (by kernel_rfl) (by simp) ?_
 refine (acR rfl (fun K hK => ?_) AllReadyH.nil)
 go_simp
 refine hK.out _ _ ?_ (fun hHeld => ?_)
 ·(try dsimp only)
  obtain ⟨a1,a2,_,_⟩:=HQC.out _ HB9.out
  obtain ⟨_,a3,a4,_⟩:=HBOX.out _ HW9.out
  have hz9:=HB9.out.size
  have hz9':=HW9.out.size
  exact ⟨((But.set j _).cell (show A < w9.heap.size by omega) HNE.out.1).trans a1,((But.set j _).cell (show Q < w9.heap.size by omega) HNE.out.2.1).trans a2,((But.set j _).cell (show w.heap.size < w9.heap.size by omega) HNE.out.2.2).trans a3,((But.set j _).cell (show w.heap.size < w9.heap.size by omega) HNE.out.2.2).trans a4⟩
 clear hK K
 (try simp only [Act.put,sqA,sqB,sqC])
 refine wpAnyH_done (by kernel_rfl) ?_ _
 have HF:=Lib.hid (HH.out.putq hi hj HB9.out HO9.out hx9)
 have x0:(w9.setCell ⟨R i,j,none⟩ (.slice A9 k c9)).cell? ⟨b,0,none⟩=some (.int .i64 x):=((But.set j _).cell (show b < w9.heap.size by have:=HB9.out.size; have:=HNN.out.2; omega) HNN.out.1).trans (HX0.out _ HB9.out)
 clear hHeld y1 y2 hvb
 go_wp2
 go_ret
 exact ⟨by first | rfl | (simp; done),⟨_,HF.out.1⟩,HF.out.2⟩
end Go.Proofs.YtfekhdgjgjodlaaGreat
