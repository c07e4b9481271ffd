/-
  Words and contracts that a statement's proof rests on (MoJ, MrD). No statement is proved here.
-/
import Derived.Test.YtfekhdgjgjodlaaGreatMoE
import Derived.Test.YtfekhdgjgjodlaaGreatMoM
import Derived.Test.YtfekhdgjgjodlaaGreatMrU
set_option linter.unusedVariables false
set_option linter.unusedSimpArgs false
namespace Go.Proofs.YtfekhdgjgjodlaaGreat
section
open Go.RowKit
section
variable {P r S B n nv:Nat} {s:Ms} {o:Od}
theorem kd_cases (x:Int):(x < 0 ∨ 12 < x) ∨ x=0 ∨ x=1 ∨ x=2 ∨ x=3 ∨ x=4 ∨ x=5 ∨ x=6 ∨ x=7 ∨ x=8 ∨ x=9 ∨ x=10 ∨ x=11 ∨ x=12:=by omega
theorem doS_qs (h1:o.kd ≠ 10) (h2:o.kd ≠ 11):(doS P r S B n nv s o).qs=s.qs:=by
 rcases kd_cases o.kd with hx | hx | hx | hx | hx | hx | hx | hx | hx | hx | hx | hx | hx | hx
 ·rw [doS_X hx]
 ·rw [doS_0 hx]
 ·rw [doS_1 hx]
 ·rw [doS_2 hx]; unfold dS2; repeat' split
  all_goals rfl
 ·rw [doS_3 hx]
 ·rw [doS_4 hx]; unfold dS4; repeat' split
  all_goals rfl
 ·rw [doS_5 hx]; unfold dS5; repeat' split
  all_goals rfl
 ·rw [doS_6 hx]; unfold dS6; repeat' split
  all_goals rfl
 ·rw [doS_7 hx]; unfold dS7; repeat' split
  all_goals rfl
 ·rw [doS_8 hx]; unfold dS8; repeat' split
  all_goals rfl
 ·rw [doS_9 hx]; unfold dS9; repeat' split
  all_goals rfl
 ·exact absurd hx (by assumption)
 ·exact absurd hx (by assumption)
 ·rw [doS_12 hx]
theorem firstI_hit (f:Nat→Bool):∀ k,0≤firstI f k→(firstI f k).toNat < k∧f (firstI f k).toNat=true
 | 0,h => by simp [firstI] at h
 | k + 1,h => by
  rw [firstI] at h ⊢
  by_cases h1:0≤firstI f k
  ·rw [if_pos h1]
   have:=firstI_hit f k h1
   exact ⟨by omega,this.2⟩
  ·rw [if_neg h1] at h ⊢
   by_cases h2:f k=true
   ·rw [if_pos h2]
    exact ⟨by simp,by simpa using h2⟩
   ·rw [if_neg h2] at h
    omega
def qN (f t r:Nat) (o:Od) (q:List Int):List Int :=
 if o.po=(f:Int)∧o.tt=(t:Int)∧o.kd=10 then if r≤q.length then q else q ++ [o.id]
 else if o.po=(f:Int)∧o.tt=(t:Int)∧o.kd=11 then q.tail else q
theorem portB_nat {P f:Nat} (h:f < P):portB P (f:Int)=true:=by
 unfold portB
 simp
 omega
theorem doS_q {f t:Nat} (hf:f < P) (ht:t < P):(doS P r S B n nv s o).qs f t=qN f t r o (s.qs f t):=by
 by_cases hsame:o.po=(f:Int)∧o.tt=(t:Int)
 ·have hp:portB P o.po=true:=by rw [hsame.1]; exact portB_nat hf
  have hp2:portB P o.tt=true:=by rw [hsame.2]; exact portB_nat ht
  have e1:o.po.toNat=f:=by rw [hsame.1]; exact Int.toNat_natCast f
  have e2:o.tt.toNat=t:=by rw [hsame.2]; exact Int.toNat_natCast t
  by_cases h10:o.kd=10
  ·have hc:o.po=(f:Int)∧o.tt=(t:Int)∧o.kd=10:=⟨hsame.1,hsame.2,h10⟩
   rw [doS_10 h10]
   unfold dS10 qN
   rw [if_pos hp,if_pos hp2,if_pos hc,e1,e2]
   by_cases hr:r≤(s.qs f t).length
   ·rw [if_pos hr,if_pos hr]
   ·rw [if_neg hr,if_neg hr]
    exact upd2_same _ _ _ _
  ·have hc:¬ (o.po=(f:Int)∧o.tt=(t:Int)∧o.kd=10):=fun e => h10 e.2.2
   by_cases h11:o.kd=11
   ·have hc2:o.po=(f:Int)∧o.tt=(t:Int)∧o.kd=11:=⟨hsame.1,hsame.2,h11⟩
    rw [doS_11 h11]
    unfold dS11 qN
    rw [if_pos hp,if_pos hp2,if_neg hc,if_pos hc2,e1,e2]
    by_cases hr:s.qs f t=[]
    ·rw [if_pos hr,hr]; rfl
    ·rw [if_neg hr]
     exact upd2_same _ _ _ _
   ·have hc2:¬ (o.po=(f:Int)∧o.tt=(t:Int)∧o.kd=11):=fun e => h11 e.2.2
    rw [doS_qs h10 h11]
    unfold qN
    rw [if_neg hc,if_neg hc2]
 ·have hc:¬ (o.po=(f:Int)∧o.tt=(t:Int)∧o.kd=10):=fun e => hsame ⟨e.1,e.2.1⟩
  have hc2:¬ (o.po=(f:Int)∧o.tt=(t:Int)∧o.kd=11):=fun e => hsame ⟨e.1,e.2.1⟩
  unfold qN
  rw [if_neg hc,if_neg hc2]
  have hoth:portB P o.po=true→portB P o.tt=true→¬ (f=o.po.toNat∧t=o.tt.toNat):=fun hp hp2 e => by
   obtain ⟨i,hi,_⟩:=port_nat hp
   obtain ⟨k,hk,_⟩:=port_nat hp2
   refine hsame ⟨?_,?_⟩
   ·rw [e.1,hi,Int.toNat_natCast]
   ·rw [e.2,hk,Int.toNat_natCast]
  by_cases h10:o.kd=10
  ·rw [doS_10 h10]
   unfold dS10
   by_cases hp:portB P o.po=true
   ·by_cases hp2:portB P o.tt=true
    ·rw [if_pos hp,if_pos hp2]
     by_cases hr:r≤(s.qs o.po.toNat o.tt.toNat).length
     ·rw [if_pos hr]
     ·rw [if_neg hr]
      exact upd2_ne _ _ (hoth hp hp2)
    ·rw [if_pos hp,if_neg hp2]
   ·rw [if_neg hp]
  ·by_cases h11:o.kd=11
   ·rw [doS_11 h11]
    unfold dS11
    by_cases hp:portB P o.po=true
    ·by_cases hp2:portB P o.tt=true
     ·rw [if_pos hp,if_pos hp2]
      by_cases hr:s.qs o.po.toNat o.tt.toNat=[]
      ·rw [if_pos hr]
      ·rw [if_neg hr]
       exact upd2_ne _ _ (hoth hp hp2)
     ·rw [if_pos hp,if_neg hp2]
    ·rw [if_neg hp]
   ·rw [doS_qs h10 h11]
end
section
variable {E:Nat→Prop} {w:World} {L A S1 Q bp bq P r S B n nv:Nat} {uv:Value} {lv:List Vl} {st:Nat→Int × Nat} {g:Nat→Nat→Pl} {G:Nat→Value} {R:Nat→Nat} {qv:Nat→Nat→Value} {qs:Nat→Nat→List Int}
theorem MdAll.grow {w':World} (h:MdAll E w L A S1 Q bp bq P r S B n nv uv lv st g G R qv qs) (hz:w.heap.size≤w'.heap.size) (hk:∀ b,b < w.heap.size→¬ E b→w'.heap[b]?=w.heap[b]?):MdAll (fun b => E b ∨ (w.heap.size≤b∧b < w'.heap.size)) w' L A S1 Q bp bq P r S B n nv uv lv st g G R qv qs:=by
 have h':=h.keepE hz hk
 obtain ⟨D,h1,h2,h3,h4,h5⟩:=h.bk
 have hbk:BkAt w' D bp bq S B n g:=h1.keep hz fun b hlt hc => hk b hlt (fun he => by
  rcases hc with rfl | rfl | hc
  ·exact (h5 _ he).2.1 rfl
  ·exact (h5 _ he).2.2.1 rfl
  ·exact hc (h5 b he).1)
 refine ⟨h'.md,h'.qu,h'.lbk,fun b => D b ∨ (w.heap.size≤b∧b < w'.heap.size),?_,fun b hd => ?_,.inl h3,fun b hc => ⟨.inl (h4 b hc).1,(h4 b hc).2⟩,fun b he => ?_⟩
 ·obtain ⟨k0,k1,k2,k3,k4,k5,k6,k9,k10⟩:=hbk
  obtain ⟨_,_,_,_,_,_,_,_,m10⟩:=h1
  refine ⟨k0,k1,k2,k3,k4,k5,k6,k9,fun a ha => ?_⟩
  obtain ⟨v0,hv0,hrow0⟩:=m10 a ha
  obtain ⟨v,hv,Ax,cap,e1,e2,e3,e4⟩:=k10 a ha
  refine ⟨v,hv,Ax,cap,e1,e2,e3,fun hn => ?_⟩
  obtain ⟨b,off,f1,f2,f3,f4⟩:=e4 hn
  refine ⟨b,off,f1,f2,fun hd => ?_,f4⟩
  rcases hd with hd | hd
  ·exact f3 hd
  ·obtain ⟨Ay,cay,y1,y2,y3,y4⟩:=hrow0
   obtain ⟨b',off',z1,z2,z3,z4⟩:=y4 hn
   have hq0:w'.cell? ⟨bq,a,none⟩=w.cell? ⟨bq,a,none⟩:=World.cell?_of_block (hk bq (h2 bq h3) (fun he => (h5 bq he).2.2.1 rfl))
   rw [hq0,hv0] at hv
   injection hv with hv
   rw [y1,e1] at hv
   injection hv with hv
   rw [z1,f1] at hv
   injection hv with hv
   injection hv with hv
   omega
 ·rcases hd with hd | hd
  ·exact Nat.lt_of_lt_of_le (h2 b hd) hz
  ·exact hd.2
 ·rcases he with he | he
  ·exact ⟨.inl (h5 b he).1,(h5 b he).2⟩
  ·refine ⟨.inr he,?_,?_,fun hc => ?_⟩
   ·have:=h1.1; omega
   ·have:=h1.2.1; omega
   ·have:=h2 b (h4 b hc).1; omega
end
end
section
open Go.RowKit
set_option maxHeartbeats 1600000 in
theorem ref17_has {E:Nat→Prop} {w:World} {L A S1 Q cQ:Nat} {X:Nat→Value} {bp bq P r S B n nv:Nat} {uv:Value} {lv:List Vl} {st:Nat→Int × Nat} {g:Nat→Nat→Pl} {G:Nat→Value} {R:Nat→Nat} {qv:Nat→Nat→Value} {qs:Nat→Nat→List Int} (h:RfAll E w L A S1 Q cQ X bp bq P r S B n nv uv lv st g G R qv qs) (p:Int):Calls Tryz.prog 39 #[.pointer (some ⟨A,0,none⟩),.int .i64 p] w fun e w' => e=.returned (.bool (portB P p))∧w=w':=by
 have c0:w.cell? ⟨A,0,none⟩=some (.int .i64 (P:Nat)):=(h.md.cells.cell (by omega)).trans (congrArg some h.md.x0)
 clear h
 by_cases h1:0≤p
 ·have d1:decide (0≤p)=true:=decide_eq_true h1
  have d1':decide (p ≥ 0)=true:=decide_eq_true h1
  obtain ⟨z,hz⟩:∃ z,z=decide (p < (P:Int)):=⟨_,rfl⟩
  have hpb:portB P p=z:=by unfold portB; rw [d1,Bool.true_and,hz]
  rw [hpb]
  have HZ:=Lib.hid hz
  clear hpb hz
  go_enter Tryz.func39,Tryz.ntmps39
  go_wp2_with fail
  go_ret
  exact ⟨by rw [HZ.out] <;> first | rfl | (simp; done),rfl⟩
 ·have d1:decide (0≤p)=false:=decide_eq_false h1
  have d1':decide (p ≥ 0)=false:=decide_eq_false h1
  have hpb:portB P p=false:=by unfold portB; rw [d1]; rfl
  rw [hpb]
  clear hpb
  go_enter Tryz.func39,Tryz.ntmps39
  go_wp2_with fail
  go_ret
  exact ⟨by first | rfl | (simp; done),rfl⟩
set_option maxRecDepth 20000 in
set_option maxHeartbeats 6400000 in
theorem ref17_Do0 {E:Nat→Prop} {w:World} {L A S1 Q cQ:Nat} {X:Nat→Value} {bp bq P r S B n nv:Nat} {uv:Value} {lv:List Vl} {st:Nat→Int × Nat} {g:Nat→Nat→Pl} {G:Nat→Value} {R:Nat→Nat} {qv:Nat→Nat→Value} {qs:Nat→Nat→List Int} (h:RfAll E w L A S1 Q cQ X bp bq P r S B n nv uv lv st g G R qv qs) (p:Nat) (hp:p < P) (tt vi sx kv km me un nw li sh bu id:Int):Calls Tryz.prog 19 #[.pointer (some ⟨A,0,none⟩),opV 0 ((p:Nat)) tt vi sx kv km me un nw li sh bu id] w (Says (.int .i64 (st p).1) w):=by
 have d1:decide (p < P)=true:=decide_eq_true hp
 have hfd:=fun w' (hb:Below w.heap.size w w') => ref3_Find (Sl.of_own (h.call hb).md.vlans) (Nat.le_refl _) vi
 have HFD:=Lib.hid hfd
 obtain ⟨w0,hw0⟩:∃ z,z=(w.alloc (.cells #[.int .i64 (0),.int .i64 ((p:Nat)),.int .i64 (tt),.int .i64 (vi),.int .i64 (sx),.int .i64 (kv),.int .u64 (km),.int .u64 (me),.int .u64 (un),.int .u32 (nw),.int .u32 (li),.int .i64 (sh),.int .i64 (bu),.int .i64 (id)] 55)):=⟨_,rfl⟩
 have HB0:Hid (Below w.heap.size w w0):=by rw [hw0]; exact (Below.refl _ _).alloc (Nat.le_refl _) _
 have HBOX:=Lib.hid (box14 hw0)
 have hwz:w.heap.size < w0.heap.size:=by rw [hw0]; simp
 have hp0:=fun w' (hb:Below w.heap.size w w') => ref17_has (h.call hb) ((p:Nat))
 rw [portB_in hp] at hp0
 have HP0:=Lib.hid hp0
 clear hp0
 have HH:=Lib.hid h
 have hAz:A < w.heap.size:=h.md.cells.lt
 clear h hfd
 unfold opV
 go_enter Tryz.func19,Tryz.ntmps19
 go_wp2_with (first
  | (go_at_call 39; (with_reducible refine Calls.mono (HP0.out _ ((Below.refl _ _).alloc (Nat.le_refl _) _)) ?_); rintro e _ ⟨rfl,rfl⟩)
  | fail)
 rw [← hw0]
 clear hw0
 obtain ⟨q0,q1,q2,q3,q4,q5,q6,q7,q8,q9,q10,q11,q12,q13⟩:=HBOX.out _ (Below.refl _ _)
 have c11:w0.cell? ⟨A,11,none⟩=some uv:=(HH.out.call HB0.out).md.cells.cell (by omega)
 refine wp_region_held_drew (S:=fun w' => w'.cell? ⟨A,11,none⟩=some uv∧w'.cell? ⟨w.heap.size,3,none⟩=some (.int .i64 (vi))) (by kernel_rfl) ?_ (fun hHeld => ?_)
 ·exact ⟨c11,q3⟩
 obtain ⟨v0,hv0⟩:∃ w',w'=w0.drew:=⟨_,rfl⟩
 have hvb:Below w0.heap.size w0 v0:=by rw [hv0]; exact (Below.refl _ _).drew
 have HVZ:Hid (v0.heap.size=w0.heap.size):=by show _=_; rw [hv0]; rfl
 rw [← hv0] at hHeld ⊢
 clear hv0
 refine tkR 0 rfl ?_
 refine tkR 1 rfl ?_
 refine tkR 2 rfl ?_
 refine tkR 3 rfl ?_
 refine tkR 4 rfl ?_
 refine tkR 5 rfl ?_
 refine clR 6 rfl fun K hK => ?_
 go_simp
 refine Calls.mono (HFD.out _ (HB0.out.trans (hvb.mono HB0.out.size))) ?_
 rintro e w1 ⟨rfl,hb1⟩
 have HB1':Hid (Below w0.heap.size w0 w1):=hvb.trans (hb1.mono (by rw [HVZ.out]; exact Nat.le_refl _))
 have hz1:w0.heap.size≤w1.heap.size:=HB1'.out.size
 refine hK.out _ _ ?_ (fun hHeld => ?_)
 ·(try dsimp only)
  obtain ⟨x0,x1⟩:=hHeld
  exact ⟨(hb1.cell (p:=⟨A,11,none⟩) (by show A < v0.heap.size; rw [HVZ.out]; omega)).trans x0,(hb1.cell (p:=⟨w.heap.size,3,none⟩) (by show w.heap.size < v0.heap.size; rw [HVZ.out]; omega)).trans x1⟩
 clear hK K
 refine tkR 7 rfl ?_
 refine wpAnyH_done (by kernel_rfl) ?_ _
 have HB1:Hid (Below w.heap.size w w1):=HB0.out.trans (HB1'.out.mono HB0.out.size)
 have HM:=Lib.hid (HH.out.call HB1.out)
 clear hHeld c11 q0 q1 q2 q3 q4 q5 q6 q7 q8 q9 q10 q11 q12 q13 hb1 hvb
 obtain ⟨q0,q1,q2,q3,q4,q5,q6,q7,q8,q9,q10,q11,q12,q13⟩:=HBOX.out _ HB1'.out
 have c10:w1.cell? ⟨A,10,none⟩=some (.slice (some ⟨S1,0,none⟩) P (capV (X 10))):=HM.out.md.cells.cell (by omega)
 have s0:w1.cell? ⟨S1,p * 2,none⟩=some (.int .i64 (st p).1):=(HM.out.md.stands.cell (by omega)).trans (by rw [rowS_0])
 go_wp2_with fail
 refine wp_region_held_drew (S:=fun w' => w'.cell? ⟨A,10,none⟩=some (.slice (some ⟨S1,0,none⟩) P (capV (X 10)))∧w'.cell? ⟨w.heap.size,1,none⟩=some (.int .i64 (p:Nat))∧w'.cell? ⟨S1,p * 2,none⟩=some (.int .i64 (st p).1)) (by kernel_rfl) ?_ (fun hHeld => ?_)
 ·exact ⟨c10,q1,s0⟩
 obtain ⟨v1,hv0⟩:∃ w',w'=w1.drew:=⟨_,rfl⟩
 have hvb:Below w1.heap.size w1 v1:=by rw [hv0]; exact (Below.refl _ _).drew
 have HVZ:Hid (v1.heap.size=w1.heap.size):=by show _=_; rw [hv0]; rfl
 rw [← hv0] at hHeld ⊢
 clear hv0
 refine tkR 0 rfl ?_
 refine tkR 1 rfl ?_
 refine tkR 2 rfl ?_
 refine tkR 3 rfl ?_
 refine tkR 4 rfl ?_
 refine tkR 5 rfl ?_
 refine tkR 6 rfl ?_
 refine tkR 7 rfl ?_
 refine tkR 8 rfl ?_
 refine tkR 9 rfl ?_
 refine wpAnyH_done (by kernel_rfl) ?_ _
 have HBV:Hid (Below w.heap.size w v1):=HB1.out.trans (hvb.mono HB1.out.size)
 clear hHeld c10 s0 q0 q1 q2 q3 q4 q5 q6 q7 q8 q9 q10 q11 q12 q13 hvb
 go_wp2
 go_ret
 exact ⟨by first | rfl | (simp; done),HBV.out⟩
end
end Go.Proofs.YtfekhdgjgjodlaaGreat
