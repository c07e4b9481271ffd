/-
  Words and contracts that a statement's proof rests on (MoJ, MoK, MsA). No statement is proved here.
-/
import Derived.Test.YtpcapdpglpgcbaaGreatMoT
import Derived.Test.YtpcapdpglpgcbaaGreatMoG
import Derived.Test.YtpcapdpglpgcbaaGreatMoE
import Derived.Test.YtpcapdpglpgcbaaGreatBuN
import Derived.Test.YtpcapdpglpgcbaaGreatBkF
import Derived.Test.YtpcapdpglpgcbaaGreatMoM
import Derived.Test.YtpcapdpglpgcbaaGreatBkL
set_option linter.unusedVariables false
set_option linter.unusedSimpArgs false
namespace Go.Proofs.YtpcapdpglpgcbaaGreat
section
open Go.RowKit
section
variable {P r S B n nv:Nat} {s:Ms} {o:Od}
theorem kd_cases (x:Int):(x < 0 ∨ 12 < x) ∨ x=0 ∨ x=1 ∨ x=2 ∨ x=3 ∨ x=4 ∨ x=5 ∨ x=6 ∨ x=7 ∨ x=8 ∨ x=9 ∨ x=10 ∨ x=11 ∨ x=12:=by omega
theorem doS_qs (h1:o.kd ≠ 10) (h2:o.kd ≠ 11):(doS P r S B n nv s o).qs=s.qs:=by
 rcases kd_cases o.kd with hx | hx | hx | hx | hx | hx | hx | hx | hx | hx | hx | hx | hx | hx
 ·rw [doS_X hx]
 ·rw [doS_0 hx]
 ·rw [doS_1 hx]
 ·rw [doS_2 hx]; unfold dS2; repeat' split
  all_goals rfl
 ·rw [doS_3 hx]
 ·rw [doS_4 hx]; unfold dS4; repeat' split
  all_goals rfl
 ·rw [doS_5 hx]; unfold dS5; repeat' split
  all_goals rfl
 ·rw [doS_6 hx]; unfold dS6; repeat' split
  all_goals rfl
 ·rw [doS_7 hx]; unfold dS7; repeat' split
  all_goals rfl
 ·rw [doS_8 hx]; unfold dS8; repeat' split
  all_goals rfl
 ·rw [doS_9 hx]; unfold dS9; repeat' split
  all_goals rfl
 ·exact absurd hx (by assumption)
 ·exact absurd hx (by assumption)
 ·rw [doS_12 hx]
theorem firstI_hit (f:Nat→Bool):∀ k,0≤firstI f k→(firstI f k).toNat < k∧f (firstI f k).toNat=true
 | 0,h => by simp [firstI] at h
 | k + 1,h => by
  rw [firstI] at h ⊢
  by_cases h1:0≤firstI f k
  ·rw [if_pos h1]
   have:=firstI_hit f k h1
   exact ⟨by omega,this.2⟩
  ·rw [if_neg h1] at h ⊢
   by_cases h2:f k=true
   ·rw [if_pos h2]
    exact ⟨by simp,by simpa using h2⟩
   ·rw [if_neg h2] at h
    omega
def qN (f t r:Nat) (o:Od) (q:List Int):List Int :=
 if o.po=(f:Int)∧o.tt=(t:Int)∧o.kd=10 then if r≤q.length then q else q ++ [o.id]
 else if o.po=(f:Int)∧o.tt=(t:Int)∧o.kd=11 then q.tail else q
theorem portB_nat {P f:Nat} (h:f < P):portB P (f:Int)=true:=by
 unfold portB
 simp
 omega
theorem doS_q {f t:Nat} (hf:f < P) (ht:t < P):(doS P r S B n nv s o).qs f t=qN f t r o (s.qs f t):=by
 by_cases hsame:o.po=(f:Int)∧o.tt=(t:Int)
 ·have hp:portB P o.po=true:=by rw [hsame.1]; exact portB_nat hf
  have hp2:portB P o.tt=true:=by rw [hsame.2]; exact portB_nat ht
  have e1:o.po.toNat=f:=by rw [hsame.1]; exact Int.toNat_natCast f
  have e2:o.tt.toNat=t:=by rw [hsame.2]; exact Int.toNat_natCast t
  by_cases h10:o.kd=10
  ·have hc:o.po=(f:Int)∧o.tt=(t:Int)∧o.kd=10:=⟨hsame.1,hsame.2,h10⟩
   rw [doS_10 h10]
   unfold dS10 qN
   rw [if_pos hp,if_pos hp2,if_pos hc,e1,e2]
   by_cases hr:r≤(s.qs f t).length
   ·rw [if_pos hr,if_pos hr]
   ·rw [if_neg hr,if_neg hr]
    exact upd2_same _ _ _ _
  ·have hc:¬ (o.po=(f:Int)∧o.tt=(t:Int)∧o.kd=10):=fun e => h10 e.2.2
   by_cases h11:o.kd=11
   ·have hc2:o.po=(f:Int)∧o.tt=(t:Int)∧o.kd=11:=⟨hsame.1,hsame.2,h11⟩
    rw [doS_11 h11]
    unfold dS11 qN
    rw [if_pos hp,if_pos hp2,if_neg hc,if_pos hc2,e1,e2]
    by_cases hr:s.qs f t=[]
    ·rw [if_pos hr,hr]; rfl
    ·rw [if_neg hr]
     exact upd2_same _ _ _ _
   ·have hc2:¬ (o.po=(f:Int)∧o.tt=(t:Int)∧o.kd=11):=fun e => h11 e.2.2
    rw [doS_qs h10 h11]
    unfold qN
    rw [if_neg hc,if_neg hc2]
 ·have hc:¬ (o.po=(f:Int)∧o.tt=(t:Int)∧o.kd=10):=fun e => hsame ⟨e.1,e.2.1⟩
  have hc2:¬ (o.po=(f:Int)∧o.tt=(t:Int)∧o.kd=11):=fun e => hsame ⟨e.1,e.2.1⟩
  unfold qN
  rw [if_neg hc,if_neg hc2]
  have hoth:portB P o.po=true→portB P o.tt=true→¬ (f=o.po.toNat∧t=o.tt.toNat):=fun hp hp2 e => by
   obtain ⟨i,hi,_⟩:=port_nat hp
   obtain ⟨k,hk,_⟩:=port_nat hp2
   refine hsame ⟨?_,?_⟩
   ·rw [e.1,hi,Int.toNat_natCast]
   ·rw [e.2,hk,Int.toNat_natCast]
  by_cases h10:o.kd=10
  ·rw [doS_10 h10]
   unfold dS10
   by_cases hp:portB P o.po=true
   ·by_cases hp2:portB P o.tt=true
    ·rw [if_pos hp,if_pos hp2]
     by_cases hr:r≤(s.qs o.po.toNat o.tt.toNat).length
     ·rw [if_pos hr]
     ·rw [if_neg hr]
      exact upd2_ne _ _ (hoth hp hp2)
    ·rw [if_pos hp,if_neg hp2]
   ·rw [if_neg hp]
  ·by_cases h11:o.kd=11
   ·rw [doS_11 h11]
    unfold dS11
    by_cases hp:portB P o.po=true
    ·by_cases hp2:portB P o.tt=true
     ·rw [if_pos hp,if_pos hp2]
      by_cases hr:s.qs o.po.toNat o.tt.toNat=[]
      ·rw [if_pos hr]
      ·rw [if_neg hr]
       exact upd2_ne _ _ (hoth hp hp2)
     ·rw [if_pos hp,if_neg hp2]
    ·rw [if_neg hp]
   ·rw [doS_qs h10 h11]
end
section
variable {E:Nat→Prop} {w:World} {L A S1 Q bp bq P r S B n nv:Nat} {uv:Value} {lv:List Vl} {st:Nat→Int × Nat} {g:Nat→Nat→Pl} {G:Nat→Value} {R:Nat→Nat} {qv:Nat→Nat→Value} {qs:Nat→Nat→List Int}
theorem MdAll.grow {w':World} (h:MdAll E w L A S1 Q bp bq P r S B n nv uv lv st g G R qv qs) (hz:w.heap.size≤w'.heap.size) (hk:∀ b,b < w.heap.size→¬ E b→w'.heap[b]?=w.heap[b]?):MdAll (fun b => E b ∨ (w.heap.size≤b∧b < w'.heap.size)) w' L A S1 Q bp bq P r S B n nv uv lv st g G R qv qs:=by
 have h':=h.keepE hz hk
 obtain ⟨D,h1,h2,h3,h4,h5⟩:=h.bk
 have hbk:BkAt w' D bp bq S B n g:=h1.keep hz fun b hlt hc => hk b hlt (fun he => by
  rcases hc with rfl | rfl | hc
  ·exact (h5 _ he).2.1 rfl
  ·exact (h5 _ he).2.2.1 rfl
  ·exact hc (h5 b he).1)
 refine ⟨h'.md,h'.qu,h'.lbk,fun b => D b ∨ (w.heap.size≤b∧b < w'.heap.size),?_,fun b hd => ?_,.inl h3,fun b hc => ⟨.inl (h4 b hc).1,(h4 b hc).2⟩,fun b he => ?_⟩
 ·obtain ⟨k0,k1,k2,k3,k4,k5,k6,k9,k10⟩:=hbk
  obtain ⟨_,_,_,_,_,_,_,_,m10⟩:=h1
  refine ⟨k0,k1,k2,k3,k4,k5,k6,k9,fun a ha => ?_⟩
  obtain ⟨v0,hv0,hrow0⟩:=m10 a ha
  obtain ⟨v,hv,Ax,cap,e1,e2,e3,e4⟩:=k10 a ha
  refine ⟨v,hv,Ax,cap,e1,e2,e3,fun hn => ?_⟩
  obtain ⟨b,off,f1,f2,f3,f4⟩:=e4 hn
  refine ⟨b,off,f1,f2,fun hd => ?_,f4⟩
  rcases hd with hd | hd
  ·exact f3 hd
  ·obtain ⟨Ay,cay,y1,y2,y3,y4⟩:=hrow0
   obtain ⟨b',off',z1,z2,z3,z4⟩:=y4 hn
   have hq0:w'.cell? ⟨bq,a,none⟩=w.cell? ⟨bq,a,none⟩:=World.cell?_of_block (hk bq (h2 bq h3) (fun he => (h5 bq he).2.2.1 rfl))
   rw [hq0,hv0] at hv
   injection hv with hv
   rw [y1,e1] at hv
   injection hv with hv
   rw [z1,f1] at hv
   injection hv with hv
   injection hv with hv
   omega
 ·rcases hd with hd | hd
  ·exact Nat.lt_of_lt_of_le (h2 b hd) hz
  ·exact hd.2
 ·rcases he with he | he
  ·exact ⟨.inl (h5 b he).1,(h5 b he).2⟩
  ·refine ⟨.inr he,?_,?_,fun hc => ?_⟩
   ·have:=h1.1; omega
   ·have:=h1.2.1; omega
   ·have:=h2 b (h4 b hc).1; omega
end
end
section
open Go.RowKit
set_option maxRecDepth 20000 in
set_option maxHeartbeats 3200000 in
theorem law17_Op (kd po tt vi sx kv km me un nw li sh bu id:Int) (w:World):Calls Tryz.prog 11 #[opV kd po tt vi sx kv km me un nw li sh bu id] w (Says (opV kd po tt vi sx kv km me un nw li sh bu id) w):=by
 have HKY:=Lib.hid fun W => law8_To kv km W
 have HBOX:Hid (∀ w',Below (w.heap.size + 2) ((w.alloc (.cells #[.int .i64 kd,.int .i64 po,.int .i64 tt,.int .i64 vi,.int .i64 sx,.int .i64 kv,.int .u64 km,.int .u64 me,.int .u64 un,.int .u32 nw,.int .u32 li,.int .i64 sh,.int .i64 bu,.int .i64 id] 56)).alloc (.cells #[.int .i64 0,.int .i64 0,.int .i64 0,.int .i64 0,.int .i64 0,.int .i64 0,.int .u64 0,.int .u64 0,.int .u64 0,.int .u32 0,.int .u32 0,.int .i64 0,.int .i64 0,.int .i64 0] 51)) w'→w'.cell? ⟨w.heap.size,0,none⟩=some (.int .i64 kd)∧w'.cell? ⟨w.heap.size,1,none⟩=some (.int .i64 po)∧w'.cell? ⟨w.heap.size,2,none⟩=some (.int .i64 tt)∧w'.cell? ⟨w.heap.size,3,none⟩=some (.int .i64 vi)∧w'.cell? ⟨w.heap.size,4,none⟩=some (.int .i64 sx)∧w'.cell? ⟨w.heap.size,5,none⟩=some (.int .i64 kv)∧w'.cell? ⟨w.heap.size,6,none⟩=some (.int .u64 km)∧w'.cell? ⟨w.heap.size,7,none⟩=some (.int .u64 me)∧w'.cell? ⟨w.heap.size,8,none⟩=some (.int .u64 un)∧w'.cell? ⟨w.heap.size,9,none⟩=some (.int .u32 nw)∧w'.cell? ⟨w.heap.size,10,none⟩=some (.int .u32 li)∧w'.cell? ⟨w.heap.size,11,none⟩=some (.int .i64 sh)∧w'.cell? ⟨w.heap.size,12,none⟩=some (.int .i64 bu)∧w'.cell? ⟨w.heap.size,13,none⟩=some (.int .i64 id)):=fun w' hb => by
  refine ⟨?_,?_,?_,?_,?_,?_,?_,?_,?_,?_,?_,?_,?_,?_⟩ <;>
  ·rw [hb.cell (by show w.heap.size < _; omega)]
   simp [go_sem]
 have HLOW:Hid (∀ w',Below (w.heap.size + 2) ((w.alloc (.cells #[.int .i64 kd,.int .i64 po,.int .i64 tt,.int .i64 vi,.int .i64 sx,.int .i64 kv,.int .u64 km,.int .u64 me,.int .u64 un,.int .u32 nw,.int .u32 li,.int .i64 sh,.int .i64 bu,.int .i64 id] 56)).alloc (.cells #[.int .i64 0,.int .i64 0,.int .i64 0,.int .i64 0,.int .i64 0,.int .i64 0,.int .u64 0,.int .u64 0,.int .u64 0,.int .u32 0,.int .u32 0,.int .i64 0,.int .i64 0,.int .i64 0] 51)) w'→Below w.heap.size w w'):=fun w' hb => (((Below.refl w.heap.size w).alloc (Nat.le_refl _) _).alloc (by simp) _).trans (hb.mono (by omega))
 have HSZ:Hid (∀ w',Below (w.heap.size + 2) ((w.alloc (.cells #[.int .i64 kd,.int .i64 po,.int .i64 tt,.int .i64 vi,.int .i64 sx,.int .i64 kv,.int .u64 km,.int .u64 me,.int .u64 un,.int .u32 nw,.int .u32 li,.int .i64 sh,.int .i64 bu,.int .i64 id] 56)).alloc (.cells #[.int .i64 0,.int .i64 0,.int .i64 0,.int .i64 0,.int .i64 0,.int .i64 0,.int .u64 0,.int .u64 0,.int .u64 0,.int .u32 0,.int .u32 0,.int .i64 0,.int .i64 0,.int .i64 0] 51)) w'→w.heap.size + 2≤w'.heap.size):=fun w' hb => by have:=hb.size; simp at this; omega
 have HUP:Hid (∀ w' w'',Below (w.heap.size + 2) ((w.alloc (.cells #[.int .i64 kd,.int .i64 po,.int .i64 tt,.int .i64 vi,.int .i64 sx,.int .i64 kv,.int .u64 km,.int .u64 me,.int .u64 un,.int .u32 nw,.int .u32 li,.int .i64 sh,.int .i64 bu,.int .i64 id] 56)).alloc (.cells #[.int .i64 0,.int .i64 0,.int .i64 0,.int .i64 0,.int .i64 0,.int .i64 0,.int .u64 0,.int .u64 0,.int .u64 0,.int .u32 0,.int .u32 0,.int .i64 0,.int .i64 0,.int .i64 0] 51)) w'→Below w'.heap.size w' w''→Below (w.heap.size + 2) ((w.alloc (.cells #[.int .i64 kd,.int .i64 po,.int .i64 tt,.int .i64 vi,.int .i64 sx,.int .i64 kv,.int .u64 km,.int .u64 me,.int .u64 un,.int .u32 nw,.int .u32 li,.int .i64 sh,.int .i64 bu,.int .i64 id] 56)).alloc (.cells #[.int .i64 0,.int .i64 0,.int .i64 0,.int .i64 0,.int .i64 0,.int .i64 0,.int .u64 0,.int .u64 0,.int .u64 0,.int .u32 0,.int .u32 0,.int .i64 0,.int .i64 0,.int .i64 0] 51)) w''):=fun w' w'' h1 h2 => h1.trans (h2.mono (by have:=h1.size; simp at this; omega))
 unfold opV
 go_enter Tryz.func11,Tryz.ntmps11
 go_wp2_with fail
 refine wp_region_held_drew (S:=fun w' => w'.cell? ⟨w.heap.size,0,none⟩=some (.int .i64 kd)∧w'.cell? ⟨w.heap.size,1,none⟩=some (.int .i64 po)∧w'.cell? ⟨w.heap.size,2,none⟩=some (.int .i64 tt)∧w'.cell? ⟨w.heap.size,3,none⟩=some (.int .i64 vi)∧w'.cell? ⟨w.heap.size,4,none⟩=some (.int .i64 sx)∧w'.cell? ⟨w.heap.size,5,none⟩=some (.int .i64 kv)∧w'.cell? ⟨w.heap.size,6,none⟩=some (.int .u64 km)∧w'.cell? ⟨w.heap.size,7,none⟩=some (.int .u64 me)∧w'.cell? ⟨w.heap.size,8,none⟩=some (.int .u64 un)∧w'.cell? ⟨w.heap.size,9,none⟩=some (.int .u32 nw)∧w'.cell? ⟨w.heap.size,10,none⟩=some (.int .u32 li)∧w'.cell? ⟨w.heap.size,11,none⟩=some (.int .i64 sh)∧w'.cell? ⟨w.heap.size,12,none⟩=some (.int .i64 bu)∧w'.cell? ⟨w.heap.size,13,none⟩=some (.int .i64 id)) (by kernel_rfl) ?_ (fun hHeld => ?_)
 ·exact HBOX.out _ (Below.refl _ _).drew
 obtain ⟨v0,hv0⟩:∃ w',w'=(((w.alloc (.cells #[.int .i64 kd,.int .i64 po,.int .i64 tt,.int .i64 vi,.int .i64 sx,.int .i64 kv,.int .u64 km,.int .u64 me,.int .u64 un,.int .u32 nw,.int .u32 li,.int .i64 sh,.int .i64 bu,.int .i64 id] 56)).alloc (.cells #[.int .i64 0,.int .i64 0,.int .i64 0,.int .i64 0,.int .i64 0,.int .i64 0,.int .u64 0,.int .u64 0,.int .u64 0,.int .u32 0,.int .u32 0,.int .i64 0,.int .i64 0,.int .i64 0] 51))).drew:=⟨_,rfl⟩
 have hq0:Below (w.heap.size + 2) ((w.alloc (.cells #[.int .i64 kd,.int .i64 po,.int .i64 tt,.int .i64 vi,.int .i64 sx,.int .i64 kv,.int .u64 km,.int .u64 me,.int .u64 un,.int .u32 nw,.int .u32 li,.int .i64 sh,.int .i64 bu,.int .i64 id] 56)).alloc (.cells #[.int .i64 0,.int .i64 0,.int .i64 0,.int .i64 0,.int .i64 0,.int .i64 0,.int .u64 0,.int .u64 0,.int .u64 0,.int .u32 0,.int .u32 0,.int .i64 0,.int .i64 0,.int .i64 0] 51)) v0:=by rw [hv0]; exact (Below.refl _ _).drew
 have HT0:Hid (v0.there (w.heap.size + 1) 0 14):=by
  rw [hv0,World.there_drew]
  have:=there_of (cs:=#[.int .i64 0,.int .i64 0,.int .i64 0,.int .i64 0,.int .i64 0,.int .i64 0,.int .u64 0,.int .u64 0,.int .u64 0,.int .u32 0,.int .u32 0,.int .i64 0,.int .i64 0,.int .i64 0]) (heap_self (w.alloc (.cells #[.int .i64 kd,.int .i64 po,.int .i64 tt,.int .i64 vi,.int .i64 sx,.int .i64 kv,.int .u64 km,.int .u64 me,.int .u64 un,.int .u32 nw,.int .u32 li,.int .i64 sh,.int .i64 bu,.int .i64 id] 56)) #[.int .i64 0,.int .i64 0,.int .i64 0,.int .i64 0,.int .i64 0,.int .i64 0,.int .u64 0,.int .u64 0,.int .u64 0,.int .u32 0,.int .u32 0,.int .i64 0,.int .i64 0,.int .i64 0] 51)
  rw [World.size_alloc] at this
  exact this
 (try rw [← hv0] at hHeld ⊢)
 clear hv0
 refine tkR 0 rfl ?_
 refine tkR 1 rfl ?_
 refine tkR 2 rfl ?_
 refine tkR 3 rfl ?_
 refine tkR 4 rfl ?_
 refine tkR 5 rfl ?_
 refine tkR 6 rfl ?_
 refine tkR 7 rfl ?_
 refine tkR 8 rfl ?_
 refine tkR 9 rfl ?_
 refine tkR 10 rfl ?_
 refine tkR 11 rfl ?_
 refine tkR 13 rfl ?_
 refine tkR 14 rfl ?_
 refine tkR 15 rfl ?_
 refine tkR 16 rfl ?_
 refine tkR 17 rfl ?_
 refine tkR 18 rfl ?_
 refine tkR 19 rfl ?_
 refine tkR 20 rfl ?_
 refine tkR 21 rfl ?_
 refine tkR 22 rfl ?_
 refine tkR 23 rfl ?_
 refine tkR 24 rfl ?_
 refine tkR 25 rfl ?_
 refine tkR 26 rfl ?_
 refine clR 12 rfl fun K hK => ?_
 go_simp
 refine Calls.mono (HKY.out _) ?_
 rintro e wb ⟨rfl,hbb⟩
 have hqb:=HUP.out _ _ hq0 hbb
 have HTB:Hid (wb.there (w.heap.size + 1) 0 14):=there_below HT0.out hbb (by have:=HSZ.out _ hq0; omega)
 clear hbb
 refine hK.out _ _ ?_ (fun hHeld => ?_)
 ·(try dsimp only)
  exact HBOX.out _ hqb
 clear hK K
 refine tkR 27 rfl ?_
 refine clR 28 rfl fun K hK => ?_
 refine step_store (by rfl) 51 _ _ (by rfl) (w.heap.size + 1) 0 #[.int .i64 kd,.int .i64 po,.int .i64 tt,.int .i64 vi,.int .i64 sx,.int .i64 kv,.int .u64 km,.int .u64 me,.int .u64 un,.int .u32 nw,.int .u32 li,.int .i64 sh,.int .i64 bu,.int .i64 id] (by rfl) (by rfl) HTB.out (by kernel_rfl) (by simp [Value.oneCell']) ?_
 intro wz hst
 refine hK.out _ _ ?_ (fun hHeld => ?_)
 ·(try dsimp only)
  obtain ⟨y0,y1,y2,y3,y4,y5,y6,y7,y8,y9,y10,y11,y12,y13⟩:=HBOX.out _ hqb
  exact ⟨(World.cell?_of_block (a:=⟨w.heap.size,0,none⟩) (hst.far w.heap.size (by omega))).trans y0,(World.cell?_of_block (a:=⟨w.heap.size,1,none⟩) (hst.far w.heap.size (by omega))).trans y1,(World.cell?_of_block (a:=⟨w.heap.size,2,none⟩) (hst.far w.heap.size (by omega))).trans y2,(World.cell?_of_block (a:=⟨w.heap.size,3,none⟩) (hst.far w.heap.size (by omega))).trans y3,(World.cell?_of_block (a:=⟨w.heap.size,4,none⟩) (hst.far w.heap.size (by omega))).trans y4,(World.cell?_of_block (a:=⟨w.heap.size,5,none⟩) (hst.far w.heap.size (by omega))).trans y5,(World.cell?_of_block (a:=⟨w.heap.size,6,none⟩) (hst.far w.heap.size (by omega))).trans y6,(World.cell?_of_block (a:=⟨w.heap.size,7,none⟩) (hst.far w.heap.size (by omega))).trans y7,(World.cell?_of_block (a:=⟨w.heap.size,8,none⟩) (hst.far w.heap.size (by omega))).trans y8,(World.cell?_of_block (a:=⟨w.heap.size,9,none⟩) (hst.far w.heap.size (by omega))).trans y9,(World.cell?_of_block (a:=⟨w.heap.size,10,none⟩) (hst.far w.heap.size (by omega))).trans y10,(World.cell?_of_block (a:=⟨w.heap.size,11,none⟩) (hst.far w.heap.size (by omega))).trans y11,(World.cell?_of_block (a:=⟨w.heap.size,12,none⟩) (hst.far w.heap.size (by omega))).trans y12,(World.cell?_of_block (a:=⟨w.heap.size,13,none⟩) (hst.far w.heap.size (by omega))).trans y13⟩
 clear hK K
 (try simp only [Act.put,sqA,sqB,sqC])
 refine wpAnyH_done (by kernel_rfl) ?_ _
 have z0:wz.cell? ⟨w.heap.size + 1,0,none⟩=some (.int .i64 kd):=hst.cells 0 _ rfl
 have z1:wz.cell? ⟨w.heap.size + 1,1,none⟩=some (.int .i64 po):=hst.cells 1 _ rfl
 have z2:wz.cell? ⟨w.heap.size + 1,2,none⟩=some (.int .i64 tt):=hst.cells 2 _ rfl
 have z3:wz.cell? ⟨w.heap.size + 1,3,none⟩=some (.int .i64 vi):=hst.cells 3 _ rfl
 have z4:wz.cell? ⟨w.heap.size + 1,4,none⟩=some (.int .i64 sx):=hst.cells 4 _ rfl
 have z5:wz.cell? ⟨w.heap.size + 1,5,none⟩=some (.int .i64 kv):=hst.cells 5 _ rfl
 have z6:wz.cell? ⟨w.heap.size + 1,6,none⟩=some (.int .u64 km):=hst.cells 6 _ rfl
 have z7:wz.cell? ⟨w.heap.size + 1,7,none⟩=some (.int .u64 me):=hst.cells 7 _ rfl
 have z8:wz.cell? ⟨w.heap.size + 1,8,none⟩=some (.int .u64 un):=hst.cells 8 _ rfl
 have z9:wz.cell? ⟨w.heap.size + 1,9,none⟩=some (.int .u32 nw):=hst.cells 9 _ rfl
 have z10:wz.cell? ⟨w.heap.size + 1,10,none⟩=some (.int .u32 li):=hst.cells 10 _ rfl
 have z11:wz.cell? ⟨w.heap.size + 1,11,none⟩=some (.int .i64 sh):=hst.cells 11 _ rfl
 have z12:wz.cell? ⟨w.heap.size + 1,12,none⟩=some (.int .i64 bu):=hst.cells 12 _ rfl
 have z13:wz.cell? ⟨w.heap.size + 1,13,none⟩=some (.int .i64 id):=hst.cells 13 _ rfl
 have HBZ:Hid (Below w.heap.size w wz):=(HLOW.out _ hqb).trans (hst.below _ (by omega))
 clear hst hHeld
 go_wp2
 exact bodyPost_ret (v:=opV kd po tt vi sx kv km me un nw li sh bu id) (by simp [results,Tryz.results11,go_sem,opV,z0,z1,z2,z3,z4,z5,z6,z7,z8,z9,z10,z11,z12,z13]) rfl ⟨rfl,HBZ.out⟩
end
section
open Go.RowKit
set_option maxRecDepth 20000 in
set_option maxHeartbeats 3200000 in
theorem clone_stands {w:World} {B n:Nat} {v:Value} {xs:List Value} (hn:n≤1000000) (hv:Sl w B 2 v n xs) (hone:∀ u ∈ xs,u.oneCell'=true) (hB:B≤w.heap.size) :
  Calls Tryz.prog 66 #[v] w fun e w' => ∃ u,e=.returned u∧w'.ownsRow w.heap.size 60 2 u n xs∧Below w.heap.size w w':=by
 have HS:=Lib.hid hv
 obtain ⟨A,cap,rfl,h1,h2⟩:=hv.form
 have HONE:=Lib.hid hone
 cases A with
 | none =>
  have hn0:n=0:=by
   rcases Nat.eq_zero_or_pos n with h | h
   ·exact h
   ·obtain ⟨b,off,c,e,_⟩:=hv.at_ h
    cases e
  subst hn0
  have hx:xs=[]:=by have:=hv.len; simpa using this
  subst hx
  clear hv h1 h2 HS HONE hone
  have hnil:=fun (W:World) => Lib.run_eql_slice_nil (P:=Tryz.prog) W 77 60 none 0 cap 0 0 Tryz.underlying77
  go_enter Tryz.func66,Tryz.ntmps66
  go_wp2_with fail
  go_ret
  exact ⟨_,rfl,⟨by simp,.inl (by simp)⟩,Below.refl _ _⟩
 | some a =>
  clear hv h2 hone
  have hnil:=fun (W:World) => Lib.run_eql_slice_nil (P:=Tryz.prog) W 77 60 (some a) n cap 0 0 Tryz.underlying77
  go_enter Tryz.func66,Tryz.ntmps66
  go_wp2_with (first
   | (at_builtin; refine wpList_apv _ rfl stStands _ _ rfl w.heap.size (.slice (some ⟨w.heap.size,0,none⟩) 0 0) 0 [] rfl ⟨by simp,.inr ⟨w.heap.size,0,#[],rfl,Nat.le_refl _,heap_alloc_new w _,Nat.le_refl _,by simp [maxLen],by simp,by simp⟩⟩ B _ n xs rfl (HS.out.below (by (repeat' (first | (with_reducible exact Below.refl _ _) | (with_reducible refine Below.alloc ?_ ?_ _) | go_size)))) HONE.out (by omega) (by go_size) ?_; intro A2 c2 w9 hown2 hgr2 hat2 hbel2; clear hgr2 hat2))
  have HO0:w9.ownsRow w.heap.size 60 2 (.slice A2 n c2) n xs:=by simpa using hown2
  have HO:=Lib.hid HO0
  clear HO0
  have HB9:Hid (Below w.heap.size w w9):=Below.trans ((Below.refl _ _).alloc (Nat.le_refl _) _) hbel2
  clear hown2 hbel2
  go_wp2
  go_ret
  exact ⟨_,by first | rfl | (simp; done),HO.out,HB9.out⟩
def stc (f:Nat→Int × Nat) (k:Nat):List Value:=(List.range k).map (rowS f)
theorem stc_at (f:Nat→Int × Nat) {k j:Nat} (h:j < k):(stc f k)[j]?=some (rowS f j):=by
 unfold stc
 rw [List.getElem?_map,List.getElem?_range h]
 rfl
theorem stc_length (f:Nat→Int × Nat) (k:Nat):(stc f k).length=k:=by simp [stc]
theorem stc_one (f:Nat→Int × Nat) (k:Nat):∀ u ∈ stc f k,u.oneCell'=true:=by
 intro u hu
 obtain ⟨j,_,rfl⟩:=List.mem_map.1 hu
 unfold rowS
 split <;> rfl
theorem sl_stands {w:World} {S1 P:Nat} {T:TypeId} {st:Nat→Int × Nat} (h:rowH w S1 T (P * 2) (rowS st)) {c:Nat} (hc:P≤c∧c≤maxLen):Sl w w.heap.size 2 (.slice (some ⟨S1,0,none⟩) P c) P (stc st (P * 2)) :=
 ⟨stc_length _ _,_,_,rfl,hc.1,hc.2,fun _ => ⟨S1,0,rfl,h.lt,fun j hj => by rw [Nat.zero_add,h.cell hj,stc_at st hj]⟩⟩
section
variable {E:Nat→Prop} {w:World} {L A S1 Q bp bq P r S B n nv:Nat} {uv:Value} {lv:List Vl} {st:Nat→Int × Nat} {g:Nat→Nat→Pl} {G:Nat→Value} {R:Nat→Nat} {qv:Nat→Nat→Value} {qs:Nat→Nat→List Int}
set_option maxHeartbeats 1600000 in
theorem model_List (h:MdAll E w L A S1 Q bp bq P r S B n nv uv lv st g G R qv qs) (hSB:S * B≤128) (hn:n≤8) :
  Calls Tryz.prog 60 #[.pointer (some ⟨A,0,none⟩)] w fun e w' => ∃ v,e=.returned v∧w'.ownsRow w.heap.size 142 5 v (bookL g n (S * B)).length (encs (bookL g n (S * B)))∧Below w.heap.size w w':=by
 have HN:=Lib.hid (model_isNone h.md)
 have HC:Hid (∀ w',Below w.heap.size w w'→Calls Tryz.prog 100 #[.pointer (some ⟨bp,0,none⟩)] w' fun e w2 => ∃ v,e=.returned v∧w2.ownsRow w'.heap.size 142 5 v (bookL g n (S * B)).length (encs (bookL g n (S * B)))∧Below w'.heap.size w' w2):=fun w' hb => by
  obtain ⟨D,hd,_⟩:=(h.call hb).bk
  exact book_List hd hSB hn
 have HH:=Lib.hid h.md
 clear h
 go_enter Tryz.func60,Tryz.ntmps60
 go_wp2_with (first
  | (go_at_call 28; (with_reducible refine Calls.mono HN.out ?_); rintro e w1 ⟨rfl,hb⟩; (have HB:=Lib.hid hb); (have c3:w1.cell? ⟨A,3,none⟩=some (.pointer (some ⟨bp,0,none⟩)):=(HH.out.call hb).cells.cell (by omega)); clear hb)
  | (go_at_call 100; (with_reducible refine Calls.mono (HC.out _ HB.out) ?_); rintro e w2 ⟨u,rfl,ho,hb⟩; (have HO:=Lib.hid (own_base ho HB.out.size)); (have HB2:=Lib.hid (HB.out.trans (hb.mono HB.out.size))); clear ho hb)
  | fail)
 go_ret
 exact ⟨_,by first | rfl | (simp; done),HO.out,HB2.out⟩
set_option maxHeartbeats 1600000 in
theorem model_Bucket (h:MdAll E w L A S1 Q bp bq P r S B n nv uv lv st g G R qv qs) (hS:1≤S∧S≤8) (hB:1≤B∧B≤16) (hn:1≤n∧n≤8) (s t:Int) (H:Nat) (hh2:H < S * B) (ha:atI S B s t=(H:Int)) :
  Calls Tryz.prog 59 #[.pointer (some ⟨A,0,none⟩),.int .i64 s,.int .i64 t] w (Gives 162 n (g H) id w):=by
 have HN:=Lib.hid (model_isNone h.md)
 have HC:Hid (∀ w',Below w.heap.size w w'→Calls Tryz.prog 99 #[.pointer (some ⟨bp,0,none⟩),.int .i64 s,.int .i64 t] w' (Gives 162 n (g H) id w')):=fun w' hb => by
  obtain ⟨D,hd,_⟩:=(h.call hb).bk
  exact book_Bucket hd hS hB hn.1 hn.2 s t H hh2 ha
 have HH:=Lib.hid h.md
 clear h ha
 go_enter Tryz.func59,Tryz.ntmps59
 go_wp2_with (first
  | (go_at_call 28; (with_reducible refine Calls.mono HN.out ?_); rintro e w1 ⟨rfl,hb⟩; (have HB:=Lib.hid hb); (have c3:w1.cell? ⟨A,3,none⟩=some (.pointer (some ⟨bp,0,none⟩)):=(HH.out.call hb).cells.cell (by omega)); clear hb)
  | (go_at_call 99; (with_reducible refine Calls.mono (HC.out _ HB.out) ?_); rintro e w2 ⟨u,rfl,ho,hb⟩; (have HO:=Lib.hid (ho.base HB.out.size)); (have HB2:=Lib.hid (HB.out.trans (hb.mono HB.out.size))); clear ho hb)
  | fail)
 go_ret
 exact ⟨_,by first | rfl | (simp; done),HO.out,HB2.out⟩
end
end
end Go.Proofs.YtpcapdpglpgcbaaGreat
