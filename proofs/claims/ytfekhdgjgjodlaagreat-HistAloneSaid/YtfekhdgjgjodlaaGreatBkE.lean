/-
  Words and contracts that a statement's proof rests on (BkE, Store, MoQ, SlotB, KeyC, SlotC, BuN, BuO, BkF, BkG, BkH, MoS). No statement is proved here.
-/
import Derived.Deep.RegionHeld3
import Derived.Deep.MidRow
import Derived.Deep.RegionLaw
import Derived.Test.YtfekhdgjgjodlaaGreatKit
import Derived.Test.YtfekhdgjgjodlaaGreatKeyA
import Derived.Test.YtfekhdgjgjodlaaGreatBuB
import Derived.Test.YtfekhdgjgjodlaaGreatBkC
import Derived.Test.YtfekhdgjgjodlaaGreatBkD
import Derived.Test.YtfekhdgjgjodlaaGreatMoD
import Derived.Test.YtfekhdgjgjodlaaGreatPtB
import Derived.Test.YtfekhdgjgjodlaaGreatSrA
set_option linter.unusedVariables false
set_option linter.unusedSimpArgs false
namespace Go.Proofs.YtfekhdgjgjodlaaGreat
section
open Go.RowKit
theorem stRows:ST Tryz.prog 184 187 (.slice none 0 0) 1 24:=ST.mk Tryz.underlying184 (by kernel_rfl) rfl (by omega) (by omega)
theorem rowIs_nils {w:World} {M:Nat} {e:TypeId}:(w.alloc (.cells (mkC (.slice none 0 0) 1 M) e)).rowIs w.heap.size e M (fun _ => .slice none 0 0):=by
 have h:=World.rowIs_made w (.slice none 0 0) M e
 unfold mkC
 rw [Nat.mul_one]
 exact h
theorem own_nils {w:World} {M:Nat} {T:TypeId} (hM:M≤maxLen):RowOf (w.alloc (.cells (mkC (.agg #[.bool false,.int .i64 0,.int .u64 0,.int .i64 0,.bool false,.int .u32 0]) 6 M) T)) T w.heap.size (.slice (some ⟨w.heap.size,0,none⟩) M M) M (fun _ => pl0) :=
 ⟨_,M,rfl,Nat.le_refl _,hM,fun _ => ⟨w.heap.size,_,rfl,Nat.le_refl _,rowIs_mk6,fun _ _ => rfl⟩⟩
set_option maxRecDepth 20000 in
set_option maxHeartbeats 12800000 in
theorem book_New (S B n:Nat) (hS:1≤S∧S≤8) (hB:1≤B∧B≤16) (hn:1≤n∧n≤8) (w:World) :
  Calls Tryz.prog 79 #[.agg #[.int .i64 (S:Nat),.int .i64 (B:Nat),.int .i64 (n:Nat)]] w fun e w' => ∃ p q,e=.returned (.tuple #[.pointer (some ⟨p,0,none⟩),.int .i64 0]) ∧
   BkAt w' (fun b => b≤p) p q S B n (fun _ _ => pl0)∧w.heap.size≤p∧w.heap.size≤q∧q < p∧Below w.heap.size w w':=by
 obtain ⟨M,hM⟩:∃ M,M=S * B:=⟨_,rfl⟩
 have hMB:M≤128:=by rw [hM]; exact Nat.mul_le_mul hS.2 hB.2
 have hM1:1≤M:=by rw [hM]; exact Nat.mul_pos hS.1 hB.1
 have hmul:(S:Int) * (B:Int)=(M:Int):=by rw [hM]; simp
 have hmw:wrap64 ((S:Int) * (B:Int))=(M:Int):=by rw [hmul]; exact IntWalk.wrap64_in _ (by omega)
 have hmw3:IntKind.i64.wrap ((S:Int) * (B:Int))=(M:Int):=by rw [hmul]; exact IntWalk.i64_in _ (by omega)
 have hr:=fun W => book_Right (S:Int) (B:Int) (n:Int) W
 have hy:rightS (S:Int) (B:Int) (n:Int)=true:=by unfold rightS inB; simp; omega
 rw [hy] at hr
 have HR:=Lib.hid hr
 have HM:=Lib.hid hM
 have hk1:=fun W => run_mkFull (P:=Tryz.prog) W stRows M (by omega)
 have hk2:=fun W => run_mkFull (P:=Tryz.prog) W stPlaces n (by omega)
 clear hr hy hM hmul
 go_enter Tryz.func79,Tryz.ntmps79
 go_wp2_with fail
 refine (HR.out _).mono ?_
 rintro e w1 ⟨rfl,hb⟩
 have HB1:Hid (Below w.heap.size w w1):=Below.trans ((Below.refl _ _).alloc (Nat.le_refl _) _) (hb.mono (by simp))
 have s0:w1.cell? ⟨w.heap.size,0,none⟩=some (.int .i64 (S:Nat)):=by rw [(bcell hb).1 _ _ (by simp)]; simp [go_sem]
 have s1:w1.cell? ⟨w.heap.size,1,none⟩=some (.int .i64 (B:Nat)):=by rw [(bcell hb).1 _ _ (by simp)]; simp [go_sem]
 have s2:w1.cell? ⟨w.heap.size,2,none⟩=some (.int .i64 (n:Nat)):=by rw [(bcell hb).1 _ _ (by simp)]; simp [go_sem]
 have hz1:w.heap.size + 1≤w1.heap.size:=by have:=hb.size; simpa using this
 clear hb HR
 go_wp2_with fail
 refine wp_region_held_drew (S:=fun w' => w'.cell? ⟨w.heap.size,0,none⟩=some (.int .i64 (S:Nat))∧w'.cell? ⟨w.heap.size,1,none⟩=some (.int .i64 (B:Nat))∧w'.cell? ⟨w.heap.size,2,none⟩=some (.int .i64 (n:Nat))) (by kernel_rfl) ?_ (fun hHeld => ?_)
 ·exact ⟨s0,s1,s2⟩
 refine tkR 0 rfl ?_
 refine tkR 1 rfl ?_
 refine tkR 2 rfl ?_
 refine tkR 3 rfl ?_
 refine tkR 4 rfl ?_
 refine tkR 5 rfl ?_
 refine clR 6 rfl fun K hK => ?_
 go_simp
 refine hK.out _ _ ?_ (fun hHeld => ?_)
 ·(try dsimp only)
  obtain ⟨q0,q1,q2⟩:=hHeld
  exact ⟨(World.cell?_alloc_lt _ _ _ (by show w.heap.size < w1.heap.size; omega)).trans q0,(World.cell?_alloc_lt _ _ _ (by show w.heap.size < w1.heap.size; omega)).trans q1,(World.cell?_alloc_lt _ _ _ (by show w.heap.size < w1.heap.size; omega)).trans q2⟩
 clear hK K
 refine tkR 7 rfl ?_
 refine clR 8 rfl fun K hK => ?_
 go_simp
 refine hK.out _ _ ?_ (fun hHeld => ?_)
 ·(try dsimp only)
  obtain ⟨q0,q1,q2⟩:=hHeld
  exact ⟨(World.cell?_alloc_lt _ _ _ (by show w.heap.size < _; simp; omega)).trans q0,(World.cell?_alloc_lt _ _ _ (by show w.heap.size < _; simp; omega)).trans q1,(World.cell?_alloc_lt _ _ _ (by show w.heap.size < _; simp; omega)).trans q2⟩
 clear hK K
 refine tkR 9 rfl ?_
 refine wpAnyH_done (by kernel_rfl) ?_ _
 obtain ⟨q,hq⟩:∃ q,q=w1.heap.size:=⟨_,rfl⟩
 obtain ⟨p,hp⟩:∃ p,p=w1.heap.size + 1:=⟨_,rfl⟩
 obtain ⟨w2,hw2⟩:∃ w2,w2=((w1.alloc (.cells (mkC (.slice none 0 0) 1 M) 187)).alloc (.cells #[.int .i64 (S:Nat),.int .i64 (B:Nat),.int .i64 (n:Nat),.slice (some ⟨q,0,none⟩) M M] 186)).drew:=⟨_,rfl⟩
 have HQ0:Hid (w2.rowIs q 187 M (fun _ => .slice none 0 0)):=by rw [hw2,hq]; exact (rowIs_nils.alloc _).drew
 have HP0:Hid (w2.cell? ⟨p,0,none⟩=some (.int .i64 (S:Nat))∧w2.cell? ⟨p,1,none⟩=some (.int .i64 (B:Nat))∧w2.cell? ⟨p,2,none⟩=some (.int .i64 (n:Nat))∧w2.cell? ⟨p,3,none⟩=some (.slice (some ⟨q,0,none⟩) M M)∧w2.cell? ⟨w.heap.size,2,none⟩=some (.int .i64 (n:Nat))):=by
  rw [hw2,hp]
  refine ⟨by simp [go_sem],by simp [go_sem],by simp [go_sem],by simp [go_sem],?_⟩
  exact (World.cell?_alloc_lt _ _ _ (by show w.heap.size < _; simp; omega)).trans ((World.cell?_alloc_lt _ _ _ (by show w.heap.size < _; omega)).trans s2)
 have HB2:Hid (Below w.heap.size w w2):=by rw [hw2]; exact ((HB1.out.alloc (by omega) _).alloc (by simp; omega) _).drew
 have hp2:p < w2.heap.size:=by rw [hw2,hp]; simp
 have hpq:q + 1=p:=by rw [hp,hq]
 have hqw:w.heap.size < q:=by rw [hq]; omega
 rw [← hp,← hq,← hw2]
 clear hw2 hq hp hHeld s0 s1 s2 hk1 hmw hmw3 HB1 hz1
 obtain ⟨t0,t1,t2,t3,t4⟩:=HP0.out
 go_wp2
 clear t0 t1 t2 t3 t4
 go_loopw [23] (fun i wr => ∃ (k:Nat) (G:Nat→Value),k≤M∧i=.int .i64 k∧p < wr.heap.size∧Hid (wr.rowIs q 187 M G)∧Hid (∀ i,i < k→PlRowD wr (fun b => b≤p) (G i) n (fun _ => pl0))∧Hid (wr.cell? ⟨p,0,none⟩=some (.int .i64 (S:Nat))∧wr.cell? ⟨p,1,none⟩=some (.int .i64 (B:Nat))∧wr.cell? ⟨p,2,none⟩=some (.int .i64 (n:Nat))∧wr.cell? ⟨p,3,none⟩=some (.slice (some ⟨q,0,none⟩) M M)∧wr.cell? ⟨w.heap.size,2,none⟩=some (.int .i64 (n:Nat)))∧Hid (Below w.heap.size w wr)) (fun i _ => M - (intOf i).toNat)
 case atStart => exact ⟨0,_,by omega,rfl,hp2,HQ0,fun i hi => absurd hi (by omega),HP0,HB2⟩
 case round =>
  obtain ⟨k,G,hk,rfl,hpz,HQ,HR,HP,HB⟩:=hrel
  obtain ⟨t0,t1,t2,t3,t4⟩:=HP.out
  by_cases hlt:k < M
  ·have g0:(0:Int)≤(k:Int):=Int.natCast_nonneg _
   have g1:(k:Int) < (M:Int):=by omega
   go_wp2_with fail
   refine wp_region_held_drew (S:=fun w' => w'.cell? ⟨p,3,none⟩=some (.slice (some ⟨q,0,none⟩) M M)∧w'.cell? ⟨w.heap.size,2,none⟩=some (.int .i64 (n:Nat))) (by kernel_rfl) ?_ (fun hHeld => ?_)
   ·exact ⟨t3,t4⟩
   obtain ⟨v0,hv0⟩:∃ w',w'=wr.drew:=⟨_,rfl⟩
   have hvz:v0.heap.size=wr.heap.size:=by rw [hv0]; rfl
   have hvb:Below wr.heap.size wr v0:=by rw [hv0]; exact (Below.refl _ _).drew
   rw [← hv0] at hHeld ⊢
   clear hv0
   obtain ⟨gb,hgb⟩:∃ g',g'=wr.heap.size:=⟨_,rfl⟩
   obtain ⟨v1,hv1⟩:∃ w',w'=v0.alloc (.cells (mkC (.agg #[.bool false,.int .i64 0,.int .u64 0,.int .i64 0,.bool false,.int .u32 0]) 6 n) 195):=⟨_,rfl⟩
   have HO:Hid (RowOf v1 195 wr.heap.size (.slice (some ⟨gb,0,none⟩) n n) n (fun _ => pl0)):=by rw [hv1,hgb,← hvz]; exact own_nils (by unfold maxLen; omega)
   have hb1:Below wr.heap.size wr v1:=by rw [hv1]; exact hvb.alloc (by omega) _
   have HQ1:Hid (v1.rowIs q 187 M G):=HQ.out.of_block (hb1.block q (by omega))
   have y1:(v0.alloc (.cells (mkC (.agg #[.bool false,.int .i64 0,.int .u64 0,.int .i64 0,.bool false,.int .u32 0]) 6 n) 195)).cell? ⟨q,k,none⟩=some (G k):=by rw [← hv1]; exact HQ1.out.cell hlt
   have y2:∀ i,(v0.alloc (.cells (mkC (.agg #[.bool false,.int .i64 0,.int .u64 0,.int .i64 0,.bool false,.int .u32 0]) 6 n) 195)).frozen? ⟨q,i,none⟩=false:=fun i => by rw [← hv1]; exact HQ1.out.frozen i
   refine tkR 0 rfl ?_
   refine tkR 1 rfl ?_
   refine tkR 2 rfl ?_
   refine tkR 3 rfl ?_
   refine tkR 4 rfl ?_
   refine tkR 5 rfl ?_
   refine tkR 6 rfl ?_
   refine clR 7 rfl fun K hK => ?_
   go_simp
   refine hK.out _ _ ?_ (fun hHeld => ?_)
   ·(try dsimp only)
    obtain ⟨q0,q1⟩:=hHeld
    exact ⟨(World.cell?_alloc_lt _ _ _ (by show p < v0.heap.size; omega)).trans q0,(World.cell?_alloc_lt _ _ _ (by show w.heap.size < v0.heap.size; omega)).trans q1⟩
   clear hK K
   refine tkR 8 rfl ?_
   refine clR 9 rfl fun K hK => ?_
   go_simp
   refine hK.out _ _ ?_ (fun hHeld => ?_)
   ·(try dsimp only)
    obtain ⟨q0,q1⟩:=hHeld
    have hz1:=hb1.size
    exact ⟨((But.set k _).cell (show p < (v0.alloc _).heap.size by rw [World.size_alloc]; omega) (show p ≠ q by omega)).trans q0,((But.set k _).cell (show w.heap.size < (v0.alloc _).heap.size by rw [World.size_alloc]; omega) (show w.heap.size ≠ q by omega)).trans q1⟩
   clear hK K
   (try simp only [Act.put,sqA,sqB,sqC])
   refine wpAnyH_done (by kernel_rfl) ?_ _
   obtain ⟨v2,hv2⟩:∃ w',w'=v1.setCell ⟨q,k,none⟩ (.slice (some ⟨gb,0,none⟩) n n):=⟨_,rfl⟩
   have hbut:But q wr v2:=by rw [hv2]; exact (But.of hb1 (by omega)).trans (But.set k _)
   have HQ2:Hid (v2.rowIs q 187 M (fun j => if j=k then .slice (some ⟨gb,0,none⟩) n n else G j)):=by rw [hv2]; exact HQ1.out.set k _
   have HR2:Hid (∀ i,i < k + 1→PlRowD v2 (fun b => b≤p) ((fun j => if j=k then .slice (some ⟨gb,0,none⟩) n n else G j) i) n (fun _ => pl0)):=fun i hi => by
    by_cases hik:i=k
    ·show PlRowD v2 _ (if i=k then _ else _) n _
     rw [if_pos hik,hv2]
     exact (PlRowD.of_own (D:=fun b => b≤p) HO.out (fun b hb => by show b < wr.heap.size; have:b≤p:=hb; omega)).but (But.set k _) (by show q≤p; omega)
    ·show PlRowD v2 _ (if i=k then _ else _) n _
     rw [if_neg hik]
     exact (HR.out i (by omega)).but hbut (by show q≤p; omega)
   have c2:=hbut.below.size
   have HP2:Hid (v2.cell? ⟨p,0,none⟩=some (.int .i64 (S:Nat))∧v2.cell? ⟨p,1,none⟩=some (.int .i64 (B:Nat))∧v2.cell? ⟨p,2,none⟩=some (.int .i64 (n:Nat))∧v2.cell? ⟨p,3,none⟩=some (.slice (some ⟨q,0,none⟩) M M)∧v2.cell? ⟨w.heap.size,2,none⟩=some (.int .i64 (n:Nat))) :=
    ⟨(hbut.cell (show p < _ by omega) (show p ≠ q by omega)).trans t0,(hbut.cell (show p < _ by omega) (show p ≠ q by omega)).trans t1,(hbut.cell (show p < _ by omega) (show p ≠ q by omega)).trans t2,(hbut.cell (show p < _ by omega) (show p ≠ q by omega)).trans t3,(hbut.cell (show w.heap.size < _ by omega) (show w.heap.size ≠ q by omega)).trans t4⟩
   have HB3:Hid (Below w.heap.size w v2):=HB.out.trans (hbut.below.mono (by omega))
   try rw [← hgb]
   try rw [← hv1]
   rw [← hv2]
   have hpz2:p < v2.heap.size:=by omega
   clear hv1 hv2 hgb hHeld y1 y2 HO HQ1 HQ HR HP HB hbut hb1 hvb hvz t0 t1 t2 t3 t4
   go_wp2
   go_roundw
   case rel => exact ⟨k + 1,_,by omega,by go_num,hpz2,HQ2,HR2,HP2,HB3⟩
   case measure => simp [intOf]; omega
  ·have hkM:M=k:=by omega
   subst hkM
   go_wp2
   refine bodyPost_ret (v:=.tuple #[.pointer (some ⟨p,0,none⟩),.int .i64 0]) (by simp [results,Tryz.results79,go_sem]) rfl ⟨p,q,rfl,?_,by omega,by omega,by omega,HB.out⟩
   have hcap:M≤maxLen:=by unfold maxLen; omega
   refine ⟨hpz,by omega,by omega,t0,t1,t2,⟨M,by rw [← HM.out]; exact Nat.le_refl _,hcap,?_⟩,HQ.out.frozen,fun i hi => ?_⟩
   ·rw [← HM.out]; exact t3
   ·rw [← HM.out] at hi
    exact ⟨_,HQ.out.cell hi,HR.out i hi⟩
end
section
open Go.RowKit
theorem heap_setCell_far (w:World) (p:Addr) (v:Value) {k:Nat} (h:k ≠ p.block):(w.setCell p v).heap[k]?=w.heap[k]?:=by
 unfold World.setCell
 simp only [Array.getElem?_modify]
 rw [if_neg (fun e => h e.symm)]
theorem heap_setCells_far (b:Nat):∀ (vs:List Value) (o:Nat) (w:World) {k:Nat},k ≠ b→(w.setCells b o vs).heap[k]?=w.heap[k]?
 | [],_,_,_,_ => rfl
 | v :: r,o,w,_,h => (heap_setCells_far b r (o + 1) _ h).trans (heap_setCell_far w ⟨b,o,none⟩ v h)
theorem below_setCells {B b:Nat} (hB:B≤b):∀ (vs:List Value) (o:Nat) (w0 w:World),Below B w0 w→Below B w0 (w.setCells b o vs)
 | [],_,_,_,h => h
 | v :: r,o,w0,_,h => below_setCells hB r (o + 1) w0 _ (h.setCell hB v)
theorem size_setCells (b:Nat):∀ (vs:List Value) (o:Nat) (w:World),(w.setCells b o vs).heap.size=w.heap.size
 | [],_,_ => rfl
 | v :: r,o,w => (size_setCells b r (o + 1) _).trans (by simp)
structure Stored (w:World) (b o:Nat) (vs:List Value) (w':World):Prop where
 cells:∀ j v,vs[j]?=some v→w'.cell? ⟨b,o + j,none⟩=some v
 far:∀ k,k ≠ b→w'.heap[k]?=w.heap[k]?
 size:w'.heap.size=w.heap.size
 below:∀ B,B≤b→Below B w w'
 marks:∀ p,w'.frozen? p=w.frozen? p
theorem Stored.mk_ (w:World) (b o:Nat) (vs:List Value) (ht:w.there b o vs.length):Stored w b o vs (w.setCells b o vs) :=
 ⟨World.rangeAt_setCells_same w b o vs ht,fun _ h => heap_setCells_far b vs o w h,size_setCells b vs o w,fun _ hB => below_setCells hB vs o w w (Below.refl _ _),fun p => World.frozen?_setCells b vs o w p⟩
section
variable {P:Program}
theorem step_store {ops:Array Oper} {op:Oper} {a:Act} {w:World} {K:Act→World→Prop} {Q:Exit→Act→World→Prop} {E:Prop} (hgd:op.guard=none) (ty:TypeId) (x y:Operand) (ho:op.op=.store ty x y)
  (b o:Nat) (cells:Array Value) (hx:a.eval x=.pointer (some ⟨b,o,none⟩)) (hy:a.eval y=.agg cells)
  (ht:w.there b o cells.size) (hi:(P.info? ty).map (·.size)=some cells.size) (h1:cells.all (·.oneCell')=true)
  (h:∀ w',Stored w b o cells.toList w'→K (a.put op.dst undef) w'):if Region.wanted op (yielded ops a.tmps)=true then Oper.wp P op a w K Q else E:=by
 have hw:Region.wanted op (yielded ops a.tmps)=true:=by simp [Region.wanted,hgd]
 rw [if_pos hw]
 exact wp_store_mid ty x y ho b o cells hx hy ht hi h1 (h _ (Stored.mk_ w b o cells.toList (by simpa using ht)))
theorem wpList_store {ops:Array Oper} {rest:List Oper} {op:Oper} {a:Act} {w:World} {Q:Exit→Act→World→Prop} (hgd:op.guard=none) (ty:TypeId) (x y:Operand) (ho:op.op=.store ty x y)
  (b o:Nat) (cells:Array Value) (hx:a.eval x=.pointer (some ⟨b,o,none⟩)) (hy:a.eval y=.agg cells)
  (ht:w.there b o cells.size) (hi:(P.info? ty).map (·.size)=some cells.size) (h1:cells.all (·.oneCell')=true)
  (h:∀ w',Stored w b o cells.toList w'→wpList P ops Q rest (a.put op.dst undef) w'):wpList P ops Q (op :: rest) a w :=
 wpList_store_mid hgd ty x y ho b o cells hx hy ht hi h1 (h _ (Stored.mk_ w b o cells.toList (by simpa using ht)))
end
end
section
open Go.RowKit
theorem infoInt:(Tryz.prog.info? 3).map (fun i => (i.zero,i.size,i.bytes))=some (some (.int .i64 0),1,8):=by kernel_rfl
def overL:List Value→Nat→List Value→List Value
 | xs,_,[] => xs
 | xs,o,v :: vs => overL (xs.set o v) (o + 1) vs
theorem overL_low:∀ (vs xs:List Value) (o j:Nat),j < o→(overL xs o vs)[j]?=xs[j]?
 | [],xs,o,j,_ => rfl
 | v :: vs,xs,o,j,h => by
  unfold overL
  rw [overL_low vs _ _ _ (by omega),List.getElem?_set_ne (by omega)]
theorem overL_at:∀ (vs xs:List Value) (o j:Nat),j < vs.length→o + j < xs.length→(overL xs o vs)[o + j]?=vs[j]?
 | [],xs,o,j,h,_ => by simp at h
 | v :: vs,xs,o,0,h,h2 => by
  unfold overL
  rw [overL_low vs _ _ _ (by omega)]
  simp only [Nat.add_zero] at h2 ⊢
  rw [List.getElem?_set_self h2]
  rfl
 | v :: vs,xs,o,j + 1,h,h2 => by
  unfold overL
  rw [show o + (j + 1)=o + 1 + j by omega,overL_at vs _ _ _ (by simpa using h) (by rw [List.length_set]; omega)]
  rfl
theorem own_over {L n cap b:Nat} {e:TypeId}:∀ (vs:List Value) (o:Nat) (w:World) (xs:List Value),w.ownsRow L e 1 (.slice (some ⟨b,0,none⟩) n cap) n xs→(w.setCells b o vs).ownsRow L e 1 (.slice (some ⟨b,0,none⟩) n cap) n (overL xs o vs)
 | [],_,_,_,h => h
 | v :: vs,o,w,xs,h => own_over vs (o + 1) _ _ (h.stored o v).1
theorem own_cut {w:World} {L n cap b:Nat} {e:TypeId} {xs:List Value} (h:w.ownsRow L e 1 (.slice (some ⟨b,0,none⟩) (n + 1) cap) (n + 1) xs):w.ownsRow L e 1 (.slice (some ⟨b,0,none⟩) n cap) n (xs.take n):=by
 refine ⟨by have:=h.1; rw [List.length_take]; omega,?_⟩
 rcases h.2 with hn | ⟨g,cap',cur,hv,hb,hg,hnc,hcm,hcs,ht⟩
 ·cases hn.1
 ·simp only [Value.slice.injEq,Option.some.injEq,Addr.mk.injEq,and_true,true_and] at hv
  obtain ⟨rfl,rfl⟩:=hv
  refine .inr ⟨b,cap,cur,rfl,hb,hg,by omega,hcm,hcs,?_⟩
  rw [← ht,List.take_take]
  congr 1
  omega
theorem But.setCells {q:Nat}:∀ (vs:List Value) (o:Nat) (w:World),But q w (w.setCells q o vs)
 | [],_,w => ⟨Below.refl _ _,fun _ _ _ => rfl⟩
 | v :: vs,o,w => (But.set o v).trans (But.setCells vs (o + 1) _)
set_option maxRecDepth 100000 in
set_option maxHeartbeats 1600000 in
theorem delete_first {w:World} {L n cap b:Nat} {x:Int} {l:List Int} (hown:w.ownsRow L 3 1 (.slice (some ⟨b,0,none⟩) (n + 1) cap) (n + 1) (kv .i64 (x :: l))) :
  Calls Tryz.prog 115 #[.slice (some ⟨b,0,none⟩) (n + 1) cap,.int .i64 0,.int .i64 1] w fun e w' => e=.returned (.slice (some ⟨b,0,none⟩) n cap)∧w'.ownsRow L 3 1 (.slice (some ⟨b,0,none⟩) n cap) n (kv .i64 l)∧But b w w':=by
 obtain ⟨i0,hi0,hz0,hz1,hz2⟩:=info_parts infoInt
 obtain ⟨hnc,hcm⟩:n + 1≤cap∧cap≤maxLen:=by
  rcases hown.2 with hn | ⟨g,cap',cur,hv,hb,hg,hnc,hcm,hcs,ht⟩
  ·cases hn.1
  ·simp only [Value.slice.injEq,Option.some.injEq,Addr.mk.injEq,and_true,true_and] at hv
   obtain ⟨rfl,rfl⟩:=hv
   exact ⟨hnc,hcm⟩
 unfold maxLen at hcm
 have hlen:(kv .i64 (x :: l)).length=n + 1:=by have:=hown.1; omega
 have hl:(kv .i64 l).length=n:=by simp [kv] at hlen ⊢; omega
 have hc:∀ j,j < n + 1→w.cell? ⟨b,j,none⟩=(kv .i64 (x :: l))[j]?:=fun j hj => hown.cellAt j (by omega)
 have hf:∀ j,w.frozen? ⟨b,j,none⟩=false:=fun j => hown.frozenAt j
 obtain ⟨A,hA,hnews⟩:∃ A:Addr,(if cap=1 then some (⟨b,0,none⟩:Addr) else some ⟨b,1,none⟩)=some A∧Hid (∀ j u,(kv .i64 l)[j]?=some u→w.drew.cell? (A.add j)=some u):=by
  by_cases h:cap=1
  ·refine ⟨⟨b,0,none⟩,by simp [h],fun j u hu => ?_⟩
   have h0:(kv .i64 l).length=0:=by omega
   rw [List.length_eq_zero_iff.1 h0] at hu
   simp at hu
  ·refine ⟨⟨b,1,none⟩,by simp [h],fun j u hu => ?_⟩
   have hj:j < n:=by
    have:=(List.getElem?_eq_some_iff.1 hu).1
    omega
   rw [Addr.add_lit,show 1 + j=j + 1 by omega]
   exact (hc (j + 1) (by omega)).trans (by rw [← hu]; rfl)
 have s1:Hid ((kv .i64 l).length=n * 1):=by show _=_; omega
 have s2:Hid (∀ u ∈ kv .i64 l,u.oneCell'=true):=by
  intro u hu
  obtain ⟨y,_,rfl⟩:=List.mem_map.1 hu
  rfl
 have s3:Hid (∀ j,j < (kv .i64 l).length→(w.drew.cell? ⟨b,0 + 0 * 1 + j,none⟩).isSome=true∧w.drew.frozen? ⟨b,0 + 0 * 1 + j,none⟩=false):=by
  intro j hj
  rw [show 0 + 0 * 1 + j=j by omega]
  refine ⟨?_,hf j⟩
  show (w.cell? _).isSome=true
  rw [hc j (by omega),List.getElem?_eq_getElem (show j < (kv .i64 (x :: l)).length by omega)]
  rfl
 obtain ⟨X,hX⟩:∃ X,X=kv .i64 l:=⟨_,rfl⟩
 have HOWN:=Lib.hid hown
 rw [← hX] at hnews s1 s2 s3
 have HX:=Lib.hid hX
 have HL:=Lib.hid hl
 have hp1:(1:Int)≤(n:Int) + 1:=by omega
 have hp2:(n:Int)≤(n:Int) + 1:=by omega
 have hp3:¬ cap=n:=by omega
 clear hc hf hown hl hlen hX
 go_enter Tryz.func115,Tryz.ntmps115
 go_wp2_with fail
 go_region_law (refine step_append_room rfl (.tmp 22) (.tmp 25) 47 rfl 3 i0 1 Tryz.underlying47 hi0 hz1 b 0 0 cap (by simp [Act.eval,Act.put]) A n (cap - 1) X (by simp [Act.eval,Act.put]) s1.out hnews.out s2.out (by omega) s3.out ?_)
 obtain ⟨w2,hw2⟩:∃ z,z=w.drew.setCells b 0 X:=⟨_,rfl⟩
 have HO2:Hid (w2.ownsRow L 3 1 (.slice (some ⟨b,0,none⟩) (n + 1) cap) (n + 1) (overL (kv .i64 (x :: l)) 0 X)):=by
  rw [hw2]
  exact own_over X 0 _ _ (own_below HOWN.out (Below.refl _ _).drew)
 have HB2:Hid (But b w w2):=by
  rw [hw2]
  exact (But.of (Below.refl _ _).drew (by have:=(HOWN.out.lt b rfl).2; omega)).trans (But.setCells X 0 _)
 obtain ⟨yl,y1⟩:∃ y,w2.cell? ⟨b,n,none⟩=some y:=by
  have h1:=HO2.out.cellAt n (by omega)
  rw [List.getElem?_eq_getElem (show n < (overL (kv .i64 (x :: l)) 0 X).length by have:=HO2.out.1; omega)] at h1
  exact ⟨_,h1⟩
 have f1:w2.frozen? ⟨b,n,none⟩=false:=HO2.out.frozenAt n
 rw [← hw2]
 clear hw2 hA hnews s1 s2 s3
 have hy1:∀ j,j < 1→(w2.cell? ⟨b,n + j,none⟩).isSome=true:=fun j hj => by
  obtain rfl:j=0:=by omega
  rw [Nat.add_zero,y1]
  rfl
 have hy2:∀ j,j < 1→w2.frozen? ⟨b,n + j,none⟩=false:=fun j hj => by
  obtain rfl:j=0:=by omega
  exact f1
 have hcl:(Builtin.clear_ #[47] 0 #[.slice (some ⟨b,n,none⟩) 1 (cap - n)]).run Tryz.prog w2=.ok (.tuple #[]) (w2.setCell ⟨b,n,none⟩ (.int .i64 0)) :=
  Lib.run_clear_slice w2 47 3 0 (.int .i64 0) Tryz.underlying47 (fun w => by kernel_rfl) rfl rfl b n 1 (cap - n) (by omega) hy1 hy2
 clear hy1 hy2
 go_wp2
 go_ret
 have h3:=own_cut (HO2.out.stored n (.int .i64 0)).1
 have hx:((overL (kv .i64 (x :: l)) 0 X).set n (.int .i64 0)).take n=kv .i64 l:=by
  have hX:=HX.out
  have hl:=HL.out
  apply List.ext_getElem?
  intro j
  by_cases hj:j < n
  ·rw [List.getElem?_take,if_pos hj,List.getElem?_set_ne (by omega)]
   have:=overL_at X (kv .i64 (x :: l)) 0 j (by rw [hX]; omega) (by have:=HOWN.out.1; omega)
   rw [Nat.zero_add] at this
   rw [this,hX]
  ·rw [List.getElem?_take,if_neg hj,List.getElem?_eq_none (by omega)]
 rw [hx] at h3
 exact ⟨by first | rfl | (simp; done),h3,HB2.out.trans (But.set n _)⟩
end
section
open Go.RowKit
end
section
open Go.RowKit
set_option maxHeartbeats 400000 in
theorem law8_To (v m:Int) (w:World) :
  Calls Tryz.prog 49 #[.agg #[.int .i64 v,.int .u64 m]] w (Says (.agg #[.int .i64 v,.int .u64 m]) w):=by
 go_enter Tryz.func49,Tryz.ntmps49
 go_wp2
 exact bodyPost_ret (v:=.agg #[.int .i64 v,.int .u64 m]) (by simp [results,Tryz.results49,go_sem]) rfl ⟨rfl,(by (repeat' (first | (with_reducible exact Below.refl _ _) | (with_reducible assumption) | (with_reducible refine Below.setCell ?_ ?_ _) | (with_reducible refine Below.alloc ?_ ?_ _) | go_size)))⟩
end
section
open Go.RowKit
end
section
open Go.RowKit
end
section
open Go.RowKit
end
section
open Go.RowKit
end
section
open Go.RowKit
def R1:Nat→Pl:=(putF (fun _ => ownP pl0) ⟨1,2,3,false,5⟩ 5 1).1
def R2:Nat→Pl:=(putF (fun i => ownP (R1 i)) ⟨1,4,1,false,6⟩ 6 1).1
def g1:Nat→Nat→Pl:=updR (fun _ _ => pl0) 0 R1
def g2:Nat→Nat→Pl:=updR g1 0 R2
end
section
open Go.RowKit
set_option maxHeartbeats 800000 in
theorem law11_To (a b c:Int) (w:World) :
  Calls Tryz.prog 31 #[.agg #[.int .i64 a,.int .i64 b,.int .i64 c]] w (Says (.agg #[.int .i64 a,.int .i64 b,.int .i64 c]) w):=by
 go_enter Tryz.func31,Tryz.ntmps31
 go_wp2
 exact bodyPost_ret (v:=.agg #[.int .i64 a,.int .i64 b,.int .i64 c]) (by simp [results,Tryz.results31,go_sem]) rfl ⟨rfl,(by (repeat' (first | (with_reducible exact Below.refl _ _) | (with_reducible refine Below.setCell ?_ ?_ _) | (with_reducible refine Below.alloc ?_ ?_ _) | go_size)))⟩
end
section
open Go.RowKit
set_option maxHeartbeats 1600000 in
theorem ref11_Fix (a b c:Int) (S B n:Nat) (h1:wrap64 (1 + wrap64 ((IntKind.u64.wrap a).tmod ((8:Nat):Int)))=(S:Int)) (h2:wrap64 (1 + wrap64 ((IntKind.u64.wrap b).tmod ((16:Nat):Int)))=(B:Int)) (h3:wrap64 (1 + wrap64 ((IntKind.u64.wrap c).tmod ((8:Nat):Int)))=(n:Int)) (w:World) :
  Calls Tryz.prog 20 #[.agg #[.int .i64 a,.int .i64 b,.int .i64 c]] w (Says (.agg #[.int .i64 (S:Nat),.int .i64 (B:Nat),.int .i64 (n:Nat)]) w):=by
 rw [show ((8:Nat):Int)=8 from rfl] at h1 h3
 rw [show ((16:Nat):Int)=16 from rfl] at h2
 go_enter Tryz.func20,Tryz.ntmps20
 go_wp2
 exact bodyPost_ret (v:=.agg #[.int .i64 (S:Nat),.int .i64 (B:Nat),.int .i64 (n:Nat)]) (by simp [results,Tryz.results20,go_sem]) rfl ⟨rfl,(by (repeat' (first | (with_reducible exact Below.refl _ _) | (with_reducible refine Below.setCell ?_ ?_ _) | (with_reducible refine Below.alloc ?_ ?_ _) | go_size)))⟩
end
end Go.Proofs.YtfekhdgjgjodlaaGreat
