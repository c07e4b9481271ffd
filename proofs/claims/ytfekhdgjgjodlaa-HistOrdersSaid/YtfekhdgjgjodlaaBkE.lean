/-
  Words and contracts that a statement's proof rests on (BkE). No statement is proved here.
-/
import Derived.Deep.RegionHeld3
import Derived.Test.YtfekhdgjgjodlaaVlanH
set_option linter.unusedVariables false
set_option linter.unusedSimpArgs false
namespace Go.Proofs.Ytfekhdgjgjodlaa
open Go.RowKit
theorem stRows:ST Try.prog 129 132 (.slice none 0 0) 1 24:=ST.mk Try.underlying129 (by kernel_rfl) rfl (by omega) (by omega)
theorem rowIs_nils {w:World} {M:Nat} {e:TypeId}:(w.alloc (.cells (mkC (.slice none 0 0) 1 M) e)).rowIs w.heap.size e M (fun _ => .slice none 0 0):=by
 have h:=World.rowIs_made w (.slice none 0 0) M e
 unfold mkC
 rw [Nat.mul_one]
 exact h
theorem own_nils {w:World} {M:Nat} {T:TypeId} (hM:M≤maxLen):RowOf (w.alloc (.cells (mkC (.agg #[.bool false,.int .i64 0,.int .u64 0,.int .i64 0,.bool false,.int .u32 0]) 6 M) T)) T w.heap.size (.slice (some ⟨w.heap.size,0,none⟩) M M) M (fun _ => pl0) :=
 ⟨_,M,rfl,Nat.le_refl _,hM,fun _ => ⟨w.heap.size,_,rfl,Nat.le_refl _,rowIs_mk6,fun _ _ => rfl⟩⟩
set_option maxRecDepth 20000 in
set_option maxHeartbeats 12800000 in
theorem book_New (S B n:Nat) (hS:1≤S∧S≤8) (hB:1≤B∧B≤16) (hn:1≤n∧n≤8) (w:World) :
  Calls Try.prog 49 #[.agg #[.int .i64 (S:Nat),.int .i64 (B:Nat),.int .i64 (n:Nat)]] w fun e w' => ∃ p q,e=.returned (.tuple #[.pointer (some ⟨p,0,none⟩),.int .i64 0]) ∧
   BkAt w' (fun b => b≤p) p q S B n (fun _ _ => pl0)∧w.heap.size≤p∧w.heap.size≤q∧q < p∧Below w.heap.size w w':=by
 obtain ⟨M,hM⟩:∃ M,M=S * B:=⟨_,rfl⟩
 have hMB:M≤128:=by rw [hM]; exact Nat.mul_le_mul hS.2 hB.2
 have hM1:1≤M:=by rw [hM]; exact Nat.mul_pos hS.1 hB.1
 have hmul:(S:Int) * (B:Int)=(M:Int):=by rw [hM]; simp
 have hmw:wrap64 ((S:Int) * (B:Int))=(M:Int):=by rw [hmul]; exact IntWalk.wrap64_in _ (by omega)
 have hmw3:IntKind.i64.wrap ((S:Int) * (B:Int))=(M:Int):=by rw [hmul]; exact IntWalk.i64_in _ (by omega)
 have hr:=fun W => book_Right (S:Int) (B:Int) (n:Int) W
 have hy:rightS (S:Int) (B:Int) (n:Int)=true:=by unfold rightS inB; simp; omega
 rw [hy] at hr
 have HR:=Lib.hid hr
 have HM:=Lib.hid hM
 have hk1:=fun W => run_mkFull (P:=Try.prog) W stRows M (by omega)
 have hk2:=fun W => run_mkFull (P:=Try.prog) W stPlaces n (by omega)
 clear hr hy hM hmul
 go_enter Try.func49,Try.ntmps49
 go_wp2_with fail
 refine (HR.out _).mono ?_
 rintro e w1 ⟨rfl,hb⟩
 have HB1:Hid (Below w.heap.size w w1):=Below.trans ((Below.refl _ _).alloc (Nat.le_refl _) _) (hb.mono (by simp))
 have s0:w1.cell? ⟨w.heap.size,0,none⟩=some (.int .i64 (S:Nat)):=by rw [(bcell hb).1 _ _ (by simp)]; simp [go_sem]
 have s1:w1.cell? ⟨w.heap.size,1,none⟩=some (.int .i64 (B:Nat)):=by rw [(bcell hb).1 _ _ (by simp)]; simp [go_sem]
 have s2:w1.cell? ⟨w.heap.size,2,none⟩=some (.int .i64 (n:Nat)):=by rw [(bcell hb).1 _ _ (by simp)]; simp [go_sem]
 have hz1:w.heap.size + 1≤w1.heap.size:=by have:=hb.size; simpa using this
 clear hb HR
 go_wp2_with fail
 refine wp_region_held_drew (S:=fun w' => w'.cell? ⟨w.heap.size,0,none⟩=some (.int .i64 (S:Nat))∧w'.cell? ⟨w.heap.size,1,none⟩=some (.int .i64 (B:Nat))∧w'.cell? ⟨w.heap.size,2,none⟩=some (.int .i64 (n:Nat))) (by kernel_rfl) ?_ (fun hHeld => ?_)
 ·exact ⟨s0,s1,s2⟩
 refine tkR 0 rfl ?_
 refine tkR 1 rfl ?_
 refine tkR 2 rfl ?_
 refine tkR 3 rfl ?_
 refine tkR 4 rfl ?_
 refine tkR 5 rfl ?_
 refine clR 6 rfl fun K hK => ?_
 go_simp
 refine hK.out _ _ ?_ (fun hHeld => ?_)
 ·(try dsimp only)
  obtain ⟨q0,q1,q2⟩:=hHeld
  exact ⟨(World.cell?_alloc_lt _ _ _ (by show w.heap.size < w1.heap.size; omega)).trans q0,(World.cell?_alloc_lt _ _ _ (by show w.heap.size < w1.heap.size; omega)).trans q1,(World.cell?_alloc_lt _ _ _ (by show w.heap.size < w1.heap.size; omega)).trans q2⟩
 clear hK K
 refine tkR 7 rfl ?_
 refine clR 8 rfl fun K hK => ?_
 go_simp
 refine hK.out _ _ ?_ (fun hHeld => ?_)
 ·(try dsimp only)
  obtain ⟨q0,q1,q2⟩:=hHeld
  exact ⟨(World.cell?_alloc_lt _ _ _ (by show w.heap.size < _; simp; omega)).trans q0,(World.cell?_alloc_lt _ _ _ (by show w.heap.size < _; simp; omega)).trans q1,(World.cell?_alloc_lt _ _ _ (by show w.heap.size < _; simp; omega)).trans q2⟩
 clear hK K
 refine tkR 9 rfl ?_
 refine wpAnyH_done (by kernel_rfl) ?_ _
 obtain ⟨q,hq⟩:∃ q,q=w1.heap.size:=⟨_,rfl⟩
 obtain ⟨p,hp⟩:∃ p,p=w1.heap.size + 1:=⟨_,rfl⟩
 obtain ⟨w2,hw2⟩:∃ w2,w2=((w1.alloc (.cells (mkC (.slice none 0 0) 1 M) 132)).alloc (.cells #[.int .i64 (S:Nat),.int .i64 (B:Nat),.int .i64 (n:Nat),.slice (some ⟨q,0,none⟩) M M] 131)).drew:=⟨_,rfl⟩
 have HQ0:Hid (w2.rowIs q 132 M (fun _ => .slice none 0 0)):=by rw [hw2,hq]; exact (rowIs_nils.alloc _).drew
 have HP0:Hid (w2.cell? ⟨p,0,none⟩=some (.int .i64 (S:Nat))∧w2.cell? ⟨p,1,none⟩=some (.int .i64 (B:Nat))∧w2.cell? ⟨p,2,none⟩=some (.int .i64 (n:Nat))∧w2.cell? ⟨p,3,none⟩=some (.slice (some ⟨q,0,none⟩) M M)∧w2.cell? ⟨w.heap.size,2,none⟩=some (.int .i64 (n:Nat))):=by
  rw [hw2,hp]
  refine ⟨by simp [go_sem],by simp [go_sem],by simp [go_sem],by simp [go_sem],?_⟩
  exact (World.cell?_alloc_lt _ _ _ (by show w.heap.size < _; simp; omega)).trans ((World.cell?_alloc_lt _ _ _ (by show w.heap.size < _; omega)).trans s2)
 have HB2:Hid (Below w.heap.size w w2):=by rw [hw2]; exact ((HB1.out.alloc (by omega) _).alloc (by simp; omega) _).drew
 have hp2:p < w2.heap.size:=by rw [hw2,hp]; simp
 have hpq:q + 1=p:=by rw [hp,hq]
 have hqw:w.heap.size < q:=by rw [hq]; omega
 rw [← hp,← hq,← hw2]
 clear hw2 hq hp hHeld s0 s1 s2 hk1 hmw hmw3 HB1 hz1
 obtain ⟨t0,t1,t2,t3,t4⟩:=HP0.out
 go_wp2
 clear t0 t1 t2 t3 t4
 go_loopw [23] (fun i wr => ∃ (k:Nat) (G:Nat→Value),k≤M∧i=.int .i64 k∧p < wr.heap.size∧Hid (wr.rowIs q 132 M G)∧Hid (∀ i,i < k→PlRowD wr (fun b => b≤p) (G i) n (fun _ => pl0))∧Hid (wr.cell? ⟨p,0,none⟩=some (.int .i64 (S:Nat))∧wr.cell? ⟨p,1,none⟩=some (.int .i64 (B:Nat))∧wr.cell? ⟨p,2,none⟩=some (.int .i64 (n:Nat))∧wr.cell? ⟨p,3,none⟩=some (.slice (some ⟨q,0,none⟩) M M)∧wr.cell? ⟨w.heap.size,2,none⟩=some (.int .i64 (n:Nat)))∧Hid (Below w.heap.size w wr)) (fun i _ => M - (intOf i).toNat)
 case atStart => exact ⟨0,_,by omega,rfl,hp2,HQ0,fun i hi => absurd hi (by omega),HP0,HB2⟩
 case round =>
  obtain ⟨k,G,hk,rfl,hpz,HQ,HR,HP,HB⟩:=hrel
  obtain ⟨t0,t1,t2,t3,t4⟩:=HP.out
  by_cases hlt:k < M
  ·have g0:(0:Int)≤(k:Int):=Int.natCast_nonneg _
   have g1:(k:Int) < (M:Int):=by omega
   go_wp2_with fail
   refine wp_region_held_drew (S:=fun w' => w'.cell? ⟨p,3,none⟩=some (.slice (some ⟨q,0,none⟩) M M)∧w'.cell? ⟨w.heap.size,2,none⟩=some (.int .i64 (n:Nat))) (by kernel_rfl) ?_ (fun hHeld => ?_)
   ·exact ⟨t3,t4⟩
   obtain ⟨v0,hv0⟩:∃ w',w'=wr.drew:=⟨_,rfl⟩
   have hvz:v0.heap.size=wr.heap.size:=by rw [hv0]; rfl
   have hvb:Below wr.heap.size wr v0:=by rw [hv0]; exact (Below.refl _ _).drew
   rw [← hv0] at hHeld ⊢
   clear hv0
   obtain ⟨gb,hgb⟩:∃ g',g'=wr.heap.size:=⟨_,rfl⟩
   obtain ⟨v1,hv1⟩:∃ w',w'=v0.alloc (.cells (mkC (.agg #[.bool false,.int .i64 0,.int .u64 0,.int .i64 0,.bool false,.int .u32 0]) 6 n) 140):=⟨_,rfl⟩
   have HO:Hid (RowOf v1 140 wr.heap.size (.slice (some ⟨gb,0,none⟩) n n) n (fun _ => pl0)):=by rw [hv1,hgb,← hvz]; exact own_nils (by unfold maxLen; omega)
   have hb1:Below wr.heap.size wr v1:=by rw [hv1]; exact hvb.alloc (by omega) _
   have HQ1:Hid (v1.rowIs q 132 M G):=HQ.out.of_block (hb1.block q (by omega))
   have y1:(v0.alloc (.cells (mkC (.agg #[.bool false,.int .i64 0,.int .u64 0,.int .i64 0,.bool false,.int .u32 0]) 6 n) 140)).cell? ⟨q,k,none⟩=some (G k):=by rw [← hv1]; exact HQ1.out.cell hlt
   have y2:∀ i,(v0.alloc (.cells (mkC (.agg #[.bool false,.int .i64 0,.int .u64 0,.int .i64 0,.bool false,.int .u32 0]) 6 n) 140)).frozen? ⟨q,i,none⟩=false:=fun i => by rw [← hv1]; exact HQ1.out.frozen i
   refine tkR 0 rfl ?_
   refine tkR 1 rfl ?_
   refine tkR 2 rfl ?_
   refine tkR 3 rfl ?_
   refine tkR 4 rfl ?_
   refine tkR 5 rfl ?_
   refine tkR 6 rfl ?_
   refine clR 7 rfl fun K hK => ?_
   go_simp
   refine hK.out _ _ ?_ (fun hHeld => ?_)
   ·(try dsimp only)
    obtain ⟨q0,q1⟩:=hHeld
    exact ⟨(World.cell?_alloc_lt _ _ _ (by show p < v0.heap.size; omega)).trans q0,(World.cell?_alloc_lt _ _ _ (by show w.heap.size < v0.heap.size; omega)).trans q1⟩
   clear hK K
   refine tkR 8 rfl ?_
   refine clR 9 rfl fun K hK => ?_
   go_simp
   refine hK.out _ _ ?_ (fun hHeld => ?_)
   ·(try dsimp only)
    obtain ⟨q0,q1⟩:=hHeld
    have hz1:=hb1.size
    exact ⟨((But.set k _).cell (show p < (v0.alloc _).heap.size by rw [World.size_alloc]; omega) (show p ≠ q by omega)).trans q0,((But.set k _).cell (show w.heap.size < (v0.alloc _).heap.size by rw [World.size_alloc]; omega) (show w.heap.size ≠ q by omega)).trans q1⟩
   clear hK K
   (try simp only [Act.put,sqA,sqB,sqC])
   refine wpAnyH_done (by kernel_rfl) ?_ _
   obtain ⟨v2,hv2⟩:∃ w',w'=v1.setCell ⟨q,k,none⟩ (.slice (some ⟨gb,0,none⟩) n n):=⟨_,rfl⟩
   have hbut:But q wr v2:=by rw [hv2]; exact (But.of hb1 (by omega)).trans (But.set k _)
   have HQ2:Hid (v2.rowIs q 132 M (fun j => if j=k then .slice (some ⟨gb,0,none⟩) n n else G j)):=by rw [hv2]; exact HQ1.out.set k _
   have HR2:Hid (∀ i,i < k + 1→PlRowD v2 (fun b => b≤p) ((fun j => if j=k then .slice (some ⟨gb,0,none⟩) n n else G j) i) n (fun _ => pl0)):=fun i hi => by
    by_cases hik:i=k
    ·show PlRowD v2 _ (if i=k then _ else _) n _
     rw [if_pos hik,hv2]
     exact (PlRowD.of_own (D:=fun b => b≤p) HO.out (fun b hb => by show b < wr.heap.size; have:b≤p:=hb; omega)).but (But.set k _) (by show q≤p; omega)
    ·show PlRowD v2 _ (if i=k then _ else _) n _
     rw [if_neg hik]
     exact (HR.out i (by omega)).but hbut (by show q≤p; omega)
   have c2:=hbut.below.size
   have HP2:Hid (v2.cell? ⟨p,0,none⟩=some (.int .i64 (S:Nat))∧v2.cell? ⟨p,1,none⟩=some (.int .i64 (B:Nat))∧v2.cell? ⟨p,2,none⟩=some (.int .i64 (n:Nat))∧v2.cell? ⟨p,3,none⟩=some (.slice (some ⟨q,0,none⟩) M M)∧v2.cell? ⟨w.heap.size,2,none⟩=some (.int .i64 (n:Nat))) :=
    ⟨(hbut.cell (show p < _ by omega) (show p ≠ q by omega)).trans t0,(hbut.cell (show p < _ by omega) (show p ≠ q by omega)).trans t1,(hbut.cell (show p < _ by omega) (show p ≠ q by omega)).trans t2,(hbut.cell (show p < _ by omega) (show p ≠ q by omega)).trans t3,(hbut.cell (show w.heap.size < _ by omega) (show w.heap.size ≠ q by omega)).trans t4⟩
   have HB3:Hid (Below w.heap.size w v2):=HB.out.trans (hbut.below.mono (by omega))
   try rw [← hgb]
   try rw [← hv1]
   rw [← hv2]
   have hpz2:p < v2.heap.size:=by omega
   clear hv1 hv2 hgb hHeld y1 y2 HO HQ1 HQ HR HP HB hbut hb1 hvb hvz t0 t1 t2 t3 t4
   go_wp2
   go_roundw
   case rel => exact ⟨k + 1,_,by omega,by go_num,hpz2,HQ2,HR2,HP2,HB3⟩
   case measure => simp [intOf]; omega
  ·have hkM:M=k:=by omega
   subst hkM
   go_wp2
   refine bodyPost_ret (v:=.tuple #[.pointer (some ⟨p,0,none⟩),.int .i64 0]) (by simp [results,Try.results49,go_sem]) rfl ⟨p,q,rfl,?_,by omega,by omega,by omega,HB.out⟩
   have hcap:M≤maxLen:=by unfold maxLen; omega
   refine ⟨hpz,by omega,by omega,t0,t1,t2,⟨M,by rw [← HM.out]; exact Nat.le_refl _,hcap,?_⟩,HQ.out.frozen,fun i hi => ?_⟩
   ·rw [← HM.out]; exact t3
   ·rw [← HM.out] at hi
    exact ⟨_,HQ.out.cell hi,HR.out i hi⟩
end Go.Proofs.Ytfekhdgjgjodlaa
