/-
  Words and contracts that a statement's proof rests on (BkK, BkL, BkM, BkN). No statement is proved here.
-/
import Derived.WalkSpells
import Derived.Deep.RegionHeld3
import Derived.Test.YtpcapdpglpgcbaaGreatBuN
import Derived.Test.YtpcapdpglpgcbaaGreatBkH
set_option linter.unusedVariables false
set_option linter.unusedSimpArgs false
namespace Go.Proofs.YtpcapdpglpgcbaaGreat
section
open Go.RowKit
def doG (K:Nat) (v:Int) (m:Nat) (port vid:Int) (now old:Nat) (S B n:Nat) (g:Nat→Nat→Pl):(Nat→Nat→Pl) × Int :=
 if K=0 then (g,portF (g (homeN v m S B)) v m n)
 else if K=3 then (updR g (homeN v m S B) (putF (fun i => ownP (g (homeN v m S B) i)) ⟨v,m,port,true,0⟩ now n).1,((putF (fun i => ownP (g (homeN v m S B) i)) ⟨v,m,port,true,0⟩ now n).2:Nat))
 else if K=4 then (updR g (homeN v m S B) (dropF (fun i => ownP (g (homeN v m S B) i)) v m n).1,if (dropF (fun i => ownP (g (homeN v m S B) i)) v m n).2=true then 1 else 0)
 else if K=5 then (if atI S B port vid < 0 then (g,0) else (updR g (atI S B port vid).toNat (ageR g (atI S B port vid).toNat now old),(ageC g (atI S B port vid).toNat now old n:Nat)))
 else if K=6 then (flG port vid g (S * B),(flC port vid g n (S * B):Nat))
 else (updR g (homeN v m S B) (putF (fun i => ownP (g (homeN v m S B) i)) ⟨v,m,port,false,now⟩ now n).1,((putF (fun i => ownP (g (homeN v m S B) i)) ⟨v,m,port,false,now⟩ now n).2:Nat))
def stG (g:Nat→Nat→Pl):Prop:=∀ i j,(g i j).e.stamp < 4294967296
theorem own_st {f:Nat→Pl} (h:∀ j,(f j).e.stamp < 4294967296) (j:Nat):(ownP (f j)).e.stamp < 4294967296:=by
 unfold ownP
 split
 ·exact h j
 ·show (0:Nat) < _; omega
theorem updP_st {f:Nat→Pl} {x:Pl} (h:∀ j,(f j).e.stamp < 4294967296) (hx:x.e.stamp < 4294967296) (k j:Nat):(updP f k x j).e.stamp < 4294967296:=by
 unfold updP
 split
 ·exact hx
 ·exact h j
theorem put_st {f:Nat→Pl} {e:En} {now n:Nat} (h:∀ j,(f j).e.stamp < 4294967296) (he:e.stamp < 4294967296) (j:Nat):((putF f e now n).1 j).e.stamp < 4294967296:=by
 unfold putF
 split
 ·exact h j
 ·split
  ·split
   ·exact h j
   ·exact updP_st h he _ j
  ·split
   ·exact h j
   ·exact updP_st h he _ j
theorem drop_st {f:Nat→Pl} {v:Int} {m n:Nat} (h:∀ j,(f j).e.stamp < 4294967296) (j:Nat):((dropF f v m n).1 j).e.stamp < 4294967296:=by
 unfold dropF
 split
 ·exact h j
 ·split
  ·exact updP_st h (by show (0:Nat) < _; omega) _ j
  ·exact h j
theorem sweep_st {f:Nat→Pl} {c:En→Bool} (h:∀ j,(f j).e.stamp < 4294967296) (j:Nat):(sweepF f c j).e.stamp < 4294967296:=by
 unfold sweepF
 split
 ·show (0:Nat) < _; omega
 ·exact h j
theorem updR_st {g:Nat→Nat→Pl} {f:Nat→Pl} (h:stG g) (hf:∀ j,(f j).e.stamp < 4294967296) (k:Nat):stG (updR g k f):=by
 intro i j
 unfold updR
 split
 ·exact hf j
 ·exact h i j
theorem doG_st (K:Nat) (v:Int) (m:Nat) (port vid:Int) (now old:Nat) (S B n:Nat) (g:Nat→Nat→Pl) (h:stG g) (hnow:now < 4294967296):stG (doG K v m port vid now old S B n g).1:=by
 unfold doG
 split
 ·exact h
 ·split
  ·exact updR_st h (put_st (own_st (h _)) (by show (0:Nat) < _; omega)) _
  ·split
   ·exact updR_st h (drop_st (own_st (h _))) _
   ·split
    ·split
     ·exact h
     ·exact updR_st h (sweep_st (own_st (h _))) _
    ·split
     ·intro i j
      show (flG port vid g (S * B) i j).e.stamp < 4294967296
      unfold flG
      split
      ·exact sweep_st (own_st (h _)) j
      ·exact h i j
     ·exact updR_st h (put_st (own_st (h _)) hnow) _
end
section
open Go.RowKit
end
section
open Go.RowKit
theorem PlRow.sl {w:World} {B n:Nat} {v:Value} {f:Nat→Pl} (h:PlRow w B v n f):Sl w B 6 v n (plc (listP f n)):=by
 obtain ⟨A,cap,hv,h1,h2,h3⟩:=h
 refine ⟨by rw [plc_length,listP_length],A,cap,hv,h1,h2,fun hn => ?_⟩
 have hn':0 < n:=by
  rcases Nat.eq_zero_or_pos n with h0 | h0
  ·subst h0; simp at hn
  ·exact h0
 obtain ⟨b,off,e,hb,hc⟩:=h3 hn'
 refine ⟨b,off,e,hb,fun j hj => ?_⟩
 have ej:j=j / 6 * 6 + j % 6:=by omega
 have hq:j / 6 < n:=by omega
 have hv2:(plc (listP f n))[j]?=((listP f n)[j / 6]?).bind fun x => x.cells[j % 6]?:=by
  have:=plc_at (listP f n) (j / 6) (j % 6) (by omega)
  rw [← ej] at this
  exact this
 rw [hv2]
 simp only [listP,List.getElem?_map,List.getElem?_range hq,Option.map_some,Option.bind_some]
 obtain ⟨c0,c1,c2,c3,c4,c5⟩:=hc (j / 6) hq
 have hadr:off + j=off + j / 6 * 6 + j % 6:=by omega
 rw [hadr]
 rcases (show j % 6=0 ∨ j % 6=1 ∨ j % 6=2 ∨ j % 6=3 ∨ j % 6=4 ∨ j % 6=5 by omega) with h | h | h | h | h | h <;> rw [h]
 ·exact c0
 ·exact c1
 ·exact c2
 ·exact c3
 ·exact c4
 ·exact c5
set_option maxRecDepth 20000 in
set_option maxHeartbeats 3200000 in
theorem clone_places {f:Nat→Pl} {n:Nat} {y:Value} {w:World} {B:Nat} (hn0:0 < n) (hn:n≤1000000) (hv:PlRow w B y n f) (hB:B≤w.heap.size) :
  Calls Tryz.prog 102 #[y] w (Gives 162 n f id w):=by
 have HS:=Lib.hid hv.sl
 obtain ⟨A,cap,rfl,h1,h2,h3⟩:=hv
 obtain ⟨b,off,rfl,hb,hc⟩:=h3 hn0
 clear h2
 obtain ⟨xs,hxs⟩:∃ xs,xs=plc (listP f n):=⟨_,rfl⟩
 have HONE:Hid (∀ u ∈ xs,u.oneCell'=true):=by rw [hxs]; exact plc_one _
 rw [← hxs] at HS
 have HX:=Lib.hid hxs
 clear h3 hc hxs
 have hnil:=fun (W:World) => Lib.run_eql_slice_nil (P:=Tryz.prog) W 133 162 (some ⟨b,off,none⟩) n cap 0 0 Tryz.underlying133
 go_enter Tryz.func102,Tryz.ntmps102
 go_wp2_with (first
  | (at_builtin; refine wpList_apv _ rfl stPlaces _ _ rfl w.heap.size (.slice (some ⟨w.heap.size,0,none⟩) 0 0) 0 [] rfl ⟨by simp,.inr ⟨w.heap.size,0,#[],rfl,Nat.le_refl _,heap_alloc_new w _,Nat.le_refl _,by simp [maxLen],by simp,by simp⟩⟩ B _ n xs rfl (HS.out.below (by (repeat' (first | (with_reducible exact Below.refl _ _) | (with_reducible refine Below.alloc ?_ ?_ _) | go_size)))) HONE.out (by omega) (by go_size) ?_; intro A2 c2 w9 hown2 hgr2 hat2 hbel2; clear hgr2 hat2))
 have HO0:w9.ownsRow w.heap.size 162 6 (.slice A2 n c2) n (plc (listP f n)):=by
  rw [← HX.out]
  simpa using hown2
 have HO:=Lib.hid HO0
 clear HO0
 have HB9:Hid (Below w.heap.size w w9):=Below.trans ((Below.refl _ _).alloc (Nat.le_refl _) _) hbel2
 clear hown2 hbel2
 go_wp2
 go_ret
 exact ⟨_,by first | rfl | (simp; done),RowOf.of_own HO.out,HB9.out⟩
set_option maxRecDepth 20000 in
set_option maxHeartbeats 3200000 in
theorem book_Bucket {w:World} {D:Nat→Prop} {p q S B n:Nat} {g:Nat→Nat→Pl} (h:BkAt w D p q S B n g) (hS:1≤S∧S≤8) (hB:1≤B∧B≤16) (hn0:0 < n) (hn:n≤8) (s t:Int) (H:Nat) (hh2:H < S * B) (ha:atI S B s t=(H:Int)) :
  Calls Tryz.prog 99 #[.pointer (some ⟨p,0,none⟩),.int .i64 s,.int .i64 t] w (Gives 162 n (g H) id w):=by
 obtain ⟨M,hM⟩:∃ M,M=S * B:=⟨_,rfl⟩
 rw [← hM] at hh2
 have hMB:M≤128:=by rw [hM]; exact Nat.mul_le_mul hS.2 hB.2
 have hhm:=fun w' (hb:Below w.heap.size w w') => book_at ((SizeOf.of h).call hb) (by omega) (by omega) (by omega) s t
 rw [ha] at hhm
 have HHM:=Lib.hid hhm
 have HBK:=Lib.hid h
 have HM:=Lib.hid hM
 have HL:=Lib.hid fun w u (hr:PlRow w w.heap.size u n (g H)) => clone_places hn0 (by omega) hr (Nat.le_refl _)
 clear hM h ha hhm
 go_enter Tryz.func99,Tryz.ntmps99
 go_wp2_with fail
 refine (HHM.out _ (Below.refl _ _)).mono ?_
 rintro e w2 ⟨rfl,hb⟩
 have HB2:Hid (Below w.heap.size w w2):=hb
 have HBK2:=Lib.hid (HBK.out.call HB2.out)
 clear hb HHM
 obtain ⟨hp,hq0,hpq,_,_,_,⟨cap,c1,c2,s2⟩,hfz,hrows⟩:=HBK2.out
 rw [← HM.out] at c1 s2 hrows
 obtain ⟨v0,s3,hrow⟩:=hrows H hh2
 unfold maxLen at c2
 have g0:(0:Int)≤(H:Int):=Int.natCast_nonneg _
 have g1:(H:Int) < (M:Int):=by omega
 have g2:¬ (H:Int) < 0:=by omega
 have HROW:=Lib.hid hrow.row
 have hz2:=HB2.out.size
 clear hrow hrows
 go_wp2_with fail
 refine Calls.mono (HL.out _ _ HROW.out) ?_
 intro e w4 hpost
 obtain ⟨va,he,hra,hb⟩:=hpost
 simp only [id] at he
 subst he
 have HRA:=Lib.hid (hra.base hz2)
 have HB4:Hid (Below w.heap.size w w4):=HB2.out.trans (hb.mono hz2)
 clear hra hb
 go_wp2
 go_ret
 exact ⟨_,rfl,HRA.out,HB4.out⟩
end
section
open Go.RowKit
set_option maxRecDepth 20000 in
set_option maxHeartbeats 12800000 in
theorem book_Copy {w:World} {D:Nat→Prop} {p q S B n:Nat} {g:Nat→Nat→Pl} (h:BkAt w D p q S B n g) (hS:1≤S∧S≤8) (hB:1≤B∧B≤16) (hn:1≤n∧n≤8) :
  Calls Tryz.prog 67 #[.pointer (some ⟨p,0,none⟩)] w fun e w' => ∃ p2 q2,e=.returned (.pointer (some ⟨p2,0,none⟩)) ∧
   BkAt w' (fun b => b≤p2) p2 q2 S B n g∧w.heap.size≤q2∧q2 < p2∧Below w.heap.size w w':=by
 obtain ⟨M,hM⟩:∃ M,M=S * B:=⟨_,rfl⟩
 have hMB:M≤128:=by rw [hM]; exact Nat.mul_le_mul hS.2 hB.2
 have HM:=Lib.hid hM
 have HBK:=Lib.hid h
 have HCL:=Lib.hid fun f w u (hr:PlRow w w.heap.size u n f) => clone_places hn.1 (by omega) hr (Nat.le_refl _)
 have hk1:=fun W => run_mkFull (P:=Tryz.prog) W stRows M (by omega)
 obtain ⟨hp,hq0,hpq,s0,s1,s2,⟨cap,c1,c2,s3⟩,_,_⟩:=h
 rw [← hM] at c1 s3
 unfold maxLen at c2
 clear hM
 go_enter Tryz.func67,Tryz.ntmps67
 go_wp2_with fail
 refine wp_region_held_drew (S:=fun w' => w'.cell? ⟨p,0,none⟩=some (.int .i64 (S:Nat))∧w'.cell? ⟨p,1,none⟩=some (.int .i64 (B:Nat))∧w'.cell? ⟨p,2,none⟩=some (.int .i64 (n:Nat))∧w'.cell? ⟨p,3,none⟩=some (.slice (some ⟨q,0,none⟩) M cap)) (by kernel_rfl) ?_ (fun hHeld => ?_)
 ·exact ⟨s0,s1,s2,s3⟩
 refine tkR 0 rfl ?_
 refine tkR 1 rfl ?_
 refine tkR 2 rfl ?_
 refine tkR 3 rfl ?_
 refine tkR 4 rfl ?_
 refine tkR 5 rfl ?_
 refine tkR 6 rfl ?_
 refine tkR 7 rfl ?_
 refine tkR 8 rfl ?_
 refine clR 9 rfl fun K hK => ?_
 go_simp
 refine hK.out _ _ ?_ (fun hHeld => ?_)
 ·(try dsimp only)
  obtain ⟨q0,q1,q2,q3⟩:=hHeld
  exact ⟨(World.cell?_alloc_lt _ _ _ (by show p < w.heap.size; omega)).trans q0,(World.cell?_alloc_lt _ _ _ (by show p < w.heap.size; omega)).trans q1,(World.cell?_alloc_lt _ _ _ (by show p < w.heap.size; omega)).trans q2,(World.cell?_alloc_lt _ _ _ (by show p < w.heap.size; omega)).trans q3⟩
 clear hK K
 refine tkR 10 rfl ?_
 refine clR 11 rfl fun K hK => ?_
 go_simp
 refine hK.out _ _ ?_ (fun hHeld => ?_)
 ·(try dsimp only)
  obtain ⟨q0,q1,q2,q3⟩:=hHeld
  exact ⟨(World.cell?_alloc_lt _ _ _ (by show p < _; simp; omega)).trans q0,(World.cell?_alloc_lt _ _ _ (by show p < _; simp; omega)).trans q1,(World.cell?_alloc_lt _ _ _ (by show p < _; simp; omega)).trans q2,(World.cell?_alloc_lt _ _ _ (by show p < _; simp; omega)).trans q3⟩
 clear hK K
 refine tkR 12 rfl ?_
 refine wpAnyH_done (by kernel_rfl) ?_ _
 obtain ⟨q2,hq2⟩:∃ q2,q2=w.heap.size:=⟨_,rfl⟩
 obtain ⟨p2,hp2⟩:∃ p2,p2=w.heap.size + 1:=⟨_,rfl⟩
 obtain ⟨w2,hw2⟩:∃ w2,w2=((w.alloc (.cells (mkC (.slice none 0 0) 1 M) 133)).alloc (.cells #[.int .i64 (S:Nat),.int .i64 (B:Nat),.int .i64 (n:Nat),.slice (some ⟨q2,0,none⟩) M M] 156)).drew:=⟨_,rfl⟩
 have HQ0:Hid (w2.rowIs q2 133 M (fun _ => .slice none 0 0)):=by rw [hw2,hq2]; exact (rowIs_nils.alloc _).drew
 have HP0:Hid (w2.cell? ⟨p2,0,none⟩=some (.int .i64 (S:Nat))∧w2.cell? ⟨p2,1,none⟩=some (.int .i64 (B:Nat))∧w2.cell? ⟨p2,2,none⟩=some (.int .i64 (n:Nat))∧w2.cell? ⟨p2,3,none⟩=some (.slice (some ⟨q2,0,none⟩) M M)):=by
  rw [hw2,hp2]
  exact ⟨by simp [go_sem],by simp [go_sem],by simp [go_sem],by simp [go_sem]⟩
 have HB2:Hid (Below w.heap.size w w2):=by rw [hw2]; exact (((Below.refl _ _).alloc (Nat.le_refl _) _).alloc (by simp) _).drew
 have hpz2:p2 < w2.heap.size:=by rw [hw2,hp2]; simp
 have hqp2:q2 + 1=p2:=by rw [hp2,hq2]
 have HW:Hid (w.heap.size=q2):=hq2.symm
 rw [← hp2,← hq2,← hw2]
 have hpl:p < q2:=by rw [hq2]; exact hp
 have hql:q < q2:=by rw [hq2]; exact hq0
 clear hw2 hp2 hHeld s0 s1 s2 hk1
 have HK2:=Lib.hid (HBK.out.call HB2.out)
 have y3:=(HB2.out.cell (p:=⟨p,3,none⟩) hp).trans s3
 clear s3 hq2
 go_wp2
 clear y3
 go_loopw [25] (fun i wr => ∃ (k:Nat) (G:Nat→Value),k≤M∧i=.int .i64 k∧p2 < wr.heap.size∧Hid (wr.rowIs q2 133 M G)∧Hid (∀ i,i < k→PlRowD wr (fun b => b≤p2) (G i) n (g i))∧Hid (wr.cell? ⟨p2,0,none⟩=some (.int .i64 (S:Nat))∧wr.cell? ⟨p2,1,none⟩=some (.int .i64 (B:Nat))∧wr.cell? ⟨p2,2,none⟩=some (.int .i64 (n:Nat))∧wr.cell? ⟨p2,3,none⟩=some (.slice (some ⟨q2,0,none⟩) M M))∧Hid (BkAt wr D p q S B n g)∧Hid (Below w.heap.size w wr)) (fun i _ => M - (intOf i).toNat)
 case atStart => exact ⟨0,_,by omega,rfl,hpz2,HQ0,fun i hi => absurd hi (by omega),HP0,HK2,HB2⟩
 case round =>
  obtain ⟨k,G,hk,rfl,hpz,HQ,HR,HP,HK,HB⟩:=hrel
  obtain ⟨t0,t1,t2,t3⟩:=HP.out
  by_cases hlt:k < M
  ·have g0:(0:Int)≤(k:Int):=Int.natCast_nonneg _
   have g1:(k:Int) < (M:Int):=by omega
   obtain ⟨v0,s3,hrow⟩:=HK.out.2.2.2.2.2.2.2.2 k (by rw [← HM.out]; exact hlt)
   have HROW:=Lib.hid hrow.row
   clear hrow
   go_wp2_with fail
   refine wp_region_held_drew (S:=fun w' => w'.cell? ⟨p2,3,none⟩=some (.slice (some ⟨q2,0,none⟩) M M)) (by kernel_rfl) ?_ (fun hHeld => ?_)
   ·exact t3
   refine tkR 0 rfl ?_
   refine tkR 1 rfl ?_
   refine tkR 2 rfl ?_
   refine tkR 3 rfl ?_
   refine tkR 4 rfl ?_
   refine tkR 5 rfl ?_
   refine clR 6 rfl fun K hK => ?_
   go_simp
   refine Calls.mono (HCL.out _ _ _ (HROW.out.below (by (repeat' (first | (with_reducible exact Below.refl _ _) | (with_reducible assumption) | (with_reducible refine Below.setCell ?_ ?_ _) | (with_reducible refine Below.alloc ?_ ?_ _) | (with_reducible refine below_drewN ?_ _) | (with_reducible refine Below.drew ?_) | go_size))))) ?_
   intro e v1 hpost
   obtain ⟨va,he,hra,hb⟩:=hpost
   simp only [id] at he
   subst he
   have HRA:=Lib.hid hra
   obtain ⟨Av,cv,hva,_⟩:=hra
   subst hva
   have hb1:Below wr.heap.size wr v1:=((Below.refl wr.heap.size wr).drew).trans hb
   have HQ1:Hid (v1.rowIs q2 133 M G):=HQ.out.of_block (hb1.block q2 (by omega))
   have y1:=HQ1.out.cell hlt
   have y2:=HQ1.out.frozen
   have hz1:=hb1.size
   refine hK.out _ _ ?_ (fun hHeld => ?_)
   ·(try dsimp only)
    exact (hb.cell (p:=⟨p2,_,none⟩) (by show p2 < wr.heap.size; omega)).trans hHeld
   clear hK K
   refine tkR 7 rfl ?_
   refine clR 8 rfl fun K hK => ?_
   go_simp
   refine hK.out _ _ ?_ (fun hHeld => ?_)
   ·(try dsimp only)
    exact ((But.set k _).cell (show p2 < v1.heap.size by omega) (show p2 ≠ q2 by omega)).trans hHeld
   clear hK K
   (try simp only [Act.put,sqA,sqB,sqC])
   refine wpAnyH_done (by kernel_rfl) ?_ _
   obtain ⟨v2,hv2⟩:∃ w',w'=v1.setCell ⟨q2,k,none⟩ (.slice Av n cv):=⟨_,rfl⟩
   have hbut:But q2 wr v2:=by rw [hv2]; exact (But.of hb1 (by omega)).trans (But.set k _)
   have HQ2:Hid (v2.rowIs q2 133 M (fun j => if j=k then .slice Av n cv else G j)):=by rw [hv2]; exact HQ1.out.set k _
   have HR2:Hid (∀ i,i < k + 1→PlRowD v2 (fun b => b≤p2) ((fun j => if j=k then .slice Av n cv else G j) i) n (g i)):=fun i hi => by
    by_cases hik:i=k
    ·show PlRowD v2 _ (if i=k then _ else _) n _
     rw [if_pos hik,hv2,hik]
     exact (PlRowD.of_own (D:=fun b => b≤p2) HRA.out (fun b hb => by show b < wr.heap.size; have:b≤p2:=hb; omega)).but (But.set k _) (by show q2≤p2; omega)
    ·show PlRowD v2 _ (if i=k then _ else _) n _
     rw [if_neg hik]
     exact (HR.out i (by omega)).but hbut (by show q2≤p2; omega)
   have cz:=hbut.below.size
   have HP2:Hid (v2.cell? ⟨p2,0,none⟩=some (.int .i64 (S:Nat))∧v2.cell? ⟨p2,1,none⟩=some (.int .i64 (B:Nat))∧v2.cell? ⟨p2,2,none⟩=some (.int .i64 (n:Nat))∧v2.cell? ⟨p2,3,none⟩=some (.slice (some ⟨q2,0,none⟩) M M)) :=
    ⟨(hbut.cell (show p2 < _ by omega) (show p2 ≠ q2 by omega)).trans t0,(hbut.cell (show p2 < _ by omega) (show p2 ≠ q2 by omega)).trans t1,(hbut.cell (show p2 < _ by omega) (show p2 ≠ q2 by omega)).trans t2,(hbut.cell (show p2 < _ by omega) (show p2 ≠ q2 by omega)).trans t3⟩
   have HB3:Hid (Below w.heap.size w v2):=HB.out.trans (hbut.below.mono (by rw [HW.out]; exact Nat.le_refl _))
   have HK3:Hid (BkAt v2 D p q S B n g):=HBK.out.call HB3.out
   rw [← hv2]
   have hpz2':p2 < v2.heap.size:=by omega
   clear hv2 hHeld y1 y2 HRA HQ1 HQ HR HP HB HK hbut hb1 hb t0 t1 t2 t3 s3 HROW
   go_wp2
   go_roundw
   case rel => exact ⟨k + 1,_,by omega,by go_num,hpz2',HQ2,HR2,HP2,HK3,HB3⟩
   case measure => simp [intOf]; omega
  ·have hkM:M=k:=by omega
   subst hkM
   go_wp2
   go_ret
   have hcap:M≤maxLen:=by unfold maxLen; omega
   refine ⟨p2,q2,rfl,⟨hpz,by omega,by omega,t0,t1,t2,⟨M,by rw [← HM.out]; exact Nat.le_refl _,hcap,?_⟩,HQ.out.frozen,fun i hi => ?_⟩,by rw [HW.out]; exact Nat.le_refl _,by omega,HB.out⟩
   ·rw [← HM.out]; exact t3
   ·rw [← HM.out] at hi
    exact ⟨_,HQ.out.cell hi,HR.out i hi⟩
end
end Go.Proofs.YtpcapdpglpgcbaaGreat
