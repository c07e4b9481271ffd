/-
  Words and contracts that a statement's proof rests on (BkT). No statement is proved here.
-/
import Derived.Deep.RegionHeld3
import Derived.Test.YthloabdfkakehaaGreatBuC
import Derived.Test.YthloabdfkakehaaGreatBkH
set_option linter.unusedVariables false
set_option linter.unusedSimpArgs false
namespace Go.Proofs.YthloabdfkakehaaGreat
open Go.RowKit
theorem stRowsR:ST Tryz.prog 97 101 (.slice none 0 0) 1 24:=ST.mk Tryz.underlying97 (by kernel_rfl) rfl (by omega) (by omega)
def bkF (S B n:Nat) (LV:Value):Nat→Value
 | 0 => .int .i64 (S:Nat)
 | 1 => .int .i64 (B:Nat)
 | 2 => .int .i64 (n:Nat)
 | _ => LV
structure NewI (w wr:World) (p S B n k:Nat) (LV:Value) (vs:List Value):Prop where
 c0:wr.cell? ⟨w.heap.size,0,none⟩=some (.int .i64 (S:Nat))
 c1:wr.cell? ⟨w.heap.size,1,none⟩=some (.int .i64 (B:Nat))
 c2:wr.cell? ⟨w.heap.size,2,none⟩=some (.int .i64 (n:Nat))
 row:wr.rowIs p 99 4 (bkF S B n LV)
 own:wr.ownsRow (p + 1) 101 1 LV k vs
 rows:∀ j,j < k→∃ G,vs[j]?=some (.slice (some ⟨G,0,none⟩) n n)∧wr.rowIs G 123 (n * 6) (rowP fun _ => pl0)∧p < G∧LV.ownBlock ≠ some G
 bel:Below w.heap.size w wr
set_option maxRecDepth 20000 in
set_option maxHeartbeats 3200000 in
theorem NewI.step {w wr w9:World} {p S B n k c:Nat} {A:Option Addr} {LV:Value} {vs:List Value} (hp:p=w.heap.size + 1) (h:NewI w wr p S B n k LV vs) (hown:w9.ownsRow (p + 1) 101 1 (.slice A (k + 1) c) (k + 1) (vs ++ [.slice (some ⟨wr.heap.size,0,none⟩) n n]))
  (hg:((wr.drew.alloc (.cells (mkC (.agg #[.bool false,.int .i64 0,.int .u64 0,.int .i64 0,.bool false,.int .u32 0]) 6 n) 123)).alloc (.cells #[.slice (some ⟨wr.heap.size,0,none⟩) n n] 101)).grownBy w9 LV.ownBlock) (hat:(Value.slice A (k + 1) c).ownBlock=LV.ownBlock ∨ (Value.slice A (k + 1) c).ownBlock=some ((wr.drew.alloc (.cells (mkC (.agg #[.bool false,.int .i64 0,.int .u64 0,.int .i64 0,.bool false,.int .u32 0]) 6 n) 123)).alloc (.cells #[.slice (some ⟨wr.heap.size,0,none⟩) n n] 101)).heap.size) :
  NewI w (w9.setCell ⟨p,3,none⟩ (.slice A (k + 1) c)) p S B n (k + 1) (.slice A (k + 1) c) (vs ++ [.slice (some ⟨wr.heap.size,0,none⟩) n n]):=by
 have hB:Below wr.heap.size wr ((wr.drew.alloc (.cells (mkC (.agg #[.bool false,.int .i64 0,.int .u64 0,.int .i64 0,.bool false,.int .u32 0]) 6 n) 123)).alloc (.cells #[.slice (some ⟨wr.heap.size,0,none⟩) n n] 101)):=(((Below.refl _ _).drew).alloc (Nat.le_refl _) _).alloc (by simp) _
 have hsz:((wr.drew.alloc (.cells (mkC (.agg #[.bool false,.int .i64 0,.int .u64 0,.int .i64 0,.bool false,.int .u32 0]) 6 n) 123)).alloc (.cells #[.slice (some ⟨wr.heap.size,0,none⟩) n n] 101)).heap.size=wr.heap.size + 2:=by simp
 have hov:=h.own.lt
 have hlen:=h.own.1
 have hblk:∀ x,x < wr.heap.size→LV.ownBlock ≠ some x→w9.heap[x]?=wr.heap[x]?:=fun x hx hn => (hg.block x (by omega) (Ne.symm hn)).trans (hB.block x hx)
 have hpn:∀ x,x≤p→LV.ownBlock ≠ some x:=fun x hx e => by have:=(hov x e).1; omega
 have hc:∀ x o,x≤p→w9.cell? ⟨x,o,none⟩=wr.cell? ⟨x,o,none⟩:=fun x o hx => World.cell?_of_block (w:=wr) (hblk x (by have:=h.row.lt; omega) (hpn x hx))
 have hlt:=h.row.lt
 have hs9:=hg.size
 have hset:∀ x,x ≠ p→(w9.setCell ⟨p,3,none⟩ (.slice A (k + 1) c)).heap[x]?=w9.heap[x]?:=fun x hx => Below.heap_setCell _ _ _ _ (by show x ≠ p; exact hx)
 have hcs:∀ x o,x≤p→x ≠ p→(w9.setCell ⟨p,3,none⟩ (.slice A (k + 1) c)).cell? ⟨x,o,none⟩=wr.cell? ⟨x,o,none⟩:=fun x o hx hn => (World.cell?_of_block (w:=w9) (hset x hn)).trans (hc x o hx)
 refine ⟨(hcs _ _ (by omega) (by omega)).trans h.c0,(hcs _ _ (by omega) (by omega)).trans h.c1,(hcs _ _ (by omega) (by omega)).trans h.c2,?_,?_,?_,?_⟩
 ·exact ((h.row.of_block (hblk p hlt (hpn p (Nat.le_refl _)))).set 3 _).congr fun i hi => (by
   match i,hi with
   | 0,_ => rfl
   | 1,_ => rfl
   | 2,_ => rfl
   | 3,_ => rfl)
 ·exact ownsRow_setCell_below hown (by show p < p + 1; omega) _
 ·intro j hj
  have hap:∀ G,p < G→G≤wr.heap.size→LV.ownBlock ≠ some G→(Value.slice A (k + 1) c).ownBlock ≠ some G:=fun G h1 h2 h3 => by
   rcases hat with e | e
   ·rw [e]; exact h3
   ·rw [e,hsz]; simp; omega
  rcases Nat.lt_or_ge j k with hjk | hjk
  ·obtain ⟨G,g1,g2,g3,g4⟩:=h.rows j hjk
   have hG:=g2.lt
   refine ⟨G,?_,g2.of_block ((hset G (by omega)).trans (hblk G hG g4)),g3,hap G g3 (by omega) g4⟩
   rw [List.getElem?_append_left (by omega)]; exact g1
  ·have hj':j=k:=by omega
   subst hj'
   have hnw:LV.ownBlock ≠ some wr.heap.size:=fun e => by have:=(hov _ e).2; omega
   refine ⟨wr.heap.size,?_,?_,hlt,hap _ hlt (Nat.le_refl _) hnw⟩
   ·rw [List.getElem?_append_right (by omega)]
    simp [show j - vs.length=0 by omega]
   ·have h1:(wr.drew.alloc (.cells (mkC (.agg #[.bool false,.int .i64 0,.int .u64 0,.int .i64 0,.bool false,.int .u32 0]) 6 n) 123)).rowIs wr.heap.size 123 (n * 6) (rowP fun _ => pl0):=rowIs_mk6 (w:=wr.drew)
    have h2:=h1.alloc (.cells #[.slice (some ⟨wr.heap.size,0,none⟩) n n] 101)
    exact (h2.of_block (hg.block _ (by rw [hsz]; omega) (Ne.symm hnw))).of_block (hset _ (by omega))
 ·refine (h.bel.trans ((hB.mono h.bel.size).trans ⟨hg.os,hg.tape,hg.output,hg.size,fun x hx => hg.block x (by have:=hB.size; have:=h.bel.size; omega) (Ne.symm (hpn x (by omega)))⟩)).setCell (by show w.heap.size≤p; omega) _
set_option maxRecDepth 20000 in
set_option maxHeartbeats 6400000 in
theorem ref11_New (S B n:Nat) (hS:1≤S∧S≤8) (hB:1≤B∧B≤16) (hn:1≤n∧n≤8) (w:World) :
  Calls Tryz.prog 31 #[.agg #[.int .i64 (S:Nat),.int .i64 (B:Nat),.int .i64 (n:Nat)]] w fun e w' => ∃ p q,e=.returned (.pointer (some ⟨p,0,none⟩)) ∧
   BkAt w' (fun b => b < w.heap.size ∨ b=p ∨ b=q) p q S B n (fun _ _ => pl0)∧w.heap.size≤p∧w.heap.size≤q∧Below w.heap.size w w':=by
 obtain ⟨M,hM⟩:∃ M,M=S * B:=⟨_,rfl⟩
 have hMB:M≤128:=by rw [hM]; exact Nat.mul_le_mul hS.2 hB.2
 have hM1:1≤M:=by rw [hM]; exact Nat.mul_pos hS.1 hB.1
 have hmul:(S:Int) * (B:Int)=(M:Int):=by rw [hM]; simp
 have HMW:Hid (wrap64 ((S:Int) * (B:Int))=(M:Int)):=by show _=_; rw [hmul]; exact IntWalk.wrap64_in _ (by omega)
 have hk2:=fun W => run_mkFull (P:=Tryz.prog) W stPlacesR n (by omega)
 have HM:=Lib.hid hM
 clear hM hmul
 have HST:Hid (NewI w ((w.alloc (.cells #[.int .i64 (S:Nat),.int .i64 (B:Nat),.int .i64 (n:Nat)] 23)).alloc (.cells #[.int .i64 (S:Nat),.int .i64 (B:Nat),.int .i64 (n:Nat),.slice none 0 0] 99)) (w.heap.size + 1) S B n 0 (.slice none 0 0) []):=by
  refine ⟨by simp [go_sem],by simp [go_sem],by simp [go_sem],?_,World.ownsRow_nil _ _ _ _,fun j hj => absurd hj (by omega),((Below.refl _ _).alloc (Nat.le_refl _) _).alloc (by simp) _⟩
  have:=World.rowIs_alloc (w.alloc (.cells #[.int .i64 (S:Nat),.int .i64 (B:Nat),.int .i64 (n:Nat)] 23)) #[.int .i64 (S:Nat),.int .i64 (B:Nat),.int .i64 (n:Nat),.slice none 0 0] 99 (bkF S B n (.slice none 0 0)) (fun i hi => by
   match i,hi with
   | 0,_ => rfl
   | 1,_ => rfl
   | 2,_ => rfl
   | 3,_ => rfl)
  simpa using this
 go_enter Tryz.func31,Tryz.ntmps31
 go_wp2
 obtain ⟨p,hp⟩:∃ p,p=w.heap.size + 1:=⟨_,rfl⟩
 rw [← hp] at HST ⊢
 have HP:=Lib.hid hp
 clear hp
 go_loopw [4] (fun i wr => ∃ k:Nat,k≤M∧i=.int .i64 k∧∃ LV vs,NewI w wr p S B n k LV vs) (fun i _ => M - (intOf i).toNat)
 case atStart => exact ⟨0,by omega,rfl,_,_,HST.out⟩
 case round =>
  obtain ⟨k,hk,rfl,LV,vs,hI⟩:=hrel
  have HI:=Lib.hid hI
  have hc0:=hI.c0
  have hc1:=hI.c1
  have hc2:=hI.c2
  have g0:(0:Int)≤(k:Int):=Int.natCast_nonneg _
  by_cases hlt:k < M
  ·have g1:(k:Int) < (M:Int):=by omega
   have hp3:wr.cell? ⟨p,3,none⟩=some LV:=hI.row.cell (by omega)
   have hpf:wr.frozen? ⟨p,3,none⟩=false:=hI.row.frozen 3
   have hplt:=hI.row.lt
   have hwz:w.heap.size < wr.heap.size:=by have:=HP.out; omega
   have hpb:w.heap.size < p:=by have:=HP.out; omega
   have hal:∀ (o1 o2:Obj),((wr.drew.alloc o1).alloc o2).cell? ⟨w.heap.size,2,none⟩=some (.int .i64 (n:Nat)):=fun o1 o2 => (World.cell?_alloc_lt _ _ _ (by simp; omega)).trans ((World.cell?_alloc_lt _ _ _ (by show w.heap.size < wr.heap.size; omega)).trans hc2)
   have hap:∀ (o1 o2:Obj),((wr.drew.alloc o1).alloc o2).cell? ⟨p,3,none⟩=some LV:=fun o1 o2 => (World.cell?_alloc_lt _ _ _ (by simp; omega)).trans ((World.cell?_alloc_lt _ _ _ (by show p < wr.heap.size; omega)).trans hp3)
   have haf:∀ (o1 o2:Obj),((wr.drew.alloc o1).alloc o2).frozen? ⟨p,3,none⟩=false:=fun o1 o2 => ((((Below.refl wr.heap.size wr).drew).alloc (Nat.le_refl _) o1).alloc (by simp) o2).frozen (p:=⟨p,3,none⟩) hplt |>.trans hpf
   have hmw:=HMW.out
   clear hI HST
   go_wp2_with fail
   clear hmw
   refine wp_region_held_drew (S:=fun w' => w'.cell? ⟨w.heap.size,2,none⟩=some (.int .i64 (n:Nat))) (by kernel_rfl) ?_ (fun hHeld => ?_)
   ·exact HI.out.c2
   refine tkR 0 rfl ?_
   refine tkR 1 rfl ?_
   refine tkR 2 rfl ?_
   refine tkR 3 rfl ?_
   refine tkR 5 rfl ?_
   refine tkR 6 rfl ?_
   refine wpAnyH_ready (rs:=[4,7]) (by kernel_rfl) (by simp) ?_
   refine (acR rfl (fun K hK => ?_) (acR rfl (fun K hK => ?_) AllReadyH.nil))
   ·go_simp
    refine hK.out _ _ ?_ (fun hHeld => ?_)
    ·(try dsimp only)
     exact hHeld
    clear hK K
    (try simp only [Act.put,sqA,sqB,sqC])
    refine wpAnyH_ready (rs:=[7]) (by kernel_rfl) (by simp) ?_
    refine (acR rfl (fun K hK => ?_) AllReadyH.nil)
    go_simp
    refine hK.out _ _ ?_ (fun hHeld => ?_)
    ·(try dsimp only)
     exact (World.cell?_alloc_lt _ _ _ (by show w.heap.size < wr.heap.size; omega)).trans hc2
    clear hK K
    (try simp only [Act.put,sqA,sqB,sqC])
    refine wpAnyH_ready (rs:=[8]) (by kernel_rfl) (by simp) ?_
    refine (acR rfl (fun K hK => ?_) AllReadyH.nil)
    go_simp
    refine hK.out _ _ ?_ (fun hHeld => ?_)
    ·(try dsimp only)
     exact hal _ _
    clear hK K
    (try simp only [Act.put,sqA,sqB,sqC])
    refine wpAnyH_ready (rs:=[9]) (by kernel_rfl) (by simp) ?_
    refine (acR rfl (fun K hK => ?_) AllReadyH.nil)
    refine step_app _ (by rfl) stRowsR _ _ (by rfl) (p + 1) LV k vs (by rfl) (own_below HI.out.own ((((Below.refl _ _).drew).alloc (Nat.le_refl _) (.cells (mkC (.agg #[.bool false,.int .i64 0,.int .u64 0,.int .i64 0,.bool false,.int .u32 0]) 6 n) 123)).alloc (by simp) (.cells #[.slice (some ⟨wr.heap.size,0,none⟩) n n] 101))) _ _ 1 [.slice (some ⟨wr.heap.size,0,none⟩) n n] (by rfl) (Sl.lit_at (by simp) rfl (by decide)) (by simp [Value.oneCell']) (by omega) (by simp; omega) ?_
    intro v9 w9 hown9 hgr9 hat9 hbel9
    obtain ⟨A9,c9,hv9,_,_⟩:=(Sl.of_own hown9).form
    subst hv9
    have HN9:=Lib.hid (NewI.step HP.out HI.out hown9 hgr9 hat9)
    have hp9:=HN9.out
    have h3c:w9.cell? ⟨w.heap.size,2,none⟩=some (.int .i64 (n:Nat)):=(hbel9.cell (p:=⟨w.heap.size,2,none⟩) (by have:=HP.out; show w.heap.size < p + 1; omega)).trans (hal _ _)
    have h3p:w9.cell? ⟨p,3,none⟩=some LV:=(hbel9.cell (p:=⟨p,3,none⟩) (by show p < p + 1; omega)).trans (hap _ _)
    have h3f:w9.frozen? ⟨p,3,none⟩=false:=(hbel9.frozen (p:=⟨p,3,none⟩) (by show p < p + 1; omega)).trans (haf _ _)
    clear hown9 hgr9 hat9 hbel9 hp9
    refine hK.out _ _ ?_ (fun hHeld => ?_)
    ·(try dsimp only)
     exact h3c
    clear hK K
    refine tkR 10 rfl ?_
    refine tkR 11 rfl ?_
    refine wpAnyH_ready (rs:=[12]) (by kernel_rfl) (by simp) ?_
    refine (acR rfl (fun K hK => ?_) AllReadyH.nil)
    go_simp
    refine hK.out _ _ ?_ (fun hHeld => ?_)
    ·(try dsimp only)
     exact HN9.out.c2
    clear hK K
    (try simp only [Act.put,sqA,sqB,sqC])
    refine wpAnyH_done (by kernel_rfl) ?_ _
    go_wp2
    go_roundw
    case rel => exact ⟨k + 1,by omega,by go_num,_,_,HN9.out⟩
    case measure => simp [intOf]; omega
   ·go_simp
    refine hK.out _ _ ?_ (fun hHeld => ?_)
    ·(try dsimp only)
     exact (World.cell?_alloc_lt _ _ _ (by show w.heap.size < wr.heap.size; omega)).trans hc2
    clear hK K
    (try simp only [Act.put,sqA,sqB,sqC])
    refine wpAnyH_ready (rs:=[4,8]) (by kernel_rfl) (by simp) ?_
    refine (acR rfl (fun K hK => ?_) (acR rfl (fun K hK => ?_) AllReadyH.nil))
    ·go_simp
     refine hK.out _ _ ?_ (fun hHeld => ?_)
     ·(try dsimp only)
      exact hHeld
     clear hK K
     (try simp only [Act.put,sqA,sqB,sqC])
     refine wpAnyH_ready (rs:=[8]) (by kernel_rfl) (by simp) ?_
     refine (acR rfl (fun K hK => ?_) AllReadyH.nil)
     go_simp
     refine hK.out _ _ ?_ (fun hHeld => ?_)
     ·(try dsimp only)
      exact hal _ _
     clear hK K
     (try simp only [Act.put,sqA,sqB,sqC])
     refine wpAnyH_ready (rs:=[9]) (by kernel_rfl) (by simp) ?_
     refine (acR rfl (fun K hK => ?_) AllReadyH.nil)
     refine step_app _ (by rfl) stRowsR _ _ (by rfl) (p + 1) LV k vs (by rfl) (own_below HI.out.own ((((Below.refl _ _).drew).alloc (Nat.le_refl _) (.cells (mkC (.agg #[.bool false,.int .i64 0,.int .u64 0,.int .i64 0,.bool false,.int .u32 0]) 6 n) 123)).alloc (by simp) (.cells #[.slice (some ⟨wr.heap.size,0,none⟩) n n] 101))) _ _ 1 [.slice (some ⟨wr.heap.size,0,none⟩) n n] (by rfl) (Sl.lit_at (by simp) rfl (by decide)) (by simp [Value.oneCell']) (by omega) (by simp; omega) ?_
     intro v9 w9 hown9 hgr9 hat9 hbel9
     obtain ⟨A9,c9,hv9,_,_⟩:=(Sl.of_own hown9).form
     subst hv9
     have HN9:=Lib.hid (NewI.step HP.out HI.out hown9 hgr9 hat9)
     have hp9:=HN9.out
     have h3c:w9.cell? ⟨w.heap.size,2,none⟩=some (.int .i64 (n:Nat)):=(hbel9.cell (p:=⟨w.heap.size,2,none⟩) (by have:=HP.out; show w.heap.size < p + 1; omega)).trans (hal _ _)
     have h3p:w9.cell? ⟨p,3,none⟩=some LV:=(hbel9.cell (p:=⟨p,3,none⟩) (by show p < p + 1; omega)).trans (hap _ _)
     have h3f:w9.frozen? ⟨p,3,none⟩=false:=(hbel9.frozen (p:=⟨p,3,none⟩) (by show p < p + 1; omega)).trans (haf _ _)
     clear hown9 hgr9 hat9 hbel9 hp9
     refine hK.out _ _ ?_ (fun hHeld => ?_)
     ·(try dsimp only)
      exact h3c
     clear hK K
     refine tkR 10 rfl ?_
     refine tkR 11 rfl ?_
     refine wpAnyH_ready (rs:=[12]) (by kernel_rfl) (by simp) ?_
     refine (acR rfl (fun K hK => ?_) AllReadyH.nil)
     go_simp
     refine hK.out _ _ ?_ (fun hHeld => ?_)
     ·(try dsimp only)
      exact HN9.out.c2
     clear hK K
     (try simp only [Act.put,sqA,sqB,sqC])
     refine wpAnyH_done (by kernel_rfl) ?_ _
     go_wp2
     go_roundw
     case rel => exact ⟨k + 1,by omega,by go_num,_,_,HN9.out⟩
     case measure => simp [intOf]; omega
    ·go_simp
     refine hK.out _ _ ?_ (fun hHeld => ?_)
     ·(try dsimp only)
      exact hal _ _
     clear hK K
     (try simp only [Act.put,sqA,sqB,sqC])
     refine wpAnyH_ready (rs:=[4]) (by kernel_rfl) (by simp) ?_
     refine (acR rfl (fun K hK => ?_) AllReadyH.nil)
     go_simp
     refine hK.out _ _ ?_ (fun hHeld => ?_)
     ·(try dsimp only)
      exact hHeld
     clear hK K
     (try simp only [Act.put,sqA,sqB,sqC])
     refine wpAnyH_ready (rs:=[9]) (by kernel_rfl) (by simp) ?_
     refine (acR rfl (fun K hK => ?_) AllReadyH.nil)
     refine step_app _ (by rfl) stRowsR _ _ (by rfl) (p + 1) LV k vs (by rfl) (own_below HI.out.own ((((Below.refl _ _).drew).alloc (Nat.le_refl _) (.cells (mkC (.agg #[.bool false,.int .i64 0,.int .u64 0,.int .i64 0,.bool false,.int .u32 0]) 6 n) 123)).alloc (by simp) (.cells #[.slice (some ⟨wr.heap.size,0,none⟩) n n] 101))) _ _ 1 [.slice (some ⟨wr.heap.size,0,none⟩) n n] (by rfl) (Sl.lit_at (by simp) rfl (by decide)) (by simp [Value.oneCell']) (by omega) (by simp; omega) ?_
     intro v9 w9 hown9 hgr9 hat9 hbel9
     obtain ⟨A9,c9,hv9,_,_⟩:=(Sl.of_own hown9).form
     subst hv9
     have HN9:=Lib.hid (NewI.step HP.out HI.out hown9 hgr9 hat9)
     have hp9:=HN9.out
     have h3c:w9.cell? ⟨w.heap.size,2,none⟩=some (.int .i64 (n:Nat)):=(hbel9.cell (p:=⟨w.heap.size,2,none⟩) (by have:=HP.out; show w.heap.size < p + 1; omega)).trans (hal _ _)
     have h3p:w9.cell? ⟨p,3,none⟩=some LV:=(hbel9.cell (p:=⟨p,3,none⟩) (by show p < p + 1; omega)).trans (hap _ _)
     have h3f:w9.frozen? ⟨p,3,none⟩=false:=(hbel9.frozen (p:=⟨p,3,none⟩) (by show p < p + 1; omega)).trans (haf _ _)
     clear hown9 hgr9 hat9 hbel9 hp9
     refine hK.out _ _ ?_ (fun hHeld => ?_)
     ·(try dsimp only)
      exact h3c
     clear hK K
     refine tkR 10 rfl ?_
     refine tkR 11 rfl ?_
     refine wpAnyH_ready (rs:=[12]) (by kernel_rfl) (by simp) ?_
     refine (acR rfl (fun K hK => ?_) AllReadyH.nil)
     go_simp
     refine hK.out _ _ ?_ (fun hHeld => ?_)
     ·(try dsimp only)
      exact HN9.out.c2
     clear hK K
     (try simp only [Act.put,sqA,sqB,sqC])
     refine wpAnyH_done (by kernel_rfl) ?_ _
     go_wp2
     go_roundw
     case rel => exact ⟨k + 1,by omega,by go_num,_,_,HN9.out⟩
     case measure => simp [intOf]; omega
  ·have hkM:M=k:=by omega
   subst hkM
   have hmw:=HMW.out
   clear hI HST
   go_wp2
   go_ret
   obtain ⟨A,c,hv,hc,hcm,hA⟩:=(Sl.of_own HI.out.own).2
   subst hv
   obtain ⟨b,off,rfl,hb,_⟩:=hA (by omega)
   have hown:=HI.out.own
   have hoff:off=0:=by
    rcases hown.2 with ⟨e,_⟩ | ⟨g,cap,cur,e,_⟩
    ·injection e with e1; simp at e1
    ·injection e with e1
     injection e1 with e1
     injection e1
   subst hoff
   refine ⟨p,b,rfl,⟨HI.out.row.lt,hb,?_,HI.out.row.cell (by omega),HI.out.row.cell (by omega),HI.out.row.cell (by omega),⟨c,by rw [← HM.out]; exact hc,hcm,by rw [← HM.out]; exact HI.out.row.cell (by omega)⟩,hown.frozenAt,fun i hi => ?_⟩,by have:=HP.out; omega,by have:=(hown.lt b rfl).1; have:=HP.out; omega,HI.out.bel⟩
   ·have:=(hown.lt b rfl).1; omega
   ·rw [← HM.out] at hi
    obtain ⟨G,g1,g2,g3,g4⟩:=HI.out.rows i hi
    refine ⟨_,(hown.cellAt i (by omega)).trans g1,some ⟨G,0,none⟩,n,rfl,Nat.le_refl _,by unfold maxLen; omega,fun _ => ⟨G,0,rfl,g2.lt,fun hd => ?_,fun j hj => by rw [Nat.zero_add]; exact rowG_holds g2 (by omega) (fun _ _ => rfl) hj⟩⟩
    rcases hd with e | e | e
    ·have:=HP.out; omega
    ·omega
    ·exact g4 (by rw [e]; rfl)
end Go.Proofs.YthloabdfkakehaaGreat
