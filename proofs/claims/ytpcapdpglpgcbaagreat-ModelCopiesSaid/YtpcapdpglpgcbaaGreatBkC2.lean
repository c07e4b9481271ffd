/-
  Words and contracts that a statement's proof rests on (BkC2). No statement is proved here.
-/
import Derived.Deep.RegionHeld3
import Derived.Test.YtpcapdpglpgcbaaGreatBkR
import Derived.Test.YtpcapdpglpgcbaaGreatBkT
import Derived.Test.YtpcapdpglpgcbaaGreatBkL
set_option linter.unusedVariables false
set_option linter.unusedSimpArgs false
namespace Go.Proofs.YtpcapdpglpgcbaaGreat
open Go.RowKit
def clG (g:Nat→Nat→Pl):Prop:=∀ i j,ownP (g i j)=g i j
theorem own_own (x:Pl):ownP (ownP x)=ownP x:=by
 unfold ownP
 cases h:x.used <;> simp [h,pl0]
theorem updP_cl {f:Nat→Pl} {x:Pl} (h:∀ j,ownP (f j)=f j) (hx:ownP x=x) (k j:Nat):ownP (updP f k x j)=updP f k x j:=by
 unfold updP
 split
 ·exact hx
 ·exact h j
theorem put_cl {f:Nat→Pl} {e:En} {now n:Nat} (h:∀ j,ownP (f j)=f j) (j:Nat):ownP ((putF f e now n).1 j)=(putF f e now n).1 j:=by
 unfold putF
 split
 ·exact h j
 ·split
  ·split
   ·exact h j
   ·exact updP_cl h rfl _ j
  ·split
   ·exact h j
   ·exact updP_cl h rfl _ j
theorem drop_cl {f:Nat→Pl} {v:Int} {m n:Nat} (h:∀ j,ownP (f j)=f j) (j:Nat):ownP ((dropF f v m n).1 j)=(dropF f v m n).1 j:=by
 unfold dropF
 split
 ·exact h j
 ·split
  ·exact updP_cl h rfl _ j
  ·exact h j
theorem sweep_cl {f:Nat→Pl} {c:En→Bool} (h:∀ j,ownP (f j)=f j) (j:Nat):ownP (sweepF f c j)=sweepF f c j:=by
 unfold sweepF
 split
 ·rfl
 ·exact h j
theorem updR_cl {g:Nat→Nat→Pl} {f:Nat→Pl} (h:clG g) (hf:∀ j,ownP (f j)=f j) (k:Nat):clG (updR g k f):=by
 intro i j
 unfold updR
 split
 ·exact hf j
 ·exact h i j
structure CpI (w wr:World) (p S B n k:Nat) (f:Nat→Nat→Pl) (LV:Value) (vs:List Value):Prop where
 row:wr.rowIs p 129 4 (bkF S B n LV)
 own:wr.ownsRow (p + 1) 131 1 LV k vs
 rows:∀ j,j < k→∃ G cap Fv,vs[j]?=some (.slice (some ⟨G,0,none⟩) n cap)∧n≤cap∧cap≤maxLen∧wr.rowIs G 176 (cap * 6) Fv∧(∀ x,x < n * 6→Fv x=rowP (f j) x)∧p < G∧LV.ownBlock ≠ some G
 bel:Below w.heap.size w wr
set_option maxRecDepth 20000 in
set_option maxHeartbeats 3200000 in
theorem CpI.step {w wr w4 w9:World} {p S B n k c G cap:Nat} {f:Nat→Nat→Pl} {A:Option Addr} {LV:Value} {vs:List Value} {Fv:Nat→Value} (hp:p=w.heap.size) (h:CpI w wr p S B n k f LV vs) (h4:Below wr.heap.size wr w4) (hG:wr.heap.size≤G) (hr:w4.rowIs G 176 (cap * 6) Fv) (hn1:n≤cap) (hn2:cap≤maxLen) (hF:∀ x,x < n * 6→Fv x=rowP (f k) x)
  (hown:w9.ownsRow (p + 1) 131 1 (.slice A (k + 1) c) (k + 1) (vs ++ [.slice (some ⟨G,0,none⟩) n cap]))
  (hg:(w4.alloc (.cells #[.slice (some ⟨G,0,none⟩) n cap] 131)).grownBy w9 LV.ownBlock) (hat:(Value.slice A (k + 1) c).ownBlock=LV.ownBlock ∨ (Value.slice A (k + 1) c).ownBlock=some (w4.alloc (.cells #[.slice (some ⟨G,0,none⟩) n cap] 131)).heap.size) :
  CpI w (w9.setCell ⟨p,3,none⟩ (.slice A (k + 1) c)) p S B n (k + 1) f (.slice A (k + 1) c) (vs ++ [.slice (some ⟨G,0,none⟩) n cap]):=by
 have hsz:(w4.alloc (.cells #[.slice (some ⟨G,0,none⟩) n cap] 131)).heap.size=w4.heap.size + 1:=by simp
 have hB:Below wr.heap.size wr (w4.alloc (.cells #[.slice (some ⟨G,0,none⟩) n cap] 131)):=h4.alloc h4.size _
 have hov:=h.own.lt
 have hlen:=h.own.1
 have hGl:=hr.lt
 have hz4:=h4.size
 have hblk:∀ x,x < wr.heap.size→LV.ownBlock ≠ some x→w9.heap[x]?=wr.heap[x]?:=fun x hx hn => (hg.block x (by omega) (Ne.symm hn)).trans (hB.block x hx)
 have hpn:∀ x,x≤p→LV.ownBlock ≠ some x:=fun x hx e => by have:=(hov x e).1; omega
 have hlt:=h.row.lt
 have hs9:=hg.size
 have hset:∀ x,x ≠ p→(w9.setCell ⟨p,3,none⟩ (.slice A (k + 1) c)).heap[x]?=w9.heap[x]?:=fun x hx => Below.heap_setCell _ _ _ _ (by show x ≠ p; exact hx)
 refine ⟨?_,?_,?_,?_⟩
 ·exact ((h.row.of_block (hblk p hlt (hpn p (Nat.le_refl _)))).set 3 _).congr fun i hi => (by
   match i,hi with
   | 0,_ => rfl
   | 1,_ => rfl
   | 2,_ => rfl
   | 3,_ => rfl)
 ·exact ownsRow_setCell_below hown (by show p < p + 1; omega) _
 ·intro j hj
  have hap:∀ G',p < G'→G' < w4.heap.size→LV.ownBlock ≠ some G'→(Value.slice A (k + 1) c).ownBlock ≠ some G':=fun G' h1 h2 h3 => by
   rcases hat with e | e
   ·rw [e]; exact h3
   ·rw [e,hsz]; simp; omega
  rcases Nat.lt_or_ge j k with hjk | hjk
  ·obtain ⟨G',cap',Fv',g1,g5,g6,g2,g7,g3,g4⟩:=h.rows j hjk
   have hG':=g2.lt
   refine ⟨G',cap',Fv',?_,g5,g6,g2.of_block ((hset G' (by omega)).trans (hblk G' hG' g4)),g7,g3,hap G' g3 (by omega) g4⟩
   rw [List.getElem?_append_left (by omega)]; exact g1
  ·have hj':j=k:=by omega
   subst hj'
   have hnw:LV.ownBlock ≠ some G:=fun e => by have:=(hov _ e).2; omega
   refine ⟨G,cap,Fv,?_,hn1,hn2,?_,hF,by omega,hap _ (by omega) hGl hnw⟩
   ·rw [List.getElem?_append_right (by omega)]
    simp [show j - vs.length=0 by omega]
   ·have h2:=hr.alloc (.cells #[.slice (some ⟨G,0,none⟩) n cap] 131)
    exact (h2.of_block (hg.block _ (by rw [hsz]; omega) (Ne.symm hnw))).of_block (hset _ (by omega))
 ·refine (h.bel.trans ((hB.mono h.bel.size).trans ⟨hg.os,hg.tape,hg.output,hg.size,fun x hx => hg.block x (by have:=hB.size; have:=h.bel.size; omega) (Ne.symm (hpn x (by omega)))⟩)).setCell (by show w.heap.size≤p; omega) _
set_option maxRecDepth 20000 in
set_option maxHeartbeats 6400000 in
theorem ref11_Copy {w:World} {D:Nat→Prop} {p q S B n:Nat} {g:Nat→Nat→Pl} (h:BkAt w D p q S B n g) (hS:1≤S∧S≤8) (hB:1≤B∧B≤16) (hn:1≤n∧n≤8) :
  Calls Tryz.prog 69 #[.pointer (some ⟨p,0,none⟩)] w fun e w' => ∃ p2 q2,e=.returned (.pointer (some ⟨p2,0,none⟩)) ∧
   BkAt w' (fun b => b < w.heap.size ∨ b=p2 ∨ b=q2) p2 q2 S B n (fun i j => ownP (g i j))∧w.heap.size≤p2∧w.heap.size≤q2∧Below w.heap.size w w':=by
 obtain ⟨M,hM⟩:∃ M,M=S * B:=⟨_,rfl⟩
 have hMB:M≤128:=by rw [hM]; exact Nat.mul_le_mul hS.2 hB.2
 have hM1:1≤M:=by rw [hM]; exact Nat.mul_pos hS.1 hB.1
 have HM:=Lib.hid hM
 have HBK:=Lib.hid h
 have hN0:0 < n:=hn.1
 have HCP:=Lib.hid fun f w u (hr:PlRow w w.heap.size u n f) => ref10_Copy (show n≤1000000 by omega) hr (Nat.le_refl _)
 obtain ⟨hpw,hqw,hpq,s0,s1,s2,⟨cap,x1,x2,x3⟩,_,_⟩:=h
 rw [← hM] at x1 x3
 unfold maxLen at x2
 clear hM
 have HST:Hid (CpI w (w.alloc (.cells #[.int .i64 (S:Nat),.int .i64 (B:Nat),.int .i64 (n:Nat),.slice none 0 0] 129)) w.heap.size S B n 0 (fun i j => ownP (g i j)) (.slice none 0 0) []):=by
  refine ⟨?_,World.ownsRow_nil _ _ _ _,fun j hj => absurd hj (by omega),(Below.refl _ _).alloc (Nat.le_refl _) _⟩
  exact World.rowIs_alloc w #[.int .i64 (S:Nat),.int .i64 (B:Nat),.int .i64 (n:Nat),.slice none 0 0] 129 (bkF S B n (.slice none 0 0)) (fun i hi => by
   match i,hi with
   | 0,_ => rfl
   | 1,_ => rfl
   | 2,_ => rfl
   | 3,_ => rfl)
 go_enter Tryz.func69,Tryz.ntmps69
 go_wp2
 obtain ⟨c0,hc0⟩:∃ c0,c0=w.heap.size:=⟨_,rfl⟩
 rw [← hc0] at HST ⊢
 have HP:=Lib.hid hc0
 clear hc0
 go_loopw [4] (fun i wr => ∃ k:Nat,k≤M∧i=.int .i64 k∧∃ LV vs,CpI w wr c0 S B n k (fun i j => ownP (g i j)) LV vs) (fun i _ => M - (intOf i).toNat)
 case atStart => exact ⟨0,by omega,rfl,_,_,HST.out⟩
 case round =>
  obtain ⟨k,hk,rfl,LV,vs,hI⟩:=hrel
  have HI:=Lib.hid hI
  have hbl:=hI.bel
  have hpc:w.heap.size≤c0:=by have:=HP.out; omega
  obtain ⟨hpw,hqw,_,_,_,_,⟨cap',y1,y2,y3⟩,_,hrows⟩:=HBK.out.call (hbl.mono (Nat.le_refl _))
  have x3':=x3
  have x3:wr.cell? ⟨p,3,none⟩=some (.slice (some ⟨q,0,none⟩) M cap):=(hbl.cell (p:=⟨p,3,none⟩) HBK.out.1).trans x3'
  rw [← HM.out] at hrows
  have g0:(0:Int)≤(k:Int):=Int.natCast_nonneg _
  clear x3' y1 y2 y3
  by_cases hlt:k < M
  ·have g1:(k:Int) < (M:Int):=by omega
   obtain ⟨v0,hv0,hrow⟩:=hrows k hlt
   have HROW:Hid (PlRow wr.drew wr.drew.heap.size v0 n (g k)):=hrow.row.below (Below.drew (Below.refl _ _))
   have hp3:wr.cell? ⟨c0,3,none⟩=some LV:=hI.row.cell (by omega)
   have hpf:wr.frozen? ⟨c0,3,none⟩=false:=hI.row.frozen 3
   have hclt:=hI.row.lt
   clear hI HST hrow hrows hbl
   go_wp2_with fail
   refine wp_region_held_drew (S:=fun w' => w'.cell? ⟨p,3,none⟩=some (.slice (some ⟨q,0,none⟩) M cap)∧w'.cell? ⟨q,k,none⟩=some v0) (by kernel_rfl) ?_ (fun hHeld => ?_)
   ·exact ⟨x3,hv0⟩
   refine tkR 0 rfl ?_
   refine tkR 1 rfl ?_
   refine tkR 2 rfl ?_
   refine tkR 3 rfl ?_
   refine tkR 5 rfl ?_
   refine tkR 6 rfl ?_
   refine tkR 7 rfl ?_
   refine tkR 8 rfl ?_
   refine tkR 9 rfl ?_
   refine tkR 10 rfl ?_
   refine tkR 11 rfl ?_
   refine wpAnyH_ready (rs:=[4,12]) (by kernel_rfl) (by simp) ?_
   refine (acR rfl (fun K hK => ?_) (acR rfl (fun K hK => ?_) AllReadyH.nil))
   ·go_simp
    refine hK.out _ _ ?_ (fun hHeld => ?_)
    ·(try dsimp only)
     exact hHeld
    clear hK K
    (try simp only [Act.put,sqA,sqB,sqC])
    refine wpAnyH_ready (rs:=[12]) (by kernel_rfl) (by simp) ?_
    refine (acR rfl (fun K hK => ?_) AllReadyH.nil)
    go_simp
    refine Calls.mono (HCP.out _ _ _ HROW.out) ?_
    intro e w4 hpost
    obtain ⟨va,he,hra,hb'⟩:=hpost
    (try simp only [id] at he)
    subst he
    have HB4:Hid (Below wr.heap.size wr w4):=((Below.refl wr.heap.size wr).drew).trans hb'
    obtain ⟨AG,cpG,hva,hn1G,hn2G,hGG⟩:=hra
    obtain ⟨G,Fv,hAG,hGw',hrG,hFG⟩:=hGG hN0
    have hGw:wr.heap.size≤G:=hGw'
    subst hAG
    subst hva
    have hap:∀ (o1:Obj),(w4.alloc o1).cell? ⟨c0,3,none⟩=some LV:=fun o1 => ((HB4.out.alloc HB4.out.size o1).cell (p:=⟨c0,3,none⟩) hclt).trans hp3
    have haf:∀ (o1:Obj),(w4.alloc o1).frozen? ⟨c0,3,none⟩=false:=fun o1 => ((HB4.out.alloc HB4.out.size o1).frozen (p:=⟨c0,3,none⟩) hclt).trans hpf
    have hp34:w4.cell? ⟨c0,3,none⟩=some LV:=(HB4.out.cell (p:=⟨c0,3,none⟩) hclt).trans hp3
    clear hb'
    refine hK.out _ _ ?_ (fun hHeld => ?_)
    ·(try dsimp only)
     exact ⟨(HB4.out.cell (p:=⟨p,3,none⟩) hpw).trans x3,(HB4.out.cell (p:=⟨q,k,none⟩) hqw).trans hv0⟩
    clear hK K
    (try simp only [Act.put,sqA,sqB,sqC])
    refine wpAnyH_ready (rs:=[13]) (by kernel_rfl) (by simp) ?_
    refine (acR rfl (fun K hK => ?_) AllReadyH.nil)
    go_simp
    refine hK.out _ _ ?_ (fun hHeld => ?_)
    ·(try dsimp only)
     exact ⟨((HB4.out.alloc HB4.out.size _).cell (p:=⟨p,3,none⟩) hpw).trans x3,((HB4.out.alloc HB4.out.size _).cell (p:=⟨q,k,none⟩) hqw).trans hv0⟩
    clear hK K
    (try simp only [Act.put,sqA,sqB,sqC])
    refine wpAnyH_ready (rs:=[14]) (by kernel_rfl) (by simp) ?_
    refine (acR rfl (fun K hK => ?_) AllReadyH.nil)
    refine step_app _ (by rfl) stRowsR _ _ (by rfl) (c0 + 1) LV k vs (by rfl) (own_below HI.out.own (HB4.out.alloc HB4.out.size (.cells #[.slice (some ⟨G,0,none⟩) n cpG] 131))) _ _ 1 [.slice (some ⟨G,0,none⟩) n cpG] (by rfl) (Sl.lit_at (by rfl) rfl (by decide)) (by simp [Value.oneCell']) (by omega) (by have:=HB4.out.size; simp; omega) ?_
    intro v9 w9 hown9 hgr9 hat9 hbel9
    obtain ⟨A9,c9,hv9,_,_⟩:=(Sl.of_own hown9).form
    subst hv9
    have HN9:=Lib.hid (CpI.step (f:=fun i j => ownP (g i j)) HP.out HI.out HB4.out hGw hrG hn1G hn2G hFG hown9 hgr9 hat9)
    have h3p:w9.cell? ⟨c0,3,none⟩=some LV:=(hbel9.cell (p:=⟨c0,3,none⟩) (by show c0 < c0 + 1; omega)).trans (hap _)
    have h3f:w9.frozen? ⟨c0,3,none⟩=false:=(hbel9.frozen (p:=⟨c0,3,none⟩) (by show c0 < c0 + 1; omega)).trans (haf _)
    have hB9:Below w.heap.size w w9:=(HI.out.bel.trans ((HB4.out.alloc HB4.out.size (.cells #[.slice (some ⟨G,0,none⟩) n cpG] 131)).mono HI.out.bel.size)).trans (hbel9.mono (by omega))
    have hSq:∀ w',Below w.heap.size w w'→w'.cell? ⟨p,3,none⟩=some (.slice (some ⟨q,0,none⟩) M cap)∧w'.cell? ⟨q,k,none⟩=some v0:=fun w' hb => ⟨((hb.cell (p:=⟨p,3,none⟩) HBK.out.1).trans (HI.out.bel.cell (p:=⟨p,3,none⟩) HBK.out.1).symm).trans x3,((hb.cell (p:=⟨q,k,none⟩) HBK.out.2.1).trans (HI.out.bel.cell (p:=⟨q,k,none⟩) HBK.out.2.1).symm).trans hv0⟩
    have hS9q:=hSq _ HN9.out.bel
    have hS9:=hSq w9 hB9
    clear hSq hB9 hown9 hgr9 hat9 hbel9
    refine hK.out _ _ ?_ (fun hHeld => ?_)
    ·(try dsimp only)
     exact hS9
    clear hK K
    refine tkR 15 rfl ?_
    refine tkR 16 rfl ?_
    refine wpAnyH_ready (rs:=[17]) (by kernel_rfl) (by simp) ?_
    refine (acR rfl (fun K hK => ?_) AllReadyH.nil)
    go_simp
    refine hK.out _ _ ?_ (fun hHeld => ?_)
    ·(try dsimp only)
     exact hS9q
    clear hK K
    (try simp only [Act.put,sqA,sqB,sqC])
    refine wpAnyH_done (by kernel_rfl) ?_ _
    go_wp2
    go_roundw
    case rel => exact ⟨k + 1,by omega,by go_num,_,_,HN9.out⟩
    case measure => simp [intOf]; omega
   ·go_simp
    refine Calls.mono (HCP.out _ _ _ HROW.out) ?_
    intro e w4 hpost
    obtain ⟨va,he,hra,hb'⟩:=hpost
    (try simp only [id] at he)
    subst he
    have HB4:Hid (Below wr.heap.size wr w4):=((Below.refl wr.heap.size wr).drew).trans hb'
    obtain ⟨AG,cpG,hva,hn1G,hn2G,hGG⟩:=hra
    obtain ⟨G,Fv,hAG,hGw',hrG,hFG⟩:=hGG hN0
    have hGw:wr.heap.size≤G:=hGw'
    subst hAG
    subst hva
    have hap:∀ (o1:Obj),(w4.alloc o1).cell? ⟨c0,3,none⟩=some LV:=fun o1 => ((HB4.out.alloc HB4.out.size o1).cell (p:=⟨c0,3,none⟩) hclt).trans hp3
    have haf:∀ (o1:Obj),(w4.alloc o1).frozen? ⟨c0,3,none⟩=false:=fun o1 => ((HB4.out.alloc HB4.out.size o1).frozen (p:=⟨c0,3,none⟩) hclt).trans hpf
    have hp34:w4.cell? ⟨c0,3,none⟩=some LV:=(HB4.out.cell (p:=⟨c0,3,none⟩) hclt).trans hp3
    clear hb'
    refine hK.out _ _ ?_ (fun hHeld => ?_)
    ·(try dsimp only)
     exact ⟨(HB4.out.cell (p:=⟨p,3,none⟩) hpw).trans x3,(HB4.out.cell (p:=⟨q,k,none⟩) hqw).trans hv0⟩
    clear hK K
    (try simp only [Act.put,sqA,sqB,sqC])
    refine wpAnyH_ready (rs:=[4,13]) (by kernel_rfl) (by simp) ?_
    refine (acR rfl (fun K hK => ?_) (acR rfl (fun K hK => ?_) AllReadyH.nil))
    ·go_simp
     refine hK.out _ _ ?_ (fun hHeld => ?_)
     ·(try dsimp only)
      exact hHeld
     clear hK K
     (try simp only [Act.put,sqA,sqB,sqC])
     refine wpAnyH_ready (rs:=[13]) (by kernel_rfl) (by simp) ?_
     refine (acR rfl (fun K hK => ?_) AllReadyH.nil)
     go_simp
     refine hK.out _ _ ?_ (fun hHeld => ?_)
     ·(try dsimp only)
      exact ⟨((HB4.out.alloc HB4.out.size _).cell (p:=⟨p,3,none⟩) hpw).trans x3,((HB4.out.alloc HB4.out.size _).cell (p:=⟨q,k,none⟩) hqw).trans hv0⟩
     clear hK K
     (try simp only [Act.put,sqA,sqB,sqC])
     refine wpAnyH_ready (rs:=[14]) (by kernel_rfl) (by simp) ?_
     refine (acR rfl (fun K hK => ?_) AllReadyH.nil)
     refine step_app _ (by rfl) stRowsR _ _ (by rfl) (c0 + 1) LV k vs (by rfl) (own_below HI.out.own (HB4.out.alloc HB4.out.size (.cells #[.slice (some ⟨G,0,none⟩) n cpG] 131))) _ _ 1 [.slice (some ⟨G,0,none⟩) n cpG] (by rfl) (Sl.lit_at (by rfl) rfl (by decide)) (by simp [Value.oneCell']) (by omega) (by have:=HB4.out.size; simp; omega) ?_
     intro v9 w9 hown9 hgr9 hat9 hbel9
     obtain ⟨A9,c9,hv9,_,_⟩:=(Sl.of_own hown9).form
     subst hv9
     have HN9:=Lib.hid (CpI.step (f:=fun i j => ownP (g i j)) HP.out HI.out HB4.out hGw hrG hn1G hn2G hFG hown9 hgr9 hat9)
     have h3p:w9.cell? ⟨c0,3,none⟩=some LV:=(hbel9.cell (p:=⟨c0,3,none⟩) (by show c0 < c0 + 1; omega)).trans (hap _)
     have h3f:w9.frozen? ⟨c0,3,none⟩=false:=(hbel9.frozen (p:=⟨c0,3,none⟩) (by show c0 < c0 + 1; omega)).trans (haf _)
     have hB9:Below w.heap.size w w9:=(HI.out.bel.trans ((HB4.out.alloc HB4.out.size (.cells #[.slice (some ⟨G,0,none⟩) n cpG] 131)).mono HI.out.bel.size)).trans (hbel9.mono (by omega))
     have hSq:∀ w',Below w.heap.size w w'→w'.cell? ⟨p,3,none⟩=some (.slice (some ⟨q,0,none⟩) M cap)∧w'.cell? ⟨q,k,none⟩=some v0:=fun w' hb => ⟨((hb.cell (p:=⟨p,3,none⟩) HBK.out.1).trans (HI.out.bel.cell (p:=⟨p,3,none⟩) HBK.out.1).symm).trans x3,((hb.cell (p:=⟨q,k,none⟩) HBK.out.2.1).trans (HI.out.bel.cell (p:=⟨q,k,none⟩) HBK.out.2.1).symm).trans hv0⟩
     have hS9q:=hSq _ HN9.out.bel
     have hS9:=hSq w9 hB9
     clear hSq hB9 hown9 hgr9 hat9 hbel9
     refine hK.out _ _ ?_ (fun hHeld => ?_)
     ·(try dsimp only)
      exact hS9
     clear hK K
     refine tkR 15 rfl ?_
     refine tkR 16 rfl ?_
     refine wpAnyH_ready (rs:=[17]) (by kernel_rfl) (by simp) ?_
     refine (acR rfl (fun K hK => ?_) AllReadyH.nil)
     go_simp
     refine hK.out _ _ ?_ (fun hHeld => ?_)
     ·(try dsimp only)
      exact hS9q
     clear hK K
     (try simp only [Act.put,sqA,sqB,sqC])
     refine wpAnyH_done (by kernel_rfl) ?_ _
     go_wp2
     go_roundw
     case rel => exact ⟨k + 1,by omega,by go_num,_,_,HN9.out⟩
     case measure => simp [intOf]; omega
    ·go_simp
     refine hK.out _ _ ?_ (fun hHeld => ?_)
     ·(try dsimp only)
      exact ⟨((HB4.out.alloc HB4.out.size _).cell (p:=⟨p,3,none⟩) hpw).trans x3,((HB4.out.alloc HB4.out.size _).cell (p:=⟨q,k,none⟩) hqw).trans hv0⟩
     clear hK K
     (try simp only [Act.put,sqA,sqB,sqC])
     refine wpAnyH_ready (rs:=[4]) (by kernel_rfl) (by simp) ?_
     refine (acR rfl (fun K hK => ?_) AllReadyH.nil)
     go_simp
     refine hK.out _ _ ?_ (fun hHeld => ?_)
     ·(try dsimp only)
      exact hHeld
     clear hK K
     (try simp only [Act.put,sqA,sqB,sqC])
     refine wpAnyH_ready (rs:=[14]) (by kernel_rfl) (by simp) ?_
     refine (acR rfl (fun K hK => ?_) AllReadyH.nil)
     refine step_app _ (by rfl) stRowsR _ _ (by rfl) (c0 + 1) LV k vs (by rfl) (own_below HI.out.own (HB4.out.alloc HB4.out.size (.cells #[.slice (some ⟨G,0,none⟩) n cpG] 131))) _ _ 1 [.slice (some ⟨G,0,none⟩) n cpG] (by rfl) (Sl.lit_at (by rfl) rfl (by decide)) (by simp [Value.oneCell']) (by omega) (by have:=HB4.out.size; simp; omega) ?_
     intro v9 w9 hown9 hgr9 hat9 hbel9
     obtain ⟨A9,c9,hv9,_,_⟩:=(Sl.of_own hown9).form
     subst hv9
     have HN9:=Lib.hid (CpI.step (f:=fun i j => ownP (g i j)) HP.out HI.out HB4.out hGw hrG hn1G hn2G hFG hown9 hgr9 hat9)
     have h3p:w9.cell? ⟨c0,3,none⟩=some LV:=(hbel9.cell (p:=⟨c0,3,none⟩) (by show c0 < c0 + 1; omega)).trans (hap _)
     have h3f:w9.frozen? ⟨c0,3,none⟩=false:=(hbel9.frozen (p:=⟨c0,3,none⟩) (by show c0 < c0 + 1; omega)).trans (haf _)
     have hB9:Below w.heap.size w w9:=(HI.out.bel.trans ((HB4.out.alloc HB4.out.size (.cells #[.slice (some ⟨G,0,none⟩) n cpG] 131)).mono HI.out.bel.size)).trans (hbel9.mono (by omega))
     have hSq:∀ w',Below w.heap.size w w'→w'.cell? ⟨p,3,none⟩=some (.slice (some ⟨q,0,none⟩) M cap)∧w'.cell? ⟨q,k,none⟩=some v0:=fun w' hb => ⟨((hb.cell (p:=⟨p,3,none⟩) HBK.out.1).trans (HI.out.bel.cell (p:=⟨p,3,none⟩) HBK.out.1).symm).trans x3,((hb.cell (p:=⟨q,k,none⟩) HBK.out.2.1).trans (HI.out.bel.cell (p:=⟨q,k,none⟩) HBK.out.2.1).symm).trans hv0⟩
     have hS9q:=hSq _ HN9.out.bel
     have hS9:=hSq w9 hB9
     clear hSq hB9 hown9 hgr9 hat9 hbel9
     refine hK.out _ _ ?_ (fun hHeld => ?_)
     ·(try dsimp only)
      exact hS9
     clear hK K
     refine tkR 15 rfl ?_
     refine tkR 16 rfl ?_
     refine wpAnyH_ready (rs:=[17]) (by kernel_rfl) (by simp) ?_
     refine (acR rfl (fun K hK => ?_) AllReadyH.nil)
     go_simp
     refine hK.out _ _ ?_ (fun hHeld => ?_)
     ·(try dsimp only)
      exact hS9q
     clear hK K
     (try simp only [Act.put,sqA,sqB,sqC])
     refine wpAnyH_done (by kernel_rfl) ?_ _
     go_wp2
     go_roundw
     case rel => exact ⟨k + 1,by omega,by go_num,_,_,HN9.out⟩
     case measure => simp [intOf]; omega
  ·have hkM:M=k:=by omega
   subst hkM
   clear hI HST hrows hbl
   go_wp2
   go_ret
   obtain ⟨A,c,hv,hc,hcm,hA⟩:=(Sl.of_own HI.out.own).2
   subst hv
   obtain ⟨b,off,rfl,hb,_⟩:=hA (by omega)
   have hown:=HI.out.own
   have hoff:off=0:=by
    rcases hown.2 with ⟨e,_⟩ | ⟨g,cap,cur,e,_⟩
    ·injection e with e1; simp at e1
    ·injection e with e1
     injection e1 with e1
     injection e1
   subst hoff
   refine ⟨c0,b,rfl,⟨HI.out.row.lt,hb,?_,HI.out.row.cell (by omega),HI.out.row.cell (by omega),HI.out.row.cell (by omega),⟨c,by rw [← HM.out]; exact hc,hcm,by rw [← HM.out]; exact HI.out.row.cell (by omega)⟩,hown.frozenAt,fun i hi => ?_⟩,hpc,by have:=(hown.lt b rfl).1; omega,HI.out.bel⟩
   ·have:=(hown.lt b rfl).1; omega
   ·rw [← HM.out] at hi
    obtain ⟨G,cp,Fv,g1,g5,g6,g2,g7,g3,g4⟩:=HI.out.rows i hi
    refine ⟨_,(hown.cellAt i (by omega)).trans g1,some ⟨G,0,none⟩,cp,rfl,g5,g6,fun _ => ⟨G,0,rfl,g2.lt,fun hd => ?_,fun j hj => by rw [Nat.zero_add]; exact rowG_holds g2 (by omega) g7 hj⟩⟩
    rcases hd with e | e | e
    ·omega
    ·omega
    ·exact g4 (by rw [e]; rfl)
end Go.Proofs.YtpcapdpglpgcbaaGreat
