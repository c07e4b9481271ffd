/-
  Words and contracts that a statement's proof rests on (MsD, McA). No statement is proved here.
-/
import Derived.Test.YtpcapdpglpgcbaaGreatBkL
import Derived.Test.YtpcapdpglpgcbaaGreatMsC
import Derived.Test.YtpcapdpglpgcbaaGreatMcB
set_option linter.unusedVariables false
set_option linter.unusedSimpArgs false
namespace Go.Proofs.YtpcapdpglpgcbaaGreat
section
open Go.RowKit
theorem own_far {w w':World} {base size n:Nat} {e:TypeId} {v:Value} {xs:List Value} (h:w.ownsRow base e size v n xs) (hk:∀ b,base≤b→b < w.heap.size→w'.heap[b]?=w.heap[b]?):w'.ownsRow base e size v n xs :=
 own_low' h fun g e => hk g (h.lt g e).1 (h.lt g e).2
theorem BsAt.far {w w':World} {base N n:Nat} {v:Value} {g:Nat→Nat→Pl} (h:BsAt w base N n v g) (hk:∀ b,base≤b→b < w.heap.size→w'.heap[b]?=w.heap[b]?):BsAt w' base N n v g:=by
 obtain ⟨vs,h1,h2⟩:=h
 refine ⟨vs,own_far h1 hk,fun i hi => ?_⟩
 obtain ⟨x,hx,A,cap,hv,h3,h4,h5⟩:=h2 i hi
 refine ⟨x,hx,A,cap,hv,h3,h4,fun hn => ?_⟩
 obtain ⟨g,G,e,hg,hr,hF⟩:=h5 hn
 exact ⟨g,G,e,hg,hr.of_block (hk g hg hr.lt),hF⟩
theorem WtAt.far {w w':World} {base P k Z:Nat} {D:Nat→Nat→Prop} {R:Nat→Nat} {G:Nat→Value} {q2:Nat→Nat→Value} {qs:Nat→Nat→List Int} (h:WtAt w base P k D Z R G q2 qs) (hk:∀ b,base≤b→b < w.heap.size→w'.heap[b]?=w.heap[b]?):WtAt w' base P k D Z R G q2 qs :=
 ⟨h.z.of_block (hk _ h.lz h.z.lt),h.lz,fun i hi => by
  obtain ⟨h1,h2,h3,h4⟩:=h.row i hi
  exact ⟨h1,h2,h3.of_block (hk _ h1 h3.lt),h4⟩,fun i t hi ht hd => own_far (h.own i t hi ht hd) hk,h.ap⟩
theorem WtAt.low {w:World} {base base' P k Z:Nat} {D:Nat→Nat→Prop} {R:Nat→Nat} {G:Nat→Value} {q2:Nat→Nat→Value} {qs:Nat→Nat→List Int} (h:WtAt w base P k D Z R G q2 qs) (hb:base'≤base):WtAt w base' P k D Z R G q2 qs :=
 ⟨h.z,Nat.le_trans hb h.lz,fun i hi => ⟨Nat.le_trans hb (h.row i hi).1,(h.row i hi).2⟩,fun i t hi ht hd => own_base (h.own i t hi ht hd) hb,h.ap⟩
structure ShAt (w:World) (base P S B n nv:Nat) (sv uv bv:Value) (Z:Nat) (R:Nat→Nat) (G:Nat→Value) (q2:Nat→Nat→Value) (lv:List Vl) (st:Nat→Int × Nat) (g:Nat→Nat→Pl) (qs:Nat→Nat→List Int):Prop where
 sv:w.ownsRow base 60 2 sv P (stc st (P * 2))
 uv:w.ownsRow base 80 3 uv nv (vlc lv)
 bv:BsAt w base (S * B) n bv g
 wt:WtAt w base P P (fun _ _ => True) Z R G q2 qs
section
variable {E:Nat→Prop} {w:World} {L A S1 Q bp bq P r S B n nv:Nat} {uv:Value} {lv:List Vl} {st:Nat→Int × Nat} {g:Nat→Nat→Pl} {G:Nat→Value} {R:Nat→Nat} {qv:Nat→Nat→Value} {qs:Nat→Nat→List Int}
set_option maxRecDepth 20000 in
set_option maxHeartbeats 6400000 in
theorem model_Shape (h:MdAll E w L A S1 Q bp bq P r S B n nv uv lv st g G R qv qs) (hP:P≤64) (hnv:nv≤1000) (hS:1≤S∧S≤8) (hB:1≤B∧B≤16) (hn:1≤n∧n≤8) (hlen:∀ i j,i < P→j < P→(qs i j).length≤1000000) :
  Calls Tryz.prog 54 #[.pointer (some ⟨A,0,none⟩)] w fun e w' => ∃ sv u2 bv Z R2 G2 q2,e=.returned (.agg #[sv,u2,bv,.slice (some ⟨Z,0,none⟩) P P])∧ShAt w' w.heap.size P S B n nv sv u2 bv Z R2 G2 q2 lv st g qs∧Below w.heap.size w w':=by
 have HN:=Lib.hid fun w' (hb:Below w.heap.size w w') => model_isNone (h.call hb).md
 have HC1:=Lib.hid fun w' (hb:Below w.heap.size w w') => clone_stands (by omega) (sl_stands (h.call hb).md.stands (h.call hb).md.cs) (stc_one st (P * 2)) (Nat.le_refl _)
 have HC2:=Lib.hid fun w' (hb:Below w.heap.size w w') => model_Vlans (h.call hb).md hnv
 have HC3:=Lib.hid fun w' (hb:Below w.heap.size w w') => model_buckets (h.call hb) hS hB hn
 have HC4:=Lib.hid fun w' (hb:Below w.heap.size w w') => model_waiting (h.call hb) hP hlen
 have HA:Hid (∀ w',Below w.heap.size w w'→w'.cell? ⟨A,1,none⟩=some (.slice (some ⟨S1,0,none⟩) P (capV (G 100)))):=fun w' hb => (h.call hb).md.cells.cell (by omega)
 obtain ⟨W1,hW1⟩:∃ z,z=w.alloc (.cells #[.slice none 0 0,.slice none 0 0,.slice none 0 0,.slice none 0 0] 123):=⟨_,rfl⟩
 have HBOX:Hid (∀ w',Below (w.heap.size + 1) W1 w'→(w'.cell? ⟨w.heap.size,0,none⟩=some (.slice none 0 0)∧w'.cell? ⟨w.heap.size,1,none⟩=some (.slice none 0 0)∧w'.cell? ⟨w.heap.size,2,none⟩=some (.slice none 0 0)∧w'.cell? ⟨w.heap.size,3,none⟩=some (.slice none 0 0))∧∀ o,w'.frozen? ⟨w.heap.size,o,none⟩=false):=fun w' hb => by
  rw [hW1] at hb
  refine ⟨⟨?_,?_,?_,?_⟩,fun o => ?_⟩
  all_goals first | rw [hb.cell (by show w.heap.size < _; omega)] | rw [hb.frozen (p:=⟨w.heap.size,o,none⟩) (by show w.heap.size < _; omega)]
  all_goals simp [go_sem]
 have hz1:W1.heap.size=w.heap.size + 1:=by rw [hW1,World.size_alloc]
 have HLOW:Hid (∀ w',Below (w.heap.size + 1) W1 w'→Below w.heap.size w w'):=fun w' hb => by
  rw [hW1] at hb
  exact ((Below.refl w.heap.size w).alloc (Nat.le_refl _) _).trans (hb.mono (by omega))
 have hq:Below (w.heap.size + 1) W1 W1:=Below.refl _ _
 have HUP:Hid (∀ w' w'',Below (w.heap.size + 1) W1 w'→Below w'.heap.size w' w''→Below (w.heap.size + 1) W1 w''):=fun w' w'' h1 h2 => h1.trans (h2.mono (by have:=h1.size; omega))
 have HSZ:Hid (∀ w',Below (w.heap.size + 1) W1 w'→w.heap.size + 1≤w'.heap.size):=fun w' hb => by have:=hb.size; omega
 clear h hlen
 go_enter Tryz.func54,Tryz.ntmps54
 go_upto_region 1 with fail
 rw [← hW1]
 clear hW1 hz1
 go_wp2_with (first
  | (go_at_call 28; (with_reducible refine Calls.mono (HN.out _ (HLOW.out _ hq)) ?_); rintro e wa ⟨rfl,hba⟩; (have hq:=HUP.out _ _ hq hba); (have c1:=HA.out _ (HLOW.out _ hq)); clear hba)
  | (go_at_call 66; (with_reducible refine Calls.mono (HC1.out _ (HLOW.out _ hq)) ?_); rintro e ws ⟨sv,rfl,hs,hbs⟩; (obtain ⟨As,cs,hx,_,_⟩:=(Sl.of_own hs).form); subst hx; (have HS:=Lib.hid (own_base hs (HSZ.out _ hq))); (have hq:=HUP.out _ _ hq hbs); clear hs hbs)
  | (go_at_call 55; (with_reducible refine Calls.mono (HC2.out _ (HLOW.out _ hq)) ?_); rintro e wu ⟨u2,rfl,hu,hbu⟩; (obtain ⟨Au,cu,hx,_,_⟩:=(Sl.of_own hu).form); subst hx; (have HS1:=Lib.hid (own_below HS.out hbu)); (have HU:=Lib.hid (own_base hu (HSZ.out _ hq))); (have hq:=HUP.out _ _ hq hbu); clear hu hbu)
  | (go_at_call 98; (with_reducible refine Calls.mono (HC3.out _ (HLOW.out _ hq)) ?_); rintro e wb ⟨bv,rfl,hbk,hbb⟩; (obtain ⟨vs9,hvs9,_⟩:=id hbk); (obtain ⟨Ab,cb,hx,_,_⟩:=(Sl.of_own hvs9).form); subst hx; clear hvs9; (have HS2:=Lib.hid (own_below HS1.out hbb)); (have HU1:=Lib.hid (own_below HU.out hbb)); (have HK:=Lib.hid (hbk.low (HSZ.out _ hq))); (have hq:=HUP.out _ _ hq hbb); clear hbk hbb)
  | (go_at_call 68; (with_reducible refine Calls.mono (HC4.out _ (HLOW.out _ hq)) ?_); rintro e ww ⟨Z,R2,G2,q2,rfl,hw,hbw⟩; (have HS3:=Lib.hid (own_below HS2.out hbw)); (have HU2:=Lib.hid (own_below HU1.out hbw)); (have HK1:=Lib.hid (HK.out.below hbw)); (have HW:=Lib.hid (hw.low (HSZ.out _ hq))); (have hq:=HUP.out _ _ hq hbw); (obtain ⟨⟨r0,r1,r2,r3⟩,rf⟩:=HBOX.out _ hq); (have f0:=rf 0); (have f1:=rf 1); (have f2:=rf 2); (have f3:=rf 3); clear hw hbw rf)
  | fail)
 have HQ:=Lib.hid hq
 have hk:∀ {x0 x1 x2 x3:Value},∀ b,w.heap.size + 1≤b→b < ww.heap.size→((((ww.setCell ⟨w.heap.size,0,none⟩ x0).setCell ⟨w.heap.size,1,none⟩ x1).setCell ⟨w.heap.size,2,none⟩ x2).setCell ⟨w.heap.size,3,none⟩ x3).heap[b]?=ww.heap[b]?:=fun b hb _ => by
  have hne:b ≠ w.heap.size:=by omega
  rw [heap_setCell_far _ _ _ (by exact hne),heap_setCell_far _ _ _ (by exact hne),heap_setCell_far _ _ _ (by exact hne),heap_setCell_far _ _ _ (by exact hne)]
 have hlb:∀ {x0 x1 x2 x3:Value},Below w.heap.size w ((((ww.setCell ⟨w.heap.size,0,none⟩ x0).setCell ⟨w.heap.size,1,none⟩ x1).setCell ⟨w.heap.size,2,none⟩ x2).setCell ⟨w.heap.size,3,none⟩ x3):=((((HLOW.out _ HQ.out).setCell (Nat.le_refl _) _).setCell (Nat.le_refl _) _).setCell (Nat.le_refl _) _).setCell (Nat.le_refl _) _
 exact bodyPost_ret (v:=.agg #[.slice As P cs,.slice Au nv cu,.slice Ab (S * B) cb,.slice (some ⟨Z,0,none⟩) P P]) (by simp [results,Tryz.results54,go_sem,r0,r1,r2,r3]) rfl ⟨_,_,_,_,R2,G2,q2,rfl,⟨own_base (own_far HS3.out hk) (by omega),own_base (own_far HU2.out hk) (by omega),(HK1.out.far hk).low (by omega),(HW.out.far hk).low (by omega)⟩,hlb⟩
end
end
section
open Go.RowKit
theorem MdAll.of_copy {E:Nat→Prop} {w:World} {L A S1 Q bp bq hN P r S B n nv:Nat} {uv:Value} {lv:List Vl} {st:Nat→Int × Nat} {g:Nat→Nat→Pl} {G:Nat→Value} {R:Nat→Nat} {qv:Nat→Nat→Value} {qs:Nat→Nat→List Int} (hm:MdAt w L A S1 Q uv (.pointer (some ⟨bp,0,none⟩)) P r nv lv st G) (hq:QuAt w L P R G qv qs) (hk:BkAt w (fun b => b≤bp ∨ hN≤b) bp bq S B n g) (hL:L≤bq) (h4:bq < bp) (h5:bp < hN)
  (hA:A < bq ∨ hN≤A) (hS:S1 < bq ∨ hN≤S1) (hQ:Q < bq ∨ hN≤Q) (hu:∀ b,uv.ownBlock=some b→b < bq ∨ hN≤b) (hR:∀ i,i < P→hN≤R i) (hv:∀ i j,i < P→j < P→∀ b,(qv i j).ownBlock=some b→hN≤b) (hE:∀ b,E b→b < L):MdAll E w L A S1 Q bp bq P r S B n nv uv lv st g G R qv qs:=by
 have hbp:=hk.1
 have hblk:∀ b,MdBlk A S1 Q P uv R qv b→(b < bq ∨ hN≤b)∧b < w.heap.size∧L≤b:=fun b hc => by
  rcases hc with (rfl | rfl | rfl | hc) | ⟨i,hi,rfl | ⟨j,hj,hc⟩⟩
  ·exact ⟨hA,hm.cells.lt,hm.la⟩
  ·exact ⟨hS,hm.stands.lt,hm.ls⟩
  ·exact ⟨hQ,hm.queues.lt,hm.lq⟩
  ·exact ⟨hu b hc,(hm.vlans.lt b hc).2,(hm.vlans.lt b hc).1⟩
  ·exact ⟨.inr (hR i hi),(hq.row i hi).lt,hq.low i hi⟩
  ·exact ⟨.inr (hv i j hi hj b hc),((hq.own i j hi hj).lt b hc).2,((hq.own i j hi hj).lt b hc).1⟩
 refine ⟨hm,hq,hL,fun b => b < w.heap.size∧(b≤bp ∨ hN≤b),hk.domM fun b _ hd => hd.2,fun b hd => hd.1,⟨hk.2.1,.inl (by omega)⟩,fun b hc => ?_,fun b he => ?_⟩
 ·obtain ⟨h1,h2,h3⟩:=hblk b hc
  exact ⟨⟨h2,by omega⟩,by omega,by omega⟩
 ·have h9:=hE b he
  refine ⟨⟨by omega,.inl (by omega)⟩,by omega,by omega,fun hc => ?_⟩
  have:=(hblk b hc).2.2
  omega
section
variable {E:Nat→Prop} {w:World} {L A S1 Q bp bq P r S B n nv:Nat} {uv:Value} {lv:List Vl} {st:Nat→Int × Nat} {g:Nat→Nat→Pl} {G:Nat→Value} {R:Nat→Nat} {qv:Nat→Nat→Value} {qs:Nat→Nat→List Int}
set_option maxRecDepth 20000 in
set_option maxHeartbeats 6400000 in
theorem model_Copy (h:MdAll E w L A S1 Q bp bq P r S B n nv uv lv st g G R qv qs) (hP:1≤P∧P≤64) (hnv:nv≤1000) (hS:1≤S∧S≤8) (hB:1≤B∧B≤16) (hn:1≤n∧n≤8) (hlen:∀ i j,i < P→j < P→(qs i j).length≤1000000) :
  Calls Tryz.prog 16 #[.pointer (some ⟨A,0,none⟩)] w fun e w' => ∃ (A2 S2 Q2 bp2 bq2:Nat) (u2:Value) (G2:Nat→Value) (R2:Nat→Nat) (q2:Nat→Nat→Value),e=.returned (.pointer (some ⟨A2,0,none⟩))∧MdAll (fun b => b < w.heap.size) w' w.heap.size A2 S2 Q2 bp2 bq2 P r S B n nv u2 lv st g G2 R2 q2 qs∧Below w.heap.size w w':=by
 have HN:=Lib.hid fun w' (hb:Below w.heap.size w w') => model_isNone (h.call hb).md
 have HC1:=Lib.hid fun w' (hb:Below w.heap.size w w') => clone_stands (by omega) (sl_stands (h.call hb).md.stands (h.call hb).md.cs) (stc_one st (P * 2)) (Nat.le_refl _)
 have HC2:=Lib.hid fun w' (hb:Below w.heap.size w w') => model_Vlans (h.call hb).md hnv
 have HC3:Hid (∀ w',Below w.heap.size w w'→Calls Tryz.prog 67 #[.pointer (some ⟨bp,0,none⟩)] w' fun e w2 => ∃ p2 q2,e=.returned (.pointer (some ⟨p2,0,none⟩))∧BkAt w2 (fun b => b≤p2) p2 q2 S B n g∧w'.heap.size≤q2∧q2 < p2∧Below w'.heap.size w' w2):=fun w' hb => by
  obtain ⟨D,hd,_⟩:=(h.call hb).bk
  exact book_Copy hd hS hB hn
 have HC4:=Lib.hid fun w' (hb:Below w.heap.size w w') => model_waiting (h.call hb) hP.2 hlen
 have HA:Hid (∀ w',Below w.heap.size w w'→w'.cell? ⟨A,0,none⟩=some (.int .i64 (r:Nat))∧w'.cell? ⟨A,1,none⟩=some (.slice (some ⟨S1,0,none⟩) P (capV (G 100)))∧w'.cell? ⟨A,3,none⟩=some (.pointer (some ⟨bp,0,none⟩))):=fun w' hb => by
  have hc:=(h.call hb).md.cells
  exact ⟨hc.cell (by omega),hc.cell (by omega),hc.cell (by omega)⟩
 clear h hlen
 go_enter Tryz.func16,Tryz.ntmps16
 go_wp2_with (first
  | (go_at_call 28; (with_reducible refine Calls.mono (HN.out _ (Below.refl _ _)) ?_); rintro e wa ⟨rfl,hba⟩; (have HBa:=Lib.hid hba); clear hba)
  | fail)
 refine wp_region_held_drew (S:=fun w' => w'.cell? ⟨A,0,none⟩=some (.int .i64 (r:Nat))∧w'.cell? ⟨A,1,none⟩=some (.slice (some ⟨S1,0,none⟩) P (capV (G 100)))∧w'.cell? ⟨A,3,none⟩=some (.pointer (some ⟨bp,0,none⟩))) (by kernel_rfl) ?_ (fun hHeld => ?_)
 ·exact HA.out _ HBa.out.drew
 obtain ⟨v0,hv0⟩:∃ w',w'=wa.drew:=⟨_,rfl⟩
 have HB0:Hid (Below w.heap.size w v0):=by rw [hv0]; exact Lib.hid HBa.out.drew
 rw [← hv0] at hHeld ⊢
 clear hv0
 refine tkR 0 rfl ?_
 refine tkR 1 rfl ?_
 refine tkR 2 rfl ?_
 refine tkR 3 rfl ?_
 refine tkR 4 rfl ?_
 refine tkR 5 rfl ?_
 refine tkR 6 rfl ?_
 refine tkR 7 rfl ?_
 refine tkR 9 rfl ?_
 refine tkR 11 rfl ?_
 refine tkR 12 rfl ?_
 refine tkR 13 rfl ?_
 refine tkR 14 rfl ?_
 refine tkR 16 rfl ?_
 refine clR 8 rfl fun K hK => ?_
 go_simp
 refine Calls.mono (HC1.out _ HB0.out) ?_
 rintro e ws ⟨sv,rfl,hs,hbs⟩
 obtain ⟨S2,cS,hx,hcs1,hcs2,hS2,hSt⟩:=own_rowH (f:=rowS st) (own_base hs HB0.out.size) (by omega) (fun i hi => stc_at st hi)
 subst hx
 have HSt:=Lib.hid hSt
 have HB1:Hid (Below w.heap.size w ws):=HB0.out.trans (hbs.mono HB0.out.size)
 have hS2z:S2 < ws.heap.size:=hSt.lt
 clear hs hbs hSt
 refine hK.out _ _ ?_ (fun hHeld => ?_)
 ·(try dsimp only)
  exact HA.out _ HB1.out
 clear hK K
 (try simp only [Act.put,sqA,sqB,sqC])
 refine clR 10 rfl fun K hK => ?_
 go_simp
 refine Calls.mono (HC2.out _ HB1.out) ?_
 rintro e wu ⟨u2,rfl,hu,hbu⟩
 obtain ⟨Au,cu,hx,_,_⟩:=(Sl.of_own hu).form
 subst hx
 have HSt1:=Lib.hid (HSt.out.of_block (hbu.block _ HSt.out.lt))
 have HU:=Lib.hid (own_base hu HB1.out.size)
 have HB2:Hid (Below w.heap.size w wu):=HB1.out.trans (hbu.mono HB1.out.size)
 have hzu:ws.heap.size≤wu.heap.size:=hbu.size
 clear hu hbu
 refine hK.out _ _ ?_ (fun hHeld => ?_)
 ·(try dsimp only)
  exact HA.out _ HB2.out
 clear hK K
 (try simp only [Act.put,sqA,sqB,sqC])
 refine clR 15 rfl fun K hK => ?_
 go_simp
 refine Calls.mono (HC3.out _ HB2.out) ?_
 rintro e wb ⟨p2,q2,rfl,hk,hq1,hq2,hbb⟩
 have HSt2:=Lib.hid (HSt1.out.of_block (hbb.block _ HSt1.out.lt))
 have HU1:=Lib.hid (own_below HU.out hbb)
 have HUz:Hid (∀ b,(Value.slice Au nv cu).ownBlock=some b→b < wu.heap.size):=fun b hb => (HU.out.lt b hb).2
 have HK:=Lib.hid hk
 have HB3:Hid (Below w.heap.size w wb):=HB2.out.trans (hbb.mono HB2.out.size)
 have hzb:wu.heap.size≤wb.heap.size:=hbb.size
 have hp2:p2 < wb.heap.size:=hk.1
 clear hk hbb
 refine hK.out _ _ ?_ (fun hHeld => ?_)
 ·(try dsimp only)
  exact HA.out _ HB3.out
 clear hK K
 (try simp only [Act.put,sqA,sqB,sqC])
 refine clR 17 rfl fun K hK => ?_
 go_simp
 refine Calls.mono (HC4.out _ HB3.out) ?_
 rintro e ww ⟨Z,R2,G2,qw,rfl,hw,hbw⟩
 have HSt3:=Lib.hid (HSt2.out.of_block (hbw.block _ HSt2.out.lt))
 have HU2:=Lib.hid (own_below HU1.out hbw)
 have HW:=Lib.hid hw
 have HB4:Hid (Below w.heap.size w ww):=HB3.out.trans (hbw.mono HB3.out.size)
 have hzw:wb.heap.size≤ww.heap.size:=hbw.size
 have hbw':=Lib.hid hbw
 clear hw hbw
 refine hK.out _ _ ?_ (fun hHeld => ?_)
 ·(try dsimp only)
  exact HA.out _ HB4.out
 clear hK K
 refine tkR 18 rfl ?_
 refine clR 19 rfl fun K hK => ?_
 go_simp
 refine hK.out _ _ ?_ (fun hHeld => ?_)
 ·(try dsimp only)
  exact HA.out _ (HB4.out.alloc HB4.out.size _)
 clear hK K
 refine tkR 20 rfl ?_
 refine wpAnyH_done (by kernel_rfl) ?_ _
 obtain ⟨A2,hA2⟩:∃ o,o=ww.heap.size:=⟨_,rfl⟩
 obtain ⟨wf,hwf⟩:∃ x,x=ww.alloc (.cells #[.int .i64 (r:Nat),.slice (some ⟨S2,0,none⟩) P cS,.slice Au nv cu,.pointer (some ⟨p2,0,none⟩),.slice (some ⟨Z,0,none⟩) P P] 84):=⟨_,rfl⟩
 have hbf:Below ww.heap.size ww wf:=by rw [hwf]; exact (Below.refl _ _).alloc (Nat.le_refl _) _
 have HBF:Hid (Below w.heap.size w wf):=HB4.out.trans (hbf.mono HB4.out.size)
 have hcl:wf.rowIs A2 84 5 (mdF r (.slice (some ⟨S2,0,none⟩) P cS) (.slice Au nv cu) (.pointer (some ⟨p2,0,none⟩)) (.slice (some ⟨Z,0,none⟩) P P)):=⟨_,by rw [hwf,hA2]; exact heap_alloc_new _ _,rfl,fun i hi => (by
  match i,hi with
  | 0,_ => rfl
  | 1,_ => rfl
  | 2,_ => rfl
  | 3,_ => rfl
  | 4,_ => rfl)⟩
 have hwt:=HW.out.call hbf
 obtain ⟨Gf,hGf⟩:∃ F:Nat→Value,F=(fun j => if j=100 then .slice none P cS else G2 j):=⟨_,rfl⟩
 have hg1:Gf 100=.slice none P cS:=by rw [hGf]; exact if_pos rfl
 have hgc:∀ i,i < P→Gf i=G2 i:=fun i hi => by rw [hGf]; exact if_neg (by omega)
 have hzf:ww.heap.size < wf.heap.size:=by rw [hwf]; simp
 have HMd:Hid (MdAt wf w.heap.size A2 S2 Z (.slice Au nv cu) (.pointer (some ⟨p2,0,none⟩)) P r nv lv st Gf):=⟨by rw [hA2]; exact HB4.out.size,hS2,Nat.le_trans HB3.out.size hwt.lz,by rw [hg1]; exact hcl,HSt3.out.of_block (hbf.block _ HSt3.out.lt),own_below HU2.out hbf,hwt.z.congr (fun i hi => (hgc i hi).symm),by rw [hg1]; exact ⟨hcs1,hcs2⟩⟩
 have HQu:Hid (QuAt wf w.heap.size P R2 Gf qw qs):=⟨fun i hi => Nat.le_trans HB3.out.size (hwt.row i hi).1,fun i hi => by rw [hgc i hi,(hwt.row i hi).2.1]; rfl,fun i hi => by rw [hgc i hi,(hwt.row i hi).2.1]; exact (hwt.row i hi).2.2.1,fun i j hi hj hne => by
  rcases Nat.lt_or_ge i j with h | h
  ·have:=(hwt.row j hj).2.2.2 i h; omega
  ·have:=(hwt.row i hi).2.2.2 j (by omega); omega,fun i j hi hj => own_base (hwt.own i j hi hj trivial) HB3.out.size,fun i j i' j' hi hj hi' hj' hne => hwt.ap i j i' j' hi hj trivial hi' hj' trivial hne,fun i hi => by rw [hgc i hi,(hwt.row i hi).2.1]; exact Nat.le_refl _⟩
 have HF:=Lib.hid (MdAll.of_copy (E:=fun b => b < w.heap.size) (hN:=wb.heap.size) HMd.out HQu.out ((HK.out.grow (hbw'.out.trans (hbf.mono hzw))).domM fun b hlt hd => hd.imp id fun h => ⟨h,hlt⟩) (Nat.le_trans HB2.out.size hq1) hq2 hp2 (.inr (by rw [hA2]; exact hzw)) (.inl (by omega)) (.inr hwt.lz) (fun b hb => .inl (by have:=HUz.out b hb; omega)) (fun i hi => (hwt.row i hi).1) (fun i j hi hj b hb => ((hwt.own i j hi hj trivial).lt b hb).1) (fun b hb => hb))
 rw [← hA2,← hwf]
 clear hA2 hwf hbf hcl hwt hgc hg1 hGf hHeld
 go_wp2
 go_ret
 exact ⟨A2,S2,Z,p2,q2,_,_,R2,qw,by first | rfl | (simp; done),HF.out,HBF.out⟩
end
end
end Go.Proofs.YtpcapdpglpgcbaaGreat
