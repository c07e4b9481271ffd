/-
  Words and contracts that a statement's proof rests on (McR). No statement is proved here.
-/
import Derived.Deep.DeepCutAuto
import Derived.Test.YtpcapdpglpgcbaaGreatMoE
import Derived.Test.YtpcapdpglpgcbaaGreatMrO
import Derived.Test.YtpcapdpglpgcbaaGreatMcB
import Derived.Test.YtpcapdpglpgcbaaGreatBkC2
set_option linter.unusedVariables false
set_option linter.unusedSimpArgs false
namespace Go.Proofs.YtpcapdpglpgcbaaGreat
open Go.RowKit
theorem own_empty9 (w:World) (T:TypeId) (size:Nat):(w.alloc (.cells #[] T)).ownsRow w.heap.size T size (.slice (some ⟨w.heap.size,0,none⟩) 0 0) 0 [] :=
 ⟨by simp,.inr ⟨w.heap.size,0,#[],rfl,Nat.le_refl _,heap_alloc_new w _,Nat.le_refl _,by simp [maxLen],by simp,by simp⟩⟩
section
variable {E:Nat→Prop} {w:World} {L A S1 Q cQ:Nat} {X:Nat→Value} {bp bq P r S B n nv:Nat} {uv:Value} {lv:List Vl} {st:Nat→Int × Nat} {g:Nat→Nat→Pl} {G:Nat→Value} {R:Nat→Nat} {qv:Nat→Nat→Value} {qs:Nat→Nat→List Int}
set_option maxRecDepth 20000 in
set_option maxHeartbeats 12800000 in
theorem ref17_Copy (h:RfAll E w L A S1 Q cQ X bp bq P r S B n nv uv lv st g G R qv qs) (hcl:clG g) (hP:1≤P∧P≤64) (hnv:nv≤1000) (hS:1≤S∧S≤8) (hB:1≤B∧B≤16) (hn:1≤n∧n≤8) (hlen:∀ i j,i < P→j < P→(qs i j).length≤1000000) :
  Calls Tryz.prog 17 #[.pointer (some ⟨A,0,none⟩)] w fun e w' => ∃ (A2 S2 Q2 c9:Nat) (X9:Nat→Value) (p2 q2:Nat) (u2:Value) (G2:Nat→Value) (R2:Nat→Nat) (qw:Nat→Nat→Value),e=.returned (.pointer (some ⟨A2,0,none⟩))∧RfAll (fun b => b < w.heap.size) w' w.heap.size A2 S2 Q2 c9 X9 p2 q2 P r S B n nv u2 lv st g G2 R2 qw qs∧Below w.heap.size w w':=by
 obtain ⟨a1,n1,c1,a2,n2,c2,i3,i4,i5,i6,i8,i9,e1,e2,e3,e4,e5,e6,e8,e9⟩:=h.md.xf
 obtain ⟨Au,cu,huv,_,_⟩:=(Sl.of_own h.md.vlans).form
 subst huv
 have hx0:=h.md.x0
 have hx7:=h.md.x7
 have HA:Hid (∀ w',Below w.heap.size w w'→w'.cell? ⟨A,0,none⟩=some (.int .i64 (P:Nat))∧w'.cell? ⟨A,1,none⟩=some (.slice a1 n1 c1)∧w'.cell? ⟨A,2,none⟩=some (.slice a2 n2 c2)∧w'.cell? ⟨A,3,none⟩=some (.int .i64 i3)∧w'.cell? ⟨A,4,none⟩=some (.int .i64 i4)∧w'.cell? ⟨A,5,none⟩=some (.int .i64 i5)∧w'.cell? ⟨A,6,none⟩=some (.int .i64 i6)∧w'.cell? ⟨A,7,none⟩=some (.int .i64 (r:Nat))∧w'.cell? ⟨A,8,none⟩=some (.int .u32 i8)∧w'.cell? ⟨A,9,none⟩=some (.int .u32 i9)∧w'.cell? ⟨A,10,none⟩=some (.slice (some ⟨S1,0,none⟩) P (capV (X 10)))∧w'.cell? ⟨A,11,none⟩=some (.slice Au nv cu)∧w'.cell? ⟨A,12,none⟩=some (.pointer (some ⟨bp,0,none⟩))):=fun w' hb => by
  have hc:=(h.call hb).md.cells
  exact ⟨(hc.cell (by omega)).trans (congrArg some hx0),(hc.cell (by omega)).trans (congrArg some e1),(hc.cell (by omega)).trans (congrArg some e2),(hc.cell (by omega)).trans (congrArg some e3),(hc.cell (by omega)).trans (congrArg some e4),(hc.cell (by omega)).trans (congrArg some e5),(hc.cell (by omega)).trans (congrArg some e6),(hc.cell (by omega)).trans (congrArg some hx7),(hc.cell (by omega)).trans (congrArg some e8),(hc.cell (by omega)).trans (congrArg some e9),hc.cell (by omega),hc.cell (by omega),hc.cell (by omega)⟩
 have HQ13:Hid (∀ w',Below w.heap.size w w'→w'.cell? ⟨A,13,none⟩=some (.slice (some ⟨Q,0,none⟩) P cQ)):=fun w' hb => (h.call hb).md.cells.cell (by omega)
 have HQR:Hid (∀ w',Below w.heap.size w w'→∀ i,i < P→w'.cell? ⟨Q,i,none⟩=some (.slice (some ⟨R i,0,none⟩) P (capV (G i)))):=fun w' hb i hi => ((h.call hb).md.queues.cell (Nat.lt_of_lt_of_le hi h.md.pq)).trans (congrArg some (h.qu.at_ i hi))
 have HQQ:Hid (∀ i,i < P→∀ j,j < P→∃ Aq cq,∀ w',Below w.heap.size w w'→w'.cell? ⟨R i,j,none⟩=some (.slice Aq (qs i j).length cq)∧Sl w' w'.heap.size 1 (.slice Aq (qs i j).length cq) (qs i j).length (kv .i64 (qs i j))):=fun i hi j hj => by
  obtain ⟨Aq,cq,hv,_,_⟩:=(Sl.of_own (h.qu.own i j hi hj)).form
  refine ⟨Aq,cq,fun w' hb => ⟨(((h.call hb).qu.row i hi).cell (Nat.lt_of_lt_of_le hj (h.qu.cq i hi))).trans (congrArg some hv),?_⟩⟩
  have:=Sl.of_own ((h.call hb).qu.own i j hi hj)
  rw [hv] at this
  exact this
 have HSL:Hid (∀ w',Below w.heap.size w w'→Sl w' w'.heap.size 2 (.slice (some ⟨S1,0,none⟩) P (capV (X 10))) P (stc st (P * 2))):=fun w' hb => sl_stands (h.call hb).md.stands h.md.cs
 have HVL:Hid (∀ w',Below w.heap.size w w'→Sl w' w'.heap.size 3 (.slice Au nv cu) nv (vlc lv)):=fun w' hb => Sl.of_own (h.call hb).md.vlans
 have HB3:Hid (∀ w',Below w.heap.size w w'→Calls Tryz.prog 69 #[.pointer (some ⟨bp,0,none⟩)] w' fun e w2 => ∃ p2 q2,e=.returned (.pointer (some ⟨p2,0,none⟩))∧BkAt w2 (fun b => b < w'.heap.size ∨ b=p2 ∨ b=q2) p2 q2 S B n g∧w'.heap.size≤p2∧w'.heap.size≤q2∧Below w'.heap.size w' w2):=fun w' hb => by
  obtain ⟨D,hd,_⟩:=(h.call hb).bk
  have hg:(fun i j => ownP (g i j))=g:=funext fun i => funext fun j => hcl i j
  have h9:=ref11_Copy hd hS hB hn
  rw [hg] at h9
  exact h9
 have HLEN:=Lib.hid hlen
 have HLL:Hid (L≤w.heap.size):=by have:=h.md.la; have:=h.md.cells.lt; show L≤_; omega
 have HE:=Lib.hid (And.intro hx0 (And.intro hx7 (And.intro e1 (And.intro e2 (And.intro e3 (And.intro e4 (And.intro e5 (And.intro e6 (And.intro e8 e9)))))))))
 clear h hcl hlen hx0 hx7 e1 e2 e3 e4 e5 e6 e8 e9
 go_enter Tryz.func17,Tryz.ntmps17
 go_upto_region 1 with fail
 go_cut [3] (fun p3 wx => ∃ (A2 S2 cS p2 q2 cv2 H0:Nat) (Av2:Option Addr) (wb:World),p3=.pointer (some ⟨A2,0,none⟩)∧Hid (Hid (CpR wx A2 S2 cS (fun i => if i=10 then .slice none 0 cS else X i) P 0 w.heap.size wb.heap.size nv lv st (.slice Av2 nv cv2) (.pointer (some ⟨p2,0,none⟩)) (.slice none 0 0) [] (fun _ => 0) (fun _ => 0) (fun _ _ => .slice none 0 0) qs)∧Hid (Below wb.heap.size wb wx)∧Hid (Below w.heap.size w wx)∧Hid (wb.heap.size≤A2)∧Hid (H0≤p2∧H0≤q2∧H0≤wb.heap.size∧w.heap.size≤H0)∧Hid (BkAt wb (fun b => b < H0 ∨ b=p2 ∨ b=q2) p2 q2 S B n g)∧Hid (w.heap.size≤S2∧S2 < H0)∧Hid (P≤cS∧cS≤maxLen)∧Hid (∀ z,(Value.slice Av2 nv cv2).ownBlock=some z→z < H0)))
 case first =>
  refine wp_region_held_drew (S:=fun w' => w'.cell? ⟨A,0,none⟩=some (.int .i64 (P:Nat))∧w'.cell? ⟨A,1,none⟩=some (.slice a1 n1 c1)∧w'.cell? ⟨A,2,none⟩=some (.slice a2 n2 c2)∧w'.cell? ⟨A,3,none⟩=some (.int .i64 i3)∧w'.cell? ⟨A,4,none⟩=some (.int .i64 i4)∧w'.cell? ⟨A,5,none⟩=some (.int .i64 i5)∧w'.cell? ⟨A,6,none⟩=some (.int .i64 i6)∧w'.cell? ⟨A,7,none⟩=some (.int .i64 (r:Nat))∧w'.cell? ⟨A,8,none⟩=some (.int .u32 i8)∧w'.cell? ⟨A,9,none⟩=some (.int .u32 i9)∧w'.cell? ⟨A,10,none⟩=some (.slice (some ⟨S1,0,none⟩) P (capV (X 10)))∧w'.cell? ⟨A,11,none⟩=some (.slice Au nv cu)∧w'.cell? ⟨A,12,none⟩=some (.pointer (some ⟨bp,0,none⟩))) (by kernel_rfl) ?_ (fun hHeld => ?_)
  ·exact HA.out _ (Below.refl _ _).drew
  obtain ⟨v0,hv0⟩:∃ w',w'=w.drew:=⟨_,rfl⟩
  have hBv0:Below w.heap.size w v0:=by rw [hv0]; exact (Below.refl _ _).drew
  rw [← hv0] at hHeld ⊢
  clear hv0
  refine tkR 0 rfl ?_
  refine tkR 1 rfl ?_
  refine tkR 2 rfl ?_
  refine tkR 3 rfl ?_
  refine tkR 5 rfl ?_
  refine tkR 6 rfl ?_
  refine tkR 7 rfl ?_
  refine tkR 8 rfl ?_
  refine tkR 11 rfl ?_
  refine tkR 12 rfl ?_
  refine tkR 13 rfl ?_
  refine tkR 14 rfl ?_
  refine tkR 16 rfl ?_
  refine tkR 17 rfl ?_
  refine tkR 18 rfl ?_
  refine tkR 19 rfl ?_
  refine wpAnyH_ready (rs:=[4,10]) (by kernel_rfl) (by simp) ?_
  refine (acR rfl (fun K hK => ?_) (acR rfl (fun K hK => ?_) AllReadyH.nil))
  ·go_simp
   refine hK.out _ _ ?_ (fun hHeld => ?_)
   ·(try dsimp only)
    exact HA.out _ (hBv0.alloc hBv0.size _)
   clear hK K
   (try simp only [Act.put,sqA,sqB,sqC])
   obtain ⟨zs,hzs⟩:∃ o,o=v0.heap.size:=⟨_,rfl⟩
   obtain ⟨wsa,hwsa⟩:∃ x,x=v0.alloc (.cells #[] 112):=⟨_,rfl⟩
   have hbl:Below v0.heap.size v0 wsa:=by rw [hwsa]; exact (Below.refl _ _).alloc (Nat.le_refl _) _
   have HOs:Hid (wsa.ownsRow w.heap.size 112 2 (.slice (some ⟨zs,0,none⟩) 0 0) 0 []):=by rw [hwsa,hzs]; exact own_base (own_empty9 _ _ _) hBv0.size
   have hBwsa:Below w.heap.size w wsa:=hBv0.trans (hbl.mono hBv0.size)
   rw [← hzs,← hwsa]
   (try rw [← hwsa] at hHeld)
   clear hwsa hzs hbl
   refine wpAnyH_ready (rs:=[9,10]) (by kernel_rfl) (by simp) ?_
   refine (acR rfl (fun K hK => ?_) (acR rfl (fun K hK => ?_) AllReadyH.nil))
   ·refine step_app _ (by rfl) stStandsR _ _ (by rfl) w.heap.size (.slice (some ⟨zs,0,none⟩) 0 0) 0 [] (by rfl) HOs.out _ (.slice (some ⟨S1,0,none⟩) P (capV (X 10))) P (stc st (P * 2)) (by rfl) (HSL.out _ hBwsa) (stc_one st (P * 2)) (by omega) hBwsa.size ?_
    intro v9 wst hown9 hgr9 hat9 hbel9
    simp only [Nat.zero_add] at hown9
    rw [List.nil_append] at hown9
    obtain ⟨S2,cS,hx9,hcs1,hcs2,hS2,hSt⟩:=own_rowH (f:=rowS st) hown9 (by omega) (fun i hi => stc_at st hi)
    subst hx9
    have HSt:=Lib.hid hSt
    have HCS:=Lib.hid (And.intro hcs1 hcs2)
    have HS2:=Lib.hid hS2
    have hBwst:Below w.heap.size w wst:=hBwsa.trans hbel9
    clear hown9 hgr9 hat9 hbel9 hSt hcs1 hcs2 hS2
    refine hK.out _ _ ?_ (fun hHeld => ?_)
    ·(try dsimp only)
     exact HA.out _ hBwst
    clear hK K
    (try simp only [Act.put,sqA,sqB,sqC])
    refine wpAnyH_ready (rs:=[10]) (by kernel_rfl) (by simp) ?_
    refine (acR rfl (fun K hK => ?_) AllReadyH.nil)
    go_simp
    refine hK.out _ _ ?_ (fun hHeld => ?_)
    ·(try dsimp only)
     exact HA.out _ (hBwst.alloc hBwst.size _)
    clear hK K
    (try simp only [Act.put,sqA,sqB,sqC])
    obtain ⟨zv,hzv⟩:∃ o,o=wst.heap.size:=⟨_,rfl⟩
    obtain ⟨wva,hwva⟩:∃ x,x=wst.alloc (.cells #[] 73):=⟨_,rfl⟩
    have hbl:Below wst.heap.size wst wva:=by rw [hwva]; exact (Below.refl _ _).alloc (Nat.le_refl _) _
    have HSt:=Lib.hid (HSt.out.of_block (hbl.block _ HSt.out.lt))
    have HOv:Hid (wva.ownsRow w.heap.size 73 3 (.slice (some ⟨zv,0,none⟩) 0 0) 0 []):=by rw [hwva,hzv]; exact own_base (own_empty9 _ _ _) hBwst.size
    have hBwva:Below w.heap.size w wva:=hBwst.trans (hbl.mono hBwst.size)
    rw [← hzv,← hwva]
    (try rw [← hwva] at hHeld)
    clear hwva hzv hbl
    refine wpAnyH_ready (rs:=[15]) (by kernel_rfl) (by simp) ?_
    refine (acR rfl (fun K hK => ?_) AllReadyH.nil)
    refine step_app _ (by rfl) stVlansR9 _ _ (by rfl) w.heap.size (.slice (some ⟨zv,0,none⟩) 0 0) 0 [] (by rfl) HOv.out _ (.slice Au nv cu) nv (vlc lv) (by rfl) (HVL.out _ hBwva) (vlc_one lv) (by omega) hBwva.size ?_
    intro v9 wu hown9 hgr9 hat9 hbel9
    have HSt:=Lib.hid (HSt.out.of_block (hgr9.block _ HSt.out.lt (fun e9 => rowH_own_ne HSt.out HOv.out (by decide) e9.symm)))
    obtain ⟨Av2,cv2,hv9,_,_⟩:=(Sl.of_own hown9).form
    subst hv9
    simp only [Nat.zero_add] at hown9 ⊢
    rw [List.nil_append] at hown9
    have HOu:=Lib.hid hown9
    have hBwu:Below w.heap.size w wu:=hBwva.trans hbel9
    clear hown9 hgr9 hat9 hbel9
    refine hK.out _ _ ?_ (fun hHeld => ?_)
    ·(try dsimp only)
     exact HA.out _ hBwu
    clear hK K
    (try simp only [Act.put,sqA,sqB,sqC])
    refine wpAnyH_ready (rs:=[20]) (by kernel_rfl) (by simp) ?_
    refine (acR rfl (fun K hK => ?_) AllReadyH.nil)
    go_simp
    refine Calls.mono (HB3.out _ hBwu) ?_
    rintro e wb ⟨p2,q2,rfl,hbk,hbp,hbq,hbb⟩
    have hS2l:=HSt.out.lt
    have hul0:=fun z (hz:(Value.slice Av2 nv cv2).ownBlock=some z) => (HOu.out.lt z hz).2
    have HSt:=Lib.hid (HSt.out.of_block (hbb.block _ HSt.out.lt))
    have HOu:=Lib.hid (own_below HOu.out hbb)
    have HK:=Lib.hid hbk
    have hBwb:Below w.heap.size w wb:=hBwu.trans (hbb.mono hBwu.size)
    obtain ⟨H0,hH0⟩:∃ o,o=wu.heap.size:=⟨_,rfl⟩
    rw [← hH0] at HK
    have HH0:Hid (H0≤p2∧H0≤q2∧H0≤wb.heap.size∧w.heap.size≤H0):=by rw [hH0]; exact ⟨hbp,hbq,hbb.size,hBwu.size⟩
    have HLS:Hid (w.heap.size≤S2∧S2 < H0):=⟨HS2.out,by rw [hH0]; exact hS2l⟩
    have hul:∀ z,(Value.slice Av2 nv cv2).ownBlock=some z→z < H0:=fun z hz => by rw [hH0]; exact hul0 z hz
    clear hbk hbp hbq hbb hH0 hul0 hS2l
    refine hK.out _ _ ?_ (fun hHeld => ?_)
    ·(try dsimp only)
     exact HA.out _ hBwb
    clear hK K
    refine tkR 21 rfl ?_
    refine wpAnyH_ready (rs:=[22]) (by kernel_rfl) (by simp) ?_
    refine (acR rfl (fun K hK => ?_) AllReadyH.nil)
    go_simp
    refine hK.out _ _ ?_ (fun hHeld => ?_)
    ·(try dsimp only)
     exact HA.out _ (hBwb.alloc hBwb.size _)
    clear hK K
    refine tkR 23 rfl ?_
    refine wpAnyH_done (by kernel_rfl) ?_ _
    obtain ⟨A2,hA⟩:∃ o,o=wb.heap.size:=⟨_,rfl⟩
    obtain ⟨wm,hwm⟩:∃ x,x=wb.alloc (.cells #[.int .i64 (P:Nat),.slice a1 n1 c1,.slice a2 n2 c2,.int .i64 i3,.int .i64 i4,.int .i64 i5,.int .i64 i6,.int .i64 (r:Nat),.int .u32 i8,.int .u32 i9,.slice (some ⟨S2,0,none⟩) P cS,.slice Av2 nv cv2,.pointer (some ⟨p2,0,none⟩),.slice none 0 0] 95):=⟨_,rfl⟩
    have hbm:Below wb.heap.size wb wm:=by rw [hwm]; exact (Below.refl _ _).alloc (Nat.le_refl _) _
    have HBWm:Hid (Below w.heap.size w wm):=hBwb.trans (hbm.mono hBwb.size)
    have HI:Hid (CpR wm A2 S2 cS (fun i => if i=10 then .slice none 0 cS else X i) P 0 w.heap.size wb.heap.size nv lv st (.slice Av2 nv cv2) (.pointer (some ⟨p2,0,none⟩)) (.slice none 0 0) [] (fun _ => 0) (fun _ => 0) (fun _ _ => .slice none 0 0) qs):=⟨⟨_,by rw [hwm,hA]; exact heap_alloc_new _ _,rfl,fun i hi => (by
     match i,hi with
     | 0,_ => (show some _=some (X 0); exact congrArg some HE.out.1.symm)
     | 1,_ => (show some _=some (X 1); exact congrArg some HE.out.2.2.1.symm)
     | 2,_ => (show some _=some (X 2); exact congrArg some HE.out.2.2.2.1.symm)
     | 3,_ => (show some _=some (X 3); exact congrArg some HE.out.2.2.2.2.1.symm)
     | 4,_ => (show some _=some (X 4); exact congrArg some HE.out.2.2.2.2.2.1.symm)
     | 5,_ => (show some _=some (X 5); exact congrArg some HE.out.2.2.2.2.2.2.1.symm)
     | 6,_ => (show some _=some (X 6); exact congrArg some HE.out.2.2.2.2.2.2.2.1.symm)
     | 7,_ => (show some _=some (X 7); exact congrArg some HE.out.2.1.symm)
     | 8,_ => (show some _=some (X 8); exact congrArg some HE.out.2.2.2.2.2.2.2.2.1.symm)
     | 9,_ => (show some _=some (X 9); exact congrArg some HE.out.2.2.2.2.2.2.2.2.2.symm)
     | 10,_ => rfl
     | 11,_ => rfl
     | 12,_ => rfl
     | 13,_ => rfl)⟩,HSt.out.of_block (hbm.block _ HSt.out.lt),own_below HOu.out hbm,World.ownsRow_nil _ _ _ _,⟨fun i hi => absurd hi (by omega),fun i j hi => absurd hi (by omega),fun i t hi => absurd hi (by omega),fun i t i' t' hi => absurd hi (by omega)⟩,fun i hi => absurd hi (by omega)⟩
    have HAb:Hid (wb.heap.size≤A2):=by rw [hA]; exact Lib.hid (Nat.le_refl _)
    have HBm:=Lib.hid hbm
    rw [← hA,← hwm]
    clear hwm hA hbm hHeld HSt HOu
    go_wp2
    go_meet
    exact ⟨A2,S2,cS,p2,q2,cv2,H0,Av2,wb,rfl,HI,HBm,HBWm,HAb,HH0,HK,HLS,HCS,Lib.hid hul⟩
   ·go_simp
    refine hK.out _ _ ?_ (fun hHeld => ?_)
    ·(try dsimp only)
     exact HA.out _ (hBwsa.alloc hBwsa.size _)
    clear hK K
    (try simp only [Act.put,sqA,sqB,sqC])
    obtain ⟨zv,hzv⟩:∃ o,o=wsa.heap.size:=⟨_,rfl⟩
    obtain ⟨wva,hwva⟩:∃ x,x=wsa.alloc (.cells #[] 73):=⟨_,rfl⟩
    have hbl:Below wsa.heap.size wsa wva:=by rw [hwva]; exact (Below.refl _ _).alloc (Nat.le_refl _) _
    have HOs:=Lib.hid (own_below HOs.out hbl)
    have HOv:Hid (wva.ownsRow w.heap.size 73 3 (.slice (some ⟨zv,0,none⟩) 0 0) 0 []):=by rw [hwva,hzv]; exact own_base (own_empty9 _ _ _) hBwsa.size
    have hBwva:Below w.heap.size w wva:=hBwsa.trans (hbl.mono hBwsa.size)
    rw [← hzv,← hwva]
    (try rw [← hwva] at hHeld)
    clear hwva hzv hbl
    refine wpAnyH_ready (rs:=[9]) (by kernel_rfl) (by simp) ?_
    refine (acR rfl (fun K hK => ?_) AllReadyH.nil)
    refine step_app _ (by rfl) stStandsR _ _ (by rfl) w.heap.size (.slice (some ⟨zs,0,none⟩) 0 0) 0 [] (by rfl) HOs.out _ (.slice (some ⟨S1,0,none⟩) P (capV (X 10))) P (stc st (P * 2)) (by rfl) (HSL.out _ hBwva) (stc_one st (P * 2)) (by omega) hBwva.size ?_
    intro v9 wst hown9 hgr9 hat9 hbel9
    have HOv:=Lib.hid (own_low' HOv.out fun b e => hgr9.block b (HOv.out.lt b e).2 (fun e2 => own_own_ne HOv.out HOs.out (by decide) e e2.symm))
    simp only [Nat.zero_add] at hown9
    rw [List.nil_append] at hown9
    obtain ⟨S2,cS,hx9,hcs1,hcs2,hS2,hSt⟩:=own_rowH (f:=rowS st) hown9 (by omega) (fun i hi => stc_at st hi)
    subst hx9
    have HSt:=Lib.hid hSt
    have HCS:=Lib.hid (And.intro hcs1 hcs2)
    have HS2:=Lib.hid hS2
    have hBwst:Below w.heap.size w wst:=hBwva.trans hbel9
    clear hown9 hgr9 hat9 hbel9 hSt hcs1 hcs2 hS2
    refine hK.out _ _ ?_ (fun hHeld => ?_)
    ·(try dsimp only)
     exact HA.out _ hBwst
    clear hK K
    (try simp only [Act.put,sqA,sqB,sqC])
    refine wpAnyH_ready (rs:=[15]) (by kernel_rfl) (by simp) ?_
    refine (acR rfl (fun K hK => ?_) AllReadyH.nil)
    refine step_app _ (by rfl) stVlansR9 _ _ (by rfl) w.heap.size (.slice (some ⟨zv,0,none⟩) 0 0) 0 [] (by rfl) HOv.out _ (.slice Au nv cu) nv (vlc lv) (by rfl) (HVL.out _ hBwst) (vlc_one lv) (by omega) hBwst.size ?_
    intro v9 wu hown9 hgr9 hat9 hbel9
    have HSt:=Lib.hid (HSt.out.of_block (hgr9.block _ HSt.out.lt (fun e9 => rowH_own_ne HSt.out HOv.out (by decide) e9.symm)))
    obtain ⟨Av2,cv2,hv9,_,_⟩:=(Sl.of_own hown9).form
    subst hv9
    simp only [Nat.zero_add] at hown9 ⊢
    rw [List.nil_append] at hown9
    have HOu:=Lib.hid hown9
    have hBwu:Below w.heap.size w wu:=hBwst.trans hbel9
    clear hown9 hgr9 hat9 hbel9
    refine hK.out _ _ ?_ (fun hHeld => ?_)
    ·(try dsimp only)
     exact HA.out _ hBwu
    clear hK K
    (try simp only [Act.put,sqA,sqB,sqC])
    refine wpAnyH_ready (rs:=[20]) (by kernel_rfl) (by simp) ?_
    refine (acR rfl (fun K hK => ?_) AllReadyH.nil)
    go_simp
    refine Calls.mono (HB3.out _ hBwu) ?_
    rintro e wb ⟨p2,q2,rfl,hbk,hbp,hbq,hbb⟩
    have hS2l:=HSt.out.lt
    have hul0:=fun z (hz:(Value.slice Av2 nv cv2).ownBlock=some z) => (HOu.out.lt z hz).2
    have HSt:=Lib.hid (HSt.out.of_block (hbb.block _ HSt.out.lt))
    have HOu:=Lib.hid (own_below HOu.out hbb)
    have HK:=Lib.hid hbk
    have hBwb:Below w.heap.size w wb:=hBwu.trans (hbb.mono hBwu.size)
    obtain ⟨H0,hH0⟩:∃ o,o=wu.heap.size:=⟨_,rfl⟩
    rw [← hH0] at HK
    have HH0:Hid (H0≤p2∧H0≤q2∧H0≤wb.heap.size∧w.heap.size≤H0):=by rw [hH0]; exact ⟨hbp,hbq,hbb.size,hBwu.size⟩
    have HLS:Hid (w.heap.size≤S2∧S2 < H0):=⟨HS2.out,by rw [hH0]; exact hS2l⟩
    have hul:∀ z,(Value.slice Av2 nv cv2).ownBlock=some z→z < H0:=fun z hz => by rw [hH0]; exact hul0 z hz
    clear hbk hbp hbq hbb hH0 hul0 hS2l
    refine hK.out _ _ ?_ (fun hHeld => ?_)
    ·(try dsimp only)
     exact HA.out _ hBwb
    clear hK K
    refine tkR 21 rfl ?_
    refine wpAnyH_ready (rs:=[22]) (by kernel_rfl) (by simp) ?_
    refine (acR rfl (fun K hK => ?_) AllReadyH.nil)
    go_simp
    refine hK.out _ _ ?_ (fun hHeld => ?_)
    ·(try dsimp only)
     exact HA.out _ (hBwb.alloc hBwb.size _)
    clear hK K
    refine tkR 23 rfl ?_
    refine wpAnyH_done (by kernel_rfl) ?_ _
    obtain ⟨A2,hA⟩:∃ o,o=wb.heap.size:=⟨_,rfl⟩
    obtain ⟨wm,hwm⟩:∃ x,x=wb.alloc (.cells #[.int .i64 (P:Nat),.slice a1 n1 c1,.slice a2 n2 c2,.int .i64 i3,.int .i64 i4,.int .i64 i5,.int .i64 i6,.int .i64 (r:Nat),.int .u32 i8,.int .u32 i9,.slice (some ⟨S2,0,none⟩) P cS,.slice Av2 nv cv2,.pointer (some ⟨p2,0,none⟩),.slice none 0 0] 95):=⟨_,rfl⟩
    have hbm:Below wb.heap.size wb wm:=by rw [hwm]; exact (Below.refl _ _).alloc (Nat.le_refl _) _
    have HBWm:Hid (Below w.heap.size w wm):=hBwb.trans (hbm.mono hBwb.size)
    have HI:Hid (CpR wm A2 S2 cS (fun i => if i=10 then .slice none 0 cS else X i) P 0 w.heap.size wb.heap.size nv lv st (.slice Av2 nv cv2) (.pointer (some ⟨p2,0,none⟩)) (.slice none 0 0) [] (fun _ => 0) (fun _ => 0) (fun _ _ => .slice none 0 0) qs):=⟨⟨_,by rw [hwm,hA]; exact heap_alloc_new _ _,rfl,fun i hi => (by
     match i,hi with
     | 0,_ => (show some _=some (X 0); exact congrArg some HE.out.1.symm)
     | 1,_ => (show some _=some (X 1); exact congrArg some HE.out.2.2.1.symm)
     | 2,_ => (show some _=some (X 2); exact congrArg some HE.out.2.2.2.1.symm)
     | 3,_ => (show some _=some (X 3); exact congrArg some HE.out.2.2.2.2.1.symm)
     | 4,_ => (show some _=some (X 4); exact congrArg some HE.out.2.2.2.2.2.1.symm)
     | 5,_ => (show some _=some (X 5); exact congrArg some HE.out.2.2.2.2.2.2.1.symm)
     | 6,_ => (show some _=some (X 6); exact congrArg some HE.out.2.2.2.2.2.2.2.1.symm)
     | 7,_ => (show some _=some (X 7); exact congrArg some HE.out.2.1.symm)
     | 8,_ => (show some _=some (X 8); exact congrArg some HE.out.2.2.2.2.2.2.2.2.1.symm)
     | 9,_ => (show some _=some (X 9); exact congrArg some HE.out.2.2.2.2.2.2.2.2.2.symm)
     | 10,_ => rfl
     | 11,_ => rfl
     | 12,_ => rfl
     | 13,_ => rfl)⟩,HSt.out.of_block (hbm.block _ HSt.out.lt),own_below HOu.out hbm,World.ownsRow_nil _ _ _ _,⟨fun i hi => absurd hi (by omega),fun i j hi => absurd hi (by omega),fun i t hi => absurd hi (by omega),fun i t i' t' hi => absurd hi (by omega)⟩,fun i hi => absurd hi (by omega)⟩
    have HAb:Hid (wb.heap.size≤A2):=by rw [hA]; exact Lib.hid (Nat.le_refl _)
    have HBm:=Lib.hid hbm
    rw [← hA,← hwm]
    clear hwm hA hbm hHeld HSt HOu
    go_wp2
    go_meet
    exact ⟨A2,S2,cS,p2,q2,cv2,H0,Av2,wb,rfl,HI,HBm,HBWm,HAb,HH0,HK,HLS,HCS,Lib.hid hul⟩
  ·go_simp
   refine hK.out _ _ ?_ (fun hHeld => ?_)
   ·(try dsimp only)
    exact HA.out _ (hBv0.alloc hBv0.size _)
   clear hK K
   (try simp only [Act.put,sqA,sqB,sqC])
   obtain ⟨zv,hzv⟩:∃ o,o=v0.heap.size:=⟨_,rfl⟩
   obtain ⟨wva,hwva⟩:∃ x,x=v0.alloc (.cells #[] 73):=⟨_,rfl⟩
   have hbl:Below v0.heap.size v0 wva:=by rw [hwva]; exact (Below.refl _ _).alloc (Nat.le_refl _) _
   have HOv:Hid (wva.ownsRow w.heap.size 73 3 (.slice (some ⟨zv,0,none⟩) 0 0) 0 []):=by rw [hwva,hzv]; exact own_base (own_empty9 _ _ _) hBv0.size
   have hBwva:Below w.heap.size w wva:=hBv0.trans (hbl.mono hBv0.size)
   rw [← hzv,← hwva]
   (try rw [← hwva] at hHeld)
   clear hwva hzv hbl
   refine wpAnyH_ready (rs:=[4]) (by kernel_rfl) (by simp) ?_
   refine (acR rfl (fun K hK => ?_) AllReadyH.nil)
   go_simp
   refine hK.out _ _ ?_ (fun hHeld => ?_)
   ·(try dsimp only)
    exact HA.out _ (hBwva.alloc hBwva.size _)
   clear hK K
   (try simp only [Act.put,sqA,sqB,sqC])
   obtain ⟨zs,hzs⟩:∃ o,o=wva.heap.size:=⟨_,rfl⟩
   obtain ⟨wsa,hwsa⟩:∃ x,x=wva.alloc (.cells #[] 112):=⟨_,rfl⟩
   have hbl:Below wva.heap.size wva wsa:=by rw [hwsa]; exact (Below.refl _ _).alloc (Nat.le_refl _) _
   have HOv:=Lib.hid (own_below HOv.out hbl)
   have HOs:Hid (wsa.ownsRow w.heap.size 112 2 (.slice (some ⟨zs,0,none⟩) 0 0) 0 []):=by rw [hwsa,hzs]; exact own_base (own_empty9 _ _ _) hBwva.size
   have hBwsa:Below w.heap.size w wsa:=hBwva.trans (hbl.mono hBwva.size)
   rw [← hzs,← hwsa]
   (try rw [← hwsa] at hHeld)
   clear hwsa hzs hbl
   refine wpAnyH_ready (rs:=[9]) (by kernel_rfl) (by simp) ?_
   refine (acR rfl (fun K hK => ?_) AllReadyH.nil)
   refine step_app _ (by rfl) stStandsR _ _ (by rfl) w.heap.size (.slice (some ⟨zs,0,none⟩) 0 0) 0 [] (by rfl) HOs.out _ (.slice (some ⟨S1,0,none⟩) P (capV (X 10))) P (stc st (P * 2)) (by rfl) (HSL.out _ hBwsa) (stc_one st (P * 2)) (by omega) hBwsa.size ?_
   intro v9 wst hown9 hgr9 hat9 hbel9
   have HOv:=Lib.hid (own_low' HOv.out fun b e => hgr9.block b (HOv.out.lt b e).2 (fun e2 => own_own_ne HOv.out HOs.out (by decide) e e2.symm))
   simp only [Nat.zero_add] at hown9
   rw [List.nil_append] at hown9
   obtain ⟨S2,cS,hx9,hcs1,hcs2,hS2,hSt⟩:=own_rowH (f:=rowS st) hown9 (by omega) (fun i hi => stc_at st hi)
   subst hx9
   have HSt:=Lib.hid hSt
   have HCS:=Lib.hid (And.intro hcs1 hcs2)
   have HS2:=Lib.hid hS2
   have hBwst:Below w.heap.size w wst:=hBwsa.trans hbel9
   clear hown9 hgr9 hat9 hbel9 hSt hcs1 hcs2 hS2
   refine hK.out _ _ ?_ (fun hHeld => ?_)
   ·(try dsimp only)
    exact HA.out _ hBwst
   clear hK K
   (try simp only [Act.put,sqA,sqB,sqC])
   refine wpAnyH_ready (rs:=[15]) (by kernel_rfl) (by simp) ?_
   refine (acR rfl (fun K hK => ?_) AllReadyH.nil)
   refine step_app _ (by rfl) stVlansR9 _ _ (by rfl) w.heap.size (.slice (some ⟨zv,0,none⟩) 0 0) 0 [] (by rfl) HOv.out _ (.slice Au nv cu) nv (vlc lv) (by rfl) (HVL.out _ hBwst) (vlc_one lv) (by omega) hBwst.size ?_
   intro v9 wu hown9 hgr9 hat9 hbel9
   have HSt:=Lib.hid (HSt.out.of_block (hgr9.block _ HSt.out.lt (fun e9 => rowH_own_ne HSt.out HOv.out (by decide) e9.symm)))
   obtain ⟨Av2,cv2,hv9,_,_⟩:=(Sl.of_own hown9).form
   subst hv9
   simp only [Nat.zero_add] at hown9 ⊢
   rw [List.nil_append] at hown9
   have HOu:=Lib.hid hown9
   have hBwu:Below w.heap.size w wu:=hBwst.trans hbel9
   clear hown9 hgr9 hat9 hbel9
   refine hK.out _ _ ?_ (fun hHeld => ?_)
   ·(try dsimp only)
    exact HA.out _ hBwu
   clear hK K
   (try simp only [Act.put,sqA,sqB,sqC])
   refine wpAnyH_ready (rs:=[20]) (by kernel_rfl) (by simp) ?_
   refine (acR rfl (fun K hK => ?_) AllReadyH.nil)
   go_simp
   refine Calls.mono (HB3.out _ hBwu) ?_
   rintro e wb ⟨p2,q2,rfl,hbk,hbp,hbq,hbb⟩
   have hS2l:=HSt.out.lt
   have hul0:=fun z (hz:(Value.slice Av2 nv cv2).ownBlock=some z) => (HOu.out.lt z hz).2
   have HSt:=Lib.hid (HSt.out.of_block (hbb.block _ HSt.out.lt))
   have HOu:=Lib.hid (own_below HOu.out hbb)
   have HK:=Lib.hid hbk
   have hBwb:Below w.heap.size w wb:=hBwu.trans (hbb.mono hBwu.size)
   obtain ⟨H0,hH0⟩:∃ o,o=wu.heap.size:=⟨_,rfl⟩
   rw [← hH0] at HK
   have HH0:Hid (H0≤p2∧H0≤q2∧H0≤wb.heap.size∧w.heap.size≤H0):=by rw [hH0]; exact ⟨hbp,hbq,hbb.size,hBwu.size⟩
   have HLS:Hid (w.heap.size≤S2∧S2 < H0):=⟨HS2.out,by rw [hH0]; exact hS2l⟩
   have hul:∀ z,(Value.slice Av2 nv cv2).ownBlock=some z→z < H0:=fun z hz => by rw [hH0]; exact hul0 z hz
   clear hbk hbp hbq hbb hH0 hul0 hS2l
   refine hK.out _ _ ?_ (fun hHeld => ?_)
   ·(try dsimp only)
    exact HA.out _ hBwb
   clear hK K
   refine tkR 21 rfl ?_
   refine wpAnyH_ready (rs:=[22]) (by kernel_rfl) (by simp) ?_
   refine (acR rfl (fun K hK => ?_) AllReadyH.nil)
   go_simp
   refine hK.out _ _ ?_ (fun hHeld => ?_)
   ·(try dsimp only)
    exact HA.out _ (hBwb.alloc hBwb.size _)
   clear hK K
   refine tkR 23 rfl ?_
   refine wpAnyH_done (by kernel_rfl) ?_ _
   obtain ⟨A2,hA⟩:∃ o,o=wb.heap.size:=⟨_,rfl⟩
   obtain ⟨wm,hwm⟩:∃ x,x=wb.alloc (.cells #[.int .i64 (P:Nat),.slice a1 n1 c1,.slice a2 n2 c2,.int .i64 i3,.int .i64 i4,.int .i64 i5,.int .i64 i6,.int .i64 (r:Nat),.int .u32 i8,.int .u32 i9,.slice (some ⟨S2,0,none⟩) P cS,.slice Av2 nv cv2,.pointer (some ⟨p2,0,none⟩),.slice none 0 0] 95):=⟨_,rfl⟩
   have hbm:Below wb.heap.size wb wm:=by rw [hwm]; exact (Below.refl _ _).alloc (Nat.le_refl _) _
   have HBWm:Hid (Below w.heap.size w wm):=hBwb.trans (hbm.mono hBwb.size)
   have HI:Hid (CpR wm A2 S2 cS (fun i => if i=10 then .slice none 0 cS else X i) P 0 w.heap.size wb.heap.size nv lv st (.slice Av2 nv cv2) (.pointer (some ⟨p2,0,none⟩)) (.slice none 0 0) [] (fun _ => 0) (fun _ => 0) (fun _ _ => .slice none 0 0) qs):=⟨⟨_,by rw [hwm,hA]; exact heap_alloc_new _ _,rfl,fun i hi => (by
    match i,hi with
    | 0,_ => (show some _=some (X 0); exact congrArg some HE.out.1.symm)
    | 1,_ => (show some _=some (X 1); exact congrArg some HE.out.2.2.1.symm)
    | 2,_ => (show some _=some (X 2); exact congrArg some HE.out.2.2.2.1.symm)
    | 3,_ => (show some _=some (X 3); exact congrArg some HE.out.2.2.2.2.1.symm)
    | 4,_ => (show some _=some (X 4); exact congrArg some HE.out.2.2.2.2.2.1.symm)
    | 5,_ => (show some _=some (X 5); exact congrArg some HE.out.2.2.2.2.2.2.1.symm)
    | 6,_ => (show some _=some (X 6); exact congrArg some HE.out.2.2.2.2.2.2.2.1.symm)
    | 7,_ => (show some _=some (X 7); exact congrArg some HE.out.2.1.symm)
    | 8,_ => (show some _=some (X 8); exact congrArg some HE.out.2.2.2.2.2.2.2.2.1.symm)
    | 9,_ => (show some _=some (X 9); exact congrArg some HE.out.2.2.2.2.2.2.2.2.2.symm)
    | 10,_ => rfl
    | 11,_ => rfl
    | 12,_ => rfl
    | 13,_ => rfl)⟩,HSt.out.of_block (hbm.block _ HSt.out.lt),own_below HOu.out hbm,World.ownsRow_nil _ _ _ _,⟨fun i hi => absurd hi (by omega),fun i j hi => absurd hi (by omega),fun i t hi => absurd hi (by omega),fun i t i' t' hi => absurd hi (by omega)⟩,fun i hi => absurd hi (by omega)⟩
   have HAb:Hid (wb.heap.size≤A2):=by rw [hA]; exact Lib.hid (Nat.le_refl _)
   have HBm:=Lib.hid hbm
   rw [← hA,← hwm]
   clear hwm hA hbm hHeld HSt HOu
   go_wp2
   go_meet
   exact ⟨A2,S2,cS,p2,q2,cv2,H0,Av2,wb,rfl,HI,HBm,HBWm,HAb,HH0,HK,HLS,HCS,Lib.hid hul⟩
 case rest =>
  obtain ⟨A2,S2,cS,p2,q2,cv2,H0,Av2,wb,rfl,HX⟩:=hcut
  obtain ⟨HI,HBm,HBWm,HAb,HH0,HK,HLS,HCS,HUL⟩:=HX.out
  clear HX
  go_wp2
  go_loopw [4] (fun iv wr => ∃ (k:Nat) (QV:Value) (vs:List Value) (R2 cp:Nat→Nat) (qw:Nat→Nat→Value) (wx:World),wx=wr∧k≤P∧iv=.int .i64 k∧Hid (CpR wr A2 S2 cS (fun i => if i=10 then .slice none 0 cS else X i) P k w.heap.size wb.heap.size nv lv st (.slice Av2 nv cv2) (.pointer (some ⟨p2,0,none⟩)) QV vs R2 cp qw qs∧Below wb.heap.size wb wr∧Below w.heap.size w wr)) (fun iv _ => P - (intOf iv).toNat)
  case atStart => exact ⟨0,_,_,_,_,_,_,rfl,by omega,rfl,Lib.hid ⟨HI.out,HBm.out,HBWm.out⟩⟩
  case round =>
   obtain ⟨k,QV,vs,R2,cp,qw,wr,rfl,hk,rfl,HJ⟩:=hrel
   have r13:=HQ13.out _ HJ.out.2.2
   by_cases hlt:k < P
   ·have d1:decide (k < P)=true:=decide_eq_true hlt
    go_wp2
    go_loopw [5,6] (fun lv9 iv wr2 => ∃ (j cL:Nat) (AL:Option Addr) (ls:List Value) (wx:World),wx=wr2∧j≤P∧iv=.int .i64 j∧lv9=.slice AL j cL∧Hid (LqAt wr2 wr.heap.size j (.slice AL j cL) ls (qs k)∧Below wr.heap.size wr wr2)) (fun _ iv _ => P - (intOf iv).toNat)
    case atStart => exact ⟨0,0,none,[],_,rfl,by omega,rfl,rfl,Lib.hid ⟨LqAt.nil _ _ _,Below.refl _ _⟩⟩
    case round =>
     obtain ⟨j,cL,AL,ls,wq,rfl,hj,rfl,rfl,HL⟩:=hrel
     have HW:Hid (Below w.heap.size w wq):=HJ.out.2.2.trans (HL.out.2.mono HJ.out.2.2.size)
     have c13:=HQ13.out _ HW.out
     have cqk:=HQR.out _ HW.out k hlt
     by_cases hlt2:j < P
     ·have d2:decide (j < P)=true:=decide_eq_true hlt2
      obtain ⟨Aq,cq,hq9⟩:=HQQ.out k hlt j hlt2
      obtain ⟨m,hm⟩:∃ m,m=(qs k j).length:=⟨_,rfl⟩
      have hm6:m≤1000000:=by rw [hm]; exact HLEN.out k j hlt hlt2
      rw [← hm] at hq9
      have HM:=Lib.hid hm
      have HWo:Hid (∀ o,Below w.heap.size w (wq.alloc o)):=fun o => HW.out.alloc HW.out.size o
      have b13:=fun o => HQ13.out _ (HWo.out o)
      have bqk:=fun o => HQR.out _ (HWo.out o) k hlt
      have bqj:=fun o => (hq9 _ (HWo.out o)).1
      have HSQ:=Lib.hid fun o => (hq9 _ (HWo.out o)).2
      clear hq9 hm
      go_wp2_with (first
       | (at_builtin; refine wpList_apv _ rfl stIntM _ _ rfl wq.heap.size (.slice (some ⟨wq.heap.size,0,none⟩) 0 0) 0 [] rfl (own_empty9 _ _ _) _ (.slice Aq m cq) m (kv .i64 (qs k j)) rfl (HSQ.out _) (kv_onesM _) (by omega) (by go_size) ?_; intro A5 c5 w5 hown5 hg5 hat5 hbel5; (simp only [Nat.zero_add] at hown5 ⊢); (rw [List.nil_append] at hown5); (have HO5:=Lib.hid hown5); (have HB5:Hid (Below wq.heap.size wq w5):=((Below.refl _ _).alloc (Nat.le_refl _) _).trans hbel5); (have hz5:wq.heap.size≤w5.heap.size:=HB5.out.size); (have hz6:wr.heap.size≤wq.heap.size:=HL.out.2.size); clear hown5 hg5 hat5 hbel5 b13 bqk bqj)
       | (at_builtin; refine wpList_apv _ rfl stQuR _ _ rfl wr.heap.size (.slice AL j cL) j ls rfl (own_below (own_below HL.out.1.own HB5.out) ((Below.refl _ _).alloc (Nat.le_refl _) _)) _ _ 1 [.slice A5 m c5] rfl (Sl.lit_at (by rfl) rfl (by decide)) (by simp [Value.oneCell']) (by omega) (by simp; omega) ?_; intro A9 c9 w9 hown9 hg9 hat9 hbel9; (have HL9:=Lib.hid (HL.out.1.step HM.out HL.out.2.size HB5.out HO5.out ((Below.refl _ _).alloc (Nat.le_refl _) _) hown9 hg9)); (have HB9:Hid (Below wr.heap.size wr w9):=((HL.out.2.trans (HB5.out.mono HL.out.2.size)).alloc (by omega) _).trans hbel9); clear hown9 hg9 hat9 hbel9)
       | fail)
      go_roundw
      case rel => exact ⟨j + 1,c9,A9,_,_,rfl,by omega,by go_num,rfl,Lib.hid ⟨HL9.out,HB9.out⟩⟩
      case measure => simp [intOf]; omega
     ·have d2:decide (j < P)=false:=decide_eq_false hlt2
      obtain rfl:j=P:=by omega
      obtain ⟨b,cb,Fb,hLV,hrows⟩:=CqAt.add (HJ.out.1.call HL.out.2).rows HL.out.1 hP.1 HJ.out.2.1.size (fun i hi => (HJ.out.1.rows.row i hi).2.2.lt) (fun i t hi ht b e => ((HJ.out.1.rows.own i t hi ht).lt b e).2)
      injection hLV with hA9 _ hc9
      subst hA9
      subst hc9
      obtain ⟨AQ,cQ2,hQV,_,_⟩:=(Sl.of_own HJ.out.1.own).form
      subst hQV
      have HROWS:=Lib.hid hrows
      have HC9:=Lib.hid (HJ.out.1.call HL.out.2)
      have HBB:Hid (Below wb.heap.size wb wq):=HJ.out.2.1.trans (HL.out.2.mono HJ.out.2.1.size)
      have w13:wq.cell? ⟨A2,13,none⟩=some (.slice AQ k cQ2):=HC9.out.cells.cell (by omega)
      have hzb:wb.heap.size≤wq.heap.size:=HBB.out.size
      clear hrows
      go_wp2_with (first
       | (at_builtin; refine wpList_apv _ rfl stQusR _ _ rfl wb.heap.size (.slice AQ k cQ2) k vs rfl (own_below HC9.out.own ((Below.refl _ _).alloc (Nat.le_refl _) _)) _ _ 1 [.slice (some ⟨b,0,none⟩) j cL] rfl (Sl.lit_at (by rfl) rfl (by decide)) (by simp [Value.oneCell']) (by omega) (by simp; omega) ?_; intro A9 c9 w9 hown9 hg9 hat9 hbel9; (have hr2:=World.rowIs.of_block HC9.out.cells (((Below.refl wq.heap.size wq).alloc (Nat.le_refl _) (.cells #[.slice (some ⟨b,0,none⟩) j cL] 87)).block _ HC9.out.cells.lt)); (have hown2:=own_below HC9.out.own ((Below.refl wq.heap.size wq).alloc (Nat.le_refl _) (.cells #[.slice (some ⟨b,0,none⟩) j cL] 87))); (have hr3:=World.rowIs.of_block hr2 (hg9.block _ hr2.lt (fun e => rowIs_own_ne hr2 hown2 (by decide) e.symm))); (have y1:w9.cell? ⟨A2,13,none⟩=some (.slice AQ k cQ2):=World.rowIs.cell hr3 (by omega)); (have y2:w9.frozen? ⟨A2,13,none⟩=false:=World.rowIs.frozen hr3 _); (have HST:=Lib.hid (CpR.step HC9.out HROWS.out (fun i hi => ⟨if_neg (by omega),if_neg (by omega)⟩) ⟨if_pos rfl,if_pos rfl⟩ ((Below.refl _ _).alloc (Nat.le_refl _) _) hown9 hg9)); (have HB9:Hid (Below wb.heap.size wb w9):=(HBB.out.alloc HBB.out.size _).trans hbel9); (have HW9:Hid (Below w.heap.size w w9):=(HW.out.alloc HW.out.size _).trans (hbel9.mono (by have:=HH0.out; omega))); clear hr2 hown2 hr3 hown9 hg9 hat9 hbel9)
       | fail)
      have HFB:Hid (Below wb.heap.size wb (w9.setCell ⟨A2,13,none⟩ (.slice A9 (k + 1) c9))∧Below w.heap.size w (w9.setCell ⟨A2,13,none⟩ (.slice A9 (k + 1) c9))):=⟨HB9.out.setCell HAb.out _,HW9.out.setCell (show w.heap.size≤A2 by have:=HAb.out; have:=HH0.out; omega) _⟩
      go_roundw
      case rel => exact ⟨k + 1,_,_,_,_,_,_,rfl,by omega,by go_num,Lib.hid ⟨HST.out,HFB.out.1,HFB.out.2⟩⟩
      case measure => simp [intOf]; omega
   ·have d1:decide (k < P)=false:=decide_eq_false hlt
    obtain rfl:k=P:=by omega
    obtain ⟨Qb,cQ2,F,hQV,hcq,hqb,hrow,hF⟩:=own_rowIs HJ.out.1.own (by omega)
    subst hQV
    have hFR:∀ i,i < k→F i=.slice (some ⟨R2 i,0,none⟩) k (cp i):=fun i hi => by
     have h1:=hF i hi
     rw [HJ.out.1.vsR i hi] at h1
     injection h1 with h1
     exact h1.symm
    have hcpF:∀ i,i < k→capV (F i)=cp i:=fun i hi => by rw [hFR i hi]; rfl
    have hmd:RfAt wr w.heap.size A2 S2 Qb cQ2 (fun i => if i=10 then .slice none 0 cS else X i) (.slice Av2 nv cv2) (.pointer (some ⟨p2,0,none⟩)) k r nv lv st F:=⟨by have:=HAb.out; have:=HH0.out; omega,HLS.out.1,by have:=HH0.out; omega,hcq,HE.out.1,HE.out.2.1,HJ.out.1.cells,HJ.out.1.stands,HJ.out.1.vlans,hrow,HCS.out,⟨a1,n1,c1,a2,n2,c2,i3,i4,i5,i6,i8,i9,HE.out.2.2.1,HE.out.2.2.2.1,HE.out.2.2.2.2.1,HE.out.2.2.2.2.2.1,HE.out.2.2.2.2.2.2.1,HE.out.2.2.2.2.2.2.2.1,HE.out.2.2.2.2.2.2.2.2.1,HE.out.2.2.2.2.2.2.2.2.2⟩⟩
    have hzw:w.heap.size≤wb.heap.size:=by have:=HH0.out; omega
    have hqu:QuAt wr w.heap.size k R2 F qw qs:=⟨fun i hi => Nat.le_trans hzw (HJ.out.1.rows.row i hi).1,fun i hi => by rw [hcpF i hi]; exact hFR i hi,fun i hi => by rw [hcpF i hi]; exact (HJ.out.1.rows.row i hi).2.2,fun i j hi hj hne => HJ.out.1.rows.inj i j hi hj hne,fun i j hi hj => own_base (HJ.out.1.rows.own i j hi hj) hzw,fun i t i' t' hi ht hi' ht' hne => HJ.out.1.rows.ap i t i' t' hi ht hi' ht' hne,fun i hi => by rw [hcpF i hi]; exact (HJ.out.1.rows.row i hi).2.1⟩
    have HF:=Lib.hid (RfAll.of_copy hmd hqu HK.out HJ.out.2.1 HH0.out.2.2.2 HH0.out.2.2.1 HH0.out.1 HH0.out.2.1 (.inr HAb.out) (.inl HLS.out.2) (.inr hqb) (fun z hz => .inl (HUL.out z hz)) (fun i hi => (HJ.out.1.rows.row i hi).1) (fun i j hi hj b e => ((HJ.out.1.rows.own i j hi hj).lt b e).1))
    have HBF:=Lib.hid HJ.out.2.2
    clear hmd hqu hrow hF hFR hcpF
    go_wp2
    go_ret
    exact ⟨A2,S2,Qb,cQ2,_,p2,q2,_,F,R2,qw,by first | rfl | (simp; done),HF.out,HBF.out⟩
end
end Go.Proofs.YtpcapdpglpgcbaaGreat
