/-
  Words and contracts that a statement's proof rests on (BkA, MoQ). No statement is proved here.
-/
import Derived.Deep.RegionLaw
import Derived.Test.YtfekhdgjgjodlaaVlanD
import Derived.Test.YtfekhdgjgjodlaaKeyB
import Derived.Test.YtfekhdgjgjodlaaBuH
import Derived.Test.YtfekhdgjgjodlaaBuI
import Derived.Test.YtfekhdgjgjodlaaPlainPt
import Derived.Test.YtfekhdgjgjodlaaSrA
set_option linter.unusedVariables false
set_option linter.unusedSimpArgs false
namespace Go.Proofs.Ytfekhdgjgjodlaa
section
open Go.RowKit
def PlRowD (w:World) (D:Nat→Prop) (v:Value) (n:Nat) (f:Nat→Pl):Prop :=
 ∃ A cap,v=.slice A n cap∧n≤cap∧cap≤maxLen∧(0 < n→∃ b off,A=some ⟨b,off,none⟩∧b < w.heap.size∧¬ D b∧∀ j,j < n→plHolds w b (off + j * 6) (f j))
theorem PlRowD.row {w:World} {D:Nat→Prop} {v:Value} {n:Nat} {f:Nat→Pl} (h:PlRowD w D v n f):PlRow w w.heap.size v n f:=by
 obtain ⟨A,cap,hv,h1,h2,h3⟩:=h
 refine ⟨A,cap,hv,h1,h2,fun hn => ?_⟩
 obtain ⟨b,off,e,hb,_,hc⟩:=h3 hn
 exact ⟨b,off,e,hb,hc⟩
theorem PlRowD.of_own {w:World} {D:Nat→Prop} {T:TypeId} {B n:Nat} {v:Value} {f:Nat→Pl} (h:RowOf w T B v n f) (hD:∀ b,D b→b < B):PlRowD w D v n f:=by
 obtain ⟨A,cap,hv,h1,h2,h3⟩:=h
 refine ⟨A,cap,hv,h1,h2,fun hn => ?_⟩
 obtain ⟨g,F,e,hg,hr,hF⟩:=h3 hn
 exact ⟨g,0,e,hr.lt,fun hd => by have:=hD g hd; omega,fun j hj => by rw [Nat.zero_add]; exact rowG_holds hr (by omega) hF hj⟩
theorem PlRowD.but {w w':World} {D:Nat→Prop} {v:Value} {n q:Nat} {f:Nat→Pl} (h:PlRowD w D v n f) (hb:But q w w') (hq:D q):PlRowD w' D v n f:=by
 obtain ⟨A,cap,hv,h1,h2,h3⟩:=h
 refine ⟨A,cap,hv,h1,h2,fun hn => ?_⟩
 obtain ⟨b,off,e,hbb,hd,hc⟩:=h3 hn
 exact ⟨b,off,e,Nat.lt_of_lt_of_le hbb hb.below.size,hd,fun j hj => (hc j hj).keep fun p hp => hb.cell (by rw [hp]; exact hbb) (by rw [hp]; intro e; exact hd (by rw [e]; exact hq))⟩
theorem PlRowD.congr {w:World} {D:Nat→Prop} {v:Value} {n:Nat} {f g:Nat→Pl} (h:PlRowD w D v n f) (hfg:∀ i,i < n→f i=g i):PlRowD w D v n g:=by
 obtain ⟨A,cap,hv,h1,h2,h3⟩:=h
 refine ⟨A,cap,hv,h1,h2,fun hn => ?_⟩
 obtain ⟨b,off,e,hb',hd,hc⟩:=h3 hn
 exact ⟨b,off,e,hb',hd,fun j hj => by rw [← hfg j hj]; exact hc j hj⟩
def BkAt (w:World) (D:Nat→Prop) (p q S B n:Nat) (g:Nat→Nat→Pl):Prop :=
 p < w.heap.size∧q < w.heap.size∧p ≠ q∧w.cell? ⟨p,0,none⟩=some (.int .i64 (S:Nat))∧w.cell? ⟨p,1,none⟩=some (.int .i64 (B:Nat))∧w.cell? ⟨p,2,none⟩=some (.int .i64 (n:Nat)) ∧
  (∃ cap,S * B≤cap∧cap≤maxLen∧w.cell? ⟨p,3,none⟩=some (.slice (some ⟨q,0,none⟩) (S * B) cap))∧(∀ o,w.frozen? ⟨q,o,none⟩=false) ∧
  ∀ i,i < S * B→∃ v,w.cell? ⟨q,i,none⟩=some v∧PlRowD w D v n (g i)
theorem BkAt.keep {w w':World} {D:Nat→Prop} {p q S B n:Nat} {g:Nat→Nat→Pl} (h:BkAt w D p q S B n g) (hz:w.heap.size≤w'.heap.size) (hk:∀ b,b < w.heap.size→(b=p ∨ b=q ∨ ¬ D b)→w'.heap[b]?=w.heap[b]?):BkAt w' D p q S B n g:=by
 obtain ⟨h0,h1,h2,h3,h4,h5,⟨cap,h6,h7,h8⟩,h9,h10⟩:=h
 have cp:∀ o,w'.cell? ⟨p,o,none⟩=w.cell? ⟨p,o,none⟩:=fun o => World.cell?_of_block (w:=w) (hk p h0 (.inl rfl))
 have cq:∀ o,w'.cell? ⟨q,o,none⟩=w.cell? ⟨q,o,none⟩:=fun o => World.cell?_of_block (w:=w) (hk q h1 (.inr (.inl rfl)))
 refine ⟨by omega,by omega,h2,(cp 0).trans h3,(cp 1).trans h4,(cp 2).trans h5,⟨cap,h6,h7,(cp 3).trans h8⟩,fun o => (World.frozen?_of_block (w:=w) (hk q h1 (.inr (.inl rfl)))).trans (h9 o),fun i hi => ?_⟩
 obtain ⟨v,hv,A,cap',e1,e2,e3,e4⟩:=h10 i hi
 refine ⟨v,(cq i).trans hv,A,cap',e1,e2,e3,fun hn => ?_⟩
 obtain ⟨b,off,e5,e6,e7,e8⟩:=e4 hn
 exact ⟨b,off,e5,by omega,e7,fun j hj => (e8 j hj).keep fun a ha => World.cell?_of_block (w:=w) (by rw [ha]; exact hk b e6 (.inr (.inr e7)))⟩
theorem BkAt.call {w w':World} {D:Nat→Prop} {p q S B n:Nat} {g:Nat→Nat→Pl} (h:BkAt w D p q S B n g) (hb:Below w.heap.size w w'):BkAt w' D p q S B n g :=
 h.keep hb.size fun b hlt _ => hb.block b hlt
theorem BkAt.but {w w':World} {D:Nat→Prop} {p q q' S B n:Nat} {g:Nat→Nat→Pl} (h:BkAt w D p q S B n g) (hb:But q' w w') (h1:p ≠ q') (h2:q ≠ q') (hD:D q'):BkAt w' D p q S B n g :=
 h.keep hb.below.size fun b hlt hc => hb.rest b hlt (by
  rcases hc with rfl | rfl | hc
  ·exact h1
  ·exact h2
  ·exact fun e => hc (by rw [e]; exact hD))
def updR (g:Nat→Nat→Pl) (i:Nat) (f:Nat→Pl) (j:Nat):Nat→Pl:=if j=i then f else g j
theorem BkAt.put {w:World} {D:Nat→Prop} {p q S B n i:Nat} {g:Nat→Nat→Pl} {v:Value} {f:Nat→Pl} (h:BkAt w D p q S B n g) (hi:i < S * B) (hv:PlRowD w D v n f) (hD:D q):BkAt (w.setCell ⟨q,i,none⟩ v) D p q S B n (updR g i f):=by
 obtain ⟨h0,h1,h2,h3,h4,h5,⟨cap,h6,h7,h8⟩,h9,h10⟩:=h
 have hb:But q w (w.setCell ⟨q,i,none⟩ v):=But.set i v
 have cp:∀ o,(w.setCell ⟨q,i,none⟩ v).cell? ⟨p,o,none⟩=w.cell? ⟨p,o,none⟩:=fun o => hb.cell h0 h2
 obtain ⟨v0,hv0,_⟩:=h10 i hi
 refine ⟨by simpa using h0,by simpa using h1,h2,(cp 0).trans h3,(cp 1).trans h4,(cp 2).trans h5,⟨cap,h6,h7,(cp 3).trans h8⟩,fun o => by simp [go_sem,h9],fun j hj => ?_⟩
 by_cases hji:j=i
 ·subst hji
  refine ⟨v,by simp [go_sem,hv0],?_⟩
  have e:updR g j f j=f:=by unfold updR; rw [if_pos rfl]
  rw [e]
  exact hv.but hb hD
 ·obtain ⟨u,hu,hr⟩:=h10 j hj
  refine ⟨u,?_,?_⟩
  ·rw [← hu]
   simp [go_sem]
  ·have e:updR g i f j=g j:=by unfold updR; rw [if_neg hji]
   rw [e]
   exact hr.but hb hD
end
section
open Go.RowKit
theorem infoInt:(Try.prog.info? 3).map (fun i => (i.zero,i.size,i.bytes))=some (some (.int .i64 0),1,8):=by kernel_rfl
def overL:List Value→Nat→List Value→List Value
 | xs,_,[] => xs
 | xs,o,v :: vs => overL (xs.set o v) (o + 1) vs
theorem overL_low:∀ (vs xs:List Value) (o j:Nat),j < o→(overL xs o vs)[j]?=xs[j]?
 | [],xs,o,j,_ => rfl
 | v :: vs,xs,o,j,h => by
  unfold overL
  rw [overL_low vs _ _ _ (by omega),List.getElem?_set_ne (by omega)]
theorem overL_at:∀ (vs xs:List Value) (o j:Nat),j < vs.length→o + j < xs.length→(overL xs o vs)[o + j]?=vs[j]?
 | [],xs,o,j,h,_ => by simp at h
 | v :: vs,xs,o,0,h,h2 => by
  unfold overL
  rw [overL_low vs _ _ _ (by omega)]
  simp only [Nat.add_zero] at h2 ⊢
  rw [List.getElem?_set_self h2]
  rfl
 | v :: vs,xs,o,j + 1,h,h2 => by
  unfold overL
  rw [show o + (j + 1)=o + 1 + j by omega,overL_at vs _ _ _ (by simpa using h) (by rw [List.length_set]; omega)]
  rfl
theorem own_over {L n cap b:Nat} {e:TypeId}:∀ (vs:List Value) (o:Nat) (w:World) (xs:List Value),w.ownsRow L e 1 (.slice (some ⟨b,0,none⟩) n cap) n xs→(w.setCells b o vs).ownsRow L e 1 (.slice (some ⟨b,0,none⟩) n cap) n (overL xs o vs)
 | [],_,_,_,h => h
 | v :: vs,o,w,xs,h => own_over vs (o + 1) _ _ (h.stored o v).1
theorem own_cut {w:World} {L n cap b:Nat} {e:TypeId} {xs:List Value} (h:w.ownsRow L e 1 (.slice (some ⟨b,0,none⟩) (n + 1) cap) (n + 1) xs):w.ownsRow L e 1 (.slice (some ⟨b,0,none⟩) n cap) n (xs.take n):=by
 refine ⟨by have:=h.1; rw [List.length_take]; omega,?_⟩
 rcases h.2 with hn | ⟨g,cap',cur,hv,hb,hg,hnc,hcm,hcs,ht⟩
 ·cases hn.1
 ·simp only [Value.slice.injEq,Option.some.injEq,Addr.mk.injEq,and_true,true_and] at hv
  obtain ⟨rfl,rfl⟩:=hv
  refine .inr ⟨b,cap,cur,rfl,hb,hg,by omega,hcm,hcs,?_⟩
  rw [← ht,List.take_take]
  congr 1
  omega
theorem But.setCells {q:Nat}:∀ (vs:List Value) (o:Nat) (w:World),But q w (w.setCells q o vs)
 | [],_,w => ⟨Below.refl _ _,fun _ _ _ => rfl⟩
 | v :: vs,o,w => (But.set o v).trans (But.setCells vs (o + 1) _)
set_option maxRecDepth 100000 in
set_option maxHeartbeats 1600000 in
theorem delete_first {w:World} {L n cap b:Nat} {x:Int} {l:List Int} (hown:w.ownsRow L 3 1 (.slice (some ⟨b,0,none⟩) (n + 1) cap) (n + 1) (kv .i64 (x :: l))) :
  Calls Try.prog 77 #[.slice (some ⟨b,0,none⟩) (n + 1) cap,.int .i64 0,.int .i64 1] w fun e w' => e=.returned (.slice (some ⟨b,0,none⟩) n cap)∧w'.ownsRow L 3 1 (.slice (some ⟨b,0,none⟩) n cap) n (kv .i64 l)∧But b w w':=by
 obtain ⟨i0,hi0,hz0,hz1,hz2⟩:=info_parts infoInt
 obtain ⟨hnc,hcm⟩:n + 1≤cap∧cap≤maxLen:=by
  rcases hown.2 with hn | ⟨g,cap',cur,hv,hb,hg,hnc,hcm,hcs,ht⟩
  ·cases hn.1
  ·simp only [Value.slice.injEq,Option.some.injEq,Addr.mk.injEq,and_true,true_and] at hv
   obtain ⟨rfl,rfl⟩:=hv
   exact ⟨hnc,hcm⟩
 unfold maxLen at hcm
 have hlen:(kv .i64 (x :: l)).length=n + 1:=by have:=hown.1; omega
 have hl:(kv .i64 l).length=n:=by simp [kv] at hlen ⊢; omega
 have hc:∀ j,j < n + 1→w.cell? ⟨b,j,none⟩=(kv .i64 (x :: l))[j]?:=fun j hj => hown.cellAt j (by omega)
 have hf:∀ j,w.frozen? ⟨b,j,none⟩=false:=fun j => hown.frozenAt j
 obtain ⟨A,hA,hnews⟩:∃ A:Addr,(if cap=1 then some (⟨b,0,none⟩:Addr) else some ⟨b,1,none⟩)=some A∧Hid (∀ j u,(kv .i64 l)[j]?=some u→w.drew.cell? (A.add j)=some u):=by
  by_cases h:cap=1
  ·refine ⟨⟨b,0,none⟩,by simp [h],fun j u hu => ?_⟩
   have h0:(kv .i64 l).length=0:=by omega
   rw [List.length_eq_zero_iff.1 h0] at hu
   simp at hu
  ·refine ⟨⟨b,1,none⟩,by simp [h],fun j u hu => ?_⟩
   have hj:j < n:=by
    have:=(List.getElem?_eq_some_iff.1 hu).1
    omega
   rw [Addr.add_lit,show 1 + j=j + 1 by omega]
   exact (hc (j + 1) (by omega)).trans (by rw [← hu]; rfl)
 have s1:Hid ((kv .i64 l).length=n * 1):=by show _=_; omega
 have s2:Hid (∀ u ∈ kv .i64 l,u.oneCell'=true):=by
  intro u hu
  obtain ⟨y,_,rfl⟩:=List.mem_map.1 hu
  rfl
 have s3:Hid (∀ j,j < (kv .i64 l).length→(w.drew.cell? ⟨b,0 + 0 * 1 + j,none⟩).isSome=true∧w.drew.frozen? ⟨b,0 + 0 * 1 + j,none⟩=false):=by
  intro j hj
  rw [show 0 + 0 * 1 + j=j by omega]
  refine ⟨?_,hf j⟩
  show (w.cell? _).isSome=true
  rw [hc j (by omega),List.getElem?_eq_getElem (show j < (kv .i64 (x :: l)).length by omega)]
  rfl
 obtain ⟨X,hX⟩:∃ X,X=kv .i64 l:=⟨_,rfl⟩
 have HOWN:=Lib.hid hown
 rw [← hX] at hnews s1 s2 s3
 have HX:=Lib.hid hX
 have HL:=Lib.hid hl
 have hp1:(1:Int)≤(n:Int) + 1:=by omega
 have hp2:(n:Int)≤(n:Int) + 1:=by omega
 have hp3:¬ cap=n:=by omega
 clear hc hf hown hl hlen hX
 go_enter Try.func77,Try.ntmps77
 go_wp2_with fail
 go_region_law (refine step_append_room rfl (.tmp 22) (.tmp 25) 24 rfl 3 i0 1 Try.underlying24 hi0 hz1 b 0 0 cap (by simp [Act.eval,Act.put]) A n (cap - 1) X (by simp [Act.eval,Act.put]) s1.out hnews.out s2.out (by omega) s3.out ?_)
 obtain ⟨w2,hw2⟩:∃ z,z=w.drew.setCells b 0 X:=⟨_,rfl⟩
 have HO2:Hid (w2.ownsRow L 3 1 (.slice (some ⟨b,0,none⟩) (n + 1) cap) (n + 1) (overL (kv .i64 (x :: l)) 0 X)):=by
  rw [hw2]
  exact own_over X 0 _ _ (own_below HOWN.out (Below.refl _ _).drew)
 have HB2:Hid (But b w w2):=by
  rw [hw2]
  exact (But.of (Below.refl _ _).drew (by have:=(HOWN.out.lt b rfl).2; omega)).trans (But.setCells X 0 _)
 obtain ⟨yl,y1⟩:∃ y,w2.cell? ⟨b,n,none⟩=some y:=by
  have h1:=HO2.out.cellAt n (by omega)
  rw [List.getElem?_eq_getElem (show n < (overL (kv .i64 (x :: l)) 0 X).length by have:=HO2.out.1; omega)] at h1
  exact ⟨_,h1⟩
 have f1:w2.frozen? ⟨b,n,none⟩=false:=HO2.out.frozenAt n
 rw [← hw2]
 clear hw2 hA hnews s1 s2 s3
 have hy1:∀ j,j < 1→(w2.cell? ⟨b,n + j,none⟩).isSome=true:=fun j hj => by
  obtain rfl:j=0:=by omega
  rw [Nat.add_zero,y1]
  rfl
 have hy2:∀ j,j < 1→w2.frozen? ⟨b,n + j,none⟩=false:=fun j hj => by
  obtain rfl:j=0:=by omega
  exact f1
 have hcl:(Builtin.clear_ #[24] 0 #[.slice (some ⟨b,n,none⟩) 1 (cap - n)]).run Try.prog w2=.ok (.tuple #[]) (w2.setCell ⟨b,n,none⟩ (.int .i64 0)) :=
  Lib.run_clear_slice w2 24 3 0 (.int .i64 0) Try.underlying24 (fun w => by kernel_rfl) rfl rfl b n 1 (cap - n) (by omega) hy1 hy2
 clear hy1 hy2
 go_wp2
 go_ret
 have h3:=own_cut (HO2.out.stored n (.int .i64 0)).1
 have hx:((overL (kv .i64 (x :: l)) 0 X).set n (.int .i64 0)).take n=kv .i64 l:=by
  have hX:=HX.out
  have hl:=HL.out
  apply List.ext_getElem?
  intro j
  by_cases hj:j < n
  ·rw [List.getElem?_take,if_pos hj,List.getElem?_set_ne (by omega)]
   have:=overL_at X (kv .i64 (x :: l)) 0 j (by rw [hX]; omega) (by have:=HOWN.out.1; omega)
   rw [Nat.zero_add] at this
   rw [this,hX]
  ·rw [List.getElem?_take,if_neg hj,List.getElem?_eq_none (by omega)]
 rw [hx] at h3
 exact ⟨by first | rfl | (simp; done),h3,HB2.out.trans (But.set n _)⟩
end
end Go.Proofs.Ytfekhdgjgjodlaa
