/-
  Words and contracts that a statement's proof rests on (MsH, MrN, MsB). No statement is proved here.
-/
import Derived.Test.YtpcapdpglpgcbaaGreatMoK
import Derived.Test.YtpcapdpglpgcbaaGreatMrU
import Derived.Test.YtpcapdpglpgcbaaGreatMrL
import Derived.Test.YtpcapdpglpgcbaaGreatBkT
set_option linter.unusedVariables false
set_option linter.unusedSimpArgs false
namespace Go.Proofs.YtpcapdpglpgcbaaGreat
section
open Go.RowKit
section
variable {E:Nat→Prop} {w:World} {L A S1 Q bp bq P r S B n nv cQ:Nat} {X:Nat→Value} {uv:Value} {lv:List Vl} {st:Nat→Int × Nat} {g:Nat→Nat→Pl} {G:Nat→Value} {R:Nat→Nat} {qv:Nat→Nat→Value} {qs:Nat→Nat→List Int}
theorem RfAll.grow {w':World} (h:RfAll E w L A S1 Q cQ X bp bq P r S B n nv uv lv st g G R qv qs) (hz:w.heap.size≤w'.heap.size) (hk:∀ b,b < w.heap.size→¬ E b→w'.heap[b]?=w.heap[b]?):RfAll (fun b => E b ∨ (w.heap.size≤b∧b < w'.heap.size)) w' L A S1 Q cQ X bp bq P r S B n nv uv lv st g G R qv qs:=by
 have h':=h.keepE hz hk
 obtain ⟨D,h1,h2,h3,h4,h5⟩:=h.bk
 have hbk:BkAt w' D bp bq S B n g:=h1.keep hz fun b hlt hc => hk b hlt (fun he => by
  rcases hc with rfl | rfl | hc
  ·exact (h5 _ he).2.1 rfl
  ·exact (h5 _ he).2.2.1 rfl
  ·exact hc (h5 b he).1)
 refine ⟨h'.md,h'.qu,h'.lbk,fun b => D b ∨ (w.heap.size≤b∧b < w'.heap.size),?_,fun b hd => ?_,.inl h3,fun b hc => ⟨.inl (h4 b hc).1,(h4 b hc).2⟩,fun b he => ?_⟩
 ·obtain ⟨k0,k1,k2,k3,k4,k5,k6,k9,k10⟩:=hbk
  obtain ⟨_,_,_,_,_,_,_,_,m10⟩:=h1
  refine ⟨k0,k1,k2,k3,k4,k5,k6,k9,fun a ha => ?_⟩
  obtain ⟨v0,hv0,hrow0⟩:=m10 a ha
  obtain ⟨v,hv,Ax,cap,e1,e2,e3,e4⟩:=k10 a ha
  refine ⟨v,hv,Ax,cap,e1,e2,e3,fun hn => ?_⟩
  obtain ⟨b,off,f1,f2,f3,f4⟩:=e4 hn
  refine ⟨b,off,f1,f2,fun hd => ?_,f4⟩
  rcases hd with hd | hd
  ·exact f3 hd
  ·obtain ⟨Ay,cay,y1,y2,y3,y4⟩:=hrow0
   obtain ⟨b',off',z1,z2,z3,z4⟩:=y4 hn
   have hq0:w'.cell? ⟨bq,a,none⟩=w.cell? ⟨bq,a,none⟩:=World.cell?_of_block (hk bq (h2 bq h3) (fun he => (h5 bq he).2.2.1 rfl))
   rw [hq0,hv0] at hv
   injection hv with hv
   rw [y1,e1] at hv
   injection hv with hv
   rw [z1,f1] at hv
   injection hv with hv
   injection hv with hv
   omega
 ·rcases hd with hd | hd
  ·exact Nat.lt_of_lt_of_le (h2 b hd) hz
  ·exact hd.2
 ·rcases he with he | he
  ·exact ⟨.inl (h5 b he).1,(h5 b he).2⟩
  ·refine ⟨.inr he,?_,?_,fun hc => ?_⟩
   ·have:=h1.1; omega
   ·have:=h1.2.1; omega
   ·have:=h2 b (h4 b hc).1; omega
end
structure Both (Ep E:Nat→Prop) (w:World) (Lp Ap Sp Qp bpp bqp:Nat) (up:Value) (Gp:Nat→Value) (Rp:Nat→Nat) (qvp:Nat→Nat→Value) (L A S1 Q cQ:Nat) (X:Nat→Value) (bp bq:Nat) (uv:Value) (G:Nat→Value) (R:Nat→Nat) (qv:Nat→Nat→Value) (P r S B n nv:Nat) (s:Ms):Prop where
 md:MdAll Ep w Lp Ap Sp Qp bpp bqp P r S B n nv up s.lv s.st s.g Gp Rp qvp s.qs
 rf:RfAll E w L A S1 Q cQ X bp bq P r S B n nv uv s.lv s.st s.g G R qv s.qs
 cov:∀ b,b < w.heap.size→E b ∨ Ep b
section
variable {Ep E:Nat→Prop} {w w':World} {Lp Ap Sp Qp bpp bqp:Nat} {up:Value} {Gp:Nat→Value} {Rp:Nat→Nat} {qvp qvp':Nat→Nat→Value} {L A S1 Q cQ:Nat} {X:Nat→Value} {bp bq:Nat} {uv:Value} {G:Nat→Value} {R:Nat→Nat} {qv qv':Nat→Nat→Value} {P r S B n nv:Nat} {s s':Ms}
theorem Both.call (h:Both Ep E w Lp Ap Sp Qp bpp bqp up Gp Rp qvp L A S1 Q cQ X bp bq uv G R qv P r S B n nv s) (hb:Below w.heap.size w w'):Both Ep (fun b => E b ∨ (w.heap.size≤b∧b < w'.heap.size)) w' Lp Ap Sp Qp bpp bqp up Gp Rp qvp L A S1 Q cQ X bp bq uv G R qv P r S B n nv s :=
 ⟨h.md.call hb,h.rf.grow hb.size fun b hlt _ => hb.block b hlt,fun b hlt => by
  by_cases hc:b < w.heap.size
  ·exact (h.cov b hc).imp .inl id
  ·exact .inl (.inr ⟨by omega,hlt⟩)⟩
theorem Both.prog (h:Both Ep E w Lp Ap Sp Qp bpp bqp up Gp Rp qvp L A S1 Q cQ X bp bq uv G R qv P r S B n nv s) (hm:MdAll Ep w' Lp Ap Sp Qp bpp bqp P r S B n nv up s'.lv s'.st s'.g Gp Rp qvp' s'.qs) (hf:MdFr Ep w w' Lp) :
  MdAll Ep w' Lp Ap Sp Qp bpp bqp P r S B n nv up s'.lv s'.st s'.g Gp Rp qvp' s'.qs∧RfAll (fun b => E b ∨ (w.heap.size≤b∧b < w'.heap.size)) w' L A S1 Q cQ X bp bq P r S B n nv uv s.lv s.st s.g G R qv s.qs∧∀ b,b < w'.heap.size→(E b ∨ (w.heap.size≤b∧b < w'.heap.size)) ∨ Ep b :=
 ⟨hm,h.rf.grow hf.low.size fun b hlt hn => hf.kp b ((h.cov b hlt).resolve_left hn),fun b hlt => by
  by_cases hc:b < w.heap.size
  ·exact (h.cov b hc).imp .inl id
  ·exact .inl (.inr ⟨by omega,hlt⟩)⟩
theorem Both.doc (h1:MdAll Ep w Lp Ap Sp Qp bpp bqp P r S B n nv up s'.lv s'.st s'.g Gp Rp qvp s'.qs) (hc:∀ b,b < w.heap.size→E b ∨ Ep b) (hm:RfAll E w' L A S1 Q cQ X bp bq P r S B n nv uv s'.lv s'.st s'.g G R qv' s'.qs) (hf:MdFr E w w' L) :
  Both (fun b => Ep b ∨ (w.heap.size≤b∧b < w'.heap.size)) E w' Lp Ap Sp Qp bpp bqp up Gp Rp qvp L A S1 Q cQ X bp bq uv G R qv' P r S B n nv s' :=
 ⟨h1.grow hf.low.size fun b hlt hn => hf.kp b ((hc b hlt).resolve_right hn),hm,fun b hlt => by
  by_cases hc':b < w.heap.size
  ·exact (hc b hc').imp id .inl
  ·exact .inr (.inr ⟨by omega,hlt⟩)⟩
theorem Both.start (h1:MdAll Ep w Lp Ap Sp Qp bpp bqp P r S B n nv up s'.lv s'.st s'.g Gp Rp qvp s'.qs) (hb:Below w.heap.size w w') (h2:RfAll (fun b => b < w.heap.size) w' L A S1 Q cQ X bp bq P r S B n nv uv s'.lv s'.st s'.g G R qv' s'.qs) :
  Both (fun b => Ep b ∨ (w.heap.size≤b∧b < w'.heap.size)) (fun b => b < w.heap.size) w' Lp Ap Sp Qp bpp bqp up Gp Rp qvp L A S1 Q cQ X bp bq uv G R qv' P r S B n nv s' :=
 ⟨h1.grow hb.size fun b hlt _ => hb.block b hlt,h2,fun b hlt => by
  by_cases hc':b < w.heap.size
  ·exact .inl hc'
  ·exact .inr (.inr ⟨by omega,hlt⟩)⟩
end
end
section
open Go.RowKit
theorem own_rowIs {w:World} {base n:Nat} {T:TypeId} {v:Value} {xs:List Value} (h:w.ownsRow base T 1 v n xs) (hn:0 < n) :
  ∃ (b cap:Nat) (F:Nat→Value),v=.slice (some ⟨b,0,none⟩) n cap∧n≤cap∧base≤b∧w.rowIs b T cap F∧∀ i,i < n→xs[i]?=some (F i):=by
 rcases h.2 with hn' | ⟨b,cap,cur,hv,hb,hh,hnc,hcm,hcs,ht⟩
 ·obtain ⟨hv,hx⟩:=hn'
  have h1:=h.1
  rw [hx] at h1
  simp at h1
  omega
 ·subst hv
  have hr:w.rowIs b T cap (fun i => (cur[i]?).getD (.bool false)):=⟨cur,hh,by simpa using hcs,fun i hi => by
   have hlt:i < cur.size:=by rw [hcs]; omega
   show cur[i]?=some ((cur[i]?).getD (.bool false))
   rw [Array.getElem?_eq_getElem hlt]
   rfl⟩
  refine ⟨b,cap,_,rfl,hnc,hb,hr,fun i hi => ?_⟩
  have h1:=h.cellAt i (by omega)
  rw [← h1]
  exact hr.cell (by omega)
theorem BkAt.grow {w w':World} {D:Nat→Prop} {p q S B n:Nat} {g:Nat→Nat→Pl} (h:BkAt w D p q S B n g) (hb:Below w.heap.size w w'):BkAt w' (fun b => D b ∨ (w.heap.size≤b∧b < w'.heap.size)) p q S B n g:=by
 have hbq:=h.2.1
 obtain ⟨k0,k1,k2,k3,k4,k5,k6,k9,k10⟩:=h.call hb
 obtain ⟨_,_,_,_,_,_,_,_,m10⟩:=h
 refine ⟨k0,k1,k2,k3,k4,k5,k6,k9,fun a ha => ?_⟩
 obtain ⟨v0,hv0,hrow0⟩:=m10 a ha
 obtain ⟨v,hv,Ax,cap,e1,e2,e3,e4⟩:=k10 a ha
 refine ⟨v,hv,Ax,cap,e1,e2,e3,fun hn => ?_⟩
 obtain ⟨b,off,f1,f2,f3,f4⟩:=e4 hn
 refine ⟨b,off,f1,f2,fun hd => ?_,f4⟩
 rcases hd with hd | hd
 ·exact f3 hd
 ·obtain ⟨Ay,cay,y1,y2,y3,y4⟩:=hrow0
  obtain ⟨b',off',z1,z2,z3,z4⟩:=y4 hn
  have hq0:w'.cell? ⟨q,a,none⟩=w.cell? ⟨q,a,none⟩:=hb.cell hbq
  rw [hq0,hv0] at hv
  injection hv with hv
  rw [y1,e1] at hv
  injection hv with hv
  rw [z1,f1] at hv
  injection hv with hv
  injection hv with hv
  omega
section
variable {w w1 w':World} {L A S1 Q cQ:Nat} {X:Nat→Value} {bp bq P r S B n nv H0:Nat} {uv:Value} {lv:List Vl} {st:Nat→Int × Nat} {G:Nat→Value} {R:Nat→Nat}
theorem RfAll.of_parts (hm:RfAt w' L A S1 Q cQ X uv (.pointer (some ⟨bp,0,none⟩)) P r nv lv st G) (hq:QuNew w' w1.heap.size P P R G) (hk:BkAt w1 (fun b => b < H0 ∨ b=bp ∨ b=bq) bp bq S B n (fun _ _ => pl0)) (hb:Below w1.heap.size w1 w')
  (hL:L≤H0) (h0:H0≤w1.heap.size) (hp:H0≤bp) (hqq:H0≤bq) (hA:A < H0 ∨ w1.heap.size≤A) (hS:S1 < H0 ∨ w1.heap.size≤S1) (hQ:Q < H0 ∨ w1.heap.size≤Q) (hu:∀ b,uv.ownBlock=some b→b < H0 ∨ w1.heap.size≤b) :
  RfAll (fun b => b < L) w' L A S1 Q cQ X bp bq P r S B n nv uv lv st (fun _ _ => pl0) G R (fun _ _ => .slice none 0 0) (fun _ _ => []):=by
 have hbp:=hk.1
 have hbq:=hk.2.1
 have hz:=hb.size
 have hblk:∀ b,MdBlk A S1 Q P uv R (fun _ _ => .slice none 0 0) b→(b < H0 ∨ w1.heap.size≤b)∧b < w'.heap.size:=by
  rintro b ((rfl | rfl | rfl | hc) | ⟨i,hi,hc⟩)
  ·exact ⟨hA,hm.cells.lt⟩
  ·exact ⟨hS,hm.stands.lt⟩
  ·exact ⟨hQ,hm.queues.lt⟩
  ·exact ⟨hu b hc,(hm.vlans.lt b hc).2⟩
  ·rcases hc with rfl | ⟨j,hj,hc⟩
   ·exact ⟨.inr (hq i hi).1,(hq i hi).2.2.1.lt⟩
   ·cases hc
 refine ⟨hm,QuAt.of_new hq (by omega),by omega,_,hk.grow hb,fun b hd => ?_,.inl (.inr (.inr rfl)),fun b hc => ?_,fun b he => ?_⟩
 ·rcases hd with (hd | hd | hd) | hd
  ·omega
  ·omega
  ·omega
  ·exact hd.2
 ·obtain ⟨h1,h2⟩:=hblk b hc
  refine ⟨?_,by omega,by omega⟩
  rcases h1 with h1 | h1
  ·exact .inl (.inl h1)
  ·exact .inr ⟨h1,h2⟩
 ·refine ⟨.inl (.inl (by omega)),by omega,by omega,?_⟩
  have h1:=hm.la
  have h2:=hm.ls
  have h3:=hm.lq
  rintro ((rfl | rfl | rfl | hc) | ⟨i,hi,hc⟩)
  ·omega
  ·omega
  ·omega
  ·have:=(hm.vlans.lt b hc).1
   omega
  ·rcases hc with rfl | ⟨j,hj,hc⟩
   ·have:=(hq i hi).1
    omega
   ·cases hc
end
end
section
open Go.RowKit
theorem stRowsB:ST Tryz.prog 121 133 (.slice none 0 0) 1 24:=ST.mk Tryz.underlying121 (by kernel_rfl) rfl (by omega) (by omega)
theorem RowOf.keepB {w w':World} {T:TypeId} {B n:Nat} {v:Value} {f:Nat→Pl} (h:RowOf w T B v n f) (hk:∀ b M G,w.rowIs b T M G→w'.heap[b]?=w.heap[b]?):RowOf w' T B v n f:=by
 obtain ⟨A,cap,hv,h1,h2,h3⟩:=h
 refine ⟨A,cap,hv,h1,h2,fun hn => ?_⟩
 obtain ⟨g,G,e,hg,hr,hF⟩:=h3 hn
 exact ⟨g,G,e,hg,hr.of_block (hk g _ G hr),hF⟩
def BsAt (w:World) (base N n:Nat) (v:Value) (g:Nat→Nat→Pl):Prop :=
 ∃ vs,w.ownsRow base 133 1 v N vs∧∀ i,i < N→∃ x,vs[i]?=some x∧RowOf w 162 base x n (g i)
theorem BsAt.nil (w:World) (base n:Nat) (g:Nat→Nat→Pl):BsAt w base 0 n (.slice none 0 0) g:=⟨[],World.ownsRow_nil _ _ _ _,fun i hi => by omega⟩
theorem BsAt.below {w w':World} {base N n:Nat} {v:Value} {g:Nat→Nat→Pl} (h:BsAt w base N n v g) (hb:Below w.heap.size w w'):BsAt w' base N n v g:=by
 obtain ⟨vs,h1,h2⟩:=h
 refine ⟨vs,own_below h1 hb,fun i hi => ?_⟩
 obtain ⟨x,hx,hr⟩:=h2 i hi
 exact ⟨x,hx,hr.below hb⟩
theorem BsAt.low {w:World} {base base' N n:Nat} {v:Value} {g:Nat→Nat→Pl} (h:BsAt w base N n v g) (hb:base'≤base):BsAt w base' N n v g:=by
 obtain ⟨vs,h1,h2⟩:=h
 refine ⟨vs,own_base h1 hb,fun i hi => ?_⟩
 obtain ⟨x,hx,hr⟩:=h2 i hi
 exact ⟨x,hx,hr.base hb⟩
theorem BsAt.push {w w9:World} {base N n:Nat} {v v9 x:Value} {vs:List Value} {g:Nat→Nat→Pl} (ho:w.ownsRow base 133 1 v N vs) (hr:∀ i,i < N→∃ x,vs[i]?=some x∧RowOf w 162 base x n (g i)) (hx:RowOf w 162 base x n (g N))
  (h9:w9.ownsRow base 133 1 v9 (N + 1) (vs ++ [x])) (hg:w.grownBy w9 v.ownBlock):BsAt w9 base (N + 1) n v9 g:=by
 have hk:∀ b M G,w.rowIs b 162 M G→w9.heap[b]?=w.heap[b]?:=fun b M G hb => hg.block b hb.lt (fun e => rowIs_own_ne hb ho (by decide) e.symm)
 have hl:vs.length=N:=by have:=ho.1; omega
 refine ⟨_,h9,fun i hi => ?_⟩
 rcases Nat.lt_or_ge i N with h | h
 ·obtain ⟨y,hy,hry⟩:=hr i h
  exact ⟨y,by rw [List.getElem?_append_left (by omega)]; exact hy,hry.keepB hk⟩
 ·obtain rfl:i=N:=by omega
  exact ⟨x,by rw [List.getElem?_append_right (by omega),hl]; simp,hx.keepB hk⟩
section
variable {E:Nat→Prop} {w:World} {L A S1 Q bp bq P r S B n nv:Nat} {uv:Value} {lv:List Vl} {st:Nat→Int × Nat} {g:Nat→Nat→Pl} {G:Nat→Value} {R:Nat→Nat} {qv:Nat→Nat→Value} {qs:Nat→Nat→List Int}
set_option maxRecDepth 20000 in
set_option maxHeartbeats 6400000 in
theorem model_buckets (h:MdAll E w L A S1 Q bp bq P r S B n nv uv lv st g G R qv qs) (hS:1≤S∧S≤8) (hB:1≤B∧B≤16) (hn:1≤n∧n≤8) :
  Calls Tryz.prog 98 #[.pointer (some ⟨A,0,none⟩)] w fun e w' => ∃ v,e=.returned v∧BsAt w' w.heap.size (S * B) n v g∧Below w.heap.size w w':=by
 have hSB:S * B≤128:=Nat.mul_le_mul hS.2 hB.2
 have HSZ:Hid (∀ w',Below w.heap.size w w'→Calls Tryz.prog 108 #[.pointer (some ⟨bp,0,none⟩)] w' (Says (.agg #[.int .i64 (S:Nat),.int .i64 (B:Nat),.int .i64 (n:Nat)]) w')):=fun w' hb => by
  obtain ⟨D,hd,_⟩:=(h.call hb).bk
  exact book_Size hd
 have HC:Hid (∀ w',Below w.heap.size w w'→∀ a b:Nat,a < S→b < B→Calls Tryz.prog 99 #[.pointer (some ⟨bp,0,none⟩),.int .i64 (a:Nat),.int .i64 (b:Nat)] w' (Gives 162 n (g (a * B + b)) id w')):=fun w' hb a b ha hb2 => by
  obtain ⟨D,hd,_⟩:=(h.call hb).bk
  exact book_Bucket hd hS hB hn.1 hn.2 a b (a * B + b) (at_lt ha hb2) (by unfold atI; rw [if_pos ⟨by omega,by omega,by omega,by omega⟩]; simp)
 have HA:Hid (∀ w',Below w.heap.size w w'→w'.cell? ⟨A,3,none⟩=some (.pointer (some ⟨bp,0,none⟩))):=fun w' hb => (h.md.call hb).cells.cell (by omega)
 have c3:=HA.out w (Below.refl _ _)
 clear h
 go_enter Tryz.func98,Tryz.ntmps98
 go_wp2_with (first
  | (go_at_call 108; (with_reducible refine Calls.mono (HSZ.out _ (Below.refl _ _)) ?_); rintro e w1 ⟨rfl,hb⟩; (have HB1:=Lib.hid hb); clear hb)
  | fail)
 obtain ⟨z0,hz0⟩:∃ z,z=w1.heap.size:=⟨_,rfl⟩
 obtain ⟨w2,hw2⟩:∃ z,z=w1.alloc (.cells #[.int .i64 (S:Nat),.int .i64 (B:Nat),.int .i64 (n:Nat)] 37):=⟨_,rfl⟩
 have HSC:Hid (∀ w',Below w2.heap.size w2 w'→w'.cell? ⟨z0,0,none⟩=some (.int .i64 (S:Nat))∧w'.cell? ⟨z0,1,none⟩=some (.int .i64 (B:Nat))):=fun w' hb => by
  rw [hz0]
  exact ⟨(hb.cell (p:=⟨w1.heap.size,0,none⟩) (by rw [hw2]; simp)).trans (by rw [hw2]; simp [go_sem]),(hb.cell (p:=⟨w1.heap.size,1,none⟩) (by rw [hw2]; simp)).trans (by rw [hw2]; simp [go_sem])⟩
 have HB2:Hid (Below w.heap.size w w2):=by rw [hw2]; exact HB1.out.alloc HB1.out.size _
 rw [← hw2,← hz0]
 obtain ⟨s0,s1⟩:=HSC.out w2 (Below.refl _ _)
 have HST:=Lib.hid (BsAt.nil w2 w2.heap.size n g)
 clear hw2 hz0 c3 HSZ HB1
 go_wp2
 go_loopw [3,14] (fun all a wr => ∃ (k:Nat) (v:Value),k≤S∧a=.int .i64 k∧all=v∧Hid (BsAt wr w2.heap.size (k * B) n v g∧Below w2.heap.size w2 wr)) (fun _ a _ => S - (intOf a).toNat)
 case atStart => exact ⟨0,_,by omega,rfl,rfl,Lib.hid ⟨by rw [Nat.zero_mul]; exact HST.out,Below.refl _ _⟩⟩
 case round =>
  obtain ⟨k,v,hk,rfl,rfl,HI⟩:=hrel
  rename_i wr _
  by_cases hlt:k < S
  ·have d1:decide (k < S)=true:=decide_eq_true hlt
   obtain ⟨s0',s1'⟩:=HSC.out _ HI.out.2
   clear s0 s1
   go_wp2
   go_loopw [3,19] (fun all b wr2 => ∃ (m:Nat) (v2:Value) (wx:World),wx=wr2∧m≤B∧b=.int .i64 m∧all=v2∧Hid (BsAt wr2 w2.heap.size (k * B + m) n v2 g∧Below w2.heap.size w2 wr2)) (fun _ b _ => B - (intOf b).toNat)
   case atStart => exact ⟨0,_,_,rfl,by omega,rfl,rfl,HI⟩
   case round =>
    obtain ⟨m,v2,wq,rfl,hm,rfl,rfl,HJ⟩:=hrel
    by_cases hlt2:m < B
    ·have d2:decide (m < B)=true:=decide_eq_true hlt2
     have hq:Below w.heap.size w wq:=HB2.out.trans (HJ.out.2.mono HB2.out.size)
     have c3:=HA.out _ hq
     have HQ:=Lib.hid hq
     obtain ⟨vs,hv1,hv2⟩:=HJ.out.1
     obtain ⟨A0,c0,hx,_,hcm⟩:=(Sl.of_own hv1).form
     have hk9:(k * B + m) * 24≤128 * 24:=Nat.mul_le_mul_right 24 (by have:=at_lt hlt hlt2; omega)
     subst hx
     have HV:=Lib.hid (And.intro hv1 hv2)
     clear hv1 hv2 hq
     obtain ⟨N,hN⟩:∃ N,N=k * B + m:=⟨_,rfl⟩
     rw [← hN] at HV hk9 ⊢
     have HCN:=HC.out _ HQ.out k m hlt hlt2
     rw [← hN] at HCN
     have HCC:=Lib.hid HCN
     have HNN:=Lib.hid hN
     clear HCN hN
     go_wp2_with (first
      | (go_at_call 99; (with_reducible refine Calls.mono HCC.out ?_); rintro e w3 ⟨x,rfl,hr,hb⟩; (obtain ⟨Ax,cx,hx9,_⟩:=id hr); subst hx9; (have HR:=Lib.hid (hr.base HJ.out.2.size)); (have HB3:=Lib.hid hb); clear hr hb)
      | (at_builtin; refine wpList_apv _ rfl stRowsB _ _ rfl w2.heap.size (.slice A0 N c0) N vs rfl (own_below HV.out.1 (HB3.out.alloc HB3.out.size _)) (w3.heap.size + 1) _ 1 [.slice Ax n cx] rfl (Sl.litN w3 #[.slice Ax n cx] _ 1 1 rfl (by decide)) (by simp [Value.oneCell']) (by omega) (by rw [World.size_alloc]; exact Nat.le_succ_of_le (Nat.le_trans HJ.out.2.size HB3.out.size)) ?_; intro A9 c9 w9 hown9 hgr9 hat9 hbel9; (have HS9:Hid (BsAt w9 w2.heap.size (N + 1) n (.slice A9 (N + 1) c9) g):=Lib.hid (BsAt.push (own_below HV.out.1 (HB3.out.alloc HB3.out.size _)) (fun i hi => (by obtain ⟨y,hy,hry⟩:=HV.out.2 i hi; exact ⟨y,hy,hry.below (HB3.out.alloc HB3.out.size _)⟩)) (HR.out.below ((Below.refl _ _).alloc (Nat.le_refl _) _)) hown9 hgr9)); (have HB9:Hid (Below w2.heap.size w2 w9):=(HJ.out.2.trans ((HB3.out.mono HJ.out.2.size).alloc (Nat.le_trans HJ.out.2.size HB3.out.size) _)).trans hbel9); clear hown9 hgr9 hat9 hbel9)
      | fail)
     go_roundw
     case rel => exact ⟨m + 1,_,_,rfl,by omega,by go_num,rfl,Lib.hid ⟨by rw [← Nat.add_assoc,← HNN.out]; exact HS9.out,HB9.out⟩⟩
     case measure => simp [intOf]; omega
    ·have d2:decide (m < B)=false:=decide_eq_false hlt2
     obtain rfl:m=B:=by omega
     go_wp2
     go_roundw
     case rel => exact ⟨k + 1,_,by omega,by go_num,rfl,Lib.hid ⟨by rw [Nat.add_mul,Nat.one_mul]; exact HJ.out.1,HJ.out.2⟩⟩
     case measure => simp [intOf]; omega
  ·have d1:decide (k < S)=false:=decide_eq_false hlt
   obtain rfl:k=S:=by omega
   have HE:=Lib.hid (HB2.out.trans (HI.out.2.mono HB2.out.size))
   go_wp2
   go_ret
   exact ⟨_,by first | rfl | (simp; done),HI.out.1.low HB2.out.size,HE.out⟩
end
end
end Go.Proofs.YtpcapdpglpgcbaaGreat
