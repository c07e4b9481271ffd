/-
  Words and contracts that a statement's proof rests on (McB). No statement is proved here.
-/
import Derived.Test.YtpcapdpglpgcbaaGreatMoK
import Derived.Test.YtpcapdpglpgcbaaGreatMsB
set_option linter.unusedVariables false
set_option linter.unusedSimpArgs false
namespace Go.Proofs.YtpcapdpglpgcbaaGreat
open Go.RowKit
theorem own_rowH {w:World} {base size n:Nat} {T:TypeId} {v:Value} {xs:List Value} {f:Nat→Value} (h:w.ownsRow base T size v n xs) (hn:0 < n) (hf:∀ i,i < n * size→xs[i]?=some (f i)):∃ b c,v=.slice (some ⟨b,0,none⟩) n c∧n≤c∧c≤maxLen∧base≤b∧rowH w b T (n * size) f:=by
 rcases h.2 with hn' | ⟨b,cap,cur,hv,hb,hh,hnc,hcm,hcs,ht⟩
 ·exact absurd hn'.2 (by omega)
 ·subst hv
  have hr:w.rowIs b T (cap * size) (fun i => (cur[i]?).getD (.bool false)):=⟨cur,hh,hcs,fun i hi => by
   have hlt:i < cur.size:=by rw [hcs]; exact hi
   show cur[i]?=some ((cur[i]?).getD (.bool false))
   rw [Array.getElem?_eq_getElem hlt]
   rfl⟩
  have hle:n * size≤cap * size:=Nat.mul_le_mul_right _ hnc
  refine ⟨b,cap,rfl,hnc,hcm,hb,_,_,hr,hle,fun i hi => ?_⟩
  have h1:=h.cellAt i hi
  rw [hf i hi] at h1
  have h2:=(hr.cell (Nat.lt_of_lt_of_le hi hle)).symm.trans h1
  exact Option.some.inj h2
theorem own_own_ne {w:World} {L L' s s' n n':Nat} {T U:TypeId} {v v':Value} {xs xs':List Value} (h:w.ownsRow L T s v n xs) (k:w.ownsRow L' U s' v' n' xs') (hn:T ≠ U) {b:Nat} (hb:v.ownBlock=some b):v'.ownBlock ≠ some b:=by
 intro hb'
 rcases h.2 with h0 | ⟨g,cap,cur,hv,hg,hh,_⟩
 ·rw [h0.1] at hb; cases hb
 ·rcases k.2 with h0 | ⟨g',cap',cur',hv',hg',hh',_⟩
  ·rw [h0.1] at hb'; cases hb'
  ·rw [hv] at hb
   rw [hv'] at hb'
   injection hb with hb
   injection hb' with hb'
   subst hb
   rw [show g'=g from hb',hh] at hh'
   injection hh' with h1
   injection h1 with h2 h3
   exact hn h3
structure CqAt (w:World) (base P k:Nat) (R cp:Nat→Nat) (q2:Nat→Nat→Value) (qs:Nat→Nat→List Int):Prop where
 row:∀ i,i < k→base≤R i∧P≤cp i∧w.rowIs (R i) 62 (cp i) (q2 i)
 inj:∀ i j,i < k→j < k→i ≠ j→R i ≠ R j
 own:∀ i t,i < k→t < P→w.ownsRow base 3 1 (q2 i t) (qs i t).length (kv .i64 (qs i t))
 ap:∀ i t i' t',i < k→t < P→i' < k→t' < P→¬ (i'=i∧t'=t)→∀ b,(q2 i t).ownBlock=some b→(q2 i' t').ownBlock ≠ some b
structure LqAt (w:World) (base j:Nat) (LV:Value) (ls:List Value) (qk:Nat→List Int):Prop where
 own:w.ownsRow base 62 1 LV j ls
 els:∀ t,t < j→∃ u,ls[t]?=some u∧w.ownsRow base 3 1 u (qk t).length (kv .i64 (qk t))
 ap:∀ t t' u u',t < j→t' < j→t' ≠ t→ls[t]?=some u→ls[t']?=some u'→∀ b,u.ownBlock=some b→u'.ownBlock ≠ some b
section
variable {w w' w4 w5 w9:World} {base base2 P k j:Nat} {R cp:Nat→Nat} {q2:Nat→Nat→Value} {qs:Nat→Nat→List Int} {LV L9 u:Value} {ls:List Value} {qk:Nat→List Int}
theorem CqAt.keep (h:CqAt w base P k R cp q2 qs) (h1:∀ i,i < k→w'.heap[R i]?=w.heap[R i]?) (h2:∀ i t,i < k→t < P→∀ b,(q2 i t).ownBlock=some b→w'.heap[b]?=w.heap[b]?):CqAt w' base P k R cp q2 qs :=
 ⟨fun i hi => ⟨(h.row i hi).1,(h.row i hi).2.1,(h.row i hi).2.2.of_block (h1 i hi)⟩,h.inj,fun i t hi ht => own_low' (h.own i t hi ht) (h2 i t hi ht),h.ap⟩
theorem CqAt.call (h:CqAt w base P k R cp q2 qs) (hb:Below w.heap.size w w'):CqAt w' base P k R cp q2 qs :=
 h.keep (fun i hi => hb.block _ (h.row i hi).2.2.lt) (fun i t hi ht b e => hb.block _ ((h.own i t hi ht).lt b e).2)
theorem LqAt.nil (w:World) (base:Nat) (qk:Nat→List Int):LqAt w base 0 (.slice none 0 0) [] qk :=
 ⟨World.ownsRow_nil _ _ _ _,fun t ht => absurd ht (by omega),fun t t' u u' ht => absurd ht (by omega)⟩
theorem LqAt.step (h:LqAt w base j LV ls qk) {m:Nat} (hm:m=(qk j).length) (hb:base≤w.heap.size) (h4:Below w.heap.size w w4) (hu:w4.ownsRow w.heap.size 3 1 u m (kv .i64 (qk j))) (h5:Below w4.heap.size w4 w5) (ho:w9.ownsRow base 62 1 L9 (j + 1) (ls ++ [u])) (hg:w5.grownBy w9 LV.ownBlock):LqAt w9 base (j + 1) L9 (ls ++ [u]) qk:=by
 subst hm
 have hl:ls.length=j:=by have:=h.own.1; omega
 have hown5:w5.ownsRow base 62 1 LV j ls:=own_below (own_below h.own h4) h5
 have hto:∀ {bs:Nat} {n:Nat} {v:Value} {xs:List Value},w5.ownsRow bs 3 1 v n xs→w9.ownsRow bs 3 1 v n xs:=fun h0 => own_low' h0 fun b e => hg.block b (h0.lt b e).2 (fun e2 => own_own_ne h0 hown5 (by decide) e e2.symm)
 have hat:∀ t,t < j + 1→(t < j∧(ls ++ [u])[t]?=ls[t]?) ∨ (t=j∧(ls ++ [u])[t]?=some u):=fun t ht => by
  rcases Nat.lt_or_ge t j with h1 | h1
  ·exact .inl ⟨h1,List.getElem?_append_left (by omega)⟩
  ·refine .inr ⟨by omega,?_⟩
   rw [List.getElem?_append_right (by omega),show t - ls.length=0 by omega]
   rfl
 refine ⟨ho,fun t ht => ?_,fun t t' x x' ht ht' hne hx hx' b e => ?_⟩
 ·rcases hat t ht with ⟨h1,h2⟩ | ⟨h1,h2⟩
  ·obtain ⟨x,hx,hox⟩:=h.els t h1
   exact ⟨x,h2.trans hx,hto (own_below (own_below hox h4) h5)⟩
  ·subst h1
   exact ⟨u,h2,own_base (hto (own_below hu h5)) hb⟩
 ·rcases hat t ht with ⟨h1,h2⟩ | ⟨h1,h2⟩
  ·rw [h2] at hx
   rcases hat t' ht' with ⟨h3,h4'⟩ | ⟨h3,h4'⟩
   ·rw [h4'] at hx'
    exact h.ap t t' x x' h1 h3 hne hx hx' b e
   ·rw [h4'] at hx'
    injection hx' with hx'
    subst hx'
    intro e2
    obtain ⟨y,hy,hoy⟩:=h.els t h1
    rw [hy] at hx
    injection hx with hx
    subst hx
    have:=(hoy.lt b e).2
    have:=(hu.lt b e2).1
    omega
  ·rw [h2] at hx
   injection hx with hx
   subst hx
   rcases hat t' ht' with ⟨h3,h4'⟩ | ⟨h3,h4'⟩
   ·rw [h4'] at hx'
    intro e2
    obtain ⟨y,hy,hoy⟩:=h.els t' h3
    rw [hy] at hx'
    injection hx' with hx'
    subst hx'
    have:=(hoy.lt b e2).2
    have:=(hu.lt b e).1
    omega
   ·exact absurd (h3.trans h1.symm) hne
theorem CqAt.add (h:CqAt w base P k R cp q2 qs) (hl:LqAt w base2 P LV ls (qs k)) (hP:0 < P) (hb:base≤base2) (hR:∀ i,i < k→R i < base2) (hq:∀ i t,i < k→t < P→∀ b,(q2 i t).ownBlock=some b→b < base2) :
  ∃ (b c:Nat) (F:Nat→Value),LV=.slice (some ⟨b,0,none⟩) P c∧CqAt w base P (k + 1) (fun i => if i=k then b else R i) (fun i => if i=k then c else cp i) (fun i => if i=k then F else q2 i) qs:=by
 obtain ⟨b,c,F,hLV,hc,hbb,hrow,hF⟩:=own_rowIs hl.own hP
 refine ⟨b,c,F,hLV,fun i hi => ?_,fun i i' hi hi' hne => ?_,fun i t hi ht => ?_,fun i t i' t' hi ht hi' ht' hne x e => ?_⟩
 ·by_cases e:i=k
  ·subst e
   simp only [if_true]
   exact ⟨by omega,hc,hrow⟩
  ·simp only [if_neg e]
   exact h.row i (by omega)
 ·by_cases e:i=k
  ·by_cases e':i'=k
   ·omega
   ·simp only [if_pos e,if_neg e']
    have:=hR i' (by omega)
    omega
  ·by_cases e':i'=k
   ·simp only [if_neg e,if_pos e']
    have:=hR i (by omega)
    omega
   ·simp only [if_neg e,if_neg e']
    exact h.inj i i' (by omega) (by omega) hne
 ·by_cases e:i=k
  ·subst e
   simp only [if_true]
   obtain ⟨u,hu,ho⟩:=hl.els t ht
   rw [hF t ht] at hu
   injection hu with hu
   rw [hu]
   exact own_base ho hb
  ·simp only [if_neg e]
   exact h.own i t (by omega) ht
 ·have hnew:∀ t,t < P→∀ x,(F t).ownBlock=some x→base2≤x:=fun t ht x e => by
   obtain ⟨u,hu,ho⟩:=hl.els t ht
   rw [hF t ht] at hu
   injection hu with hu
   rw [hu] at e
   exact (ho.lt x e).1
  by_cases ei:i=k
  ·rw [if_pos ei] at e
   by_cases ei':i'=k
   ·rw [if_pos ei']
    exact hl.ap t t' (F t) (F t') ht ht' (fun e2 => hne ⟨ei'.trans ei.symm,e2⟩) (hF t ht) (hF t' ht') x e
   ·rw [if_neg ei']
    intro e2
    have:=hnew t ht x e
    have:=hq i' t' (by omega) ht' x e2
    omega
  ·rw [if_neg ei] at e
   by_cases ei':i'=k
   ·rw [if_pos ei']
    intro e2
    have:=hnew t' ht' x e2
    have:=hq i t (by omega) ht x e
    omega
   ·rw [if_neg ei']
    exact h.ap i t i' t' (by omega) ht (by omega) ht' hne x e
end
structure CpR (w:World) (A S2 cS:Nat) (X:Nat→Value) (P k base0 base1 nv:Nat) (lv:List Vl) (st:Nat→Int × Nat) (uv bv QV:Value) (vs:List Value) (R cp:Nat→Nat) (q2:Nat→Nat→Value) (qs:Nat→Nat→List Int):Prop where
 cells:w.rowIs A 95 14 (rfF X (.slice (some ⟨S2,0,none⟩) P cS) uv bv QV)
 stands:rowH w S2 112 (P * 2) (rowS st)
 vlans:w.ownsRow base0 73 3 uv nv (vlc lv)
 own:w.ownsRow base1 87 1 QV k vs
 rows:CqAt w base1 P k R cp q2 qs
 vsR:∀ i,i < k→vs[i]?=some (.slice (some ⟨R i,0,none⟩) P (cp i))
section
variable {w w' wa w9:World} {A S2 cS P k base0 base1 nv:Nat} {X:Nat→Value} {lv:List Vl} {st:Nat→Int × Nat} {uv bv QV Q9:Value} {vs:List Value} {R cp R' cp':Nat→Nat} {q2 q2':Nat→Nat→Value} {qs:Nat→Nat→List Int}
theorem CpR.call (h:CpR w A S2 cS X P k base0 base1 nv lv st uv bv QV vs R cp q2 qs) (hb:Below w.heap.size w w'):CpR w' A S2 cS X P k base0 base1 nv lv st uv bv QV vs R cp q2 qs :=
 ⟨h.cells.of_block (hb.block _ h.cells.lt),h.stands.of_block (hb.block _ h.stands.lt),own_below h.vlans hb,own_below h.own hb,h.rows.call hb,h.vsR⟩
theorem CpR.step (h:CpR w A S2 cS X P k base0 base1 nv lv st uv bv QV vs R cp q2 qs) (hr:CqAt w base1 P (k + 1) R' cp' q2' qs) (hR:∀ i,i < k→R' i=R i∧cp' i=cp i) {b c:Nat} (hRk:R' k=b∧cp' k=c) (hba:Below w.heap.size w wa) (ho:w9.ownsRow base1 87 1 Q9 (k + 1) (vs ++ [.slice (some ⟨b,0,none⟩) P c])) (hg:wa.grownBy w9 QV.ownBlock) :
  CpR (w9.setCell ⟨A,13,none⟩ Q9) A S2 cS X P (k + 1) base0 base1 nv lv st uv bv Q9 (vs ++ [.slice (some ⟨b,0,none⟩) P c]) R' cp' q2' qs:=by
 obtain ⟨rfl,rfl⟩:=hRk
 have hown:=h.own
 have hk:∀ x,x < w.heap.size→QV.ownBlock ≠ some x→w9.heap[x]?=w.heap[x]?:=fun x hx hn => (hg.block x (by have:=hba.size; omega) (Ne.symm hn)).trans (hba.block x hx)
 have hc9:w9.rowIs A 95 14 (rfF X (.slice (some ⟨S2,0,none⟩) P cS) uv bv QV):=h.cells.of_block (hk _ h.cells.lt (rowIs_own_ne h.cells hown (by decide)))
 have hkr:∀ {x M:Nat} {T:TypeId} {f:Nat→Value},w.rowIs x T M f→T ≠ 87→T ≠ 95→(w9.setCell ⟨A,13,none⟩ Q9).heap[x]?=w.heap[x]?:=fun hr h1 h2 => (heap_setCell_far _ _ _ (rowIs_ne hr h.cells h2)).trans (hk _ hr.lt (rowIs_own_ne hr hown h1))
 have hko:∀ {bs s n:Nat} {T:TypeId} {v:Value} {xs:List Value},w.ownsRow bs T s v n xs→T ≠ 87→T ≠ 95→∀ b,v.ownBlock=some b→(w9.setCell ⟨A,13,none⟩ Q9).heap[b]?=w.heap[b]?:=fun ho h1 h2 b e => (heap_setCell_far _ _ _ (fun e2 => rowIs_own_ne h.cells ho (Ne.symm h2) (by rw [e,e2]))).trans (hk _ (ho.lt b e).2 (own_own_ne ho hown h1 e))
 have hlen:vs.length=k:=by have:=hown.1; omega
 refine ⟨(hc9.set 13 Q9).congr fun i hi => ?_,?_,own_low' h.vlans (hko h.vlans (by decide) (by decide)),?_,hr.keep (fun i hi => hkr (hr.row i hi).2.2 (by decide) (by decide)) (fun i t hi ht => hko (hr.own i t hi ht) (by decide) (by decide)),fun i hi => ?_⟩
 ·match i,hi with
  | 0,_ => rfl
  | 1,_ => rfl
  | 2,_ => rfl
  | 3,_ => rfl
  | 4,_ => rfl
  | 5,_ => rfl
  | 6,_ => rfl
  | 7,_ => rfl
  | 8,_ => rfl
  | 9,_ => rfl
  | 10,_ => rfl
  | 11,_ => rfl
  | 12,_ => rfl
  | 13,_ => rfl
 ·obtain ⟨m,F,h1,h2⟩:=h.stands
  exact ⟨m,F,h1.of_block (hkr h1 (by decide) (by decide)),h2⟩
 ·exact own_low' ho fun z hz => heap_setCell_far _ _ _ (fun e => rowIs_own_ne hc9 ho (by decide) (by rw [hz,e]))
 ·by_cases e:i=k
  ·subst e
   rw [List.getElem?_append_right (by omega),hlen]
   simp
  ·rw [List.getElem?_append_left (by omega),(hR i (by omega)).1,(hR i (by omega)).2]
   exact h.vsR i (by omega)
end
section
variable {w w1 w':World} {L A S1 Q cQ:Nat} {X:Nat→Value} {bp bq P r S B n nv H0:Nat} {uv:Value} {lv:List Vl} {st:Nat→Int × Nat} {G:Nat→Value} {R:Nat→Nat} {g:Nat→Nat→Pl} {qv:Nat→Nat→Value} {qs:Nat→Nat→List Int}
theorem RfAll.of_copy (hm:RfAt w' L A S1 Q cQ X uv (.pointer (some ⟨bp,0,none⟩)) P r nv lv st G) (hq:QuAt w' L P R G qv qs) (hk:BkAt w1 (fun b => b < H0 ∨ b=bp ∨ b=bq) bp bq S B n g) (hb:Below w1.heap.size w1 w')
  (hL:L≤H0) (h0:H0≤w1.heap.size) (hp:H0≤bp) (hqq:H0≤bq) (hA:A < H0 ∨ w1.heap.size≤A) (hS:S1 < H0 ∨ w1.heap.size≤S1) (hQ:Q < H0 ∨ w1.heap.size≤Q) (hu:∀ b,uv.ownBlock=some b→b < H0 ∨ w1.heap.size≤b) (hR:∀ i,i < P→w1.heap.size≤R i) (hv:∀ i j,i < P→j < P→∀ b,(qv i j).ownBlock=some b→w1.heap.size≤b) :
  RfAll (fun b => b < L) w' L A S1 Q cQ X bp bq P r S B n nv uv lv st g G R qv qs:=by
 have hbp:=hk.1
 have hbq:=hk.2.1
 have hz:=hb.size
 have hblk:∀ b,MdBlk A S1 Q P uv R qv b→(b < H0 ∨ w1.heap.size≤b)∧b < w'.heap.size∧L≤b:=by
  rintro b ((rfl | rfl | rfl | hc) | ⟨i,hi,hc⟩)
  ·exact ⟨hA,hm.cells.lt,hm.la⟩
  ·exact ⟨hS,hm.stands.lt,hm.ls⟩
  ·exact ⟨hQ,hm.queues.lt,hm.lq⟩
  ·exact ⟨hu b hc,(hm.vlans.lt b hc).2,(hm.vlans.lt b hc).1⟩
  ·rcases hc with rfl | ⟨j,hj,hc⟩
   ·exact ⟨.inr (hR i hi),(hq.row i hi).lt,hq.low i hi⟩
   ·exact ⟨.inr (hv i j hi hj b hc),((hq.own i j hi hj).lt b hc).2,((hq.own i j hi hj).lt b hc).1⟩
 refine ⟨hm,hq,by omega,_,hk.grow hb,fun b hd => ?_,.inl (.inr (.inr rfl)),fun b hc => ?_,fun b he => ?_⟩
 ·rcases hd with (hd | hd | hd) | hd
  ·omega
  ·omega
  ·omega
  ·exact hd.2
 ·obtain ⟨h1,h2,_⟩:=hblk b hc
  refine ⟨?_,by omega,by omega⟩
  rcases h1 with h1 | h1
  ·exact .inl (.inl h1)
  ·exact .inr ⟨h1,h2⟩
 ·refine ⟨.inl (.inl (by omega)),by omega,by omega,fun hc => ?_⟩
  have:=(hblk b hc).2.2
  omega
end
end Go.Proofs.YtpcapdpglpgcbaaGreat
