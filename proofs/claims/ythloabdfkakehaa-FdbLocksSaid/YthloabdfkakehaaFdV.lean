/-
  Words and contracts that a statement's proof rests on (FdV). No statement is proved here.
-/
import Derived.Laws.BitsAllLaws
import Derived.Test.YthloabdfkakehaaFdU
import Derived.Test.YthloabdfkakehaaFdT
set_option linter.unusedVariables false
set_option linter.unusedSimpArgs false
namespace Go.Proofs.Ythloabdfkakehaa
open Go.RowKit
structure SetP (w wr:World) (lo b fb L ab:Nat) (E:Nat→Prop) (F:FcS) (m:MemS) (a:FaS) (fv lv wv:Value) (AN:Int) (q1 q2 q3:List (Nat × Int)) (o1 o2 o3:Value):Prop where
 fd:FdbAt wr lo b fb F m
 act:FactIn wr L E fb ab F { a with ans:=AN } fv lv wv
 tch:Tch (FdD lo E) w wr
 r1:wr.ownsRow w.heap.size 132 2 o1 q1.length (wrc q1)
 r2:wr.ownsRow w.heap.size 132 2 o2 q2.length (wrc q2)
 r3:wr.ownsRow w.heap.size 132 2 o3 q3.length (wrc q3)
 d12:∀ k,o1.ownBlock=some k→o2.ownBlock ≠ some k
 d13:∀ k,o1.ownBlock=some k→o3.ownBlock ≠ some k
 d23:∀ k,o2.ownBlock=some k→o3.ownBlock ≠ some k
section
variable {w wr w':World} {lo b fb L ab:Nat} {E:Nat→Prop} {F:FcS} {m:MemS} {a:FaS} {fv lv wv o1 o2 o3:Value} {AN:Int} {q1 q2 q3:List (Nat × Int)}
theorem SetP.more (h:SetP w wr lo b fb L ab E F m a fv lv wv AN q1 q2 q3 o1 o2 o3) (hb:Below wr.heap.size wr w'):SetP w w' lo b fb L ab E F m a fv lv wv AN q1 q2 q3 o1 o2 o3 :=
 ⟨h.fd.below hb,h.act.below hb,h.tch.trans (Tch.of_below hb),own_below h.r1 hb,own_below h.r2 hb,own_below h.r3 hb,h.d12,h.d13,h.d23⟩
theorem SetP.swap12 (h:SetP w wr lo b fb L ab E F m a fv lv wv AN q1 q2 q3 o1 o2 o3):SetP w wr lo b fb L ab E F m a fv lv wv AN q2 q1 q3 o2 o1 o3 :=
 ⟨h.fd,h.act,h.tch,h.r2,h.r1,h.r3,fun k h1 h2 => h.d12 k h2 h1,h.d23,h.d13⟩
theorem SetP.swap13 (h:SetP w wr lo b fb L ab E F m a fv lv wv AN q1 q2 q3 o1 o2 o3):SetP w wr lo b fb L ab E F m a fv lv wv AN q3 q2 q1 o3 o2 o1 :=
 ⟨h.fd,h.act,h.tch,h.r3,h.r2,h.r1,fun k h1 h2 => h.d23 k h2 h1,fun k h1 h2 => h.d13 k h2 h1,fun k h1 h2 => h.d12 k h2 h1⟩
theorem SetP.ans (h:SetP w wr lo b fb L ab E F m a fv lv wv AN q1 q2 q3 o1 o2 o3) (h1:lo + 3≤ab) (h2:ab ≠ fb) (hab:ab < w.heap.size) (z:Int) (hz:-1048576≤z∧z≤1048576):SetP w (wr.setCell ⟨ab,14,none⟩ (.int .i64 z)) lo b fb L ab E F m a fv lv wv z q1 q2 q3 o1 o2 o3 where
 fd:=h.fd.fset h1 h2 14 _
 act:=h.act.set_ans z hz
 tch:=h.tch.fset h.act.own 14 _
 r1:=own_tch h.r1 (h.act.tab 14 _) fun k hk e => by have:=(h.r1.lt k hk).1; omega
 r2:=own_tch h.r2 (h.act.tab 14 _) fun k hk e => by have:=(h.r2.lt k hk).1; omega
 r3:=own_tch h.r3 (h.act.tab 14 _) fun k hk e => by have:=(h.r3.lt k hk).1; omega
 d12:=h.d12
 d13:=h.d13
 d23:=h.d23
theorem SetP.app (h:SetP w wr lo b fb L ab E F m a fv lv wv AN q1 q2 q3 o1 o2 o3) (h1:lo + 3≤L) (h2:fb < L) (hLw:L≤w.heap.size) (hE:∀ k,E k→k < w.heap.size) {n':Nat} {xs:List Value} {q:List (Nat × Int)} {v:Value}
  (hown:w'.ownsRow w.heap.size 132 2 v n' xs) (hgr:wr.grownBy w' o1.ownBlock) (hat:v.ownBlock=o1.ownBlock ∨ v.ownBlock=some wr.heap.size) (hn:q.length=n') (hx:wrc q=xs):SetP w w' lo b fb L ab E F m a fv lv wv AN q q2 q3 v o2 o3:=by
 have ht1:Tch (fun k => o1.ownBlock=some k) wr w':=⟨hgr.os,hgr.tape,hgr.output,hgr.size,fun k hk hn => hgr.block k hk fun e => hn e.symm⟩
 exact {
  fd:=h.fd.tch ht1 (fun k h3 h4 e => by have:=(h.r1.lt k e).1; omega) (fun e => by have:=(h.r1.lt _ e).1; omega)
  act:=h.act.tch ht1 fun k hk e => by have:=(h.r1.lt k e).1; have:=hE k hk; omega
  tch:=⟨ht1.os.trans h.tch.os,ht1.tape.trans h.tch.tape,ht1.output.trans h.tch.output,Nat.le_trans h.tch.size ht1.size,fun k hk hn => (ht1.block k (Nat.lt_of_lt_of_le hk h.tch.size) fun e => by have:=(h.r1.lt k e).1; omega).trans (h.tch.block k hk hn)⟩
  r1:=by rw [hn,hx]; exact hown
  r2:=own_tch h.r2 ht1 fun k hk e => h.d12 k e hk
  r3:=own_tch h.r3 ht1 fun k hk e => h.d13 k e hk
  d12:=fun k hk e => by
   rcases hat with h9 | h9
   ·exact h.d12 k (h9 ▸ hk) e
   ·rw [h9] at hk; injection hk with hk; have:=(h.r2.lt k e).2; omega
  d13:=fun k hk e => by
   rcases hat with h9 | h9
   ·exact h.d13 k (h9 ▸ hk) e
   ·rw [h9] at hk; injection hk with hk; have:=(h.r3.lt k e).2; omega
  d23:=h.d23 }
end
theorem Sl.at9 {w:World} {B n n' g cap:Nat} {xs:List Value} (h:Sl w B 1 (.slice (some ⟨g,0,none⟩) n' cap) n xs) (hn:n'=n):Sl w B 1 (.slice (some ⟨g,0,none⟩) n' cap) n' xs:=by
 subst hn; exact h
theorem PlRow.put14 {w:World} {L:Nat} {E:Nat→Prop} {fb ab n:Nat} {F:FcS} {a:FaS} {lv wv v:Value} {fn:Fn} {caps:Array Value} {f:Nat→Pl} (h:PlRow w w.heap.size v n f) (ha:FactIn w L E fb ab F a (.func fn #[] caps) lv wv) (x:Value):PlRow (w.setCell ⟨ab,14,none⟩ x) (w.setCell ⟨ab,14,none⟩ x).heap.size v n f:=by
 obtain ⟨A,cap,hv,h1,h2,h3⟩:=h
 refine ⟨A,cap,hv,h1,h2,fun hn => ?_⟩
 obtain ⟨b,off,e,hb,hc⟩:=h3 hn
 have hne:b ≠ ab:=by
  rintro rfl
  have h0:=(hc 0 hn).1
  rcases Nat.lt_or_ge (off + 0 * 6) 16 with hlt | hge
  ·rw [ha.at_ hlt] at h0
   injection h0 with h0
   generalize off + 0 * 6=i at h0 hlt
   match i,hlt with
   | 0,_ => cases h0
   | 1,_ => cases h0
   | 2,_ => cases h0
   | 3,_ => cases h0
   | 4,_ => cases h0
   | 5,_ => cases h0
   | 6,_ => cases h0
   | 7,_ => cases h0
   | 8,_ => cases h0
   | 9,_ =>
    have h0:lv=_:=h0
    rcases ha.ld.2 with ⟨h9,_⟩ | ⟨_,_,_,h9,_⟩ <;> rw [h9] at h0 <;> cases h0
   | 10,_ =>
    have h0:wv=_:=h0
    rcases ha.wr.2 with ⟨h9,_⟩ | ⟨_,_,_,h9,_⟩ <;> rw [h9] at h0 <;> cases h0
   | 11,_ => cases h0
   | 12,_ => cases h0
   | 13,_ => cases h0
   | 14,_ => cases h0
   | 15,_ => cases h0
   | _ + 16,hh => exact absurd hh (by omega)
  ·obtain ⟨cs,hcs,hsz,_⟩:=ha.row
   rw [cell_of_row _ _ _ _ _ _ hcs,Array.getElem?_eq_none (by omega)] at h0
   cases h0
 have ht:=ha.tab 14 x
 exact ⟨b,off,e,Nat.lt_of_lt_of_le hb ht.size,fun j hj => (hc j hj).keep fun p hp => World.cell?_of_block (by rw [hp]; exact ht.block b hb hne)⟩
theorem PlRow.fresh_tch {w w':World} {D:Nat→Prop} {B n:Nat} {u:Value} {f:Nat→Pl} (h:PlRow w w.heap.size u n f) (hn:PlNew B n u) (ht:Tch D w w') (hd:∀ k,D k→k < B):PlRow w' w'.heap.size u n f:=by
 obtain ⟨A,cap,hv,h1,h2,h3⟩:=h
 refine ⟨A,cap,hv,h1,h2,fun h0 => ?_⟩
 obtain ⟨b,off,e,hb,hc⟩:=h3 h0
 obtain ⟨g,o,c,e2,hg⟩:=hn h0
 rw [hv,e] at e2
 injection e2 with e2 _ _
 injection e2 with e2
 injection e2 with e2
 subst e2
 exact ⟨b,off,e,Nat.lt_of_lt_of_le hb ht.size,fun j hj => (hc j hj).keep fun p hp => World.cell?_of_block (by rw [hp]; exact ht.block b hb fun h9 => by have:=hd b h9; omega)⟩
theorem bits_or1 {X:Int} (h:0≤X∧X < 18446744073709551616):bits .or .u64 X 1=oddI X:=by
 obtain ⟨x,rfl⟩:=Int.eq_ofNat_of_zero_le h.1
 have h9:=u64_or_nat x 1 (by omega) (by omega)
 exact h9
theorem oddsL_len (F:FcS) (k:Wk) (ld:List Int) (h0:Nat):∀ j,(oddsL F k ld h0 j).length≤j
 | 0 => Nat.le_refl _
 | j + 1 => by
  have:=oddsL_len F k ld h0 j
  rw [oddsL,List.length_append]
  split <;> simp <;> omega
theorem evensL_len (F:FcS) (k:Wk) (ld:List Int) (h0:Nat):∀ j,(evensL F k ld h0 j).length≤j
 | 0 => Nat.le_refl _
 | j + 1 => by
  have:=evensL_len F k ld h0 j
  rw [evensL,List.length_append]
  split <;> simp <;> omega
theorem wordsL_len (F:FcS) (k:Wk) (ld:List Int) (h0:Nat):∀ j,(wordsL F k ld h0 j).length≤j * (2 * F.n)
 | 0 => Nat.zero_le _
 | j + 1 => by
  have:=wordsL_len F k ld h0 j
  have h2:=chgL_len (F.cell (h0 + j) + 1) (segF F ld j) (isF F k ld j) F.n
  rw [wordsL,List.length_append,Nat.add_mul,Nat.one_mul]
  split
  ·omega
  ·simp; omega
theorem Gives.congr {T:TypeId} {n:Nat} {f g:Nat→Pl} {mk:Value→Value} {w w':World} {e:Ending} (h:Gives T n f mk w e w') (hfg:∀ i,i < n→f i=g i):Gives T n g mk w e w':=by
 obtain ⟨u,h1,h2,h3⟩:=h
 exact ⟨u,h1,h2.congr hfg,h3⟩
theorem settle_places {W:World} {L:Nat} {E:Nat→Prop} {fb ab n g cap j I1 I2:Nat} {F:FcS} {c:FaS} {l:List Int} {fv wv:Value} (hcl:c.ld=l) (h:FactIn W L E fb ab F c fv (.slice (some ⟨g,0,none⟩) n cap) wv) (hn:n=l.length) (h1:I1=j * F.W + 1) (h2:I2=j * F.W + F.W) (h3:j * F.W + F.W≤n) (hW:F.W≤17) (hr:∀ x ∈ l,0≤x∧x < 18446744073709551616) :
  Calls Try.prog 55 #[.slice (some ⟨g,I1,none⟩) (I2 - I1) (cap - I1)] W (Gives 127 F.n (segF F l j) id W):=by
 have h0:=h.ld
 rw [hcl] at h0
 have hW0:F.W=1 + 2 * F.n:=rfl
 have hs:=((Sl.of_own h0).at9 hn).dropAt (k:=I1) (by omega)
 have hs2:=hs.cutTo (k:=I2 - I1) (by omega)
 rw [Nat.zero_add,Nat.mul_one,show ((kv .u64 l).drop I1).take (I2 - I1)=kv .u64 ((l.drop I1).take (I2 - I1)) by simp [kv,List.map_take]] at hs2
 have h9:=fdb_places (n:=F.n) hs2 (Nat.le_refl _) (by omega) (by omega) (fun x hx => hr x (List.mem_of_mem_drop (List.mem_of_mem_take hx)))
 refine h9.mono fun e w9 h8 => h8.congr fun i hi => ?_
 have h7:∀ x,x < 2 * F.n→((l.drop I1).take (I2 - I1)).getD x 0=l.getD (j * F.W + 1 + x) 0:=fun x hx => by
  rw [List.getD_eq_getElem?_getD,List.getD_eq_getElem?_getD,List.getElem?_take,if_pos (by omega),List.getElem?_drop,h1]
 show decP (((l.drop I1).take (I2 - I1)).getD (2 * i) 0) (((l.drop I1).take (I2 - I1)).getD (2 * i + 1) 0)=_
 rw [h7 _ (by omega),h7 _ (by omega)]
 rfl
theorem settle_concat {z:World} {B:Nat} {A1 A2 A3:Option Addr} {c1 c2 c3:Nat} {Q1 Q2 Q3:List (Nat × Int)} (hB:z.heap.size=B) (R1:Sl z z.heap.size 2 (.slice A1 Q1.length c1) Q1.length (wrc Q1)) (R2:Sl z z.heap.size 2 (.slice A2 Q2.length c2) Q2.length (wrc Q2)) (R3:Sl z z.heap.size 2 (.slice A3 Q3.length c3) Q3.length (wrc Q3)) (hl:Q1.length≤128∧Q2.length≤2048∧Q3.length≤128) :
  Calls Try.prog 111 #[.slice (some ⟨B,0,none⟩) 3 3] (z.alloc (.cells #[.slice A1 Q1.length c1,.slice A2 Q2.length c2,.slice A3 Q3.length c3] 91)) (WrDid (Q1 ++ (Q2 ++ Q3)) (z.alloc (.cells #[.slice A1 Q1.length c1,.slice A2 Q2.length c2,.slice A3 Q3.length c3] 91))):=by
 subst hB
 refine Calls.mono (writes_Concat (u:=fun i => if i=0 then .slice A1 Q1.length c1 else if i=1 then .slice A2 Q2.length c2 else .slice A3 Q3.length c3) (q:=fun i => if i=0 then Q1 else if i=1 then Q2 else Q3) ⟨by omega,by omega⟩ ⟨by omega,by omega⟩ (by simp) (fun i hi => ?_) (fun i => ?_)) (fun e w9 h9 => ?_)
 ·match i,hi with
  | 0,_ => exact ⟨by simp [go_sem],(R1.alloc (Nat.le_refl _) _).mono (by simp)⟩
  | 1,_ => exact ⟨by simp [go_sem],(R2.alloc (Nat.le_refl _) _).mono (by simp)⟩
  | 2,_ => exact ⟨by simp [go_sem],(R3.alloc (Nat.le_refl _) _).mono (by simp)⟩
  | _ + 3,hh => exact absurd hh (by omega)
 ·by_cases h0:i=0
  ·simp only [h0,if_true]; omega
  ·by_cases h8:i=1
   ·subst h8; simp; omega
   ·simp [h0,h8]; omega
 ·have e9:catL (fun i => if i=0 then Q1 else if i=1 then Q2 else Q3) 3=Q1 ++ (Q2 ++ Q3):=by simp [catL]
  rw [e9] at h9
  exact h9
theorem settle_end {w w5:World} {L:Nat} {E:Nat→Prop} {fb ab B:Nat} {F:FcS} {c:FaS} {fv lv wv v:Value} {l:List (Nat × Int)} (ha:FactIn w5 L E fb ab F c fv lv wv) (hLw:L≤w.heap.size) (hab:ab < w.heap.size) (hB:w.heap.size≤B) (hrow:w5.ownsRow B 132 2 v l.length (wrc l)) :
  FactAt (w5.setCell ⟨ab,10,none⟩ v) L (growE E w (w5.setCell ⟨ab,10,none⟩ v)) fb ab F { c with wr:=l }:=by
 have hE2:growE E w (w5.setCell ⟨ab,10,none⟩ v)=growE E w w5:=by
  funext k
  unfold growE
  simp [World.setCell]
 rw [hE2]
 have hg:=ha.grow (E':=growE E w w5) (fun _ h => .inl h) fun k hk => by
  rcases hk with h7 | h7
  ·exact ha.low k h7
  ·exact ⟨Nat.le_trans hLw h7.1,h7.2⟩
 exact ⟨_,_,_,hg.set_wr (own_base hrow (Nat.le_trans hLw hB)) fun k hk => by
  have h9:=hrow.lt k hk
  exact ⟨.inr ⟨by omega,h9.2⟩,by omega⟩⟩
section
variable {w wr:World} {lo b fb L ab:Nat} {E:Nat→Prop} {F:FcS} {m:MemS} {a:FaS} {fv lv wv o1 o2 o3:Value} {j:Nat}
theorem came_bd (hg:∀ j i,goodP (segF F a.ld j i)) (hn:F.n≤1000):∀ j:Nat,-(j:Int)≤cameS F a.wk a.ld j∧cameS F a.wk a.ld j≤1000 * (j:Int)
 | 0 => by simp [cameS]
 | j + 1 => by
  have h1:=came_bd hg hn j
  have h2:=wk_bd (hg j) hn a.wk
  rw [cameS]
  omega
set_option maxRecDepth 20000 in
set_option maxHeartbeats 1600000 in
theorem fact_settle (hf:FdbAt w lo b fb F m) (ha:FactIn w L E fb ab F a fv lv wv) (h1:lo + 3≤L) (h2:fb < L) (hLw:L≤w.heap.size) (hlen:a.ld.length=a.hc * F.W) (hhc:1≤a.hc∧a.hc≤128) (hh:a.h0 + a.hc≤F.S * F.B) (hrg:∀ x ∈ a.ld,0≤x∧x < 18446744073709551616) (hwk:a.wk.ok) (han:a.ans=0) :
  Calls Try.prog 92 #[.pointer (some ⟨ab,0,none⟩)] w (FDone lo b fb L ab E F m { a with ans:=a.ans + cameS F a.wk a.ld a.hc,od:=(oddsL F a.wk a.ld a.h0 a.hc).length,wr:=wrL F a.wk a.ld a.h0 a.hc } w):=by
 obtain ⟨a',ha'⟩:∃ a':FaS,a'={ a with ans:=a.ans + cameS F a.wk a.ld a.hc,od:=(oddsL F a.wk a.ld a.h0 a.hc).length,wr:=wrL F a.wk a.ld a.h0 a.hc }:=⟨_,rfl⟩
 rw [← ha']
 have HA9:=Lib.hid ha'
 clear ha'
 obtain ⟨fn,caps,rfl,hrun,_⟩:=wk_call ha.wk hwk (n:=F.n) (by have:=hf.fits.n; omega)
 have HRUN:=Lib.hid hrun
 have hn8:=hf.fits.n
 have hWb:=hf.fits.W
 have hgp:∀ j i,goodP (segF F a.ld j i):=fun j i => dec_good (by
  rcases Nat.lt_or_ge (j * F.W + 1 + (2 * i + 1)) a.ld.length with h9 | h9
  ·exact (getD_mem (P:=fun x => 0≤x∧x < 18446744073709551616) hrg h9).2
  ·show a.ld.getD (j * F.W + 1 + (2 * i + 1)) 0 < 18446744073709551616
   rw [List.getD_eq_getElem?_getD,List.getElem?_eq_none h9]; decide)
 have HGP:=Lib.hid hgp
 have HWC:=Lib.hid fun W AN lv (h:FactIn W L E fb ab F { a with ans:=AN } (.func (.func fn) #[] caps) lv wv) u f (hr:PlRow W W.heap.size u F.n f) (hst:∀ i,i < F.n→(f i).e.stamp < 4294967296) => show Calls Try.prog fn (#[u] ++ caps) W (WkDid u F.n f a.wk W) from by
  obtain ⟨fn',caps',e,_,h9⟩:=wk_call h.wk hwk (n:=F.n) (by omega)
  injection e with e1 _ e2
  injection e1 with e1
  subst e1 e2
  exact h9 u f hr hst
 obtain ⟨g,cap,rfl,hc1,hc2,_⟩:=ld_first ha (by rw [hlen]; exact Nat.mul_pos (by omega) (by omega))
 have HWD:=Lib.hid fun W => fdb_wide F.S F.B F.n (by omega) W
 have r0:w.cell? ⟨ab,0,none⟩=some (.pointer (some ⟨fb,0,none⟩)):=ha.at_ (i:=0) (by omega)
 obtain ⟨s0,s1,s2,s3,s4,s5,s6⟩:=hf.at_
 have HF:=Lib.hid hf
 have HA:=Lib.hid ha
 have HPK:=Lib.hid (And.intro hlen (And.intro hhc (And.intro hh (And.intro hrg (And.intro hwk (And.intro han hWb))))))
 have hW9:((1 + 2 * F.n:Nat):Int)=(F.W:Int):=rfl
 clear hf ha hrun hgp hn8 hlen hhc hh hrg hwk han hWb
 go_enter Try.func92,Try.ntmps92
 go_wp2_with fail
 refine (HWD.out _).mono ?_
 rintro e w1 ⟨rfl,hb1⟩
 rw [hW9]
 have HI0:Hid (SetP w w1 lo b fb L ab E F m a (.func (.func fn) #[] caps) (.slice (some ⟨g,0,none⟩) a.ld.length cap) wv (a.ans + cameS F a.wk a.ld 0) [] [] [] (.slice none 0 0) (.slice none 0 0) (.slice none 0 0)):=Lib.hid {
  fd:=HF.out.below hb1
  act:=by
   have h9:=HA.out.below hb1
   have e9:a.ans + cameS F a.wk a.ld 0=a.ans:=Int.add_zero _
   rw [e9]
   exact h9
  tch:=Tch.of_below hb1
  r1:=⟨rfl,.inl ⟨rfl,rfl⟩⟩
  r2:=⟨rfl,.inl ⟨rfl,rfl⟩⟩
  r3:=⟨rfl,.inl ⟨rfl,rfl⟩⟩
  d12:=fun k h => by cases h
  d13:=fun k h => by cases h
  d23:=fun k h => by cases h }
 have HEL:Hid ((∀ k,E k→k < w.heap.size)∧lo + 3≤ab∧ab ≠ fb∧ab < w.heap.size∧L≤ab):=Lib.hid ⟨fun k hk => (HA.out.low k hk).2,by have:=(HA.out.low _ HA.out.own).1; omega,by have:=(HA.out.low _ HA.out.own).1; omega,(HA.out.low _ HA.out.own).2,(HA.out.low _ HA.out.own).1⟩
 clear hb1 HF HWD s0 s1 s2 s3 s4 s5 s6 r0 hW9
 go_wp2
 obtain ⟨n,hn⟩:∃ n,n=a.ld.length:=⟨_,rfl⟩
 rw [← hn] at HI0
 have HN:=Lib.hid hn
 clear hn
 go_loopw [2,3,4,6] (fun x2 x3 x4 i wr => ∃ (j:Nat) (o1 o2 o3:Value),o1=x2∧o2=x3∧o3=x4∧j≤a.hc∧i=.int .i64 ((j * F.W:Nat):Int)∧Hid (SetP w wr lo b fb L ab E F m a (.func (.func fn) #[] caps) (.slice (some ⟨g,0,none⟩) n cap) wv (a.ans + cameS F a.wk a.ld j) (oddsL F a.wk a.ld a.h0 j) (wordsL F a.wk a.ld a.h0 j) (evensL F a.wk a.ld a.h0 j) o1 o2 o3)) (fun _ _ _ i _ => n - (intOf i).toNat)
 case atStart => exact ⟨0,_,_,_,rfl,rfl,rfl,Nat.zero_le _,by rw [Nat.zero_mul]; rfl,HI0.out⟩
 case round =>
  obtain ⟨j,o1,o2,o3,rfl,rfl,rfl,hj,rfl,HI⟩:=hrel
  obtain ⟨p1,p2,p3,p4,p5,p6,p7⟩:=HPK.out
  have hCf:=HI.out.fd.fits.cell (H:=a.h0 + (j - 1)) (by omega)
  have hCC:=HI.out.fd.fits.C
  have hWhc:a.hc * F.W≤128 * 17:=Nat.mul_le_mul p2.2 p7.2
  obtain ⟨I,hI⟩:∃ I,I=j * F.W:=⟨_,rfl⟩
  rw [← hI]
  have q9:wr.cell? ⟨ab,9,none⟩=some (.slice (some ⟨g,0,none⟩) n cap):=HI.out.act.at_ (i:=9) (by omega)
  have hnb:n≤2176:=by rw [HN.out,p1]; omega
  by_cases hlt:j < a.hc
  ·have hIW:I + F.W≤n:=by have:=mulW (F:=F) hlt; rw [hI,HN.out,p1]; exact this
   have hcH:=HI.out.fd.fits.cell (H:=a.h0 + j) (by omega)
   obtain ⟨C,hC⟩:∃ C,C=F.cell a.h0:=⟨_,rfl⟩
   obtain ⟨FI,hFI⟩:∃ FI,FI=F.cell (a.h0 + j):=⟨_,rfl⟩
   have hFIe:FI=C + I:=by rw [hFI,hC,hI,cell_add]
   obtain ⟨AN,hAN⟩:∃ AN,AN=a.ans + cameS F a.wk a.ld j:=⟨_,rfl⟩
   obtain ⟨X,hX⟩:∃ X,X=a.ld.getD I 0:=⟨_,rfl⟩
   have hXr:0≤X∧X < 18446744073709551616:=by rw [hX]; exact getD_mem (P:=fun x => 0≤x∧x < 18446744073709551616) p4 (by rw [← HN.out]; omega)
   have hsl:=Sl.of_own HI.out.act.ld
   have qX:wr.cell? ⟨g,I,none⟩=some (.int .u64 X):=by
    obtain ⟨_,A9,c9,e9,_,_,h9⟩:=hsl
    injection e9 with e9 _ _
    obtain ⟨b9,off9,e8,_,h8⟩:=h9 (by show 0 < a.ld.length; rw [← HN.out]; omega)
    rw [e8] at e9
    injection e9 with e9
    injection e9 with e9 e7
    subst e9 e7
    have h7:=h8 I (by show I < a.ld.length * 1; rw [← HN.out]; omega)
    rw [Nat.zero_add] at h7
    rw [hX]
    exact h7.trans (kv_at _ (by show I < a.ld.length; rw [← HN.out]; omega))
   have q5:wr.cell? ⟨ab,5,none⟩=some (.int .i64 (C:Nat)):=by rw [hC]; exact HI.out.act.at_ (i:=5) (by omega)
   have q2:wr.cell? ⟨ab,2,none⟩=some (.func (.func fn) #[] caps):=HI.out.act.at_ (i:=2) (by omega)
   have q14:wr.cell? ⟨ab,14,none⟩=some (.int .i64 AN):=by rw [hAN]; exact HI.out.act.at_ (i:=14) (by omega)
   have f14:=HI.out.act.fz 14
   obtain ⟨I1,hI1⟩:∃ I1,I1=I + 1:=⟨_,rfl⟩
   obtain ⟨I2,hI2⟩:∃ I2,I2=I + F.W:=⟨_,rfl⟩
   have g0:(0:Int)≤(I:Int):=Int.natCast_nonneg _
   have g1:(I:Int) < (n:Int):=by omega
   have d1:decide (I < n)=true:=decide_eq_true (by omega)
   have g2:(0:Int)≤(I1:Int):=Int.natCast_nonneg _
   have g3:(I1:Int)≤(I2:Int):=by omega
   have hc1':n≤cap:=by rw [HN.out]; exact hc1
   have g4:(I2:Int)≤(cap:Int):=by omega
   have g5:¬ cap=I1:=by omega
   have hWb:F.W≤17:=p7.2
   unfold maxLen at hc2
   have z1:=wrap_addF (k:=C) (l:=I) (by omega) (by omega)
   have z2:=wrap_succ (k:=I) (by clear z1; omega)
   have z3:=wrap_addF (k:=I) (l:=F.W) (by clear z1 z2; omega) (by clear z1 z2; omega)
   rw [← hFIe] at z1
   rw [← hI1] at z2
   rw [← hI2] at z3
   obtain ⟨y1,y2⟩:=z1
   obtain ⟨y3,y4⟩:=z2
   obtain ⟨y5,y6⟩:=z3
   have HEQ:=Lib.hid (And.intro hI (And.intro hX (And.intro hFI (And.intro hAN (And.intro hI1 (And.intro hI2 hXr))))))
   have HPL:=Lib.hid fun W (hb:Below wr.heap.size wr W) => settle_places (j:=j) (I1:=I1) (I2:=I2) (c:={ a with ans:=AN }) rfl (hAN ▸ HI.out.act.below hb) HN.out (by rw [hI1,hI]) (by rw [hI2,hI]) (by rw [← hI]; exact hIW) hWb HPK.out.2.2.2.1
   clear hI hX hC hFI hFIe hAN hI1 hI2 hcH hCf hCC hWhc p1 p2 p3 p4 p5 p6 p7 hsl hXr
   go_wp2_with fail
   go_quiet (fail)
   go_wp2_with fail
   refine Calls.mono (HPL.out _ (below_drewN (Below.refl _ _) _)) ?_
   rintro e w2 ⟨u,he,hr2,hb2⟩
   simp only [id] at he
   subst he
   have HU:=Lib.hid hr2
   have HZ2:Hid (wr.heap.size≤w2.heap.size):=Lib.hid hb2.size
   have HI2:=Lib.hid ((HI.out.more (below_drewN (Below.refl _ _) _)).more hb2)
   obtain ⟨A2,cap2,rfl,_,_,_⟩:=hr2
   have q2:w2.cell? ⟨ab,2,none⟩=some (.func (.func fn) #[] caps):=HI2.out.act.at_ (i:=2) (by omega)
   clear hb2 HPL q9 q5 d1 g0 g1 g2 g3 g4 g5
   go_wp2_with fail
   rw [HRUN.out,Oper.upon_enter]
   have HC9:=Lib.hid (HWC.out _ _ _ HI2.out.act _ _ HU.out.row (fun i _ => good_stamp (HGP.out j i)))
   refine (HC9.out).mono ?_
   rintro e w3 ⟨u3,rfl,hr3,hb3,hnew⟩
   have HU3:=Lib.hid hr3
   have HN2:Hid (PlNew wr.heap.size F.n (.slice A2 F.n cap2)):=Lib.hid HU.out.fresh
   have HN3:Hid (PlNew wr.heap.size F.n u3):=Lib.hid (by
    rcases hnew with h9 | h9
    ·rw [h9]; exact HN2.out
    ·intro h8; obtain ⟨g9,o9,c9,e9,h7⟩:=h9 h8; exact ⟨g9,o9,c9,e9,Nat.le_trans HZ2.out h7⟩)
   clear hnew
   obtain ⟨CM,hCM⟩:∃ CM,CM=(wkF F.n (segF F a.ld j) a.wk).2:=⟨_,rfl⟩
   rw [← hCM]
   have HUW:=Lib.hid (HU.out.below hb3)
   have HZ3:Hid (w2.heap.size≤w3.heap.size):=Lib.hid hb3.size
   have HI3:=Lib.hid (HI2.out.more hb3)
   obtain ⟨A3,cap3,rfl,_,_,_⟩:=hr3
   have hAN:=HEQ.out.2.2.2.1
   have hbd1:=came_bd (fun j i => HGP.out j i) (F:=F) (a:=a) (by have:=HPK.out.2.2.2.2.2.2.2; unfold FcS.W at this; omega) j
   have hbd2:=wk_bd (HGP.out j) (n:=F.n) (by have:=HPK.out.2.2.2.2.2.2.2; unfold FcS.W at this; omega) a.wk
   rw [← hCM] at hbd2
   have hj128:j < 128:=by have:=HPK.out.2.1; omega
   obtain ⟨AN2,hAN2⟩:∃ AN2,AN2=AN + CM:=⟨_,rfl⟩
   have h0a:=HPK.out.2.2.2.2.2.1
   have hAb:-1048576≤AN2∧AN2≤1048576:=by rw [hAN2,hAN,h0a]; omega
   have z1:wrap64 (AN + CM)=AN2∧IntKind.i64.wrap (AN + CM)=AN2:=by rw [← hAN2]; exact ⟨IntWalk.wrap64_in _ (by omega),IntWalk.i64_in _ (by omega)⟩
   obtain ⟨x1,x2⟩:=z1
   have HAE:Hid (AN2=a.ans + cameS F a.wk a.ld (j + 1)):=Lib.hid (by rw [cameS,hAN2,hAN,hCM]; omega)
   have q14:w3.cell? ⟨ab,14,none⟩=some (.int .i64 AN):=by rw [hAN]; exact HI3.out.act.at_ (i:=14) (by omega)
   have f14:=HI3.out.act.fz 14
   have HAB:=Lib.hid hAb
   clear hb3 HI2 HU HC9 hCM hAN hAN2 h0a hbd1 hbd2 hAb HWC q2
   have HI4:=Lib.hid (HI3.out.ans HEL.out.2.1 HEL.out.2.2.1 HEL.out.2.2.2.1 AN2 HAB.out)
   have HU3':=Lib.hid (HU3.out.put14 HI3.out.act (.int .i64 AN2))
   have HUW':=Lib.hid (HUW.out.row.put14 HI3.out.act (.int .i64 AN2))
   obtain ⟨D,hD⟩:∃ D,D=chgB F a.wk a.ld j:=⟨_,rfl⟩
   have HEL9:=Lib.hid (places_Equal HUW'.out HU3'.out (by have:=HPK.out.2.2.2.2.2.2.2; unfold FcS.W at this; omega))
   rw [show difB F.n (segF F a.ld j) (wkF F.n (segF F a.ld j) a.wk).1=D from hD.symm] at HEL9
   have HDD:=Lib.hid hD
   clear hD HI3 HUW HU3
   go_wp2_with fail
   refine (HEL9.out).mono ?_
   rintro e w4 ⟨rfl,hb4⟩
   have HI5:=Lib.hid (HI4.out.more hb4)
   clear HI4 HEL9 q14 f14 x1 x2
   cases D
   ·clear HU3' HUW' hb4
    go_wp2
    go_roundw
    case rel =>
     have hr9:=HEQ.out
     refine ⟨j + 1,o1,o2,o3,rfl,rfl,rfl,by clear y1 y2 y3 y4 y5 y6; omega,?_,?_⟩
     ·rw [hr9.2.2.2.2.2.1,hr9.1,Nat.add_mul,Nat.one_mul]
     ·have h9:=HI5.out
      rw [HAE.out] at h9
      rw [oddsL,wordsL,evensL,← HDD.out]
      refine Lib.hid ?_
      simpa using h9
    case measure =>
     have hr9:I2=I + F.W:=HEQ.out.2.2.2.2.2.1
     have hr8:=HPK.out.2.2.2.2.2.2.1
     simp [intOf]; clear y1 y2 y3 y4 y5 y6; omega
   ·have HUA:=Lib.hid ((HUW'.out.below hb4).mono hb4.size)
    have HUB:=Lib.hid ((HU3'.out.below hb4).mono hb4.size)
    have hODD:=bits_or1 HEQ.out.2.2.2.2.2.2
    obtain ⟨OD,hOD⟩:∃ OD,OD=oddI X:=⟨_,rfl⟩
    obtain ⟨EV,hEV⟩:∃ EV,EV=evenI X:=⟨_,rfl⟩
    rw [← hOD] at hODD
    have hEVw:IntKind.u64.wrap (OD + 1)=EV:=by rw [hEV,hOD,IntKind.wrap_u64]; rfl
    obtain ⟨FI1,hFI1⟩:∃ FI1,FI1=FI + 1:=⟨_,rfl⟩
    have hFIb:FI + F.W≤1048576:=by
     have:=HI5.out.fd.fits.cell (H:=a.h0 + j) (by have:=HPK.out.2.2.1; clear y1 y2 y3 y4 y5 y6; omega)
     have h9:=HI5.out.fd.fits.C
     have h8:=HEQ.out.2.2.1; clear y1 y2 y3 y4 y5 y6; omega
    have z1:=wrap_succ4 (k:=FI) (by clear y1 y2 y3 y4 y5 y6; omega)
    rw [← hFI1] at z1
    obtain ⟨x1,x2⟩:=z1
    have HX9:Hid (oddsL F a.wk a.ld a.h0 (j + 1)=oddsL F a.wk a.ld a.h0 j ++ [(FI,OD)]∧wordsL F a.wk a.ld a.h0 (j + 1)=wordsL F a.wk a.ld a.h0 j ++ chgL FI1 (segF F a.ld j) (wkF F.n (segF F a.ld j) a.wk).1 F.n∧evensL F a.wk a.ld a.h0 (j + 1)=evensL F a.wk a.ld a.h0 j ++ [(FI,EV)]):=Lib.hid (by
     have e1:=HEQ.out.1
     have e2:=HEQ.out.2.1
     have e3:=HEQ.out.2.2.1
     rw [oddsL,wordsL,evensL,← HDD.out,if_pos rfl,if_pos rfl,if_pos rfl,← e1,← e2,← e3,hOD,hEV,hFI1]
     exact ⟨rfl,rfl,rfl⟩)
    have hq1:=oddsL_len F a.wk a.ld a.h0 j
    have hq2:=wordsL_len F a.wk a.ld a.h0 j
    have hq3:=evensL_len F a.wk a.ld a.h0 j
    have hn8:F.n≤8:=by have:=HPK.out.2.2.2.2.2.2.2; unfold FcS.W at this; clear y1 y2 y3 y4 y5 y6 x1 x2; omega
    have hq2':j * (2 * F.n)≤128 * 16:=Nat.mul_le_mul (by clear y1 y2 y3 y4 y5 y6 x1 x2; omega) (by clear y1 y2 y3 y4 y5 y6 x1 x2; omega)
    obtain ⟨Q1,hQ1⟩:∃ Q1,Q1=oddsL F a.wk a.ld a.h0 j:=⟨_,rfl⟩
    obtain ⟨Q2,hQ2⟩:∃ Q2,Q2=wordsL F a.wk a.ld a.h0 j:=⟨_,rfl⟩
    obtain ⟨Q3,hQ3⟩:∃ Q3,Q3=evensL F a.wk a.ld a.h0 j:=⟨_,rfl⟩
    rw [← hQ1] at hq1 HX9 HI5
    rw [← hQ2] at hq2 HX9 HI5
    rw [← hQ3] at hq3 HX9 HI5
    have HLN:Hid (Q1.length≤128∧Q2.length≤2048∧Q3.length≤128):=Lib.hid (by clear y1 y2 y3 y4 y5 y6 x1 x2 hEVw; omega)
    have HSZ:Hid (w.heap.size≤wr.heap.size∧wr.heap.size≤w4.heap.size):=Lib.hid ⟨HI.out.tch.size,by have h9:=hb4.size; exact Nat.le_trans (Nat.le_trans HZ2.out HZ3.out) (by simpa using h9)⟩
    have HFB:Hid (FI1≤1048577):=Lib.hid (by clear y1 y2 y3 y4 y5 y6 x1 x2 hEVw; omega)
    have HN8:=Lib.hid hn8
    clear HU3' HUW' hb4 hOD hEV hFI1 hFIb hQ1 hQ2 hQ3 hq1 hq2 hq3 hq2' hn8
    go_wp2_with (first
     | (at_builtin; refine wpList_app _ rfl stWrites (.tmp 77) (.tmp 81) rfl w.heap.size o1 Q1.length _ rfl (own_below HI5.out.r1 ((Below.refl _ _).alloc (Nat.le_refl _) (.cells #[.int .i64 (FI:Nat),.int .u64 OD] 132))) (w4.heap.size + 1) _ 1 [.int .i64 (FI:Nat),.int .u64 OD] rfl (Sl.litW w4 #[.int .i64 (FI:Nat),.int .u64 OD] _ 1 2 rfl (by decide)) (by simp [Value.oneCell']) (by have:=HLN.out; clear y1 y2 y3 y4 y5 y6 x1 x2 hEVw hODD; omega) (by have:=HSZ.out; simp; clear y1 y2 y3 y4 y5 y6 x1 x2 hEVw hODD; omega) ?_; intro v5 w5 hown5 hgr5 hat5 hbel5)
     | fail)
    have HI6:=Lib.hid ((HI5.out.more ((Below.refl _ _).alloc (Nat.le_refl _) (.cells #[.int .i64 (FI:Nat),.int .u64 OD] 132))).app h1 h2 hLw HEL.out.1 (q:=oddsL F a.wk a.ld a.h0 (j + 1)) hown5 hgr5 hat5 (by rw [HX9.out.1,List.length_append]; rfl) (by rw [HX9.out.1,wrc_append]; rfl))
    have hg1:∀ k,o1.ownBlock=some k→k < wr.heap.size:=fun k hk => (HI.out.r1.lt k hk).2
    have ht5:Tch (fun k => o1.ownBlock=some k) w4 w5:=(Tch.of_below ((Below.refl _ _).alloc (Nat.le_refl _) (.cells #[.int .i64 (FI:Nat),.int .u64 OD] 132))).trans ⟨hgr5.os,hgr5.tape,hgr5.output,hgr5.size,fun k hk hn => hgr5.block k hk fun e => hn e.symm⟩
    have HUA5:=Lib.hid (HUA.out.fresh_tch HN2.out ht5 hg1)
    have HUB5:=Lib.hid (HUB.out.fresh_tch HN3.out ht5 hg1)
    have HCG:=Lib.hid (fdb_changes FI1 (by have:=HFB.out; clear y1 y2 y3 y4 y5 y6 x1 x2 hEVw hODD; omega) HUA5.out HUB5.out (by have:=HN8.out; clear y1 y2 y3 y4 y5 y6 x1 x2 hEVw hODD; omega) (wk_good (HGP.out j) F.n HPK.out.2.2.2.2.1))
    have HSZ5:Hid (w.heap.size≤w5.heap.size):=Lib.hid (Nat.le_trans (Nat.le_trans HSZ.out.1 HSZ.out.2) ht5.size)
    clear hown5 hgr5 hat5 hbel5 HI5 hg1 ht5 HUA HUB HN2 HN3
    refine (HCG.out).mono ?_
    rintro e w6 ⟨v6,rfl,hrow6,hb6⟩
    have HI7:=Lib.hid (HI6.out.more hb6)
    have HSZ6:Hid (w.heap.size≤w6.heap.size):=Lib.hid (Nat.le_trans HSZ5.out hb6.size)
    have hcl9:=chgL_len FI1 (segF F a.ld j) (wkF F.n (segF F a.ld j) a.wk).1 F.n
    obtain ⟨Q6,hQ6⟩:∃ Q6,Q6=chgL FI1 (segF F a.ld j) (wkF F.n (segF F a.ld j) a.wk).1 F.n:=⟨_,rfl⟩
    rw [← hQ6] at HX9 hrow6 hcl9
    have HR6:=Lib.hid hrow6
    obtain ⟨A6,c6,rfl,_,_⟩:=(Sl.of_own hrow6).form
    have HL6:Hid (Q6.length≤16):=Lib.hid (by have:=HN8.out; clear y1 y2 y3 y4 y5 y6 x1 x2 hEVw hODD; omega)
    clear hrow6 hb6 HI6 HCG HUA5 HUB5 hQ6 hcl9
    go_wp2_with (first
     | (at_builtin; refine wpList_app _ rfl stWrites (.tmp 83) (.tmp 88) rfl w.heap.size o2 Q2.length _ rfl HI7.out.r2 w6.heap.size _ Q6.length (wrc Q6) rfl (Sl.of_own HR6.out) (wrc_one Q6) (by have:=HLN.out; have:=HL6.out; clear y1 y2 y3 y4 y5 y6 x1 x2 hEVw hODD; omega) HSZ6.out ?_; intro v7 w7 hown7 hgr7 hat7 hbel7 ; have HI8:=Lib.hid (((HI7.out.swap12).app h1 h2 hLw HEL.out.1 (q:=wordsL F a.wk a.ld a.h0 (j + 1)) hown7 hgr7 hat7 (by rw [HX9.out.2.1,List.length_append]) (by rw [HX9.out.2.1,wrc_append])).swap12) ; have HSZ7:Hid (w.heap.size≤w7.heap.size):=Lib.hid (Nat.le_trans HSZ6.out hgr7.size) ; clear hown7 hgr7 hat7 hbel7 HI7 HR6)
     | (at_builtin; refine wpList_app _ rfl stWrites (.tmp 90) (.tmp 95) rfl w.heap.size o3 Q3.length _ rfl (own_below HI8.out.r3 ((Below.refl _ _).alloc (Nat.le_refl _) (.cells #[.int .i64 (FI:Nat),.int .u64 EV] 132))) (w7.heap.size + 1) _ 1 [.int .i64 (FI:Nat),.int .u64 EV] rfl (Sl.litW w7 #[.int .i64 (FI:Nat),.int .u64 EV] _ 1 2 rfl (by decide)) (by simp [Value.oneCell']) (by have:=HLN.out; clear y1 y2 y3 y4 y5 y6 x1 x2 hEVw hODD; omega) (by have:=HSZ7.out; simp; clear y1 y2 y3 y4 y5 y6 x1 x2 hEVw hODD; omega) ?_; intro v8 w8 hown8 hgr8 hat8 hbel8 ; have HI9:=Lib.hid ((((HI8.out.more ((Below.refl _ _).alloc (Nat.le_refl _) (.cells #[.int .i64 (FI:Nat),.int .u64 EV] 132))).swap13).app h1 h2 hLw HEL.out.1 (q:=evensL F a.wk a.ld a.h0 (j + 1)) hown8 hgr8 hat8 (by rw [HX9.out.2.2,List.length_append]; rfl) (by rw [HX9.out.2.2,wrc_append]; rfl)).swap13) ; clear hown8 hgr8 hat8 hbel8 HI8)
     | fail)
    go_wp2
    go_roundw
    case rel =>
     have hr9:=HEQ.out
     refine ⟨j + 1,v5,v7,v8,rfl,rfl,rfl,by clear y1 y2 y3 y4 y5 y6 x1 x2 hEVw hODD; omega,?_,?_⟩
     ·rw [hr9.2.2.2.2.2.1,hr9.1,Nat.add_mul,Nat.one_mul]
     ·have h9:=HI9.out
      rw [HAE.out] at h9
      exact Lib.hid h9
    case measure =>
     have hr9:I2=I + F.W:=HEQ.out.2.2.2.2.2.1
     have hr8:=HPK.out.2.2.2.2.2.2.1
     simp [intOf]; clear y1 y2 y3 y4 y5 y6 x1 x2 hEVw hODD; omega
  ·have hje:j=a.hc:=by omega
   subst hje
   have hIn:I=n:=by rw [hI,HN.out,p1]
   subst hIn
   obtain ⟨A1,c1,rfl,_,_⟩:=(Sl.of_own HI.out.r1).form
   obtain ⟨A2,c2,rfl,_,_⟩:=(Sl.of_own HI.out.r2).form
   obtain ⟨A3,c3,rfl,_,_⟩:=(Sl.of_own HI.out.r3).form
   have hq1:=oddsL_len F a.wk a.ld a.h0 a.hc
   have hq2:=wordsL_len F a.wk a.ld a.h0 a.hc
   have hq3:=evensL_len F a.wk a.ld a.h0 a.hc
   have hq2':a.hc * (2 * F.n)≤128 * 16:=Nat.mul_le_mul (by omega) (by have:=p7.2; unfold FcS.W at this; omega)
   have HWR:=Lib.hid (show wrL F a.wk a.ld a.h0 a.hc=oddsL F a.wk a.ld a.h0 a.hc ++ (wordsL F a.wk a.ld a.h0 a.hc ++ evensL F a.wk a.ld a.h0 a.hc) from rfl)
   obtain ⟨Q1,hQ1⟩:∃ Q1,Q1=oddsL F a.wk a.ld a.h0 a.hc:=⟨_,rfl⟩
   obtain ⟨Q2,hQ2⟩:∃ Q2,Q2=wordsL F a.wk a.ld a.h0 a.hc:=⟨_,rfl⟩
   obtain ⟨Q3,hQ3⟩:∃ Q3,Q3=evensL F a.wk a.ld a.h0 a.hc:=⟨_,rfl⟩
   rw [← hQ1] at hq1 HWR HI
   rw [← hQ2] at hq2 HWR HI
   rw [← hQ3] at hq3 HWR HI
   rw [← hQ1] at HA9
   rw [HWR.out] at HA9
   rw [← hQ1,← hQ2,← hQ3]
   have HLN:Hid (Q1.length≤128∧Q2.length≤2048∧Q3.length≤128):=Lib.hid (by omega)
   have HIA:=Lib.hid (HI.out.act.set_od Q1.length)
   have HIF:=Lib.hid (HI.out.fd.fset HEL.out.2.1 HEL.out.2.2.1 11 (.int .i64 (Q1.length:Nat)))
   have HIT:=Lib.hid (HI.out.tch.fset HI.out.act.own 11 (.int .i64 (Q1.length:Nat)))
   have ht11:=HI.out.act.tab 11 (.int .i64 (Q1.length:Nat))
   have hlow9:=HEL.out.2.2.2.1
   have R1:=Lib.hid (Sl.of_own (own_tch HI.out.r1 ht11 fun k hk e => by have:=(HI.out.r1.lt k hk).1; omega))
   have R2:=Lib.hid (Sl.of_own (own_tch HI.out.r2 ht11 fun k hk e => by have:=(HI.out.r2.lt k hk).1; omega))
   have R3:=Lib.hid (Sl.of_own (own_tch HI.out.r3 ht11 fun k hk e => by have:=(HI.out.r3.lt k hk).1; omega))
   have f11:=HI.out.act.fz 11
   have q11:wr.cell? ⟨ab,11,none⟩=some (.int .i64 (a.od:Nat)):=HI.out.act.at_ (i:=11) (by omega)
   have hsz:(wr.setCell ⟨ab,11,none⟩ (.int .i64 (Q1.length:Nat))).heap.size=wr.heap.size:=by simp
   have d1:decide (I < I)=false:=decide_eq_false (by omega)
   have HJ:=Lib.hid HI.out.tch.size
   have HCT:=Lib.hid (settle_concat hsz R1.out R2.out R3.out HLN.out)
   have HLW:=Lib.hid hLw
   clear R1 R2 R3 HI hI p1 p2 p3 p4 p5 p6 p7 hCf hCC hWhc hj hq1 hq2 hq3 hq2' hQ1 hQ2 hQ3 hlt hnb hlow9 ht11
   go_wp2_with fail
   refine (HCT.out).mono ?_
   rintro e w5 ⟨v5,rfl,hrow5,hb5⟩
   have HB5:Hid (Below (wr.setCell ⟨ab,11,none⟩ (.int .i64 (Q1.length:Nat))).heap.size (wr.setCell ⟨ab,11,none⟩ (.int .i64 (Q1.length:Nat))) w5):=Lib.hid (((Below.refl _ _).alloc (Nat.le_refl _) _).trans (hb5.mono (by simp)))
   have HI5:=Lib.hid (HIA.out.below HB5.out)
   obtain ⟨N5,hN5⟩:∃ N5,N5=(Q1 ++ (Q2 ++ Q3)).length:=⟨_,rfl⟩
   rw [← hN5] at hrow5
   have HN5:=Lib.hid hN5
   clear hN5
   have HR5:=Lib.hid hrow5
   obtain ⟨A5,c5,rfl,_,_⟩:=(Sl.of_own hrow5).form
   have q10:w5.cell? ⟨ab,10,none⟩=some wv:=HI5.out.at_ (i:=10) (by omega)
   have f10:=HI5.out.fz 10
   clear hrow5 hb5 HCT
   go_wp2
   go_end0
   refine ⟨rfl,(HIF.out.below HB5.out).fset HEL.out.2.1 HEL.out.2.2.1 10 _,?_,(HIT.out.trans (Tch.of_below HB5.out)).fset HI5.out.own 10 _⟩
   rw [HA9.out]
   exact settle_end HI5.out HLW.out HEL.out.2.2.2.1 (B:=((wr.setCell ⟨ab,11,none⟩ (.int .i64 (Q1.length:Nat))).alloc (.cells #[.slice A1 Q1.length c1,.slice A2 Q2.length c2,.slice A3 Q3.length c3] 91)).heap.size) (by have:=HJ.out; simp; omega) (by rw [← HN5.out]; exact HR5.out)
end
end Go.Proofs.Ythloabdfkakehaa
