/-
  Words and contracts that a statement's proof rests on (FdD, FeL). No statement is proved here.
-/
import Derived.Test.YthloabdfkakehaaBuQ
import Derived.Test.YthloabdfkakehaaFdC
import Derived.Test.YthloabdfkakehaaFeK
set_option linter.unusedVariables false
set_option linter.unusedSimpArgs false
namespace Go.Proofs.Ythloabdfkakehaa
section
open Go.RowKit
section
variable {w:World} {lo b fb L ab:Nat} {E:Nat→Prop} {F:FcS} {m:MemS} {a:FaS} {fv lv wv:Value}
theorem FactIn.over (h:FactIn w L E fb ab F a fv lv wv):FactIn (((w.setCell ⟨ab,7,none⟩ (.int .i64 0)).setCell ⟨ab,9,none⟩ (.slice none 0 0)).setCell ⟨ab,10,none⟩ (.slice none 0 0)) L E fb ab F { a with st:=0,ld:=[],wr:=[] } fv (.slice none 0 0) (.slice none 0 0) :=
 ((h.set_st 0).set_ld (l:=[]) ⟨rfl,.inl ⟨rfl,rfl⟩⟩ (fun k hk => by cases hk)).set_wr (l:=[]) ⟨rfl,.inl ⟨rfl,rfl⟩⟩ (fun k hk => by cases hk)
def FOver (lo b fb L ab:Nat) (E:Nat→Prop) (F:FcS) (m':MemS) (a':FaS) (w:World) (e:Ending) (w':World):Prop :=
 e=.returned (.tuple #[])∧FdbAt w' lo b fb F m'∧(∃ fv lv wv,FactIn w' L E fb ab F a' fv lv wv)∧Tch (FdD lo E) w w'
set_option maxRecDepth 20000 in
set_option maxHeartbeats 3200000 in
theorem fact_free (hf:FdbAt w lo b fb F m) (ha:FactIn w L E fb ab F a fv lv wv) (h1:lo + 3≤L) (h2:fb < L) (ht:0≤m.t∧m.t≤4611686018427387900) (hwho:0≤a.who) (hpos:1≤a.held) (hlk:a.l0 + a.held≤m.L) :
  Calls Try.prog 60 #[.pointer (some ⟨ab,0,none⟩)] w (FOver lo b fb L ab E F (freF m a).1 (freF m a).2 w):=by
 have hLb:=hf.fits.L
 have hab:L≤ab:=(ha.low _ ha.own).1
 have hab1:lo + 3≤ab:=by omega
 have hab2:ab ≠ fb:=by omega
 obtain ⟨H,hH⟩:∃ H,a.held=H + 1:=⟨a.held - 1,by omega⟩
 obtain ⟨K,hK⟩:∃ K,K=a.l0 + H:=⟨_,rfl⟩
 have hl9:a.l0 < 1000000:=by omega
 have hh9:H < 1000000:=by omega
 obtain ⟨G,hG⟩:∃ G:Int,G=(a.held:Int):=⟨_,rfl⟩
 have hz:wrap64 (G - 1)=(H:Int):=by rw [show G - 1=(H:Int) by omega]; exact IntWalk.wrap64_in _ (by omega)
 have r0:w.cell? ⟨ab,0,none⟩=some (.pointer (some ⟨fb,0,none⟩)):=ha.at_ (i:=0) (by omega)
 have r1:w.cell? ⟨ab,1,none⟩=some (.int .i64 a.who):=ha.at_ (i:=1) (by omega)
 have r3:w.cell? ⟨ab,3,none⟩=some (.int .i64 (a.l0:Nat)):=ha.at_ (i:=3) (by omega)
 have r8:w.cell? ⟨ab,8,none⟩=some (.int .i64 G):=by have:=ha.at_ (i:=8) (by clear hz; omega); rw [hG]; exact this
 have f8:=ha.fz 8
 obtain ⟨m',hm'⟩:∃ m',m'=(freF m a).1:=⟨_,rfl⟩
 have hfm:freeS m (K:Int) a.who=m':=by
  rw [free_k (by omega) hwho,hm',hK]
  show _=if m.h (a.l0 + (a.held - 1))=a.who then putL (tickS m) (a.l0 + (a.held - 1)) (-1) else tickS m
  rw [hH,Nat.add_sub_cancel]
 have hmC:m'.C=m.C∧m'.L=m.L:=by
  rw [hm']
  show (if _ then _ else _:MemS).C=_∧(if _ then _ else _:MemS).L=_
  split <;> exact ⟨rfl,rfl⟩
 obtain ⟨w0,hw0⟩:∃ w0,w0=w.setCell ⟨ab,8,none⟩ (.int .i64 (H:Nat)):=⟨_,rfl⟩
 have hf0:FdbAt w0 lo b fb F m:=by rw [hw0]; exact hf.fset hab1 hab2 8 _
 have ha0:FactIn w0 L E fb ab F { a with held:=H } fv lv wv:=by rw [hw0]; exact ha.set_held H
 have ht0:Tch (FdD lo E) w w0:=by rw [hw0]; exact (Tch.refl _ _).fset ha.own 8 _
 have hL:=fun u (hu:Below w0.heap.size w0 u) => mem_Free (K:Int) a.who (hf0.below hu).mem (by omega)
 rw [hfm] at hL
 have HL:=Lib.hid hL
 have HAF:=Lib.hid fun u (hu:Below w0.heap.size w0 u) w' (hm:MemAt w' 82 lo b m') (htt:Touch lo u w') => fd_after hf0 ha0 h1 hu hm htt hmC.1 hmC.2
 have e2:(freF m a).2=if H=0 then { a with held:=0,st:=0,ld:=[],wr:=[] } else { a with held:=H }:=by
  show (if a.held - 1=0 then _ else _:FaS)=_
  rw [hH,Nat.add_sub_cancel]
 rw [← hm']
 obtain ⟨a',ha'⟩:∃ a',a'=(freF m a).2:=⟨_,rfl⟩
 rw [← ha']
 rw [← ha'] at e2
 have HE2:=Lib.hid e2
 obtain ⟨hb2,hb1⟩:=wrap_addF (k:=a.l0) (l:=H) (by clear hz; omega) (by clear hz; omega)
 rw [← hK] at hb1 hb2
 have p0:w0.cell? ⟨ab,0,none⟩=some (.pointer (some ⟨fb,0,none⟩)):=ha0.at_ (i:=0) (by clear hz hb1 hb2; omega)
 have p1:w0.cell? ⟨ab,1,none⟩=some (.int .i64 a.who):=ha0.at_ (i:=1) (by clear hz hb1 hb2; omega)
 have p3:w0.cell? ⟨ab,3,none⟩=some (.int .i64 (a.l0:Nat)):=ha0.at_ (i:=3) (by clear hz hb1 hb2; omega)
 have p8:w0.cell? ⟨ab,8,none⟩=some (.int .i64 (H:Nat)):=ha0.at_ (i:=8) (by clear hz hb1 hb2; omega)
 have s0:=hf0.at_.1
 have HT0:=Lib.hid ht0
 have HW:=Lib.hid hw0
 clear hf ha hf0 ha0 ht ht0 hL hfm hmC hm' e2 ha' hG hwho hlk hLb hpos hK hl9 hh9 hH
 go_enter Try.func60,Try.ntmps60
 go_wp2_with fail
 rw [← hw0]
 clear hw0 r0 r1 r3 r8 f8
 go_region_held3 (fun w' => w'.cell? ⟨ab,0,none⟩=some (.pointer (some ⟨fb,0,none⟩))∧w'.cell? ⟨fb,0,none⟩=some (.pointer (some ⟨b,0,none⟩))∧w'.cell? ⟨ab,3,none⟩=some (.int .i64 (a.l0:Nat))∧w'.cell? ⟨ab,8,none⟩=some (.int .i64 (H:Nat))∧w'.cell? ⟨ab,1,none⟩=some (.int .i64 a.who)) (first | exact ⟨HX.out.2.1.at_ (i:=0) (by omega),HX.out.1.at_.1,HX.out.2.1.at_ (i:=3) (by omega),HX.out.2.1.at_ (i:=8) (by omega),HX.out.2.1.at_ (i:=1) (by omega)⟩ | go_keep) (first
  | (go_at_call 94; (with_reducible refine Calls.mono (HL.out _ (Below.drew (Below.refl _ _))) ?_); rintro e w1 ⟨rfl,hm,ht'⟩; have HX:=Lib.hid (HAF.out _ (Below.drew (Below.refl _ _)) _ hm ht'); clear hm ht'))
 have q8:w1.cell? ⟨ab,8,none⟩=some (.int .i64 (H:Nat)):=HX.out.2.1.at_ (i:=8) (by clear hz hb1 hb2; omega)
 clear p0 p1 p3 p8 s0 HL HAF
 by_cases hz0:H=0
 ·have HE3:=Lib.hid (HE2.out.trans (if_pos hz0))
  have hk:((H:Int) == 0)=true:=by rw [hz0]; rfl
  have HEND:=Lib.hid (fact_end HX.out.2.1)
  have HZ:=Lib.hid hz0
  clear hz0
  go_wp2_with fail
  refine (HEND.out).mono ?_
  rintro e w2 ⟨rfl,rfl⟩
  go_wp2
  go_end0
  refine ⟨rfl,((HX.out.1.fset hab1 hab2 7 _).fset hab1 hab2 9 _).fset hab1 hab2 10 _,⟨fv,.slice none 0 0,.slice none 0 0,?_⟩,(((HT0.out.trans HX.out.2.2).fset HX.out.2.1.own 7 _).fset HX.out.2.1.own 9 _).fset HX.out.2.1.own 10 _⟩
  rw [HE3.out]
  have h9:=HX.out.2.1.over
  rw [HZ.out] at h9
  exact h9
 ·have HE3:=Lib.hid (HE2.out.trans (if_neg hz0))
  have hk:((H:Int) == 0)=false:=by simp; clear hz hb1 hb2; omega
  clear hz0
  go_wp2
  go_end0
  exact ⟨rfl,HX.out.1,⟨fv,lv,wv,by rw [HE3.out]; exact HX.out.2.1⟩,HT0.out.trans HX.out.2.2⟩
end
end
section
open Go.RowKit
set_option maxHeartbeats 3200000 in
theorem fdb_BoundY (S B n:Nat) (hS:1≤S∧S≤8) (hB:1≤B∧B≤16) (hn:1≤n∧n≤8) (t:Nat) (ht:1≤t∧t≤8) (w:World) :
  Calls Try.prog 14 #[.agg #[.int .i64 (S:Nat),.int .i64 (B:Nat),.int .i64 (n:Nat)],.int .i64 (t:Nat)] w (Says (.int .i64 ((16 + t * (4 + 4 * n) + S * (4 + B * (8 + 8 * n)):Nat):Int)) w):=by
 have hr:=rightS_nat hS hB hn
 have HR:=Lib.hid fun W => book_Right (S:Int) (B:Int) (n:Int) W
 rw [hr] at HR
 have HT:=Lib.hid fun W => fdb_rightTries (t:Int) W
 rw [show inB (t:Int) 8=true by unfold inB; simp; omega] at HT
 obtain ⟨P1,hP1⟩:∃ P1:Nat,P1=4 * n:=⟨_,rfl⟩
 obtain ⟨P2,hP2⟩:∃ P2:Nat,P2=4 + P1:=⟨_,rfl⟩
 obtain ⟨P3,hP3⟩:∃ P3:Nat,P3=t * P2:=⟨_,rfl⟩
 obtain ⟨P4,hP4⟩:∃ P4:Nat,P4=16 + P3:=⟨_,rfl⟩
 obtain ⟨Q1,hQ1⟩:∃ Q1:Nat,Q1=8 * n:=⟨_,rfl⟩
 obtain ⟨Q2,hQ2⟩:∃ Q2:Nat,Q2=8 + Q1:=⟨_,rfl⟩
 obtain ⟨Q3,hQ3⟩:∃ Q3:Nat,Q3=B * Q2:=⟨_,rfl⟩
 obtain ⟨Q4,hQ4⟩:∃ Q4:Nat,Q4=4 + Q3:=⟨_,rfl⟩
 obtain ⟨Q5,hQ5⟩:∃ Q5:Nat,Q5=S * Q4:=⟨_,rfl⟩
 obtain ⟨K,hK⟩:∃ K:Nat,K=P4 + Q5:=⟨_,rfl⟩
 have bP1:P1≤32:=by rw [hP1]; exact Nat.mul_le_mul_left 4 hn.2
 have bP2:P2≤36:=by rw [hP2]; exact by omega
 have bP3:P3≤288:=by rw [hP3]; exact Nat.mul_le_mul ht.2 bP2
 have bP4:P4≤304:=by rw [hP4]; exact by omega
 have bQ1:Q1≤64:=by rw [hQ1]; exact Nat.mul_le_mul_left 8 hn.2
 have bQ2:Q2≤72:=by rw [hQ2]; exact by omega
 have bQ3:Q3≤1152:=by rw [hQ3]; exact Nat.mul_le_mul hB.2 bQ2
 have bQ4:Q4≤1156:=by rw [hQ4]; exact by omega
 have bQ5:Q5≤9248:=by rw [hQ5]; exact Nat.mul_le_mul hS.2 bQ4
 have bK:K≤9552:=by rw [hK]; exact by omega
 have he:16 + t * (4 + 4 * n) + S * (4 + B * (8 + 8 * n))=K:=by rw [hK,hP4,hP3,hP2,hP1,hQ5,hQ4,hQ3,hQ2,hQ1]
 rw [he]
 have z0:=wr_ok (e:=4 * (n:Int)) (k:=P1) (by rw [hP1]; simp) (Nat.le_trans bP1 (by decide))
 have z1:=wr_ok (e:=4 + (P1:Int)) (k:=P2) (by rw [hP2]; simp) (Nat.le_trans bP2 (by decide))
 have z2:=wr_ok (e:=(t:Int) * (P2:Int)) (k:=P3) (by rw [hP3]; simp) (Nat.le_trans bP3 (by decide))
 have z3:=wr_ok (e:=16 + (P3:Int)) (k:=P4) (by rw [hP4]; simp) (Nat.le_trans bP4 (by decide))
 have z4:=wr_ok (e:=8 * (n:Int)) (k:=Q1) (by rw [hQ1]; simp) (Nat.le_trans bQ1 (by decide))
 have z5:=wr_ok (e:=8 + (Q1:Int)) (k:=Q2) (by rw [hQ2]; simp) (Nat.le_trans bQ2 (by decide))
 have z6:=wr_ok (e:=(B:Int) * (Q2:Int)) (k:=Q3) (by rw [hQ3]; simp) (Nat.le_trans bQ3 (by decide))
 have z7:=wr_ok (e:=4 + (Q3:Int)) (k:=Q4) (by rw [hQ4]; simp) (Nat.le_trans bQ4 (by decide))
 have z8:=wr_ok (e:=(S:Int) * (Q4:Int)) (k:=Q5) (by rw [hQ5]; simp) (Nat.le_trans bQ5 (by decide))
 have z9:=wr_ok (e:=(P4:Int) + (Q5:Int)) (k:=K) (by rw [hK]; simp) (Nat.le_trans bK (by decide))
 obtain ⟨x0,x1⟩:=z0
 obtain ⟨x2,x3⟩:=z1
 obtain ⟨x4,x5⟩:=z2
 obtain ⟨x6,x7⟩:=z3
 obtain ⟨x8,x9⟩:=z4
 obtain ⟨x10,x11⟩:=z5
 obtain ⟨x12,x13⟩:=z6
 obtain ⟨x14,x15⟩:=z7
 obtain ⟨x16,x17⟩:=z8
 obtain ⟨x18,x19⟩:=z9
 clear hr hP1 hP2 hP3 hP4 hQ1 hQ2 hQ3 hQ4 hQ5 hK bP1 bP2 bP3 bP4 bQ1 bQ2 bQ3 bQ4 bQ5 bK he hS hB hn ht
 go_enter Try.func14,Try.ntmps14
 go_wp2_with (first
  | go_big_skip
  | (go_at_call 44; (with_reducible refine Calls.mono (HT.out _) ?_); rintro e w9 ⟨rfl,rfl⟩)
  | (go_at_call 43; (with_reducible refine Calls.mono (HR.out _) ?_); rintro e w1 ⟨rfl,hb1⟩; have HB1:=Lib.hid (((Below.refl w.heap.size w).alloc (Nat.le_refl _) _).trans (hb1.mono (by simp))); have c0:w1.cell? ⟨w.heap.size,0,none⟩=some (.int .i64 (S:Nat)):=(hb1.cell (p:=⟨w.heap.size,0,none⟩) (by simp)).trans (by simp [go_sem]); have c1:w1.cell? ⟨w.heap.size,1,none⟩=some (.int .i64 (B:Nat)):=(hb1.cell (p:=⟨w.heap.size,1,none⟩) (by simp)).trans (by simp [go_sem]); have c2:w1.cell? ⟨w.heap.size,2,none⟩=some (.int .i64 (n:Nat)):=(hb1.cell (p:=⟨w.heap.size,2,none⟩) (by simp)).trans (by simp [go_sem]); clear hb1)
  | fail)
 go_wp2
 go_ret
 exact ⟨rfl,HB1.out⟩
set_option maxHeartbeats 1600000 in
theorem fdb_BoundN (a b c t:Int) (hr:rightS a b c=false ∨ inB t 8=false) (w:World) :
  Calls Try.prog 14 #[.agg #[.int .i64 a,.int .i64 b,.int .i64 c],.int .i64 t] w (Says (.int .i64 0) w):=by
 have HR:=Lib.hid fun W => book_Right a b c W
 have HT:=Lib.hid fun W => fdb_rightTries t W
 cases h1:rightS a b c
 ·rw [h1] at HR
  clear hr h1
  go_enter Try.func14,Try.ntmps14
  go_wp2_with (first
   | go_big_skip
   | (go_at_call 43; (with_reducible refine Calls.mono (HR.out _) ?_); rintro e w1 ⟨rfl,hb1⟩; have HB1:=Lib.hid (((Below.refl w.heap.size w).alloc (Nat.le_refl _) _).trans (hb1.mono (by simp))); clear hb1)
   | fail)
  go_wp2
  go_ret
  exact ⟨rfl,HB1.out⟩
 ·rw [h1] at HR
  have h2:inB t 8=false:=by
   rcases hr with h | h
   ·rw [h1] at h; cases h
   ·exact h
  rw [h2] at HT
  clear hr h1 h2
  go_enter Try.func14,Try.ntmps14
  go_wp2_with (first
   | go_big_skip
   | (go_at_call 44; (with_reducible refine Calls.mono (HT.out _) ?_); rintro e w9 ⟨rfl,rfl⟩)
   | (go_at_call 43; (with_reducible refine Calls.mono (HR.out _) ?_); rintro e w1 ⟨rfl,hb1⟩; have HB1:=Lib.hid (((Below.refl w.heap.size w).alloc (Nat.le_refl _) _).trans (hb1.mono (by simp))); clear hb1)
   | fail)
  go_wp2
  go_ret
  exact ⟨rfl,HB1.out⟩
end
end Go.Proofs.Ythloabdfkakehaa
