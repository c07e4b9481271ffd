/-
  Words and contracts that a statement's proof rests on (FdL, FdN). No statement is proved here.
-/
import Derived.Test.YthloabdfkakehaaFdD
import Derived.Test.YthloabdfkakehaaFdE
import Derived.Test.YthloabdfkakehaaFdR
import Derived.Test.YthloabdfkakehaaFdV
set_option linter.unusedVariables false
set_option linter.unusedSimpArgs false
namespace Go.Proofs.Ythloabdfkakehaa
section
open Go.RowKit
section
variable {w:World} {lo b fb L ab:Nat} {E:Nat→Prop} {F:FcS} {m:MemS} {a:FaS} {fv lv wv:Value}
theorem growE_trans {w w1 w2:World} (h1:w.heap.size≤w1.heap.size) (h2:w1.heap.size≤w2.heap.size):growE (growE E w w1) w1 w2=growE E w w2:=by
 funext k
 apply propext
 unfold growE
 constructor
 ·rintro ((h | h) | h)
  ·exact .inl h
  ·exact .inr ⟨h.1,by omega⟩
  ·exact .inr ⟨by omega,h.2⟩
 ·rintro (h | h)
  ·exact .inl (.inl h)
  ·rcases Nat.lt_or_ge k w1.heap.size with h9 | h9
   ·exact .inl (.inr ⟨h.1,h9⟩)
   ·exact .inr ⟨h9,h.2⟩
theorem growE_set {w w1:World} {p:Addr} {v:Value}:growE E w (w1.setCell p v)=growE E w w1:=by
 funext k
 unfold growE
 simp [World.setCell]
theorem Tch.grown {w w1 w2:World} (h:Tch (FdD lo E) w w1) (h2:Tch (FdD lo (growE E w w1)) w1 w2):Tch (FdD lo E) w w2 :=
 ⟨h2.os.trans h.os,h2.tape.trans h.tape,h2.output.trans h.output,Nat.le_trans h.size h2.size,fun k hk hn => (h2.block k (Nat.lt_of_lt_of_le hk h.size) fun e => by
  rcases e with e | e | e
  ·exact hn (.inl e)
  ·exact hn (.inr e)
  ·omega).trans (h.block k hk hn)⟩
theorem FDone.grown {w w1 w2:World} {e:Ending} {m':MemS} {a':FaS} (h:Tch (FdD lo E) w w1) (h2:FDone lo b fb L ab (growE E w w1) F m' a' w1 e w2):FDone lo b fb L ab E F m' a' w e w2 :=
 ⟨h2.1,h2.2.1,by have h9:=h2.2.2.1; rw [growE_trans h.size h2.2.2.2.size] at h9; exact h9,h.grown h2.2.2.2⟩
set_option maxRecDepth 20000 in
set_option maxHeartbeats 1600000 in
theorem fact_load (hf:FdbAt w lo b fb F m) (ha:FactIn w L E fb ab F a fv lv wv) (h1:lo + 3≤L) (h2:fb < L) (hLw:L≤w.heap.size) (ht:0≤m.t∧m.t≤4611686018427387900) (hlen:a.ld.length < a.hc * F.W) (hc:F.cell a.h0 + a.hc * F.W≤m.C) (hhc:1≤a.hc∧a.hc≤128) (hh:a.h0 + a.hc≤F.S * F.B) (hrg:∀ x ∈ (rdA F m a).ld,0≤x∧x < 18446744073709551616) (hwk:a.wk.ok) (han:a.ans=0) :
  Calls Try.prog 58 #[.pointer (some ⟨ab,0,none⟩)] w (FDone lo b fb L ab E F (loaF F m a).1 (loaF F m a).2 w):=by
 have hWb:=hf.fits.W
 have hCb:=hf.fits.C
 have hWhc:a.hc * F.W≤128 * 17:=Nat.mul_le_mul hhc.2 hWb.2
 have HRD:=Lib.hid (fact_read hf ha h1 h2 hLw ht (by omega) (by omega))
 have hl1:(rdA F m a).ld.length=a.ld.length + 1:=by simp [rdA]
 have HST:=Lib.hid fun w1 E1 fv1 lv1 wv1 (h9:FdbAt w1 lo b fb F (tickS m)) (h8:FactIn w1 L E1 fb ab F (rdA F m a) fv1 lv1 wv1) (h7:L≤w1.heap.size) (h6:(rdA F m a).ld.length=a.hc * F.W) => fact_settle h9 h8 h1 h2 h7 h6 hhc hh hrg hwk han
 have HAB:Hid (lo + 3≤ab∧ab ≠ fb∧E ab):=Lib.hid ⟨by have:=(ha.low _ ha.own).1; omega,by have:=(ha.low _ ha.own).1; omega,ha.own⟩
 have e1:(loaF F m a).1=tickS m:=rfl
 have e2:(loaF F m a).2=if (rdA F m a).ld.length < a.hc * F.W then rdA F m a else setA F (m.t + 1) (rdA F m a):=rfl
 have ht2:(tickS m).t=m.t + 1:=rfl
 rw [e1,e2,← ht2]
 have HT9:Hid (0≤(tickS m).t∧(tickS m).t≤4611686018427387904):=Lib.hid (by rw [ht2]; omega)
 obtain ⟨M,hM⟩:∃ M,M=a.hc * F.W:=⟨_,rfl⟩
 obtain ⟨c,hcc⟩:∃ c,c=rdA F m a:=⟨_,rfl⟩
 have hhcc:c.hc=a.hc:=by rw [hcc]; rfl
 rw [← hcc] at HRD HST ⊢
 rw [← hM] at HST ⊢
 obtain ⟨m',hm'⟩:∃ m',m'=tickS m:=⟨_,rfl⟩
 rw [← hm'] at HRD HST HT9 ⊢
 have HM:Hid (((c.hc * F.W:Nat):Int)=(M:Int)):=Lib.hid (by rw [hhcc,hM])
 have HLW:=Lib.hid hLw
 obtain ⟨a2,ha2⟩:∃ a2:FaS,a2={ c with ans:=c.ans + cameS F c.wk c.ld c.hc,od:=(oddsL F c.wk c.ld c.h0 c.hc).length,wr:=wrL F c.wk c.ld c.h0 c.hc }:=⟨_,rfl⟩
 have HST2:=Lib.hid fun w1 E1 fv1 lv1 wv1 h9 h8 h7 h6 => show Calls Try.prog 92 #[.pointer (some ⟨ab,0,none⟩)] w1 (FDone lo b fb L ab E1 F m' a2 w1) from by rw [ha2]; exact HST.out w1 E1 fv1 lv1 wv1 h9 h8 h7 h6
 have HSA:Hid (setA F m'.t c=if a2.wr=[] then { a2 with st:=5,mark:=m'.t } else { a2 with st:=4 }):=Lib.hid (by
  rw [ha2]
  unfold setA
  by_cases h:wrL F c.wk c.ld c.h0 c.hc=[]
  ·rw [if_pos h,if_pos h]; simp [h]
  ·rw [if_neg h,if_neg h]; simp [h])
 obtain ⟨n,hn⟩:∃ n,n=c.ld.length:=⟨_,rfl⟩
 rw [← hn] at HST2 ⊢
 have hnb:n≤M:=by rw [hn,hcc,hl1,hM]; omega
 have HN:=Lib.hid hn
 clear HST hf ha hLw ht hlen hc hhc hh hrg hwk han hWb hCb hWhc hl1 e1 e2 ht2 hM hhcc hm' ha2 hn hcc
 by_cases hlt:n < M
 ·rw [if_pos hlt]
  have d1:decide (n < M)=true:=decide_eq_true hlt
  go_enter Try.func58,Try.ntmps58
  go_wp2_with fail
  refine (HRD.out).mono ?_
  rintro e w1 ⟨rfl,hfd,⟨lv1,hact⟩,htc⟩
  obtain ⟨A9,c9,rfl,_,_⟩:=(Sl.of_own hact.ld).form
  rw [← HN.out] at hact
  have q9:w1.cell? ⟨ab,9,none⟩=some (.slice A9 n c9):=hact.at_ (i:=9) (by omega)
  have q6:w1.cell? ⟨ab,6,none⟩=some (.int .i64 (M:Nat)):=by rw [← HM.out]; exact hact.at_ (i:=6) (by omega)
  have HF:=Lib.hid hfd
  have HA:=Lib.hid hact
  have HT:=Lib.hid htc
  clear hfd hact htc
  go_wp2_with fail
  go_quiet (fail)
  go_wp2
  go_end0
  exact ⟨rfl,HF.out.below (below_drewN (Below.refl _ _) _),⟨_,_,_,HA.out.below (below_drewN (Below.refl _ _) _)⟩,HT.out.drewN _⟩
 ·rw [if_neg hlt,HSA.out]
  obtain ⟨a5,ha5⟩:∃ a5:FaS,a5=if a2.wr=[] then { a2 with st:=5,mark:=m'.t } else { a2 with st:=4 }:=⟨_,rfl⟩
  rw [← ha5]
  have HA5:=Lib.hid ha5
  clear ha5
  have d1:decide (n < M)=false:=decide_eq_false hlt
  have hnM:n=M:=by omega
  clear hnb hlt HSA
  go_enter Try.func58,Try.ntmps58
  go_wp2_with fail
  refine (HRD.out).mono ?_
  rintro e w1 ⟨rfl,hfd,⟨lv1,hact⟩,htc⟩
  obtain ⟨A9,c9,rfl,_,_⟩:=(Sl.of_own hact.ld).form
  rw [← HN.out] at hact
  have q9:w1.cell? ⟨ab,9,none⟩=some (.slice A9 n c9):=hact.at_ (i:=9) (by omega)
  have q6:w1.cell? ⟨ab,6,none⟩=some (.int .i64 (M:Nat)):=by rw [← HM.out]; exact hact.at_ (i:=6) (by omega)
  have HT:=Lib.hid htc
  have HSE:=Lib.hid fun q => HST2.out (w1.drewN q) (growE E w w1) _ _ _ (hfd.below (below_drewN (Below.refl _ _) _)) (hact.below (below_drewN (Below.refl _ _) _)) (Nat.le_trans HLW.out htc.size) hnM
  clear hfd hact htc HST2 HRD
  go_wp2_with fail
  go_quiet (fail)
  go_wp2_with fail
  refine (HSE.out _).mono ?_
  rintro e w2 hd
  obtain ⟨rfl,hfd,⟨fv2,lv2,wv2,hact⟩,htc⟩:=FDone.grown (HT.out.drewN _) hd
  obtain ⟨A10,c10,rfl,_,_⟩:=(Sl.of_own hact.wr).form
  have q7:w2.cell? ⟨ab,7,none⟩=some (.int .i64 (a2.st:Nat)):=hact.at_ (i:=7) (by omega)
  have q10:w2.cell? ⟨ab,10,none⟩=some (.slice A10 a2.wr.length c10):=hact.at_ (i:=10) (by omega)
  have f7:=hact.fz 7
  have HF:=Lib.hid hfd
  have HA:=Lib.hid hact
  have HC:=Lib.hid htc
  have HTE:=Lib.hid (fact_takeEffect (hfd.fset HAB.out.1 HAB.out.2.1 7 (.int .i64 (4:Nat))) (hact.set_st 4) HT9.out h1 h2)
  clear hfd hact htc hd HSE q9 q6 d1
  by_cases hw:a2.wr=[]
  ·have HA6:=Lib.hid (HA5.out.trans (if_pos hw))
   have hl0:a2.wr.length=0:=by rw [hw]; rfl
   rw [hl0] at q10
   go_wp2_with fail
   refine (HTE.out).mono ?_
   rintro e w3 ⟨rfl,rfl⟩
   have q7':=((HA.out.set_st 4).set_mark m'.t HT9.out).fz 7
   go_wp2
   go_end0
   refine ⟨rfl,((HF.out.fset HAB.out.1 HAB.out.2.1 7 _).fset HAB.out.1 HAB.out.2.1 13 _).fset HAB.out.1 HAB.out.2.1 7 _,?_,((HC.out.fset HAB.out.2.2 7 _).fset HAB.out.2.2 13 _).fset HAB.out.2.2 7 _⟩
   rw [growE_set,growE_set,growE_set,HA6.out]
   exact ⟨_,_,_,((HA.out.set_st 4).set_mark m'.t HT9.out).set_st 5⟩
  ·have HA6:=Lib.hid (HA5.out.trans (if_neg hw))
   obtain ⟨l,hl⟩:∃ l,l=a2.wr.length:=⟨_,rfl⟩
   have hl0:0 < l:=by rw [hl]; exact Nat.pos_of_ne_zero fun h => hw (List.eq_nil_of_length_eq_zero h)
   rw [← hl] at q10
   have n1:((l:Int) == 0)=false:=by simp; omega
   have n2:¬ l=0:=by omega
   go_wp2
   go_end0
   refine ⟨rfl,HF.out.fset HAB.out.1 HAB.out.2.1 7 _,?_,HC.out.fset HAB.out.2.2 7 _⟩
   rw [growE_set,HA6.out]
   exact ⟨_,_,_,HA.out.set_st 4⟩
end
end
section
open Go.RowKit
section
variable {w:World} {lo b fb L ab:Nat} {E:Nat→Prop} {F:FcS} {m m':MemS} {a a':FaS} {fv lv wv:Value}
def FStep (lo b fb L ab:Nat) (E:Nat→Prop) (F:FcS) (m':MemS) (a':FaS) (w:World) (e:Ending) (w':World):Prop :=
 e=.returned (.bool (decide (a'.st=0)))∧FdbAt w' lo b fb F m'∧FactAt w' L (growE E w w') fb ab F a'∧Tch (FdD lo E) w w'
theorem FKeep.done {e:Ending} {w':World} (h:FKeep lo b fb L ab E F fv lv wv m' a' w e w') (hLw:L≤w.heap.size):FDone lo b fb L ab E F m' a' w e w' :=
 ⟨h.1,h.2.1,h.2.2.1.grows hLw,h.2.2.2⟩
theorem FOver.done {e:Ending} {w':World} (h:FOver lo b fb L ab E F m' a' w e w') (hLw:L≤w.heap.size):FDone lo b fb L ab E F m' a' w e w':=by
 obtain ⟨h1,h2,⟨_,_,_,h3⟩,h4⟩:=h
 exact ⟨h1,h2,h3.grows hLw,h4⟩
set_option maxRecDepth 20000 in
set_option maxHeartbeats 800000 in
theorem step_try (ha:FactIn w L E fb ab F a fv lv wv) (hs:a.st=1) (hc:Calls Try.prog 56 #[.pointer (some ⟨ab,0,none⟩)] w (FDone lo b fb L ab E F m' a' w)) :
  Calls Try.prog 20 #[.pointer (some ⟨ab,0,none⟩)] w (FStep lo b fb L ab E F m' a' w):=by
 have q7:w.cell? ⟨ab,7,none⟩=some (.int .i64 1):=by have h9:=ha.at_ (i:=7) (by omega); rw [h9]; show some (Value.int .i64 (a.st:Nat))=_; rw [hs]; rfl
 have HO:=Lib.hid (fact_Over ha (z:=false) (by rw [hs]; rfl))
 have HC:=Lib.hid hc
 clear ha hs hc
 go_enter Try.func20,Try.ntmps20
 go_wp2_with fail
 refine (HO.out).mono ?_
 rintro e w1 ⟨rfl,rfl⟩
 go_wp2_with fail
 refine (HC.out).mono ?_
 rintro e w2 ⟨rfl,hfd,⟨fv2,lv2,wv2,hact⟩,htc⟩
 obtain ⟨z,hz⟩:∃ z,z=decide (a'.st=0):=⟨_,rfl⟩
 have HO2:=Lib.hid (fact_Over hact hz.symm)
 have HZ:=Lib.hid hz
 have HF:=Lib.hid hfd
 have HA:=Lib.hid hact
 have HT:=Lib.hid htc
 clear hfd hact htc hz HC HO q7
 go_wp2_with fail
 refine (HO2.out).mono ?_
 rintro e w3 ⟨rfl,rfl⟩
 go_wp2
 go_ret
 exact ⟨by rw [HZ.out]; rfl,HF.out,⟨_,_,_,HA.out⟩,HT.out⟩
set_option maxRecDepth 20000 in
set_option maxHeartbeats 800000 in
theorem step_tak (ha:FactIn w L E fb ab F a fv lv wv) (hs:a.st=2) (hc:Calls Try.prog 57 #[.pointer (some ⟨ab,0,none⟩)] w (FDone lo b fb L ab E F m' a' w)) :
  Calls Try.prog 20 #[.pointer (some ⟨ab,0,none⟩)] w (FStep lo b fb L ab E F m' a' w):=by
 have q7:w.cell? ⟨ab,7,none⟩=some (.int .i64 2):=by have h9:=ha.at_ (i:=7) (by omega); rw [h9]; show some (Value.int .i64 (a.st:Nat))=_; rw [hs]; rfl
 have HO:=Lib.hid (fact_Over ha (z:=false) (by rw [hs]; rfl))
 have HC:=Lib.hid hc
 clear ha hs hc
 go_enter Try.func20,Try.ntmps20
 go_wp2_with fail
 refine (HO.out).mono ?_
 rintro e w1 ⟨rfl,rfl⟩
 go_wp2_with fail
 refine (HC.out).mono ?_
 rintro e w2 ⟨rfl,hfd,⟨fv2,lv2,wv2,hact⟩,htc⟩
 obtain ⟨z,hz⟩:∃ z,z=decide (a'.st=0):=⟨_,rfl⟩
 have HO2:=Lib.hid (fact_Over hact hz.symm)
 have HZ:=Lib.hid hz
 have HF:=Lib.hid hfd
 have HA:=Lib.hid hact
 have HT:=Lib.hid htc
 clear hfd hact htc hz HC HO q7
 go_wp2_with fail
 refine (HO2.out).mono ?_
 rintro e w3 ⟨rfl,rfl⟩
 go_wp2
 go_ret
 exact ⟨by rw [HZ.out]; rfl,HF.out,⟨_,_,_,HA.out⟩,HT.out⟩
set_option maxRecDepth 20000 in
set_option maxHeartbeats 800000 in
theorem step_loa (ha:FactIn w L E fb ab F a fv lv wv) (hs:a.st=3) (hc:Calls Try.prog 58 #[.pointer (some ⟨ab,0,none⟩)] w (FDone lo b fb L ab E F m' a' w)) :
  Calls Try.prog 20 #[.pointer (some ⟨ab,0,none⟩)] w (FStep lo b fb L ab E F m' a' w):=by
 have q7:w.cell? ⟨ab,7,none⟩=some (.int .i64 3):=by have h9:=ha.at_ (i:=7) (by omega); rw [h9]; show some (Value.int .i64 (a.st:Nat))=_; rw [hs]; rfl
 have HO:=Lib.hid (fact_Over ha (z:=false) (by rw [hs]; rfl))
 have HC:=Lib.hid hc
 clear ha hs hc
 go_enter Try.func20,Try.ntmps20
 go_wp2_with fail
 refine (HO.out).mono ?_
 rintro e w1 ⟨rfl,rfl⟩
 go_wp2_with fail
 refine (HC.out).mono ?_
 rintro e w2 ⟨rfl,hfd,⟨fv2,lv2,wv2,hact⟩,htc⟩
 obtain ⟨z,hz⟩:∃ z,z=decide (a'.st=0):=⟨_,rfl⟩
 have HO2:=Lib.hid (fact_Over hact hz.symm)
 have HZ:=Lib.hid hz
 have HF:=Lib.hid hfd
 have HA:=Lib.hid hact
 have HT:=Lib.hid htc
 clear hfd hact htc hz HC HO q7
 go_wp2_with fail
 refine (HO2.out).mono ?_
 rintro e w3 ⟨rfl,rfl⟩
 go_wp2
 go_ret
 exact ⟨by rw [HZ.out]; rfl,HF.out,⟨_,_,_,HA.out⟩,HT.out⟩
set_option maxRecDepth 20000 in
set_option maxHeartbeats 800000 in
theorem step_sto (ha:FactIn w L E fb ab F a fv lv wv) (hs:a.st=4) (hc:Calls Try.prog 59 #[.pointer (some ⟨ab,0,none⟩)] w (FDone lo b fb L ab E F m' a' w)) :
  Calls Try.prog 20 #[.pointer (some ⟨ab,0,none⟩)] w (FStep lo b fb L ab E F m' a' w):=by
 have q7:w.cell? ⟨ab,7,none⟩=some (.int .i64 4):=by have h9:=ha.at_ (i:=7) (by omega); rw [h9]; show some (Value.int .i64 (a.st:Nat))=_; rw [hs]; rfl
 have HO:=Lib.hid (fact_Over ha (z:=false) (by rw [hs]; rfl))
 have HC:=Lib.hid hc
 clear ha hs hc
 go_enter Try.func20,Try.ntmps20
 go_wp2_with fail
 refine (HO.out).mono ?_
 rintro e w1 ⟨rfl,rfl⟩
 go_wp2_with fail
 refine (HC.out).mono ?_
 rintro e w2 ⟨rfl,hfd,⟨fv2,lv2,wv2,hact⟩,htc⟩
 obtain ⟨z,hz⟩:∃ z,z=decide (a'.st=0):=⟨_,rfl⟩
 have HO2:=Lib.hid (fact_Over hact hz.symm)
 have HZ:=Lib.hid hz
 have HF:=Lib.hid hfd
 have HA:=Lib.hid hact
 have HT:=Lib.hid htc
 clear hfd hact htc hz HC HO q7
 go_wp2_with fail
 refine (HO2.out).mono ?_
 rintro e w3 ⟨rfl,rfl⟩
 go_wp2
 go_ret
 exact ⟨by rw [HZ.out]; rfl,HF.out,⟨_,_,_,HA.out⟩,HT.out⟩
set_option maxRecDepth 20000 in
set_option maxHeartbeats 800000 in
theorem step_fre (ha:FactIn w L E fb ab F a fv lv wv) (hs:a.st=5) (hc:Calls Try.prog 60 #[.pointer (some ⟨ab,0,none⟩)] w (FDone lo b fb L ab E F m' a' w)) :
  Calls Try.prog 20 #[.pointer (some ⟨ab,0,none⟩)] w (FStep lo b fb L ab E F m' a' w):=by
 have q7:w.cell? ⟨ab,7,none⟩=some (.int .i64 5):=by have h9:=ha.at_ (i:=7) (by omega); rw [h9]; show some (Value.int .i64 (a.st:Nat))=_; rw [hs]; rfl
 have HO:=Lib.hid (fact_Over ha (z:=false) (by rw [hs]; rfl))
 have HC:=Lib.hid hc
 clear ha hs hc
 go_enter Try.func20,Try.ntmps20
 go_wp2_with fail
 refine (HO.out).mono ?_
 rintro e w1 ⟨rfl,rfl⟩
 go_wp2_with fail
 refine (HC.out).mono ?_
 rintro e w2 ⟨rfl,hfd,⟨fv2,lv2,wv2,hact⟩,htc⟩
 obtain ⟨z,hz⟩:∃ z,z=decide (a'.st=0):=⟨_,rfl⟩
 have HO2:=Lib.hid (fact_Over hact hz.symm)
 have HZ:=Lib.hid hz
 have HF:=Lib.hid hfd
 have HA:=Lib.hid hact
 have HT:=Lib.hid htc
 clear hfd hact htc hz HC HO q7
 go_wp2_with fail
 refine (HO2.out).mono ?_
 rintro e w3 ⟨rfl,rfl⟩
 go_wp2
 go_ret
 exact ⟨by rw [HZ.out]; rfl,HF.out,⟨_,_,_,HA.out⟩,HT.out⟩
set_option maxRecDepth 20000 in
set_option maxHeartbeats 800000 in
theorem step_over (hf:FdbAt w lo b fb F m) (ha:FactIn w L E fb ab F a fv lv wv) (hLw:L≤w.heap.size) (hs:a.st=0) :
  Calls Try.prog 20 #[.pointer (some ⟨ab,0,none⟩)] w (FStep lo b fb L ab E F m a w):=by
 have HO:=Lib.hid (fact_Over ha (z:=true) (by rw [hs]; rfl))
 have HF:=Lib.hid hf
 have HA:=Lib.hid ha
 have HS:=Lib.hid hs
 have HL:=Lib.hid hLw
 clear ha hs hf hLw
 go_enter Try.func20,Try.ntmps20
 go_wp2_with fail
 refine (HO.out).mono ?_
 rintro e w1 ⟨rfl,rfl⟩
 go_wp2
 go_ret
 exact ⟨by rw [HS.out]; rfl,HF.out,HA.out.grows HL.out,Tch.refl _ _⟩
end
end
end Go.Proofs.Ythloabdfkakehaa
