/-
  Words and contracts that a statement's proof rests on (FdT). No statement is proved here.
-/
import Derived.Test.YthloabdfkakehaaFdW
import Derived.Test.YthloabdfkakehaaFdD
import Derived.Test.YthloabdfkakehaaFdR
set_option linter.unusedVariables false
set_option linter.unusedSimpArgs false
namespace Go.Proofs.Ythloabdfkakehaa
open Go.RowKit
section
variable {P:Program}
theorem step_fn {ops:Array Oper} {o:Oper} {a:Act} {w:World} {K:Act→World→Prop} {Q:Exit→Act→World→Prop} {E:Prop} (hgd:o.guard=none) (f:FuncId) (args:Array Value) (hrun:(execOp a.eval o).run P w=.ok (.enter f args) w)
  {R:Ending→World→Prop} (hc:Calls P f args w R) (h:∀ e w',R e w'→∃ v,e=.returned v∧K (a.put o.dst v) w'):if Region.wanted o (yielded ops a.tmps)=true then Oper.wp P o a w K Q else E:=by
 have hw:Region.wanted o (yielded ops a.tmps)=true:=by simp [Region.wanted,hgd]
 rw [if_pos hw]
 unfold Oper.wp
 rw [hrun,Oper.upon_enter]
 refine hc.mono fun e w' hh => ?_
 obtain ⟨v,rfl,hk⟩:=h e w' hh
 exact hk
end
section
variable {w:World} {lo b fb L ab:Nat} {E:Nat→Prop} {F:FcS} {m:MemS} {a:FaS} {fv lv wv:Value}
theorem wk_bd {f:Nat→Pl} (h:∀ i,goodP (f i)) {n:Nat} (hn:n≤1000) (k:Wk):-1≤(wkF n f k).2∧(wkF n f k).2≤1000:=by
 have hput:∀ (f:Nat→Pl) (e:En) (now:Nat),(putF f e now n).2≤5:=fun f e now => by
  unfold putF
  split
  ·exact Nat.le_refl _
  ·split
   ·split
    ·exact Nat.le_refl _
    ·exact (roomF_bd f now n).2.2.1
   ·split
    ·exact Nat.zero_le _
    ·have:=againE_le (f (findF f e.vid e.mac n).toNat).e e; show againE _ _≤5; omega
 cases k with
 | look v m =>
  show -1≤portF f v m n∧portF f v m n≤1000
  unfold portF
  split
  ·omega
  ·rcases h (findF f v m n).toNat with ⟨_,h2,_⟩ | h2
   ·have:=(rightE_iff.1 h2).2; omega
   ·rw [h2]; show (-1:Int)≤0∧(0:Int)≤1000; omega
 | learn v m p now => have:=hput (fun i => ownP (f i)) ⟨v,m,p,false,now⟩ now; show (-1:Int)≤((putF _ _ _ _).2:Nat)∧(((putF _ _ _ _).2:Nat):Int)≤1000; omega
 | order v m p now => have:=hput (fun i => ownP (f i)) ⟨v,m,p,true,0⟩ now; show (-1:Int)≤((putF _ _ _ _).2:Nat)∧(((putF _ _ _ _).2:Nat):Int)≤1000; omega
 | drop v m => show (-1:Int)≤(if _ then 1 else 0)∧(if _ then (1:Int) else 0)≤1000; split <;> omega
 | age now lim => have:=goneF_le (fun i => ownP (f i)) (oldE now lim) n; show (-1:Int)≤((goneF _ _ _:Nat):Int)∧((goneF _ _ _:Nat):Int)≤1000; omega
 | flush p v => have:=goneF_le (fun i => ownP (f i)) (hitE p v) n; show (-1:Int)≤((goneF _ _ _:Nat):Int)∧((goneF _ _ _:Nat):Int)≤1000; omega
theorem FactIn.grows {w':World} {a':FaS} (h:FactIn w' L E fb ab F a' fv lv wv) (hLw:L≤w.heap.size):FactAt w' L (growE E w w') fb ab F a' :=
 ⟨_,_,_,h.grow (E':=growE E w w') (fun _ h => .inl h) fun k hk => by
  rcases hk with h7 | h7
  ·exact h.low k h7
  ·exact ⟨Nat.le_trans hLw h7.1,h7.2⟩⟩
def FDone (lo b fb L ab:Nat) (E:Nat→Prop) (F:FcS) (m':MemS) (a':FaS) (w:World) (e:Ending) (w':World):Prop :=
 e=.returned (.tuple #[])∧FdbAt w' lo b fb F m'∧FactAt w' L (growE E w w') fb ab F a'∧Tch (FdD lo E) w w'
set_option maxRecDepth 20000 in
set_option maxHeartbeats 6400000 in
theorem fact_tryA (hf:FdbAt w lo b fb F m) (ha:FactIn w L E fb ab F a fv lv wv) (h1:lo + 3≤L) (h2:fb < L) (hLw:L≤w.heap.size) (ht:0≤m.t∧m.t≤4611686018427387900) (hlen:a.ld.length < a.hc * F.W) (hc:F.cell a.h0 + a.hc * F.W≤m.C) (hb9:a.hc * F.W≤100000) :
  Calls Try.prog 56 #[.pointer (some ⟨ab,0,none⟩)] w (FDone lo b fb L ab E F (tryF F m a).1 (tryF F m a).2 w):=by
 have e1:tryF F m a=(tickS m,rdA F m a):=if_pos hlen
 rw [e1]
 have HRD:=Lib.hid fun u (hu:Below w.heap.size w u) (hz:u.heap.size=w.heap.size) => fact_read (hf.below hu) (ha.below hu) h1 h2 (by rw [hz]; exact hLw) ht (by omega) (by omega)
 obtain ⟨A,cap,rfl,hc1,hc2⟩:=(Sl.of_own ha.ld).form
 obtain ⟨CW,hCW⟩:∃ CW,CW=a.hc * F.W:=⟨_,rfl⟩
 have r9:w.cell? ⟨ab,9,none⟩=some (.slice A a.ld.length cap):=ha.at_ (i:=9) (by omega)
 have r6:w.cell? ⟨ab,6,none⟩=some (.int .i64 (CW:Nat)):=by rw [hCW]; exact ha.at_ (i:=6) (by omega)
 have d1:decide (a.ld.length < CW)=true:=decide_eq_true (by rw [hCW]; exact hlen)
 unfold maxLen at hc2
 generalize a.ld.length=n at *
 generalize rdA F m a=a' at *
 generalize tickS m=m' at *
 clear hf ha e1 hlen hc hb9 ht hCW
 go_enter Try.func56,Try.ntmps56
 go_wp2_with fail
 go_quiet (fail)
 go_wp2_with fail
 refine (HRD.out _ (below_drewN (Below.refl _ _) _) rfl).mono ?_
 rintro e w1 ⟨rfl,q1,⟨lv',q2⟩,q3⟩
 have HX:=Lib.hid (And.intro q1 (And.intro q2 q3))
 clear q1 q2 q3
 go_wp2
 go_end0
 exact ⟨rfl,HX.out.1,⟨_,_,_,HX.out.2.1⟩,(Tch.of_below (below_drewN (Below.refl _ _) _)).trans HX.out.2.2⟩
theorem ld_first (ha:FactIn w L E fb ab F a fv lv wv) (h0:0 < a.ld.length):∃ g cap,lv=.slice (some ⟨g,0,none⟩) a.ld.length cap∧a.ld.length≤cap∧cap≤maxLen∧w.cell? ⟨g,0,none⟩=some (.int .u64 (a.ld.getD 0 0)):=by
 have hs:=Sl.of_own ha.ld
 obtain ⟨g,off,cap,rfl,c1,c2,c3,c4⟩:=hs.at_ h0
 have hoff:off=0:=by
  rcases ha.ld.2 with hn | ⟨b',cap',cur,hv,_⟩
  ·cases hn.1
  ·injection hv with hv
   injection hv with hv
   injection hv with _ h9
 subst hoff
 have h9:=c4 0 (by omega)
 rw [Nat.zero_add] at h9
 exact ⟨g,cap,rfl,c1,c2,h9.trans (kv_at _ h0)⟩
set_option maxRecDepth 20000 in
set_option maxHeartbeats 6400000 in
theorem fact_tryB (hf:FdbAt w lo b fb F m) (ha:FactIn w L E fb ab F a fv lv wv) (h1:lo + 3≤L) (h2:fb < L) (hLw:L≤w.heap.size) (ht:0≤m.t∧m.t≤4611686018427387900) (hcw:a.hc=1) (hlen:a.ld.length=F.W) (hc:F.cell a.h0 + F.W≤m.C) (hgood:m.c (F.cell a.h0)=a.ld.getD 0 0∧m.c (F.cell a.h0) % 2=0) (hrg:∀ x ∈ a.ld,0≤x∧x < 18446744073709551616) (hwk:a.wk.ok) :
  Calls Try.prog 56 #[.pointer (some ⟨ab,0,none⟩)] w (FDone lo b fb L ab E F (tryF F m a).1 (tryF F m a).2 w):=by
 have hnot:¬ a.ld.length < a.hc * F.W:=by rw [hcw,hlen]; omega
 have e1:tryF F m a=(tickS m,{ a with ans:=(wkF F.n (segF F a.ld 0) a.wk).2,mark:=m.t + 1,st:=0,ld:=[],wr:=[] }):=by unfold tryF; rw [if_neg hnot,if_pos hgood]
 rw [e1]
 have hWb:=hf.fits.W
 have hCb:=hf.fits.C
 obtain ⟨g,cap,rfl,hc1,hc2,hg0⟩:=ld_first ha (by omega)
 obtain ⟨fn,caps,rfl,hrun,_⟩:=wk_call ha.wk hwk (n:=F.n) (by have:=hf.fits.n; omega)
 have HRUN:=Lib.hid hrun
 have hn8:=hf.fits.n
 obtain ⟨K,hK⟩:∃ K,K=F.cell a.h0:=⟨_,rfl⟩
 obtain ⟨X,hX⟩:∃ X,X=a.ld.getD 0 0:=⟨_,rfl⟩
 rw [← hK,← hX] at hgood
 rw [← hX] at hg0
 have hKc:K < m.C:=by rw [hK]; omega
 have hX0:0≤X:=by rw [hX]; exact (getD_mem (P:=fun x => 0≤x∧x < 18446744073709551616) hrg (k:=0) (by omega)).1
 have HL:=Lib.hid fun W (h:FdbAt W lo b fb F m∧FactIn W L E fb ab F a (.func (.func fn) #[] caps) (.slice (some ⟨g,0,none⟩) a.ld.length cap) wv∧Tch (FdD lo E) w W) => by
  have:=mem_Load (K:Int) h.1.mem (by omega)
  rw [loadS_k hKc,peekS_k hKc,hgood.1] at this
  exact this
 have HAF:=Lib.hid fun W W' (h:FdbAt W lo b fb F m∧FactIn W L E fb ab F a (.func (.func fn) #[] caps) (.slice (some ⟨g,0,none⟩) a.ld.length cap) wv∧Tch (FdD lo E) w W) (hm:MemAt W' 82 lo b (tickS m)) (htt:Touch lo W W') => fd_step h h1 hm htt rfl rfl
 have HG0:=Lib.hid fun W (h:FactIn W L E fb ab F a (.func (.func fn) #[] caps) (.slice (some ⟨g,0,none⟩) a.ld.length cap) wv) => show W.cell? ⟨g,0,none⟩=some (.int .u64 X) from by
  obtain ⟨g',cap',e,_,_,h9⟩:=ld_first h (by omega)
  injection e with e
  injection e with e
  injection e with e
  subst e
  rw [← hX] at h9
  exact h9
 have hev:decide (X % 2=0)=true:=by rw [← hgood.1]; exact decide_eq_true hgood.2
 have HEV:=Lib.hid fun W => fdb_isEven X hX0 W
 rw [hev] at HEV
 have hmt:(tickS m).t=m.t + 1:=rfl
 obtain ⟨m',hm'⟩:∃ m',m'=tickS m:=⟨_,rfl⟩
 rw [← hm'] at HAF hmt ⊢
 rw [← hm'] at HL
 have hx0:=fd_more (m:=m) ⟨hf,ha,Tch.refl _ w⟩ (Below.refl _ _)
 have r0:w.cell? ⟨ab,0,none⟩=some (.pointer (some ⟨fb,0,none⟩)):=ha.at_ (i:=0) (by omega)
 have r5:w.cell? ⟨ab,5,none⟩=some (.int .i64 (K:Nat)):=by rw [hK]; exact ha.at_ (i:=5) (by omega)
 have r9:w.cell? ⟨ab,9,none⟩=some (.slice (some ⟨g,0,none⟩) a.ld.length cap):=ha.at_ (i:=9) (by omega)
 have r6:w.cell? ⟨ab,6,none⟩=some (.int .i64 (F.W:Nat)):=by have h9:=ha.at_ (i:=6) (by omega); rw [show factF fb F a (.func (.func fn) #[] caps) (.slice (some ⟨g,0,none⟩) a.ld.length cap) wv 6=.int .i64 ((a.hc * F.W:Nat):Int) from rfl,hcw,Nat.one_mul] at h9; exact h9
 have s0:=hf.at_.1
 have d1:decide (a.ld.length < F.W)=false:=decide_eq_false (by omega)
 have HLE:=Lib.hid hlen
 have HK:=Lib.hid hK
 obtain ⟨n,hn⟩:∃ n,n=a.ld.length:=⟨_,rfl⟩
 rw [← hn] at r9 d1
 have HN:=Lib.hid hn
 have g0:(0:Int) < (n:Int):=by omega
 have g0':0 < n:=by omega
 have k1:(1:Int)≤(n:Int):=by omega
 have k2:¬ cap=1:=by omega
 unfold maxLen at hc2
 have hxx:(X == X)=true:=by simp
 have HAB:Hid (lo + 3≤ab∧ab ≠ fb):=Lib.hid (by have:=(ha.low _ ha.own).1; omega)
 have HX:=Lib.hid hx0
 have HMT:=Lib.hid hmt
 have HLW:=Lib.hid hLw
 have HT9:Hid (0≤m'.t∧m'.t≤4611686018427387904):=Lib.hid (by omega)
 have HWC:=Lib.hid fun W (h:FactIn W L E fb ab F a (.func (.func fn) #[] caps) (.slice (some ⟨g,0,none⟩) a.ld.length cap) wv) u f (hr:PlRow W W.heap.size u F.n f) (hst:∀ i,i < F.n→(f i).e.stamp < 4294967296) => show Calls Try.prog fn (#[u] ++ caps) W (WkDid u F.n f a.wk W) from by
  obtain ⟨fn',caps',e,_,h9⟩:=wk_call h.wk hwk (n:=F.n) (by omega)
  injection e with e1 _ e2
  injection e1 with e1
  subst e1 e2
  exact h9 u f hr hst
 have HPL:=Lib.hid fun W (h:FactIn W L E fb ab F a (.func (.func fn) #[] caps) (.slice (some ⟨g,0,none⟩) a.ld.length cap) wv) => show Calls Try.prog 55 #[.slice (some ⟨g,1,none⟩) (n - 1) (cap - 1)] W (Gives 127 F.n (segF F a.ld 0) id W) from by
  have hs:=(Sl.of_own h.ld).dropAt (k:=1) (by omega)
  rw [show (kv .u64 a.ld).drop 1=kv .u64 (a.ld.drop 1) by simp [kv]] at hs
  have h9:=fdb_places (n:=F.n) hs (Nat.le_refl _) (by rw [hlen]; unfold FcS.W; omega) (by omega) (fun x hx => hrg x (List.mem_of_mem_drop hx))
  rw [show (decF fun x => (a.ld.drop 1).getD x 0)=segF F a.ld 0 by unfold segF; congr 1; funext x; rw [Nat.zero_mul,Nat.zero_add,List.getD_eq_getElem?_getD,List.getElem?_drop,List.getD_eq_getElem?_getD]] at h9
  rw [hn]
  exact h9
 have hgp:∀ i,goodP (segF F a.ld 0 i):=fun i => dec_good (by
  rcases Nat.lt_or_ge (0 * F.W + 1 + (2 * i + 1)) a.ld.length with h9 | h9
  ·exact (getD_mem (P:=fun x => 0≤x∧x < 18446744073709551616) hrg h9).2
  ·show a.ld.getD (0 * F.W + 1 + (2 * i + 1)) 0 < 18446744073709551616
   rw [List.getD_eq_getElem?_getD,List.getElem?_eq_none h9]; decide)
 have HGP:=Lib.hid hgp
 have HAN:=Lib.hid (wk_bd hgp (n:=F.n) (by omega) a.wk)
 have HSQ:=Lib.hid (And.intro hrg (And.intro hwk (And.intro hc1 (And.intro ht hWb))))
 clear hmt hrun hgp hn8 hf ha hx0 e1 hlen hc ht hK hX hKc hX0 hm' hn hrg hwk hgood hnot hCb hWb hcw hev hc1
 go_enter Try.func56,Try.ntmps56
 go_wp2_with fail
 go_quiet (fail)
 go_wp2_with fail
 go_region_held3 (fun w' => w'.cell? ⟨ab,0,none⟩=some (.pointer (some ⟨fb,0,none⟩))∧w'.cell? ⟨fb,0,none⟩=some (.pointer (some ⟨b,0,none⟩))∧w'.cell? ⟨ab,5,none⟩=some (.int .i64 (K:Nat))∧w'.cell? ⟨ab,9,none⟩=some (.slice (some ⟨g,0,none⟩) n cap)∧w'.cell? ⟨g,0,none⟩=some (.int .u64 X)) (first | exact ⟨HX1.out.2.1.at_ (i:=0) (by omega),HX1.out.1.at_.1,by rw [HK.out]; exact HX1.out.2.1.at_ (i:=5) (by omega),by rw [HN.out]; exact HX1.out.2.1.at_ (i:=9) (by omega),HG0.out _ HX1.out.2.1⟩ | go_keep) (first
  | (go_at_call 87; (with_reducible refine Calls.mono (HL.out _ (fd_more HX.out (Below.drew (below_drewN (Below.refl _ _) _)))) ?_); rintro e w1 ⟨rfl,hm,ht'⟩; have HX1:=Lib.hid (HAF.out _ _ (fd_more HX.out (Below.drew (below_drewN (Below.refl _ _) _))) hm ht'); clear hm ht'))
 clear HL HAF HX r0 r5 r9 r6 s0 hg0 d1
 go_wp2_with (first
  | go_big_skip
  | (go_at_call 88; (with_reducible refine Calls.mono (HEV.out _) ?_); rintro e w2 ⟨rfl,rfl⟩)
  | fail)
 have q2:w1.cell? ⟨ab,2,none⟩=some (.func (.func fn) #[] caps):=HX1.out.2.1.at_ (i:=2) (by omega)
 have q9:w1.cell? ⟨ab,9,none⟩=some (.slice (some ⟨g,0,none⟩) n cap):=by rw [HN.out]; exact HX1.out.2.1.at_ (i:=9) (by omega)
 refine wp_region_held_drew (S:=fun w' => w'.cell? ⟨ab,2,none⟩=some (.func (.func fn) #[] caps)∧w'.cell? ⟨ab,9,none⟩=some (.slice (some ⟨g,0,none⟩) n cap)) (by kernel_rfl) ?_ (fun hHeld => ?_)
 ·exact ⟨q2,q9⟩
 obtain ⟨v0,hv0⟩:∃ w',w'=w1.drew:=⟨_,rfl⟩
 have hvb:Below w1.heap.size w1 v0:=by rw [hv0]; exact (Below.refl _ _).drew
 rw [← hv0] at hHeld ⊢
 have HX1:=Lib.hid (fd_more HX1.out hvb)
 obtain ⟨ANS,hANS⟩:∃ z,z=(wkF F.n (segF F a.ld 0) a.wk).2:=⟨_,rfl⟩
 have HAN9:Hid (-1048576≤ANS∧ANS≤1048576):=Lib.hid (by have:=HAN.out; omega)
 have HAE:=Lib.hid hANS
 clear hv0 hvb q2 q9 hANS
 refine tkR 0 rfl ?_
 refine tkR 1 rfl ?_
 refine tkR 2 rfl ?_
 refine tkR 3 rfl ?_
 refine tkR 4 rfl ?_
 refine tkR 5 rfl ?_
 refine tkR 6 rfl ?_
 refine tkR 7 rfl ?_
 refine tkR 8 rfl ?_
 refine tkR 9 rfl ?_
 refine clR 10 rfl fun K hK => ?_
 go_simp
 refine Calls.mono (HPL.out _ HX1.out.2.1) ?_
 rintro e w2 ⟨u,he,hr2,hb2⟩
 simp only [id] at he
 subst he
 have HU:=Lib.hid (PlRow.mono hr2.row (Nat.le_refl _))
 have HX1:=Lib.hid (fd_more HX1.out hb2)
 obtain ⟨A2,cap2,rfl,_,_,_⟩:=hr2
 clear hb2
 refine hK.out _ _ ?_ (fun hHeld => ?_)
 ·(try dsimp only)
  exact ⟨HX1.out.2.1.at_ (i:=2) (by omega),by rw [HN.out]; exact HX1.out.2.1.at_ (i:=9) (by omega)⟩
 clear hK K
 (try simp only [Act.put,sqA,sqB,sqC])
 refine clR 11 rfl fun K hK => ?_
 refine step_fn (by rfl) fn (#[.slice A2 F.n cap2] ++ caps) (run_callv (x:=.tmp 46) (y:=.tmp 52) (by rfl) (by rfl) (by rfl) (HRUN.out _ _)) (HWC.out _ HX1.out.2.1 _ _ HU.out (fun i _ => good_stamp (HGP.out i))) ?_
 rintro e w3 ⟨u3,rfl,hr3,hb3,_⟩
 obtain ⟨A3,cap3,rfl,_,_,_⟩:=hr3
 refine ⟨_,rfl,?_⟩
 rw [← HAE.out]
 have HX1:=Lib.hid (fd_more HX1.out hb3)
 have q14:w3.cell? ⟨ab,14,none⟩=some (.int .i64 a.ans):=HX1.out.2.1.at_ (i:=14) (by omega)
 have f14:=HX1.out.2.1.fz 14
 clear hb3
 refine hK.out _ _ ?_ (fun hHeld => ?_)
 ·(try dsimp only)
  exact ⟨HX1.out.2.1.at_ (i:=2) (by omega),by rw [HN.out]; exact HX1.out.2.1.at_ (i:=9) (by omega)⟩
 clear hK K
 refine tkR 12 rfl ?_
 refine tkR 13 rfl ?_
 refine tkR 14 rfl ?_
 refine tkR 15 rfl ?_
 refine tkR 16 rfl ?_
 refine clR 17 rfl fun K hK => ?_
 go_simp
 refine hK.out _ _ ?_ (fun hHeld => ?_)
 ·(try dsimp only)
  exact ⟨(HX1.out.2.1.set_ans ANS HAN9.out).at_ (i:=2) (by omega),by rw [HN.out]; exact (HX1.out.2.1.set_ans ANS HAN9.out).at_ (i:=9) (by omega)⟩
 clear hK K
 (try simp only [Act.put,sqA,sqB,sqC])
 refine wpAnyH_done (by kernel_rfl) ?_ _
 have HX4:=Lib.hid (And.intro (HX1.out.1.fset HAB.out.1 HAB.out.2 14 (.int .i64 ANS)) (And.intro (HX1.out.2.1.set_ans ANS HAN9.out) (HX1.out.2.2.fset HX1.out.2.1.own 14 (.int .i64 ANS))))
 have HTE:=Lib.hid (fact_takeEffect HX4.out.1 HX4.out.2.1 HT9.out h1 h2)
 have HX5:=Lib.hid (And.intro (HX4.out.1.fset HAB.out.1 HAB.out.2 13 (.int .i64 m'.t)) (And.intro (HX4.out.2.1.set_mark m'.t HT9.out) (HX4.out.2.2.fset HX4.out.2.1.own 13 (.int .i64 m'.t))))
 have HED:=Lib.hid (fact_end HX5.out.2.1)
 clear HX1 q14 f14 hHeld HU
 go_wp2_with fail
 refine (HTE.out).mono ?_
 rintro e w5 ⟨rfl,rfl⟩
 go_wp2_with fail
 refine (HED.out).mono ?_
 rintro e w6 ⟨rfl,rfl⟩
 go_wp2
 go_end0
 refine ⟨rfl,((HX5.out.1.fset HAB.out.1 HAB.out.2 7 _).fset HAB.out.1 HAB.out.2 9 _).fset HAB.out.1 HAB.out.2 10 _,?_,((HX5.out.2.2.fset HX5.out.2.1.own 7 _).fset HX5.out.2.1.own 9 _).fset HX5.out.2.1.own 10 _⟩
 rw [← HAE.out,← HMT.out]
 exact HX5.out.2.1.over.grows HLW.out
set_option maxRecDepth 20000 in
set_option maxHeartbeats 6400000 in
theorem fact_tryC (hf:FdbAt w lo b fb F m) (ha:FactIn w L E fb ab F a fv lv wv) (h1:lo + 3≤L) (h2:fb < L) (hLw:L≤w.heap.size) (ht:0≤m.t∧m.t≤4611686018427387900) (hcw:a.hc=1) (hlen:a.ld.length=F.W) (hc:F.cell a.h0 + F.W≤m.C) (hbad:¬ (m.c (F.cell a.h0)=a.ld.getD 0 0∧m.c (F.cell a.h0) % 2=0)) (hY0:0≤m.c (F.cell a.h0)) (hst:a.st=1) (hv8:a.vain≤100) :
  Calls Try.prog 56 #[.pointer (some ⟨ab,0,none⟩)] w (FDone lo b fb L ab E F (tryF F m a).1 (tryF F m a).2 w):=by
 have hnot:¬ a.ld.length < a.hc * F.W:=by rw [hcw,hlen]; omega
 have hWb:=hf.fits.W
 have hCb:=hf.fits.C
 obtain ⟨V,hV⟩:∃ V,V=a.vain + 1:=⟨_,rfl⟩
 obtain ⟨q,hq⟩:∃ q,q=decide (V=F.tr):=⟨_,rfl⟩
 have e1:tryF F m a=(tickS m,{ a with vain:=V,ld:=[],st:=if q then 2 else a.st }):=by unfold tryF; rw [if_neg hnot,if_neg hbad,← hV,hq,hst]; simp
 rw [e1]
 obtain ⟨a',ha'⟩:∃ a':FaS,a'={ a with vain:=V,ld:=[],st:=if q then 2 else a.st }:=⟨_,rfl⟩
 rw [← ha']
 have HA9:=Lib.hid ha'
 obtain ⟨g,cap,rfl,hc1,hc2,hg0⟩:=ld_first ha (by omega)
 obtain ⟨K,hK⟩:∃ K,K=F.cell a.h0:=⟨_,rfl⟩
 obtain ⟨X,hX⟩:∃ X,X=a.ld.getD 0 0:=⟨_,rfl⟩
 obtain ⟨Y,hY⟩:∃ Y,Y=m.c K:=⟨_,rfl⟩
 rw [← hK,← hX,← hY] at hbad
 rw [← hX] at hg0
 rw [← hK,← hY] at hY0
 have hKc:K < m.C:=by rw [hK]; omega
 have HL:=Lib.hid fun W (h:FdbAt W lo b fb F m∧FactIn W L E fb ab F a fv (.slice (some ⟨g,0,none⟩) a.ld.length cap) wv∧Tch (FdD lo E) w W) => by
  have:=mem_Load (K:Int) h.1.mem (by omega)
  rw [loadS_k hKc,peekS_k hKc,← hY] at this
  exact this
 have HAF:=Lib.hid fun W W' (h:FdbAt W lo b fb F m∧FactIn W L E fb ab F a fv (.slice (some ⟨g,0,none⟩) a.ld.length cap) wv∧Tch (FdD lo E) w W) (hm:MemAt W' 82 lo b (tickS m)) (htt:Touch lo W W') => fd_step h h1 hm htt rfl rfl
 have HG0:=Lib.hid fun W (h:FactIn W L E fb ab F a fv (.slice (some ⟨g,0,none⟩) a.ld.length cap) wv) => show W.cell? ⟨g,0,none⟩=some (.int .u64 X) from by
  obtain ⟨g',cap',e,_,_,h9⟩:=ld_first h (by omega)
  injection e with e
  injection e with e
  injection e with e
  subst e
  rw [← hX] at h9
  exact h9
 have HEV:=Lib.hid fun W => fdb_isEven Y hY0 W
 obtain ⟨m',hm'⟩:∃ m',m'=tickS m:=⟨_,rfl⟩
 rw [← hm'] at HAF ⊢
 rw [← hm'] at HL
 have hx0:=fd_more (m:=m) ⟨hf,ha,Tch.refl _ w⟩ (Below.refl _ _)
 have r0:w.cell? ⟨ab,0,none⟩=some (.pointer (some ⟨fb,0,none⟩)):=ha.at_ (i:=0) (by omega)
 have r5:w.cell? ⟨ab,5,none⟩=some (.int .i64 (K:Nat)):=by rw [hK]; exact ha.at_ (i:=5) (by omega)
 have r9:w.cell? ⟨ab,9,none⟩=some (.slice (some ⟨g,0,none⟩) a.ld.length cap):=ha.at_ (i:=9) (by omega)
 have r6:w.cell? ⟨ab,6,none⟩=some (.int .i64 (F.W:Nat)):=by have h9:=ha.at_ (i:=6) (by omega); rw [show factF fb F a fv (.slice (some ⟨g,0,none⟩) a.ld.length cap) wv 6=.int .i64 ((a.hc * F.W:Nat):Int) from rfl,hcw,Nat.one_mul] at h9; exact h9
 have s0:=hf.at_.1
 have d1:decide (a.ld.length < F.W)=false:=decide_eq_false (by omega)
 have HK:=Lib.hid hK
 obtain ⟨n,hn⟩:∃ n,n=a.ld.length:=⟨_,rfl⟩
 rw [← hn] at r9 d1
 have HN:=Lib.hid hn
 have g0:(0:Int) < (n:Int):=by omega
 have g0':0 < n:=by omega
 have hab:L≤ab:=(ha.low _ ha.own).1
 have hab1:lo + 3≤ab:=by omega
 have hab2:ab ≠ fb:=by omega
 have hab3:fb ≠ ab:=by omega
 unfold maxLen at hc2
 have HX:=Lib.hid hx0
 have HMT:=Lib.hid hLw
 have dq:((V:Int) == (F.tr:Int))=q:=by rw [hq]; exact beqN_dec _ _
 have hv9:a.vain < 1000000:=by omega
 obtain ⟨hz,hz2⟩:=wrap_succ hv9
 rw [← hV] at hz hz2
 clear ha' hf ha hx0 e1 hlen hc ht hK hX hKc hY0 hm' hn hnot hCb hWb hcw hc1 hq hV hv8 hst hv9 hY
 by_cases hxx:Y=X
 ·have hodd:decide (Y % 2=0)=false:=decide_eq_false fun h9 => hbad ⟨hxx,h9⟩
  have e2:(Y == X)=true:=by rw [hxx]; simp
  rw [hodd] at HEV
  clear hbad hxx hodd
  go_enter Try.func56,Try.ntmps56
  go_wp2_with fail
  go_quiet (fail)
  go_wp2_with fail
  go_region_held3 (fun w' => w'.cell? ⟨ab,0,none⟩=some (.pointer (some ⟨fb,0,none⟩))∧w'.cell? ⟨fb,0,none⟩=some (.pointer (some ⟨b,0,none⟩))∧w'.cell? ⟨ab,5,none⟩=some (.int .i64 (K:Nat))∧w'.cell? ⟨ab,9,none⟩=some (.slice (some ⟨g,0,none⟩) n cap)∧w'.cell? ⟨g,0,none⟩=some (.int .u64 X)) (first | exact ⟨HX1.out.2.1.at_ (i:=0) (by omega),HX1.out.1.at_.1,by rw [HK.out]; exact HX1.out.2.1.at_ (i:=5) (by clear hz hz2; omega),by rw [HN.out]; exact HX1.out.2.1.at_ (i:=9) (by clear hz hz2; omega),HG0.out _ HX1.out.2.1⟩ | go_keep) (first
   | (go_at_call 87; (with_reducible refine Calls.mono (HL.out _ (fd_more HX.out (Below.drew (below_drewN (Below.refl _ _) _)))) ?_); rintro e w1 ⟨rfl,hm,ht'⟩; have HX1:=Lib.hid (HAF.out _ _ (fd_more HX.out (Below.drew (below_drewN (Below.refl _ _) _))) hm ht'); clear hm ht'))
  have q15:w1.cell? ⟨ab,15,none⟩=some (.int .i64 (a.vain:Nat)):=HX1.out.2.1.at_ (i:=15) (by clear hz hz2; omega)
  have q9:w1.cell? ⟨ab,9,none⟩=some (.slice (some ⟨g,0,none⟩) n cap):=by rw [HN.out]; exact HX1.out.2.1.at_ (i:=9) (by clear hz hz2; omega)
  have q7:w1.cell? ⟨ab,7,none⟩=some (.int .i64 (a.st:Nat)):=HX1.out.2.1.at_ (i:=7) (by clear hz hz2; omega)
  have q0:w1.cell? ⟨ab,0,none⟩=some (.pointer (some ⟨fb,0,none⟩)):=HX1.out.2.1.at_ (i:=0) (by clear hz hz2; omega)
  have t6:=HX1.out.1.at_.2.2.2.2.2.2
  have f15:=HX1.out.2.1.fz 15
  have f9:=HX1.out.2.1.fz 9
  have f7:=HX1.out.2.1.fz 7
  clear HL HAF HX r0 r5 r9 r6 s0 hg0 d1
  have HA2:=Lib.hid ((HX1.out.2.1.set_vain V).set_ld (l:=[]) ⟨rfl,.inl ⟨rfl,rfl⟩⟩ (fun k hk => by cases hk))
  go_wp2_with (first
   | go_big_skip
   | (go_at_call 88; (with_reducible refine Calls.mono (HEV.out _) ?_); rintro e w2 ⟨rfl,rfl⟩)
   | fail)
  go_quiet (fail)
  cases q
  ·go_wp2
   go_end0
   exact ⟨rfl,(((HX1.out.1.fset hab1 hab2 15 _).fset hab1 hab2 9 _).below (below_drewN (Below.refl _ _) _)),(by rw [HA9.out]; exact (HA2.out.below (below_drewN (Below.refl _ _) _)).grows HMT.out),((HX1.out.2.2.fset HX1.out.2.1.own 15 _).fset HX1.out.2.1.own 9 _).drewN _⟩
  ·go_wp2
   go_end0
   exact ⟨rfl,(((HX1.out.1.fset hab1 hab2 15 _).fset hab1 hab2 9 _).below (below_drewN (Below.refl _ _) _)).fset hab1 hab2 7 _,(by rw [HA9.out]; exact ((HA2.out.below (below_drewN (Below.refl _ _) _)).set_st 2).grows HMT.out),(((HX1.out.2.2.fset HX1.out.2.1.own 15 _).fset HX1.out.2.1.own 9 _).drewN _).fset HX1.out.2.1.own 7 _⟩
 ·have e2:(Y == X)=false:=by simp [hxx]
  clear hbad hxx
  go_enter Try.func56,Try.ntmps56
  go_wp2_with fail
  go_quiet (fail)
  go_wp2_with fail
  go_region_held3 (fun w' => w'.cell? ⟨ab,0,none⟩=some (.pointer (some ⟨fb,0,none⟩))∧w'.cell? ⟨fb,0,none⟩=some (.pointer (some ⟨b,0,none⟩))∧w'.cell? ⟨ab,5,none⟩=some (.int .i64 (K:Nat))∧w'.cell? ⟨ab,9,none⟩=some (.slice (some ⟨g,0,none⟩) n cap)∧w'.cell? ⟨g,0,none⟩=some (.int .u64 X)) (first | exact ⟨HX1.out.2.1.at_ (i:=0) (by omega),HX1.out.1.at_.1,by rw [HK.out]; exact HX1.out.2.1.at_ (i:=5) (by clear hz hz2; omega),by rw [HN.out]; exact HX1.out.2.1.at_ (i:=9) (by clear hz hz2; omega),HG0.out _ HX1.out.2.1⟩ | go_keep) (first
   | (go_at_call 87; (with_reducible refine Calls.mono (HL.out _ (fd_more HX.out (Below.drew (below_drewN (Below.refl _ _) _)))) ?_); rintro e w1 ⟨rfl,hm,ht'⟩; have HX1:=Lib.hid (HAF.out _ _ (fd_more HX.out (Below.drew (below_drewN (Below.refl _ _) _))) hm ht'); clear hm ht'))
  have q15:w1.cell? ⟨ab,15,none⟩=some (.int .i64 (a.vain:Nat)):=HX1.out.2.1.at_ (i:=15) (by clear hz hz2; omega)
  have q9:w1.cell? ⟨ab,9,none⟩=some (.slice (some ⟨g,0,none⟩) n cap):=by rw [HN.out]; exact HX1.out.2.1.at_ (i:=9) (by clear hz hz2; omega)
  have q7:w1.cell? ⟨ab,7,none⟩=some (.int .i64 (a.st:Nat)):=HX1.out.2.1.at_ (i:=7) (by clear hz hz2; omega)
  have q0:w1.cell? ⟨ab,0,none⟩=some (.pointer (some ⟨fb,0,none⟩)):=HX1.out.2.1.at_ (i:=0) (by clear hz hz2; omega)
  have t6:=HX1.out.1.at_.2.2.2.2.2.2
  have f15:=HX1.out.2.1.fz 15
  have f9:=HX1.out.2.1.fz 9
  have f7:=HX1.out.2.1.fz 7
  clear HL HAF HX r0 r5 r9 r6 s0 hg0 d1
  have HA2:=Lib.hid ((HX1.out.2.1.set_vain V).set_ld (l:=[]) ⟨rfl,.inl ⟨rfl,rfl⟩⟩ (fun k hk => by cases hk))
  go_wp2_with (first
   | go_big_skip
   | (go_at_call 88; (with_reducible refine Calls.mono (HEV.out _) ?_); rintro e w2 ⟨rfl,rfl⟩)
   | fail)
  go_quiet (fail)
  cases q
  ·go_wp2
   go_end0
   exact ⟨rfl,(((HX1.out.1.fset hab1 hab2 15 _).fset hab1 hab2 9 _).below (below_drewN (Below.refl _ _) _)),(by rw [HA9.out]; exact (HA2.out.below (below_drewN (Below.refl _ _) _)).grows HMT.out),((HX1.out.2.2.fset HX1.out.2.1.own 15 _).fset HX1.out.2.1.own 9 _).drewN _⟩
  ·go_wp2
   go_end0
   exact ⟨rfl,(((HX1.out.1.fset hab1 hab2 15 _).fset hab1 hab2 9 _).below (below_drewN (Below.refl _ _) _)).fset hab1 hab2 7 _,(by rw [HA9.out]; exact ((HA2.out.below (below_drewN (Below.refl _ _) _)).set_st 2).grows HMT.out),(((HX1.out.2.2.fset HX1.out.2.1.own 15 _).fset HX1.out.2.1.own 9 _).drewN _).fset HX1.out.2.1.own 7 _⟩
end
end Go.Proofs.Ythloabdfkakehaa
