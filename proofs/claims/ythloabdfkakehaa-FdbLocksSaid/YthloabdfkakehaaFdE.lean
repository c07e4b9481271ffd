/-
  Words and contracts that a statement's proof rests on (FdE). No statement is proved here.
-/
import Derived.Test.YthloabdfkakehaaFdD
set_option linter.unusedVariables false
set_option linter.unusedSimpArgs false
namespace Go.Proofs.Ythloabdfkakehaa
open Go.RowKit
theorem beqN_dec (a b:Nat):((a:Int) == (b:Int))=decide (a=b):=by
 rw [Bool.eq_iff_iff]
 simp
 omega
section
variable {w:World} {lo b fb L ab:Nat} {E:Nat→Prop} {F:FcS} {m:MemS} {a:FaS} {fv lv wv:Value}
theorem wr_cells {l:List (Nat × Int)} {n:Nat} (h:w.ownsRow L 132 2 wv n (wrc l)) (hl:l.length=n) {k:Nat} (hk:k < n):∃ g cap,wv=.slice (some ⟨g,0,none⟩) n cap∧n≤cap∧cap≤maxLen∧g < w.heap.size ∧
  w.cell? ⟨g,k * 2,none⟩=some (.int .i64 ((l.getD k (0,0)).1:Nat))∧w.cell? ⟨g,k * 2 + 1,none⟩=some (.int .u64 (l.getD k (0,0)).2):=by
 have hs:=Sl.of_own h
 obtain ⟨g,off,cap,rfl,h1,h2,h3,h4⟩:=hs.at_ (by omega)
 have hoff:off=0:=by
  rcases h.2 with hn | ⟨b',cap',cur,hv,_⟩
  ·obtain ⟨hn,_⟩:=hn
   cases hn
  ·injection hv with hv
   injection hv with hv
   injection hv with _ h9
 subst hoff
 have hkl:k < l.length:=by omega
 obtain ⟨e1,e2⟩:=wrc_at l k
 have g1:=h4 (k * 2) (by omega)
 have g2:=h4 (k * 2 + 1) (by omega)
 rw [Nat.zero_add] at g1 g2
 rw [e1,List.getElem?_eq_getElem hkl] at g1
 rw [e2,List.getElem?_eq_getElem hkl] at g2
 rw [List.getD_eq_getElem?_getD,List.getElem?_eq_getElem hkl]
 exact ⟨g,cap,rfl,h1,h2,h3,g1,g2⟩
set_option maxRecDepth 20000 in
set_option maxHeartbeats 3200000 in
theorem fact_store (hf:FdbAt w lo b fb F m) (ha:FactIn w L E fb ab F a fv lv wv) (h1:lo + 3≤L) (h2:fb < L) (ht:0≤m.t∧m.t≤4611686018427387900) (hwt:a.wt < a.wr.length) (hx:(a.wr.getD a.wt (0,0)).1 < m.C) (hln:a.wr.length≤100000) (hod:a.od≤100000) (hst:a.st=4) :
  Calls Try.prog 59 #[.pointer (some ⟨ab,0,none⟩)] w (FKeep lo b fb L ab E F fv lv wv (stoF m a).1 (stoF m a).2 w):=by
 have hab:L≤ab:=(ha.low _ ha.own).1
 have hab1:lo + 3≤ab:=by omega
 have hab2:ab ≠ fb:=by omega
 obtain ⟨g,cap,rfl,c1,c2,hg,k1,k2⟩:=wr_cells ha.wr rfl hwt
 obtain ⟨X,hX⟩:∃ X,X=(a.wr.getD a.wt (0,0)).1:=⟨_,rfl⟩
 obtain ⟨Y,hY⟩:∃ Y,Y=(a.wr.getD a.wt (0,0)).2:=⟨_,rfl⟩
 rw [← hX] at k1 hx
 rw [← hY] at k2
 obtain ⟨n,hn⟩:∃ n,n=a.wr.length:=⟨_,rfl⟩
 have r0:w.cell? ⟨ab,0,none⟩=some (.pointer (some ⟨fb,0,none⟩)):=ha.at_ (i:=0) (by omega)
 have r10:w.cell? ⟨ab,10,none⟩=some (.slice (some ⟨g,0,none⟩) n cap):=by rw [hn]; exact ha.at_ (i:=10) (by omega)
 have r12:w.cell? ⟨ab,12,none⟩=some (.int .i64 (a.wt:Nat)):=ha.at_ (i:=12) (by omega)
 have s0:=hf.at_.1
 have HFL:=Lib.hid hf.lt
 unfold maxLen at c2
 have g0:(0:Int)≤(a.wt:Int):=Int.natCast_nonneg _
 have g1:(a.wt:Int) < (n:Int):=by omega
 have hwn:a.wt < 1000000:=by omega
 rw [← hn] at c1
 obtain ⟨m',hm'⟩:∃ m',m'=putC (tickS m) X Y:=⟨_,rfl⟩
 obtain ⟨a',ha'⟩:∃ a',a'=(stoF m a).2:=⟨_,rfl⟩
 have hm1:(stoF m a).1=m':=by rw [hm',hX,hY]; rfl
 have hmt:m'.t=m.t + 1:=by rw [hm']; rfl
 have hmC:m'.C=m.C∧m'.L=m.L:=by rw [hm']; exact ⟨rfl,rfl⟩
 have HL:=Lib.hid fun u (hu:Below w.heap.size w u) => by
  have:=mem_Store (X:Int) Y (hf.below hu).mem (by omega)
  rw [storeS_k hx,← hm'] at this
  exact this
 have HAF:=Lib.hid fun u (hu:Below w.heap.size w u) w' (hm:MemAt w' 82 lo b m') (htt:Touch lo u w') => fd_after hf ha h1 hu hm htt hmC.1 hmC.2
 have HT1:Hid (0≤m'.t∧m'.t≤4611686018427387904):=Lib.hid (by omega)
 rw [hm1,← ha']
 have hW:=wrap_succ hwn
 obtain ⟨H,hH⟩:∃ H,H=a.wt + 1:=⟨_,rfl⟩
 rw [← hH] at hW
 have ea':a'={ a with wt:=H,mark:=if H=a.od then m'.t else a.mark,st:=if H=n then 5 else 4 }:=by rw [ha',hmt,hH,hn]; rfl
 have HE:=Lib.hid ea'
 have hcond:∀ (p q:Bool),(decide (H=a.od)=p)→(decide (H=n)=q)→a'={ a with wt:=H,mark:=if p then m'.t else a.mark,st:=if q then 5 else a.st }:=fun p q hp hq => by rw [ea',← hp,← hq,hst]; simp
 obtain ⟨hz,hz2⟩:=hW
 have HN:=Lib.hid hn
 obtain ⟨p,hp⟩:∃ p,p=decide (H=a.od):=⟨_,rfl⟩
 obtain ⟨q,hq⟩:∃ q,q=decide (H=n):=⟨_,rfl⟩
 have HC:=Lib.hid (hcond p q hp.symm hq.symm)
 have d1:((H:Int) == (a.od:Int))=p:=by rw [hp]; exact beqN_dec _ _
 have d2:((H:Int) == (n:Int))=q:=by rw [hq]; exact beqN_dec _ _
 clear ea' hcond hp hq hn hX hY hm' ha' hm1 hmt hmC ht hx hln hod hf hH HE hst hwt hwn
 have hablt:ab < w.heap.size:=ha.lt
 have HWL:Hid (lo + 3≤w.heap.size):=Lib.hid (by clear hz hz2; omega)
 have t10:∀ o,(w.alloc o).cell? ⟨ab,10,none⟩=some (.slice (some ⟨g,0,none⟩) n cap):=fun o => (World.cell?_alloc_lt _ _ _ hablt).trans r10
 have t12:∀ o,(w.alloc o).cell? ⟨ab,12,none⟩=some (.int .i64 (a.wt:Nat)):=fun o => (World.cell?_alloc_lt _ _ _ hablt).trans r12
 have u1:∀ o,(w.alloc o).cell? ⟨g,a.wt * 2,none⟩=some (.int .i64 (X:Nat)):=fun o => (World.cell?_alloc_lt _ _ _ hg).trans k1
 have u2:∀ o,(w.alloc o).cell? ⟨g,a.wt * 2 + 1,none⟩=some (.int .u64 Y):=fun o => (World.cell?_alloc_lt _ _ _ hg).trans k2
 have HA:=Lib.hid ha
 clear ha
 go_enter Try.func59,Try.ntmps59
 go_wp2_with fail
 go_region
 obtain ⟨w0,hw0⟩:∃ w0,w0=(w.alloc (.cells #[.int .i64 (X:Nat),.int .u64 Y] 132)).drew:=⟨_,rfl⟩
 have HB0:Hid (Below w.heap.size w w0):=by rw [hw0]; exact ((Below.refl _ _).alloc (Nat.le_refl _) _).drew
 have x0:w0.cell? ⟨w.heap.size,0,none⟩=some (.int .i64 (X:Nat)):=by rw [hw0]; simp [go_sem]
 have x1:w0.cell? ⟨w.heap.size,1,none⟩=some (.int .u64 Y):=by rw [hw0]; simp [go_sem]
 have hxz:w.heap.size < w0.heap.size:=by rw [hw0]; show _ < (w.alloc _).heap.size; simp
 have y0:w0.cell? ⟨ab,0,none⟩=some (.pointer (some ⟨fb,0,none⟩)):=(HA.out.below HB0.out).at_ (i:=0) (by omega)
 have z0:w0.cell? ⟨fb,0,none⟩=some (.pointer (some ⟨b,0,none⟩)):=(HB0.out.cell (p:=⟨fb,0,none⟩) HFL.out).trans s0
 rw [← hw0]
 clear hw0 r0 r10 r12 s0 k1 k2 t10 t12 u1 u2 g0 g1 c1 c2 hg
 go_wp2_with fail
 go_region_held3 (fun w' => w'.cell? ⟨ab,0,none⟩=some (.pointer (some ⟨fb,0,none⟩))∧w'.cell? ⟨fb,0,none⟩=some (.pointer (some ⟨b,0,none⟩))∧w'.cell? ⟨w.heap.size,0,none⟩=some (.int .i64 (X:Nat))∧w'.cell? ⟨w.heap.size,1,none⟩=some (.int .u64 Y)) (first | exact ⟨HX.out.2.1.at_ (i:=0) (by clear hz hz2; omega),HX.out.1.at_.1,HY.out.1,HY.out.2⟩ | go_keep) (first
  | (go_at_call 93; (with_reducible refine Calls.mono (HL.out _ HB0.out.drew) ?_); rintro e w1 ⟨rfl,hm,ht'⟩; have HX:=Lib.hid (HAF.out _ HB0.out.drew _ hm ht'); have HY:Hid (w1.cell? ⟨w.heap.size,0,none⟩=some (.int .i64 (X:Nat))∧w1.cell? ⟨w.heap.size,1,none⟩=some (.int .u64 Y)):=Lib.hid ⟨(World.cell?_of_block (w:=w0) (ht'.block w.heap.size hxz (.inr HWL.out))).trans x0,(World.cell?_of_block (w:=w0) (ht'.block w.heap.size hxz (.inr HWL.out))).trans x1⟩; clear hm ht'))
 clear HL HAF y0 z0 x0 x1 hxz
 have q7:w1.cell? ⟨ab,7,none⟩=some (.int .i64 (a.st:Nat)):=HX.out.2.1.at_ (i:=7) (by clear hz hz2; omega)
 have q10:w1.cell? ⟨ab,10,none⟩=some (.slice (some ⟨g,0,none⟩) n cap):=by rw [HN.out]; exact HX.out.2.1.at_ (i:=10) (by clear hz hz2; omega)
 have q11:w1.cell? ⟨ab,11,none⟩=some (.int .i64 (a.od:Nat)):=HX.out.2.1.at_ (i:=11) (by clear hz hz2; omega)
 have q12:w1.cell? ⟨ab,12,none⟩=some (.int .i64 (a.wt:Nat)):=HX.out.2.1.at_ (i:=12) (by clear hz hz2; omega)
 have q13:w1.cell? ⟨ab,13,none⟩=some (.int .i64 a.mark):=HX.out.2.1.at_ (i:=13) (by clear hz hz2; omega)
 have f7:=HX.out.2.1.fz 7
 have f12:=HX.out.2.1.fz 12
 have f13:=HX.out.2.1.fz 13
 have HTE:=Lib.hid fun u (hu:Below (w1.setCell ⟨ab,12,none⟩ (.int .i64 (H:Nat))).heap.size (w1.setCell ⟨ab,12,none⟩ (.int .i64 (H:Nat))) u) => fact_takeEffect ((HX.out.1.fset hab1 hab2 12 (.int .i64 (H:Nat))).below hu) ((HX.out.2.1.set_wt H).below hu) HT1.out h1 h2
 have HB1:=Lib.hid HX.out.2.2
 cases p <;> cases q
 ·go_wp2_with fail
  go_quiet (fail)
  go_wp2_with fail
  go_quiet (fail)
  go_wp2
  go_end0
  refine ⟨rfl,((HX.out.1.fset hab1 hab2 12 _).below (below_drewN (Below.refl _ _) _)).below (below_drewN (Below.refl _ _) _),?_,((HB1.out.fset HX.out.2.1.own 12 _).drewN _).drewN _⟩
  rw [HC.out]
  exact ((HX.out.2.1.set_wt H).below (below_drewN (Below.refl _ _) _)).below (below_drewN (Below.refl _ _) _)
 ·go_wp2_with fail
  go_quiet (fail)
  go_wp2_with fail
  go_quiet (fail)
  go_wp2
  go_end0
  refine ⟨rfl,((HX.out.1.fset hab1 hab2 12 _).below (below_drewN (Below.refl _ _) _)).fset hab1 hab2 7 _,?_,((HB1.out.fset HX.out.2.1.own 12 _).drewN _).fset HX.out.2.1.own 7 _⟩
  rw [HC.out]
  exact ((HX.out.2.1.set_wt H).below (below_drewN (Below.refl _ _) _)).set_st 5
 ·go_wp2_with fail
  go_quiet (fail)
  go_wp2_with fail
  refine (HTE.out _ (below_drewN (Below.refl _ _) _)).mono ?_
  rintro e w2 ⟨rfl,rfl⟩
  go_wp2_with fail
  go_quiet (fail)
  go_wp2
  go_end0
  refine ⟨rfl,(((HX.out.1.fset hab1 hab2 12 _).below (below_drewN (Below.refl _ _) _)).fset hab1 hab2 13 _).below (below_drewN (Below.refl _ _) _),?_,(((HB1.out.fset HX.out.2.1.own 12 _).drewN _).fset HX.out.2.1.own 13 _).drewN _⟩
  rw [HC.out]
  exact (((HX.out.2.1.set_wt H).below (below_drewN (Below.refl _ _) _)).set_mark m'.t HT1.out).below (below_drewN (Below.refl _ _) _)
 ·go_wp2_with fail
  go_quiet (fail)
  go_wp2_with fail
  refine (HTE.out _ (below_drewN (Below.refl _ _) _)).mono ?_
  rintro e w2 ⟨rfl,rfl⟩
  go_wp2_with fail
  go_quiet (fail)
  go_wp2
  go_end0
  refine ⟨rfl,((((HX.out.1.fset hab1 hab2 12 _).below (below_drewN (Below.refl _ _) _)).fset hab1 hab2 13 _).below (below_drewN (Below.refl _ _) _)).fset hab1 hab2 7 _,?_,((((HB1.out.fset HX.out.2.1.own 12 _).drewN _).fset HX.out.2.1.own 13 _).drewN _).fset HX.out.2.1.own 7 _⟩
  rw [HC.out]
  exact ((((HX.out.2.1.set_wt H).below (below_drewN (Below.refl _ _) _)).set_mark m'.t HT1.out).below (below_drewN (Below.refl _ _) _)).set_st 5
end
end Go.Proofs.Ythloabdfkakehaa
