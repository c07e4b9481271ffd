/-
  Words and contracts that a statement's proof rests on (FgO). No statement is proved here.
-/
import Derived.BigGuard
import Derived.Test.YthloabdfkakehaaGreatKeyR
import Derived.Test.YthloabdfkakehaaGreatFdU
import Derived.Test.YthloabdfkakehaaGreatBkT
import Derived.Test.YthloabdfkakehaaGreatFgL
set_option linter.unusedVariables false
set_option linter.unusedSimpArgs false
namespace Go.Proofs.YthloabdfkakehaaGreat
open Go.RowKit
theorem BkAt.domO {w:World} {D D':Nat→Prop} {p q S B n:Nat} {g:Nat→Nat→Pl} (h:BkAt w D p q S B n g) (hd:∀ b,b < w.heap.size→D' b→D b):BkAt w D' p q S B n g:=by
 obtain ⟨h0,h1,h2,h3,h4,h5,h6,h9,h10⟩:=h
 refine ⟨h0,h1,h2,h3,h4,h5,h6,h9,fun i hi => ?_⟩
 obtain ⟨v,hv,A,cap,e1,e2,e3,e4⟩:=h10 i hi
 refine ⟨v,hv,A,cap,e1,e2,e3,fun hn => ?_⟩
 obtain ⟨b,off,f1,f2,f3,f4⟩:=e4 hn
 exact ⟨b,off,f1,f2,fun hb => f3 (hd b f2 hb),f4⟩
theorem ansG_at {n:Nat} {A:Nat→FaS}:∀ (l:List Nat) (g:Nat→Nat→Pl) (k i:Nat),ansG n A g l→l[k]?=some i→(A i).ans=comeG n (A i).wk (repG n A g (l.take k)) (A i).h0 (A i).hc
 | [],g,k,i,_,h => by simp at h
 | j :: l,g,0,i,h,e => by
  have e:j=i:=by simpa using e
  subst e
  exact h.1
 | j :: l,g,k + 1,i,h,e => ansG_at l _ k i h.2 (by simpa using e)
theorem repG_next {n:Nat} {A:Nat→FaS} {l:List Nat} {k i:Nat} (g:Nat→Nat→Pl) (h:l[k]?=some i):repG n A g (l.take (k + 1))=actG n (A i) (repG n A g (l.take k)):=by
 rw [List.take_add_one,h]
 exact repG_snoc n A i _ g
theorem kvI_kv (f:Nat→Int) (n:Nat):kvI f n=kv .i64 ((List.range n).map f):=by simp [kvI,kv]
theorem getD_rgO (f:Nat→Int) {n i:Nat} (h:i < n):((List.range n).map f).getD i 0=f i:=by simp [List.getD,h]
theorem kvI_snoc (f:Nat→Int) (n:Nat):kvI f (n + 1)=kvI f n ++ [.int .i64 (f n)]:=by simp [kvI,List.range_succ]
theorem kd_mod {K:Nat} (h:K < 7):wrap64 ((IntKind.u64.wrap (K:Nat)).tmod 7)=(K:Int)∧IntKind.i64.wrap ((IntKind.u64.wrap (K:Nat)).tmod 7)=(K:Int):=by
 have e:(IntKind.u64.wrap (K:Nat)).tmod 7=(K:Int):=by
  rw [IntKind.wrap_u64,Int.tmod_eq_emod_of_nonneg (by omega)]
  omega
 rw [e]
 exact ⟨IntWalk.wrap64_in _ (by omega),IntWalk.i64_in _ (by omega)⟩
theorem Asc.inj' {m:Nat→Int}:∀ {R:List Nat},Asc m R→∀ {i j:Nat},i ∈ R→j ∈ R→m i=m j→i=j
 | [],_,_,_,hi,_,_ => by simp at hi
 | a :: R,h,i,j,hi,hj,e => by
  unfold Asc at h
  rw [List.pairwise_cons] at h
  rcases List.mem_cons.1 hi with e1 | e1 <;> rcases List.mem_cons.1 hj with e2 | e2
  ·rw [e1,e2]
  ·subst e1; have:=h.1 j e2; omega
  ·subst e2; have:=h.1 i e1; omega
  ·exact Asc.inj' (R:=R) h.2 e1 e2 e
section
variable {F:FcS} {m:MemS} {N:Nat} {A:Nat→FaS} {g:Nat→Nat→Pl} {lg:List Nat} {fr tt:Nat→Int}
theorem RunP.order (h:RunP F m N A g lg fr tt) (hN:N≤100000) {w:World} {v:Value} {B:Nat} (ho:w.ownsRow B 3 1 v N (kvI (fun i => (A i).mark) N)) :
  Calls Tryz.prog 40 #[v] w fun e w' => ∃ u,e=.returned (.tuple #[u,.bool true])∧w'.ownsRow w.heap.size 3 1 u lg.length (kv .i64 (lg.map (fun (i:Nat) => (i:Int))))∧Below w.heap.size w w':=by
 rw [kvI_kv] at ho
 have hasc:Asc (fun i => (A i).mark) lg:=h.ord
 have hmem:∀ i,i ∈ lg ↔ i < N∧0 < (A i).mark:=fun i => ⟨h.lin i,fun ⟨h1,h2⟩ => h.lall i h1 (by omega)⟩
 obtain ⟨mkf,hmkf⟩:∃ f,f=fun i => (A i).mark:=⟨_,rfl⟩
 rw [← hmkf] at ho
 have hm:∀ i,mkf i=(A i).mark:=fun i => by rw [hmkf]
 have hl:((List.range N).map mkf).length=N:=by simp
 have hs:Sl w w.heap.size 1 v ((List.range N).map mkf).length (kv .i64 ((List.range N).map mkf)):=by rw [hl]; exact Sl.of_own ho
 refine (ref12_Order (w:=w) (v:=v) (B:=w.heap.size) (mk:=(List.range N).map mkf) hs (Nat.le_refl _) (by rw [hl]; exact hN) (fun i j hi hj h0 he => ?_)).mono ?_
 ·rw [hl] at hi hj
  rw [getD_rgO _ hi] at h0 he
  rw [getD_rgO _ hj] at he
  exact hasc.inj' ((hmem i).2 ⟨hi,by rw [← hm]; exact h0⟩) ((hmem j).2 ⟨hj,by rw [← hm,← he]; exact h0⟩) (by show (A i).mark=(A j).mark; rw [← hm,← hm]; exact he)
 ·rintro e w' ⟨u,R',rfl,ho',ha',hm',hb'⟩
  have hR:lg=R':=Asc.uniq hasc (ha'.congr (m':=fun i => (A i).mark) (fun a ha => by
   have:=((hm' a).1 ha).1
   rw [hl] at this
   rw [getD_rgO _ this,hm])) (fun i => by
   rw [hmem i,hm' i,hl]
   constructor
   ·rintro ⟨h1,h2⟩; exact ⟨h1,by rw [getD_rgO _ h1,hm]; exact h2⟩
   ·rintro ⟨h1,h2⟩; rw [getD_rgO _ h1,hm] at h2; exact ⟨h1,h2⟩)
  subst hR
  exact ⟨u,rfl,ho',hb'⟩
end
section
variable {w:World} {lo b fb rb L:Nat} {F:FcS} {P:Nat} {ls:Nat→List OpN} {lv:Nat→Value} {s:RunS} {ab:Nat→Nat} {Es:Nat→Nat→Prop} {g:Nat→Nat→Pl} {V:Nat→Value}
def bkK (F:FcS) (s:RunS) (k:Nat):Nat→Nat→Pl:=repG F.n s.A (fun _ _ => pl0) (s.lg.take k)
theorem bk_next (hK:RunK F P ls s g) {C L:Nat} (hf:FFit F C L) {k i:Nat} (hi:s.lg[k]?=some i) (hst:stG (bkK F s k)) :
  i < s.N∧doG (s.op i).K (s.op i).v (s.op i).mc (s.op i).port (s.op i).vid (s.op i).now (s.op i).old F.S F.B F.n (bkK F s k)=(bkK F s (k + 1),(s.A i).ans)∧stG (bkK F s (k + 1)):=by
 have hmem:=List.mem_of_getElem? hi
 obtain ⟨hiN,hmk⟩:=hK.run.lin i hmem
 obtain ⟨hok,who,hs⟩:=hK.op i hiN
 have e:=beg_doG hf hok hs (bkK F s k)
 have e1:bkK F s (k + 1)=actG F.n (s.A i) (bkK F s k):=repG_next _ hi
 have e2:=ansG_at s.lg _ k i hK.run.ans hi
 rw [← e1,show comeG F.n (s.A i).wk (bkK F s k) (s.A i).h0 (s.A i).hc=(s.A i).ans from e2.symm] at e
 refine ⟨hiN,e,?_⟩
 have h9:=doG_st (s.op i).K (s.op i).v (s.op i).mc (s.op i).port (s.op i).vid (s.op i).now (s.op i).old F.S F.B F.n (bkK F s k) hst hok.now
 rw [e] at h9
 exact h9
theorem bk_all (hK:RunK F P ls s g):bkK F s s.lg.length=g:=by
 unfold bkK
 rw [List.take_length]
 exact hK.run.rep
set_option maxRecDepth 20000 in
set_option maxHeartbeats 12800000 in
theorem law12_book (hM:RunM w lo b fb rb L F s.m s.N s.A ab Es g (7 + P) (rowsS P ls lv ab s V) V) (hK:RunK F P ls s g) (hN:s.N≤100000) :
  Calls Tryz.prog 13 #[.pointer (some ⟨rb,0,none⟩)] w fun e w' => ∃ p q,e=.returned (.pointer (some ⟨p,0,none⟩))∧BkAt w' (fun b => b < w.heap.size ∨ b=p ∨ b=q) p q F.S F.B F.n g∧w.heap.size≤p∧w.heap.size≤q∧Below w.heap.size w w':=by
 have hfit:=hM.acts.fd.fits
 have HOR:=Lib.hid fun (w':World) (v:Value) (B:Nat) (ho:w'.ownsRow B 3 1 v s.N (kvI (fun i => (s.A i).mark) s.N)) => hK.run.order hN ho
 have HNX:=Lib.hid fun k i (hi:s.lg[k]?=some i) (hst:stG (bkK F s k)) => bk_next hK hfit hi hst
 have HAL:=Lib.hid (bk_all hK)
 have HTP:=Lib.hid hK.run.top
 have HFR:=Lib.hid hK.run.fr
 have HTT:=Lib.hid hK.run.tt
 have HT0:=Lib.hid hK.run.t0
 have HOK:=Lib.hid fun i (hi:i < s.N) => (hK.op i hi).1
 have HM:=Lib.hid hM
 have HSZ:Hid (L≤w.heap.size):=hM.ord.2.2
 have HNW:=Lib.hid fun w' => ref11_New F.S F.B F.n hfit.S hfit.B hfit.n w'
 have HWA:=Lib.hid fun w' D p q (g:Nat→Nat→Pl) (o:OpN) (ho:OpOk F o) (hk:BkAt w' D p q F.S F.B F.n g) (hD:∀ b,D b→b < w'.heap.size) (hq:D q) (hst:stG g) => ref11_Want hk hD hq hfit.S hfit.B hfit.n.2 hst (o.K:Nat) o.v o.mc ho.mc o.port o.vid o.now o.old ho.now o.K ho.K (kd_mod ho.K).1 (kd_mod ho.K).2
 have r9:w.cell? ⟨rb,9,none⟩=some (V 3):=hM.cell (i:=9) (by omega)
 obtain ⟨⟨A3,c3,e3,k3,m3⟩,_⟩:=hM.slice (k:=3) (by omega) rfl
 rw [e3] at r9
 have HE3:=Lib.hid e3
 clear hM hK hfit e3
 unfold maxLen at m3
 obtain ⟨N,hNe⟩:∃ N,N=s.N:=⟨_,rfl⟩
 have HNE:=Lib.hid hNe
 rw [← hNe] at hN k3 r9
 clear hNe
 go_enter Tryz.func13,Tryz.ntmps13
 go_wp2
 go_loopw [3,4] (fun mk i wr => ∃ (k:Nat) (Am:Option Addr) (cm:Nat),i=.int .i64 k∧mk=.slice Am k cm∧k≤N∧Hid (wr.ownsRow w.heap.size 3 1 (.slice Am k cm) k (kvI (fun i => (s.A i).mark) k))∧Hid (Below w.heap.size w wr)) (fun _ i _ => N - (intOf i).toNat)
 case atStart => exact ⟨0,none,0,rfl,rfl,by omega,World.ownsRow_nil _ _ _ _,Below.refl _ _⟩
 case round =>
  obtain ⟨k,Am,cm,rfl,rfl,hk,HO,HB⟩:=hrel
  have HMr:=Lib.hid (HM.out.below HB.out)
  by_cases hkN:k < N
  ·have hkS:k < s.N:=by rw [← HNE.out]; exact hkN
   obtain ⟨t1,t2⟩:=HTP.out k hkS
   obtain ⟨u1,u2,u3⟩:=HFR.out k hkS
   have v1:=HTT.out k hkS
   obtain ⟨q3,d3,e3,l3,m3,x3,_⟩:=(HMr.out.slice (k:=3) (by omega) rfl).2 (by omega)
   obtain ⟨q5,d5,e5,l5,m5,x5,_⟩:=(HMr.out.slice (k:=5) (by omega) rfl).2 (by omega)
   obtain ⟨q6,d6,e6,l6,m6,x6,_⟩:=(HMr.out.slice (k:=6) (by omega) rfl).2 (by omega)
   unfold maxLen at m3 m5 m6
   have a3:=(x3 k (by omega)).trans (ptI_at _ hkS)
   have a5:=(x5 k (by omega)).trans (kvI_at _ hkS)
   have a6:=(x6 k (by omega)).trans (kvI_at _ hkS)
   have r0:wr.cell? ⟨rb,0,none⟩=some (.pointer (some ⟨b,0,none⟩)):=HMr.out.cell (i:=0) (by omega)
   have r9:wr.cell? ⟨rb,9,none⟩=some (V 3):=HMr.out.cell (i:=9) (by omega)
   have r11:wr.cell? ⟨rb,11,none⟩=some (V 5):=HMr.out.cell (i:=11) (by omega)
   have r12:wr.cell? ⟨rb,12,none⟩=some (V 6):=HMr.out.cell (i:=12) (by omega)
   rw [e3] at r9
   rw [e5] at r11
   rw [e6] at r12
   have HMK:=Lib.hid (acts_Mark HMr.out.acts hkS)
   have HTM:=Lib.hid (mem_Time HMr.out.acts.fd.mem)
   obtain ⟨mk,hmk⟩:∃ x,x=(s.A k).mark:=⟨_,rfl⟩
   obtain ⟨f0,hf0⟩:∃ x,x=s.fr k:=⟨_,rfl⟩
   obtain ⟨tm,htm⟩:∃ x,x=s.m.t:=⟨_,rfl⟩
   rw [← hmk] at HMK t1 t2 u3 v1
   rw [← hf0] at a5 u1 u2 u3
   rw [← htm] at HTM t2 u2 v1
   rw [← HNE.out] at r9 r11 r12 l3 l5 l6
   have HMKE:=Lib.hid hmk
   have g0:(0:Int)≤(k:Int):=Int.natCast_nonneg _
   have g1:(k:Int) < (N:Int):=by omega
   clear hmk hf0 htm x3 x5 x6 e3 e5 e6 hkS
   rcases v1 with ⟨_,v1⟩ | ⟨_,v1,v2,v3⟩
   ·rw [v1] at a6
    clear v1
    rcases u3 with u3 | u3
    ·subst u3
     go_wp2_with (first
      | go_big_skip
      | (go_at_call 30; (with_reducible refine Calls.mono HMK.out ?_); rintro e wq ⟨rfl,rfl⟩)
      | (go_at_call 36; (with_reducible refine Calls.mono HTM.out ?_); rintro e wq ⟨rfl,rfl⟩)
      | (at_builtin; refine wpList_apv _ rfl stInts _ _ rfl w.heap.size _ k _ rfl (HO.out.alloc _) _ _ 1 [.int .i64 0] rfl (Sl.lit_at (by rfl) rfl (by decide)) (by simp [Value.oneCell']) (by omega) (by rw [World.size_alloc]; have:=HB.out.size; omega) ?_; intro A4 c4 w9 hown9 hgr9 hat9 hbel9; clear hgr9 hat9)
      | fail)
     have HO9:Hid (w9.ownsRow w.heap.size 3 1 (.slice A4 (k + 1) c4) (k + 1) (kvI (fun i => (s.A i).mark) (k + 1))):=by rw [kvI_snoc,← HMKE.out]; exact hown9
     have HB9:=Lib.hid ((HB.out.alloc HB.out.size _).trans hbel9)
     clear hown9 hbel9 HO HB HMK HTM r0 r9 r11 r12 a3 a5 a6
     go_roundw
     case rel => exact ⟨k + 1,A4,c4,by go_num,rfl,by omega,HO9.out,HB9.out⟩
     case measure => simp [intOf]; omega
    ·have y1:¬ mk < 0:=by omega
     have y2:0 < mk:=by omega
     have y3:¬ mk≤f0:=by omega
     have y4:¬ tm < mk:=by omega
     have y5:(mk == 0)=false:=by simp; omega
     clear u1 u2 t1
     go_wp2_with (first
      | go_big_skip
      | (go_at_call 30; (with_reducible refine Calls.mono HMK.out ?_); rintro e wq ⟨rfl,rfl⟩)
      | (go_at_call 36; (with_reducible refine Calls.mono HTM.out ?_); rintro e wq ⟨rfl,rfl⟩)
      | (at_builtin; refine wpList_apv _ rfl stInts _ _ rfl w.heap.size _ k _ rfl (HO.out.alloc _) _ _ 1 [.int .i64 mk] rfl (Sl.lit_at (by rfl) rfl (by decide)) (by simp [Value.oneCell']) (by omega) (by rw [World.size_alloc]; have:=HB.out.size; omega) ?_; intro A4 c4 w9 hown9 hgr9 hat9 hbel9; clear hgr9 hat9)
      | fail)
     have HO9:Hid (w9.ownsRow w.heap.size 3 1 (.slice A4 (k + 1) c4) (k + 1) (kvI (fun i => (s.A i).mark) (k + 1))):=by rw [kvI_snoc,← HMKE.out]; exact hown9
     have HB9:=Lib.hid ((HB.out.alloc HB.out.size _).trans hbel9)
     clear hown9 hbel9 HO HB HMK HTM r0 r9 r11 r12 a3 a5 a6
     go_roundw
     case rel => exact ⟨k + 1,A4,c4,by go_num,rfl,by omega,HO9.out,HB9.out⟩
     case measure => simp [intOf]; omega
   ·obtain ⟨tk,htk⟩:∃ x,x=s.tt k:=⟨_,rfl⟩
    rw [← htk] at a6 v2 v3
    have u4:f0 < mk:=by rcases u3 with e | e <;> omega
    have y1:¬ mk < 0:=by omega
    have y2:0 < mk:=v1
    have y3:¬ mk≤f0:=by omega
    have y4:¬ tk < mk:=by omega
    have y5:(mk == 0)=false:=by simp; omega
    have y6:0≤tk:=by omega
    clear htk u3 u1 u2 t1 t2 v3
    go_wp2_with (first
     | go_big_skip
     | (go_at_call 30; (with_reducible refine Calls.mono HMK.out ?_); rintro e wq ⟨rfl,rfl⟩)
     | (go_at_call 36; (with_reducible refine Calls.mono HTM.out ?_); rintro e wq ⟨rfl,rfl⟩)
     | (at_builtin; refine wpList_apv _ rfl stInts _ _ rfl w.heap.size _ k _ rfl (HO.out.alloc _) _ _ 1 [.int .i64 mk] rfl (Sl.lit_at (by rfl) rfl (by decide)) (by simp [Value.oneCell']) (by omega) (by rw [World.size_alloc]; have:=HB.out.size; omega) ?_; intro A4 c4 w9 hown9 hgr9 hat9 hbel9; clear hgr9 hat9)
     | fail)
    have HO9:Hid (w9.ownsRow w.heap.size 3 1 (.slice A4 (k + 1) c4) (k + 1) (kvI (fun i => (s.A i).mark) (k + 1))):=by rw [kvI_snoc,← HMKE.out]; exact hown9
    have HB9:=Lib.hid ((HB.out.alloc HB.out.size _).trans hbel9)
    clear hown9 hbel9 HO HB HMK HTM r0 r9 r11 r12 a3 a5 a6
    go_roundw
    case rel => exact ⟨k + 1,A4,c4,by go_num,rfl,by omega,HO9.out,HB9.out⟩
    case measure => simp [intOf]; omega
  ·obtain rfl:N=k:=by omega
   have HORw:=Lib.hid (HOR.out wr (.slice Am N cm) w.heap.size (by rw [← HNE.out]; exact HO.out))
   have r9:wr.cell? ⟨rb,9,none⟩=some (V 3):=HMr.out.cell (i:=9) (by omega)
   rw [HE3.out,← HNE.out] at r9
   have g2:decide ((N:Int) < (N:Int))=false:=decide_eq_false (by omega)
   go_wp2_with fail
   refine (HORw.out).mono ?_
   rintro e w3 ⟨u,rfl,ho3,hb3⟩
   obtain ⟨r,hr⟩:∃ r,r=s.lg.length:=⟨_,rfl⟩
   have HRL:=Lib.hid hr
   rw [← hr] at ho3
   obtain ⟨Au,cu,hu,hcu,hcx⟩:=(Sl.of_own ho3).form
   subst hu
   unfold maxLen at hcx
   have HU:Hid (w3.ownsRow wr.heap.size 3 1 (.slice Au r cu) r (kv .i64 (s.lg.map fun (i:Nat) => (i:Int)))):=ho3
   have B3:=Lib.hid (HB.out.trans (hb3.mono HB.out.size))
   have HM3:=Lib.hid (HM.out.below B3.out)
   have r2:w3.cell? ⟨rb,2,none⟩=some (.int .i64 (F.S:Nat)):=HM3.out.cell (i:=2) (by omega)
   have r3:w3.cell? ⟨rb,3,none⟩=some (.int .i64 (F.B:Nat)):=HM3.out.cell (i:=3) (by omega)
   have r4:w3.cell? ⟨rb,4,none⟩=some (.int .i64 (F.n:Nat)):=HM3.out.cell (i:=4) (by omega)
   have r13:w3.cell? ⟨rb,13,none⟩=some (.bool false):=HM3.out.cell (i:=13) (by omega)
   clear hr ho3 hb3 HORw HO HB HOR HMr r9 g2 hkN hk
   go_wp2_with (first | go_big_skip | fail)
   refine (HNW.out w3).mono ?_
   rintro e w4 ⟨p,q,rfl,hbk,hp,hq,hb4⟩
   have HBK0:=Lib.hid hbk
   have HPQ:Hid (p < w4.heap.size∧q < w4.heap.size∧w3.heap.size≤p∧w3.heap.size≤q):=⟨hbk.1,hbk.2.1,hp,hq⟩
   have HB4:=Lib.hid hb4
   clear hbk hp hq hb4 r2 r3 r4 r13 HNW
   go_wp2
   go_loopw [10] (fun i wr => ∃ k:Nat,i=.int .i64 k∧k≤r∧Hid (BkAt wr (fun b => b < w3.heap.size ∨ b=p ∨ b=q) p q F.S F.B F.n (bkK F s k))∧Hid (stG (bkK F s k))∧Hid (Below w3.heap.size w3 wr)) (fun i _ => r - (intOf i).toNat)
   case atStart => exact ⟨0,rfl,by omega,HBK0.out,Lib.hid fun i j => (by show (0:Nat) < 4294967296; decide),HB4.out⟩
   case round =>
    obtain ⟨k,rfl,hk,HBK,HST,HB⟩:=hrel
    by_cases hkr:k < r
    ·have hkr':k < s.lg.length:=by rw [← HRL.out]; exact hkr
     obtain ⟨i,hi⟩:∃ i,s.lg[k]?=some i:=⟨_,List.getElem?_eq_getElem hkr'⟩
     obtain ⟨hiN,hdo,hst9⟩:=HNX.out k i hi HST.out
     have HST9:=Lib.hid hst9
     have HSZ9:=Lib.hid (show w.heap.size≤w3.heap.size from B3.out.size)
     have HMr:=Lib.hid (HM.out.below (B3.out.trans (HB.out.mono HSZ9.out)))
     have v1:=HTT.out i hiN
     obtain ⟨q4,d4,e4,l4,m4,x4,_⟩:=(HMr.out.slice (k:=4) (by omega) rfl).2 (by omega)
     unfold maxLen at m4
     have a4:∀ f,f < 7→wr.cell? ⟨q4,i * 7 + f,none⟩=(opC (s.op i))[f]?:=fun f hf => (x4 _ (by omega)).trans (by rw [opc_at _ _ _ hf,List.getElem?_map,List.getElem?_range hiN]; rfl)
     have r10:wr.cell? ⟨rb,10,none⟩=some (V 4):=HMr.out.cell (i:=10) (by omega)
     rw [e4,← HNE.out] at r10
     obtain ⟨gu,cgu,eu,hc5,hc6,_,hgu,hcellu,_⟩:=own_at HU.out HRL.out.symm (by omega)
     cases eu
     unfold maxLen at hc6
     have k1:wr.cell? ⟨gu,k,none⟩=some (.int .i64 (i:Int)):=(HB.out.cell (p:=⟨gu,k,none⟩) hgu).trans (hcellu k i hi)
     have HW:=HWA.out wr _ p q _ (s.op i) (HOK.out i hiN) HBK.out (fun b hb => by
      have:=HB.out.size
      have:=HBK.out.1
      have:=HBK.out.2.1
      rcases hb with e | e | e <;> omega) (.inr (.inr rfl)) HST.out
     rw [hdo] at HW
     have HW:=Lib.hid HW
     have HIN:=Lib.hid hiN
     have p0:=a4 0 (by omega)
     have p1:=a4 1 (by omega)
     have p2:=a4 2 (by omega)
     have p3:=a4 3 (by omega)
     have p4:=a4 4 (by omega)
     have p5:=a4 5 (by omega)
     have p6:=a4 6 (by omega)
     simp only [opC,List.getElem?_cons_succ,List.getElem?_cons_zero,Nat.add_zero] at p0 p1 p2 p3 p4 p5 p6
     obtain ⟨o,ho⟩:∃ o,o=s.op i:=⟨_,rfl⟩
     rw [← ho] at p0 p1 p2 p3 p4 p5 p6 HW
     have HOE:=Lib.hid ho
     have g0:(0:Int)≤(k:Int):=Int.natCast_nonneg _
     have g1:(k:Int) < (r:Int):=by omega
     have i0:(0:Int)≤(i:Int):=Int.natCast_nonneg _
     have i1:(i:Int) < (N:Int):=by have:=HNE.out; omega
     rw [← HNE.out] at l4
     clear ho a4 x4 e4 hcellu hgu hdo hst9 hi hkr' hiN HBK HST HMr
     go_wp2_with fail
     refine (HW.out).mono ?_
     rintro e w5 ⟨rfl,hbk5,hbt⟩
     have HBK5:=Lib.hid hbk5
     have HB5:=Lib.hid (HB.out.trans (hbt.below.mono HPQ.out.2.2.2))
     have HM5:=Lib.hid (HM.out.below (B3.out.trans (HB5.out.mono HSZ9.out)))
     obtain ⟨q6,d6,e6,l6,m6,x6,_⟩:=(HM5.out.slice (k:=6) (by omega) rfl).2 (by have:=HIN.out; omega)
     obtain ⟨q3,d3,e3,l3,m3,x3,_⟩:=(HM5.out.slice (k:=3) (by omega) rfl).2 (by have:=HIN.out; omega)
     unfold maxLen at m3 m6
     have r9:w5.cell? ⟨rb,9,none⟩=some (V 3):=HM5.out.cell (i:=9) (by omega)
     have r12:w5.cell? ⟨rb,12,none⟩=some (V 6):=HM5.out.cell (i:=12) (by omega)
     rw [e3,← HNE.out] at r9
     rw [e6,← HNE.out] at r12
     rw [← HNE.out] at l3 l6
     have a3:=(x3 i (by have:=HIN.out; omega)).trans (ptI_at _ HIN.out)
     have a6:=(x6 i (by have:=HIN.out; omega)).trans (kvI_at _ HIN.out)
     have HAN:=acts_Answer HM5.out.acts HIN.out
     clear hbk5 hbt p0 p1 p2 p3 p4 p5 p6 r10 k1 l4 m4 x3 x6 e3 e6 HB HW HM5
     obtain ⟨an,han⟩:∃ x,x=(s.A i).ans:=⟨_,rfl⟩
     rw [← han] at HAN ⊢
     clear han
     rcases v1 with ⟨_,v1⟩ | ⟨v0,_,_,_⟩
     ·rw [v1] at a6
      clear v1 HAN
      go_wp2_with (first
       | go_big_skip
       | (go_at_call 25; (with_reducible refine Calls.mono HAN.out ?_); rintro e wq ⟨rfl,rfl⟩)
       | fail)
      go_roundw
      case rel => exact ⟨k + 1,by go_num,by omega,HBK5.out,HST9.out,HB5.out⟩
      case measure => simp [intOf]; omega
     ·have v2:0≤s.tt i:=by rcases HTT.out i HIN.out with ⟨h1,_⟩ | ⟨_,h1,h2,_⟩ <;> omega
      obtain ⟨tk,htk⟩:∃ x,x=s.tt i:=⟨_,rfl⟩
      rw [← htk] at a6 v2
      rw [if_pos v0] at HAN
      have HAN:=Lib.hid HAN
      clear htk v0
      go_wp2_with (first
       | go_big_skip
       | (go_at_call 25; (with_reducible refine Calls.mono HAN.out ?_); rintro e wq ⟨rfl,rfl⟩)
       | fail)
      go_roundw
      case rel => exact ⟨k + 1,by go_num,by omega,HBK5.out,HST9.out,HB5.out⟩
      case measure => simp [intOf]; omega
    ·obtain rfl:r=k:=by omega
     have g2:decide ((r:Int) < (r:Int))=false:=decide_eq_false (by omega)
     have HBK:=Lib.hid (show BkAt wr (fun b => b < w3.heap.size ∨ b=p ∨ b=q) p q F.S F.B F.n g by
      have h9:=HBK.out
      rw [HRL.out,HAL.out] at h9
      exact h9)
     have HEND:Hid (∃ p' q',Ending.returned (.pointer (some ⟨p,0,none⟩))=.returned (.pointer (some ⟨p',0,none⟩))∧BkAt wr (fun b => b < w.heap.size ∨ b=p' ∨ b=q') p' q' F.S F.B F.n g∧w.heap.size≤p'∧w.heap.size≤q'∧Below w.heap.size w wr):=by
      have h1:=B3.out.size
      have h2:=HPQ.out
      refine ⟨p,q,rfl,HBK.out.domO (fun b _ h => ?_),by omega,by omega,B3.out.trans (HB.out.mono h1)⟩
      rcases h with e | e
      ·exact .inl (by omega)
      ·exact .inr e
     clear HBK HST HB HBK0 HB4 HTP HFR HTT HNX HAL HWA HU B3 HM3
     go_wp2
     go_ret
     exact HEND.out
end
end Go.Proofs.YthloabdfkakehaaGreat
