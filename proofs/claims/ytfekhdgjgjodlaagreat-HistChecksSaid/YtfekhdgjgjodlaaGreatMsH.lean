/-
  Words and contracts that a statement's proof rests on (OpenPn, MrL, MsH). No statement is proved here.
-/
import Derived.Test.YtfekhdgjgjodlaaGreatOpenVl
import Derived.Test.YtfekhdgjgjodlaaGreatBkD
import Derived.Test.YtfekhdgjgjodlaaGreatSrG
import Derived.Test.YtfekhdgjgjodlaaGreatHiC
import Derived.Test.YtfekhdgjgjodlaaGreatHiT
import Derived.Test.YtfekhdgjgjodlaaGreatMrE
import Derived.Test.YtfekhdgjgjodlaaGreatMrF
import Derived.Test.YtfekhdgjgjodlaaGreatMrG
import Derived.Test.YtfekhdgjgjodlaaGreatMrI
import Derived.Test.YtfekhdgjgjodlaaGreatMrJ
set_option linter.unusedVariables false
set_option linter.unusedSimpArgs false
namespace Go.Proofs.YtfekhdgjgjodlaaGreat
section
open Go.ChangeShapes Go.WideShapes Go.RowKit Go.Deep
theorem Sl.of_rls {w:World} {B n b off cap:Nat} {l:List Rl} (hl:l.length=n) (h1:n<=cap) (h2:cap<=maxLen) (hb:b<B)
  (h:∀ j,j<n->w.cell? ⟨b,off+j*2,none⟩=some (.int .i64 (l.getD j rl0).pv)/\w.cell? ⟨b,off+j*2+1,none⟩=some (.int .i64 (l.getD j rl0).ac)) :
  Sl w B 2 (.slice (some ⟨b,off,none⟩) n cap) n (rlc l):=by
 refine ⟨by rw [zdq,hl],_,cap,rfl,h1,h2,fun _=>⟨b,off,rfl,hb,fun j hj=>?_⟩⟩
 have e:j=j / 2*2+j % 2:=by omega
 have hm:j % 2<2:=by omega
 have hq:j / 2<n:=by omega
 obtain ⟨c0,c1⟩:=h (j / 2) hq
 have hql:j / 2<l.length:=by omega
 have hv:(rlc l)[j]?=(l[j / 2]?).bind fun x=>x.cells[j % 2]?:=by
  have:=zoj l (j / 2) (j % 2) hm
  rw [<- e] at this
  exact this
 rw [hv,List.getElem?_eq_getElem hql]
 simp only [List.getD_eq_getElem?_getD,List.getElem?_eq_getElem hql,Option.getD_some] at c0 c1
 have ea:off+j=off+j / 2*2+j % 2:=by omega
 rw [ea]
 rcases (show j % 2=0\/j % 2=1 by omega) with h|h
 ·rw [h];exact c0
 ·rw [h];exact c1
section
variable {H:Type} {enc:TypeId×Value->H} {P:Program} {w:World} {held:Bool}
theorem za0.flats {t e:TypeId} {ts:List TypeId} {v:Value} (ht:P.underlying t=some (.slice e)) (hl:zcx P 8 e=some ts) (hC:P.cellsOf e=ts.length) (h0:0<ts.length)
  (h:za0 enc P w 0 (fun _=>true) held t v) :
  ∃ (A:Option Addr) (n cap:Nat),v=.slice A n cap/\n<=cap/\cap<=maxLen/\(0<n->∃ b off,A=some ⟨b,off,none⟩/\b<w.heap.size /\
   ∀ i,i<n->∀ (j:Nat) tj,ts[j]?=some tj->∃ u,w.cell? ⟨b,off+i*ts.length+j,none⟩=some u/\za0 enc P w 0 (fun _=>true) held tj u):=by
 obtain ⟨fuel,y,hf⟩:=h
 rcases open_slice ht hf with ⟨hcs,_⟩|⟨a,len,c,m,k,D,Pl,hcs,_,hl1,hm,hmm,_,hi⟩
 ·obtain rfl:v=.slice none 0 0:=by simpa using hcs
  exact ⟨none,0,0,rfl,Nat.le_refl _,by simp [maxLen],fun h=>absurd h (by omega)⟩
 ·obtain rfl:v=.slice (some a) len c:=by simpa using hcs
  simp only [if_true] at hmm
  subst hmm
  refine ⟨some a,len,m,rfl,hl1,hm,fun hn=>?_⟩
  have hat:∀ i,i<m->∀ (j:Nat) tj,ts[j]?=some tj->∃ u,w.cell? (a.add (i*ts.length+j))=some u/\za0 enc P w 0 (fun _=>true) held tj u:=by
   intro i him j tj hj;obtain ⟨cs',hc,ht'⟩:=hi i him;rw [hC] at hc;obtain ⟨_,hcl,hcat⟩:=World.cells?_some hc
   obtain ⟨u,hu,hh⟩:=zde 8 e _ _ _ _ hl (by omega) ht' j tj hj
   have hjl:j<ts.length:=(List.getElem?_eq_some_iff.1 hj).1
   refine ⟨u,?_,hh⟩
   rw [<- Go.Deep.add_add,hcat j hjl,hu]
  obtain ⟨u0,hu0,_⟩:=hat 0 (by omega) 0 _ (List.getElem?_eq_getElem h0)
  obtain ⟨b,off,spot⟩:=a
  have hspot:spot=none:=by simpa [Addr.add] using World.cell?_spot hu0
  subst hspot
  refine ⟨b,off,rfl,World.block_lt_of_cell? w _ (by simpa [Addr.add] using hu0),fun i hi2 j tj hj=>?_⟩
  obtain ⟨u,hu,hh⟩:=hat i (by omega) j tj hj
  have hadd:(⟨b,off,none⟩:Addr).add (i*ts.length+j)=⟨b,off+i*ts.length+j,none⟩:=by
   unfold Addr.add;split <;> simp_all [Nat.add_assoc]
  rw [hadd] at hu
  exact ⟨u,hu,hh⟩
theorem za0.vls {t e i u:TypeId} {v:Value} (ht:P.underlying t=some (.slice e)) (hl:zcx P 8 e=some [i,u,u]) (hC:P.cellsOf e=3) (hi:P.underlying i=some (.int .i64)) (hu:P.underlying u=some (.int .u64))
  (h:za0 enc P w 0 (fun _=>true) held t v):∃ l:List Vl,Sl w w.heap.size 3 v l.length (vlc l)/\∀ x∈l,x.ok:=by
 obtain ⟨A,n,cap,rfl,hn,hm,hc⟩:=za0.flats ht hl hC (by simp) h
 rcases Nat.eq_zero_or_pos n with hz|hz
 ·subst hz
  exact ⟨[],⟨by simp [vlc],A,cap,rfl,by simp,hm,fun h=>absurd h (by simp)⟩,by simp⟩
 ·obtain ⟨b,off,rfl,hb,hcell⟩:=hc hz
  have hex:∀ j,j<n->∃ x:Vl,x.ok/\w.cell? ⟨b,off+j*3,none⟩=some (.int .i64 x.vid)/\w.cell? ⟨b,off+j*3+1,none⟩=some (.int .u64 (x.mem:Nat))/\w.cell? ⟨b,off+j*3+2,none⟩=some (.int .u64 (x.unt:Nat)):=by
   intro j hj;obtain ⟨u0,e0,g0⟩:=hcell j hj 0 i rfl;obtain ⟨u1,e1,g1⟩:=hcell j hj 1 u rfl;obtain ⟨u2,e2,g2⟩:=hcell j hj 2 u rfl;obtain ⟨a,rfl,ha⟩:=g0.i64 hi;obtain ⟨m,rfl,hm1⟩:=g1.u64 hu;obtain ⟨k,rfl,hk⟩:=g2.u64 hu
   exact ⟨⟨a,m,k⟩,⟨ha,hm1,hk⟩,e0,e1,e2⟩
  obtain ⟨l,hlen,hq⟩:=zj2 vl0 n hex;subst hlen
  refine ⟨l,Sl.of_vls rfl hn hm hb fun j hj=>(hq j hj).2,fun x hx=>?_⟩
  obtain ⟨j,hj,rfl⟩:=List.getElem_of_mem hx
  have:=(hq j hj).1
  rwa [List.getD_eq_getElem?_getD,List.getElem?_eq_getElem hj] at this
theorem za0.rls {t e i:TypeId} {v:Value} (ht:P.underlying t=some (.slice e)) (hl:zcx P 8 e=some [i,i]) (hC:P.cellsOf e=2) (hi:P.underlying i=some (.int .i64))
  (h:za0 enc P w 0 (fun _=>true) held t v):∃ l:List Rl,Sl w w.heap.size 2 v l.length (rlc l):=by
 obtain ⟨A,n,cap,rfl,hn,hm,hc⟩:=za0.flats ht hl hC (by simp) h
 rcases Nat.eq_zero_or_pos n with hz|hz
 ·subst hz
  exact ⟨[],⟨by simp [rlc],A,cap,rfl,by simp,hm,fun h=>absurd h (by simp)⟩⟩
 ·obtain ⟨b,off,rfl,hb,hcell⟩:=hc hz
  have hex:∀ j,j<n->∃ x:Rl,w.cell? ⟨b,off+j*2,none⟩=some (.int .i64 x.pv)/\w.cell? ⟨b,off+j*2+1,none⟩=some (.int .i64 x.ac):=by
   intro j hj;obtain ⟨u0,e0,g0⟩:=hcell j hj 0 i rfl;obtain ⟨u1,e1,g1⟩:=hcell j hj 1 i rfl;obtain ⟨a,rfl,ha⟩:=g0.i64 hi;obtain ⟨m,rfl,hm1⟩:=g1.i64 hi
   exact ⟨⟨a,m⟩,e0,e1⟩
  obtain ⟨l,hlen,hq⟩:=zj2 rl0 n hex;subst hlen
  exact ⟨l,Sl.of_rls rfl hn hm hb fun j hj=>hq j hj⟩
theorem zqk {r:Reach} {b0:Nat} {t tr tv er ev i u q:TypeId} {fs:Array Field} {v:Value} {d:DataW H} {p:List MemPlace} (hs:P.underlying t=some (.struct fs)) (hl:zcx P 8 t=some [i,tr,tv,i,i,i,i,i,u,u]) (hn:P.cellsOf t=10)
  (hi:P.underlying i=some (.int .i64)) (hu:P.underlying u=some (.int .u32)) (hq:P.underlying q=some (.int .u64)) (htr:P.underlying tr=some (.slice er)) (hlr:zcx P 8 er=some [i,i]) (hcr:P.cellsOf er=2) (htv:P.underlying tv=some (.slice ev)) (hlv:zcx P 8 ev=some [i,q,q]) (hcv:P.cellsOf ev=3)
  (hv:Value.okWide P w r b0 t v) (h:DataW.Trod enc P w 0 (fun _=>true) held t v d p) :
  ∃ (P0:Int) (vr vv:Value) (a b c T R:Int) (nm sh:Nat) (lr:List Rl) (lv:List Vl),v=zbb P0 vr vv a b c T R nm sh/\Sl w w.heap.size 2 vr lr.length (rlc lr)/\Sl w w.heap.size 3 vv lv.length (vlc lv)/\(∀ x∈lv,x.ok):=by
 obtain ⟨l,rfl,hlen,hf⟩:=zql hs hl hn hv h;obtain ⟨u0,e0,g0⟩:=hf 0 i rfl;obtain ⟨u1,e1,g1⟩:=hf 1 tr rfl;obtain ⟨u2,e2,g2⟩:=hf 2 tv rfl;obtain ⟨u3,e3,g3⟩:=hf 3 i rfl;obtain ⟨u4,e4,g4⟩:=hf 4 i rfl;obtain ⟨u5,e5,g5⟩:=hf 5 i rfl;obtain ⟨u6,e6,g6⟩:=hf 6 i rfl;obtain ⟨u7,e7,g7⟩:=hf 7 i rfl;obtain ⟨u8,e8,g8⟩:=hf 8 u rfl;obtain ⟨u9,e9,g9⟩:=hf 9 u rfl;obtain ⟨x0,rfl,_⟩:=g0.i64 hi;obtain ⟨lr,hr⟩:=za0.rls htr hlr hcr hi g1;obtain ⟨lv,hvv,hok⟩:=za0.vls htv hlv hcv hi hq g2;obtain ⟨x3,rfl,_⟩:=g3.i64 hi;obtain ⟨x4,rfl,_⟩:=g4.i64 hi;obtain ⟨x5,rfl,_⟩:=g5.i64 hi;obtain ⟨x6,rfl,_⟩:=g6.i64 hi;obtain ⟨x7,rfl,_⟩:=g7.i64 hi;obtain ⟨x8,rfl,_⟩:=g8.u32 hu;obtain ⟨x9,rfl,_⟩:=g9.u32 hu
 match l,hlen with
 |[y0,y1,y2,y3,y4,y5,y6,y7,y8,y9],_ =>
  simp at e0 e1 e2 e3 e4 e5 e6 e7 e8 e9
  subst e0 e1 e2 e3 e4 e5 e6 e7 e8 e9
  exact ⟨x0,_,_,x3,x4,x5,x6,x7,x8,x9,lr,lv,rfl,hr,hvv,hok⟩
end
end
section
open Go.RowKit
section
variable {E:Nat->Prop} {w:World} {L A S1 Q cQ:Nat} {X:Nat->Value} {bp bq P r S B n nv:Nat} {uv:Value} {G:Nat->Value} {R:Nat->Nat} {qv:Nat->Nat->Value} {s s':Ms} {a:Int} {o:Od}
def za8 (E:Nat->Prop) (w:World) (L A S1 Q cQ:Nat) (X:Nat->Value) (bp bq P r S B n nv:Nat) (uv:Value) (G:Nat->Value) (R:Nat->Nat) (s':Ms) (a:Int) (e:Ending) (w':World):Prop :=
 ∃ qv',e=.returned (.int .i64 a)/\RfAll E w' L A S1 Q cQ X bp bq P r S B n nv uv s'.lv s'.st s'.g G R qv' s'.qs/\s'.good/\MdFr E w w' L
theorem za8.quiet (h:RfAll E w L A S1 Q cQ X bp bq P r S B n nv uv s.lv s.st s.g G R qv s.qs) (hg:s.good) (hs:s'=s) {v:Int} (ha:a=v) {e:Ending} {w':World} (he:Says (.int .i64 v) w e w'):za8 E w L A S1 Q cQ X bp bq P r S B n nv uv G R s' a e w':=by
 obtain ⟨rfl,hb⟩:=he;rw [hs,ha]
 exact ⟨qv,rfl,h.call hb,hg,RfFr.quiet h hb⟩
theorem za8.of {v:Int} (hs:doS P r S B n nv s o=s') (ha:doA P r S B n nv s o=v) {e:Ending} {w':World} (h:za8 E w L A S1 Q cQ X bp bq P r S B n nv uv G R s' v e w'):za8 E w L A S1 Q cQ X bp bq P r S B n nv uv G R (doS P r S B n nv s o) (doA P r S B n nv s o) e w':=by
 rw [hs,ha];exact h
theorem lv_ok {lv:List Vl} (h:∀ x∈lv,x.ok) (j:Nat):(lv.getD j vl0).ok:=by
 rw [List.getD_eq_getElem?_getD]
 cases h9:lv[j]?
 ·exact ⟨by decide,by decide,by decide⟩
 ·exact h _ (List.mem_of_getElem? h9)
theorem zjp (h:RfAll E w L A S1 Q cQ X bp bq P r S B n nv uv s.lv s.st s.g G R qv s.qs) (hr:r<=64) (hS:1<=S/\S<=8) (hB:1<=B/\B<=16) (hn:1<=n/\n<=8) (hg:s.good) (hlen:∀ i j,i<P->j<P->(s.qs i j).length<=1000000) (o:Od) (ho:o.ok) :
  Calls Tryz.prog 19 #[.pointer (some ⟨A,0,none⟩),o.val] w (za8 E w L A S1 Q cQ X bp bq P r S B n nv uv G R (doS P r S B n nv s o) (doA P r S B n nv s o)):=by
 obtain ⟨kd,po,tt,vi,sx,kv,km,me,un,nw,li,sh,bu,id⟩:=o;obtain ⟨hvi,hkm,hme,hun,hnw⟩:=ho
 simp only at hvi hkm hme hun hnw
 unfold Od.val
 simp only
 have hst:=hg.1;have hok:=hg.2
 have hst':∀ i,i<S*B->∀ j,j<n->(s.g i j).e.stamp<4294967296:=fun i _ j _=>hst i j
 by_cases hk:kd<0\/12<kd
 ·have hk2:=hk
  rcases hk2 with hk'|hk'
  ·exact (zm8 h kd hk' po tt vi sx kv km me un nw li sh bu id).mono fun e w' he=>za8.quiet h hg (doS_X hk) (doA_X hk) he
  ·exact (znl h kd hk' po tt vi sx kv km me un nw li sh bu id).mono fun e w' he=>za8.quiet h hg (doS_X hk) (doA_X hk) he
 ·rcases (show kd=0\/kd=1\/kd=2\/kd=3\/kd=4\/kd=5\/kd=6\/kd=7\/kd=8\/kd=9\/kd=10\/kd=11\/kd=12 by omega) with rfl|rfl|rfl|rfl|rfl|rfl|rfl|rfl|rfl|rfl|rfl|rfl|rfl
  ·by_cases hp:zah P po=true
   ·obtain ⟨p,rfl,hpl⟩:=zay hp
    exact (zo4 h p hpl tt vi sx kv km me un nw li sh bu id).mono fun e w' he=>za8.quiet h hg (zpl rfl) (by exact (doA_0 rfl).trans (if_pos hp)) he
   ·exact (zm2 h po (by simpa using hp) tt vi sx kv km me un nw li sh bu id).mono fun e w' he=>za8.quiet h hg (zpl rfl) (by exact (doA_0 rfl).trans (if_neg hp)) he
  ·by_cases hneg:zax s.lv vi nv<0
   ·exact (zk9 h vi hneg po tt sx kv km me un nw li sh bu id).mono fun e w' he=>za8.quiet h hg (doS_1 rfl) (by exact (doA_1 rfl).trans (if_pos hneg)) he
   ·exact (zqt h vi (zax s.lv vi nv).toNat (by omega) po tt sx kv km me un nw li sh bu id).mono fun e w' he=>za8.quiet h hg (doS_1 rfl) (by exact (doA_1 rfl).trans (if_neg hneg)) he
  ·by_cases hp:zah P po=true
   ·obtain ⟨p,rfl,hpl⟩:=zay hp
    refine (zqz h hS hB hn hst' p hpl kv km hkm nw hnw tt vi sx me un li sh bu id).mono fun e w' he=>za8.of (by exact (zow rfl).trans (if_pos hp)) (by exact (doA_2 rfl).trans (if_pos hp)) ?_
    obtain ⟨rfl,hm,hb⟩:=he
    exact ⟨qv,rfl,hm,⟨zcc hst (zhb (zcz (hst _)) (by exact hnw)) _,hok⟩,hb⟩
   ·exact (zms h po (by simpa using hp) tt vi sx kv km me un nw li sh bu id).mono fun e w' he=>za8.quiet h hg (by exact (zow rfl).trans (if_neg hp)) (by exact (doA_2 rfl).trans (if_neg hp)) he
  ·exact (zpw h hS hB hn kv km hkm po tt vi sx me un nw li sh bu id).mono fun e w' he=>za8.quiet h hg (doS_3 rfl) (by exact (doA_3 rfl).trans rfl) he
  ·by_cases hp:zah P po=true
   ·obtain ⟨p,rfl,hpl⟩:=zay hp
    refine (znv h hS hB hn hst' p hpl kv km hkm nw hnw tt vi sx me un li sh bu id).mono fun e w' he=>za8.of (by exact (zqv rfl).trans (if_pos hp)) (by exact (doA_4 rfl).trans (if_pos hp)) ?_
    obtain ⟨rfl,hm,hb⟩:=he
    exact ⟨qv,rfl,hm,⟨zcc hst (zhb (zcz (hst _)) (by show (0:Nat)<_;omega)) _,hok⟩,hb⟩
   ·exact (zm5 h po (by simpa using hp) tt vi sx kv km me un nw li sh bu id).mono fun e w' he=>za8.quiet h hg (by exact (zqv rfl).trans (if_neg hp)) (by exact (doA_4 rfl).trans (if_neg hp)) he
  ·cases hdr:(zbv (fun i=>ownP (s.g (zaj kv km S B) i)) kv km n).2
   ·refine (znq h hS hB hn kv km hkm hdr po tt vi sx me un nw li sh bu id).mono fun e w' he=>za8.of (by exact (doS_5 rfl).trans rfl) (by exact (doA_5 rfl).trans (if_neg (by rw [hdr];decide))) ?_
    obtain ⟨rfl,hm,hb⟩:=he
    exact ⟨qv,rfl,hm,⟨zcc hst (zhv (zcz (hst _))) _,hok⟩,hb⟩
   ·refine (zpv h hS hB hn kv km hkm hdr po tt vi sx me un nw li sh bu id).mono fun e w' he=>za8.of (by exact (doS_5 rfl).trans rfl) (by exact (doA_5 rfl).trans (if_pos hdr)) ?_
    obtain ⟨rfl,hm,hb⟩:=he
    exact ⟨qv,rfl,hm,⟨zcc hst (zhv (zcz (hst _))) _,hok⟩,hb⟩
  ·by_cases ha:atI S B sh bu=-1
   ·exact (zkk h hS hB hn nw li sh bu (by omega) po tt vi sx kv km me un id).mono fun e w' he=>za8.quiet h hg (by exact (zo8 rfl).trans (if_pos ha)) (by exact (doA_6 rfl).trans (if_pos ha)) he
   ·obtain ⟨Hh,hh1,hh2⟩:=at_nat ha
    refine (zps h hS hB hn hst' nw hnw li sh bu Hh hh2 hh1 po tt vi sx kv km me un id).mono fun e w' he=>za8.of (by exact (zo8 rfl).trans (if_neg ha)) (by exact (doA_6 rfl).trans (if_neg ha)) ?_
    simp only
    rw [hh1,Int.toNat_natCast];obtain ⟨rfl,hm,hb⟩:=he
    exact ⟨qv,rfl,hm,⟨zcc hst (zfk (zcz (hst _))) _,hok⟩,hb⟩
  ·refine (zoi h hS hB hn po tt vi sx kv km me un nw li sh bu id).mono fun e w' he=>za8.of (by exact (doS_7 rfl).trans rfl) (by exact (doA_7 rfl).trans rfl) ?_
   obtain ⟨rfl,hm,hb⟩:=he
   exact ⟨qv,rfl,hm,⟨doG_st 6 0 0 po vi 0 0 S B n s.g hst (by omega),hok⟩,hb⟩
  ·by_cases hp:zah P po=true
   ·obtain ⟨p,rfl,hpl⟩:=zay hp
    by_cases hx:zau sx=true
    ·refine (zpy h p hpl sx hx tt vi kv km me un nw li sh bu id).mono fun e w' he=>za8.of (by exact (zj8 rfl).trans ((if_pos hp).trans (if_pos hx))) (by exact (zjy rfl).trans ((if_pos hp).trans (if_pos hx))) ?_
     obtain ⟨rfl,hm,hb⟩:=he
     exact ⟨qv,rfl,hm,⟨hst,hok⟩,hb⟩
    ·exact (zjn h p hpl sx hx tt vi kv km me un nw li sh bu id).mono fun e w' he=>za8.quiet h hg (by exact (zj8 rfl).trans ((if_pos hp).trans (if_neg hx))) (by exact (zjy rfl).trans ((if_pos hp).trans (if_neg hx))) he
   ·exact (zmx h po (by simpa using hp) tt vi sx kv km me un nw li sh bu id).mono fun e w' he=>za8.quiet h hg (by exact (zj8 rfl).trans (if_neg hp)) (by exact (zjy rfl).trans (if_neg hp)) he
  ·by_cases hneg:zax s.lv vi nv<0
   ·exact (zj4 h vi me un hneg po tt sx kv km nw li sh bu id).mono fun e w' he=>za8.quiet h hg (by exact (zo0 rfl).trans (if_pos hneg)) (by exact (doA_9 rfl).trans (if_pos hneg)) he
   ·refine (zpn h vi me un hme hun (zax s.lv vi nv).toNat (by omega) po tt sx kv km nw li sh bu id).mono fun e w' he=>za8.of (by exact (zo0 rfl).trans (if_neg hneg)) (by exact (doA_9 rfl).trans (if_neg hneg)) ?_
    obtain ⟨rfl,hm,hb⟩:=he
    exact ⟨qv,rfl,hm,⟨hst,zpp hok _ ⟨hvi,Nat.lt_of_le_of_lt Nat.and_le_left hme,Nat.lt_of_le_of_lt Nat.and_le_left hun⟩⟩,hb⟩
  ·by_cases hp:zah P po=true
   ·by_cases hp2:zah P tt=true
    ·obtain ⟨i,rfl,hi⟩:=zay hp
     obtain ⟨j,rfl,hj⟩:=zay hp2
     by_cases hf:r<=(s.qs i j).length
     ·exact (zi8 h i j hi hj hf vi sx kv km me un nw li sh bu id).mono fun e w' he=>za8.quiet h hg (by exact (zd4 rfl).trans (((if_pos hp).trans (if_pos hp2)).trans (if_pos hf))) (by exact (zfd rfl).trans (((if_pos hp).trans (if_pos hp2)).trans (if_pos hf))) he
     ·refine (zm4 h i j hi hj hr (by omega) vi sx kv km me un nw li sh bu id).mono fun e w' he=>za8.of (by exact (zd4 rfl).trans (((if_pos hp).trans (if_pos hp2)).trans (if_neg hf))) (by exact (zfd rfl).trans (((if_pos hp).trans (if_pos hp2)).trans (if_neg hf))) ?_
      obtain ⟨rfl,⟨qv',hm⟩,hb⟩:=he
      exact ⟨qv',rfl,hm,⟨hst,hok⟩,hb⟩
    ·exact (zig h po tt hp (by simpa using hp2) vi sx kv km me un nw li sh bu id).mono fun e w' he=>za8.quiet h hg (by exact (zd4 rfl).trans ((if_pos hp).trans (if_neg hp2))) (by exact (zfd rfl).trans ((if_pos hp).trans (if_neg hp2))) he
   ·exact (zkd h po (by simpa using hp) tt vi sx kv km me un nw li sh bu id).mono fun e w' he=>za8.quiet h hg (by exact (zd4 rfl).trans (if_neg hp)) (by exact (zfd rfl).trans (if_neg hp)) he
  ·by_cases hp:zah P po=true
   ·by_cases hp2:zah P tt=true
    ·obtain ⟨i,rfl,hi⟩:=zay hp
     obtain ⟨j,rfl,hj⟩:=zay hp2
     rcases hql:s.qs i j with _|⟨x,l⟩
     ·exact (zi0 h i j hi hj hql vi sx kv km me un nw li sh bu id).mono fun e w' he=>za8.quiet h hg (by exact (zd5 rfl).trans (((if_pos hp).trans (if_pos hp2)).trans (if_pos hql))) (by exact (zfb rfl).trans (((if_pos hp).trans (if_pos hp2)).trans (by show (s.qs i j).headD (-1)=-1;rw [hql];rfl))) he
     ·refine (zm6 h i j hi hj x l hql (hlen i j hi hj) vi sx kv km me un nw li sh bu id).mono fun e w' he=>za8.of (s':={ s with qs:=upd2 s.qs i j l }) (by exact (zd5 rfl).trans (((if_pos hp).trans (if_pos hp2)).trans ((if_neg (by show ¬ s.qs i j=[];rw [hql];exact List.cons_ne_nil _ _)).trans (by show Ms.mk _ _ _ (upd2 s.qs i j (s.qs i j).tail)=_;rw [hql];rfl)))) (by exact (zfb rfl).trans (((if_pos hp).trans (if_pos hp2)).trans (by show (s.qs i j).headD (-1)=x;rw [hql];rfl))) ?_
      obtain ⟨rfl,⟨qv',hm⟩,hb⟩:=he
      exact ⟨qv',rfl,hm,⟨hst,hok⟩,hb⟩
    ·exact (zif h po tt hp (by simpa using hp2) vi sx kv km me un nw li sh bu id).mono fun e w' he=>za8.quiet h hg (by exact (zd5 rfl).trans ((if_pos hp).trans (if_neg hp2))) (by exact (zfb rfl).trans ((if_pos hp).trans (if_neg hp2))) he
   ·exact (zj7 h po (by simpa using hp) tt vi sx kv km me un nw li sh bu id).mono fun e w' he=>za8.quiet h hg (by exact (zd5 rfl).trans (if_neg hp)) (by exact (zfb rfl).trans (if_neg hp)) he
  ·by_cases hp:zah P tt=true
   ·obtain ⟨p,rfl,hpl⟩:=zay hp
    have hsn:doA P r S B n nv s ⟨12,po,p,vi,sx,kv,km,me,un,nw,li,sh,bu,id⟩=(zff s.lv nv (s.st p).1 p vi:Nat):=(zma rfl).trans (if_pos hp)
    by_cases hs:(s.st p).1=4
    ·by_cases hneg:zax s.lv vi nv<0
     ·exact (zkb h p hpl vi hs hneg po sx kv km me un nw li sh bu id).mono fun e w' he=>za8.quiet h hg (zet rfl) (hsn.trans (by unfold zff;rw [if_neg (by rw [hs];decide),if_pos hneg];rfl)) he
     ·obtain ⟨j,hj⟩:∃ j:Nat,zax s.lv vi nv=j:=⟨(zax s.lv vi nv).toNat,by omega⟩
      have e1:(zax s.lv vi nv).toNat=j:=by rw [hj,Int.toNat_natCast]
      cases hm:hasB (s.lv.getD j vl0).mem (p:Int)
      ·exact (zkm h p hpl vi hs j hj (lv_ok hok j) hm po sx kv km me un nw li sh bu id).mono fun e w' he=>za8.quiet h hg (zet rfl) (hsn.trans (by unfold zff;rw [if_neg (by rw [hs];decide),if_neg hneg,e1,if_pos hm];rfl)) he
      ·cases hu:hasB (s.lv.getD j vl0).unt (p:Int)
       ·exact (zkn h p hpl vi hs j hj (lv_ok hok j) hm hu po sx kv km me un nw li sh bu id).mono fun e w' he=>za8.quiet h hg (zet rfl) (hsn.trans (by unfold zff;rw [if_neg (by rw [hs];decide),if_neg hneg,e1,if_neg (by rw [hm];decide),if_neg (by rw [hu];decide)];rfl)) he
       ·exact (zj0 h p hpl vi hs j hj (lv_ok hok j) hm hu po sx kv km me un nw li sh bu id).mono fun e w' he=>za8.quiet h hg (zet rfl) (hsn.trans (by unfold zff;rw [if_neg (by rw [hs];decide),if_neg hneg,e1,if_neg (by rw [hm];decide),if_pos hu];rfl)) he
    ·exact (zkv h p hpl hs po vi sx kv km me un nw li sh bu id).mono fun e w' he=>za8.quiet h hg (zet rfl) (hsn.trans (by unfold zff;rw [if_pos hs];rfl)) he
   ·exact (zjq h tt (by simpa using hp) po vi sx kv km me un nw li sh bu id).mono fun e w' he=>za8.quiet h hg (zet rfl) (by exact (zma rfl).trans (if_neg hp)) he
theorem qN_len {f t r:Nat} {o:Od} {q:List Int} (h:q.length<=r):(qN f t r o q).length<=r:=by
 unfold qN
 split
 ·split
  ·exact h
  ·rw [List.length_append]
   simp only [List.length_cons,List.length_nil]
   omega
 ·split
  ·rw [List.length_tail]
   omega
  ·exact h
theorem doS_len (h:∀ i j,i<P->j<P->(s.qs i j).length<=r) (i j:Nat) (hi:i<P) (hj:j<P):((doS P r S B n nv s o).qs i j).length<=r:=by
 rw [doS_q hi hj]
 exact qN_len (h i j hi hj)
end
end
section
open Go.RowKit
section
variable {E:Nat->Prop} {w:World} {L A S1 Q bp bq P r S B n nv cQ:Nat} {X:Nat->Value} {uv:Value} {lv:List Vl} {st:Nat->Int×Nat} {g:Nat->Nat->Pl} {G:Nat->Value} {R:Nat->Nat} {qv:Nat->Nat->Value} {qs:Nat->Nat->List Int}
theorem RfAll.grow {w':World} (h:RfAll E w L A S1 Q cQ X bp bq P r S B n nv uv lv st g G R qv qs) (hz:w.heap.size<=w'.heap.size) (hk:∀ b,b<w.heap.size->¬ E b->w'.heap[b]?=w.heap[b]?):RfAll (fun b=>E b\/(w.heap.size<=b/\b<w'.heap.size)) w' L A S1 Q cQ X bp bq P r S B n nv uv lv st g G R qv qs:=by
 have h':=h.keepE hz hk;obtain ⟨D,h1,h2,h3,h4,h5⟩:=h.bk
 have hbk:BkAt w' D bp bq S B n g:=h1.keep hz fun b hlt hc=>hk b hlt (fun he=>by
  rcases hc with rfl|rfl|hc
  ·exact (h5 _ he).2.1 rfl
  ·exact (h5 _ he).2.2.1 rfl
  ·exact hc (h5 b he).1)
 refine ⟨h'.md,h'.qu,h'.lbk,fun b=>D b\/(w.heap.size<=b/\b<w'.heap.size),?_,fun b hd=>?_,.inl h3,fun b hc=>⟨.inl (h4 b hc).1,(h4 b hc).2⟩,fun b he=>?_⟩
 ·obtain ⟨k0,k1,k2,k3,k4,k5,k6,k9,k10⟩:=hbk
  obtain ⟨_,_,_,_,_,_,_,_,m10⟩:=h1
  refine ⟨k0,k1,k2,k3,k4,k5,k6,k9,fun a ha=>?_⟩
  obtain ⟨v0,hv0,hrow0⟩:=m10 a ha;obtain ⟨v,hv,Ax,cap,e1,e2,e3,e4⟩:=k10 a ha
  refine ⟨v,hv,Ax,cap,e1,e2,e3,fun hn=>?_⟩
  obtain ⟨b,off,f1,f2,f3,f4⟩:=e4 hn
  refine ⟨b,off,f1,f2,fun hd=>?_,f4⟩
  rcases hd with hd|hd
  ·exact f3 hd
  ·obtain ⟨Ay,cay,y1,y2,y3,y4⟩:=hrow0
   obtain ⟨b',off',z1,z2,z3,z4⟩:=y4 hn
   have hq0:w'.cell? ⟨bq,a,none⟩=w.cell? ⟨bq,a,none⟩:=World.cell?_of_block (hk bq (h2 bq h3) (fun he=>(h5 bq he).2.2.1 rfl))
   rw [hq0,hv0] at hv
   injection hv with hv
   rw [y1,e1] at hv
   injection hv with hv
   rw [z1,f1] at hv
   injection hv with hv
   injection hv with hv
   omega
 ·rcases hd with hd|hd
  ·exact Nat.lt_of_lt_of_le (h2 b hd) hz
  ·exact hd.2
 ·rcases he with he|he
  ·exact ⟨.inl (h5 b he).1,(h5 b he).2⟩
  ·refine ⟨.inr he,?_,?_,fun hc=>?_⟩
   ·have:=h1.1;omega
   ·have:=h1.2.1;omega
   ·have:=h2 b (h4 b hc).1;omega
end
structure Both (Ep E:Nat->Prop) (w:World) (Lp Ap Sp Qp bpp bqp:Nat) (up:Value) (Gp:Nat->Value) (Rp:Nat->Nat) (qvp:Nat->Nat->Value) (L A S1 Q cQ:Nat) (X:Nat->Value) (bp bq:Nat) (uv:Value) (G:Nat->Value) (R:Nat->Nat) (qv:Nat->Nat->Value) (P r S B n nv:Nat) (s:Ms):Prop where
 md:MdAll Ep w Lp Ap Sp Qp bpp bqp P r S B n nv up s.lv s.st s.g Gp Rp qvp s.qs
 rf:RfAll E w L A S1 Q cQ X bp bq P r S B n nv uv s.lv s.st s.g G R qv s.qs
 cov:∀ b,b<w.heap.size->E b\/Ep b
section
variable {Ep E:Nat->Prop} {w w':World} {Lp Ap Sp Qp bpp bqp:Nat} {up:Value} {Gp:Nat->Value} {Rp:Nat->Nat} {qvp qvp':Nat->Nat->Value} {L A S1 Q cQ:Nat} {X:Nat->Value} {bp bq:Nat} {uv:Value} {G:Nat->Value} {R:Nat->Nat} {qv qv':Nat->Nat->Value} {P r S B n nv:Nat} {s s':Ms}
theorem Both.call (h:Both Ep E w Lp Ap Sp Qp bpp bqp up Gp Rp qvp L A S1 Q cQ X bp bq uv G R qv P r S B n nv s) (hb:Below w.heap.size w w'):Both Ep (fun b=>E b\/(w.heap.size<=b/\b<w'.heap.size)) w' Lp Ap Sp Qp bpp bqp up Gp Rp qvp L A S1 Q cQ X bp bq uv G R qv P r S B n nv s :=
 ⟨h.md.call hb,h.rf.grow hb.size fun b hlt _=>hb.block b hlt,fun b hlt=>by
  by_cases hc:b<w.heap.size
  ·exact (h.cov b hc).imp .inl id
  ·exact .inl (.inr ⟨by omega,hlt⟩)⟩
theorem Both.prog (h:Both Ep E w Lp Ap Sp Qp bpp bqp up Gp Rp qvp L A S1 Q cQ X bp bq uv G R qv P r S B n nv s) (hm:MdAll Ep w' Lp Ap Sp Qp bpp bqp P r S B n nv up s'.lv s'.st s'.g Gp Rp qvp' s'.qs) (hf:MdFr Ep w w' Lp) :
  MdAll Ep w' Lp Ap Sp Qp bpp bqp P r S B n nv up s'.lv s'.st s'.g Gp Rp qvp' s'.qs/\RfAll (fun b=>E b\/(w.heap.size<=b/\b<w'.heap.size)) w' L A S1 Q cQ X bp bq P r S B n nv uv s.lv s.st s.g G R qv s.qs/\∀ b,b<w'.heap.size->(E b\/(w.heap.size<=b/\b<w'.heap.size))\/Ep b :=
 ⟨hm,h.rf.grow hf.low.size fun b hlt hn=>hf.kp b ((h.cov b hlt).resolve_left hn),fun b hlt=>by
  by_cases hc:b<w.heap.size
  ·exact (h.cov b hc).imp .inl id
  ·exact .inl (.inr ⟨by omega,hlt⟩)⟩
theorem Both.start (h1:MdAll Ep w Lp Ap Sp Qp bpp bqp P r S B n nv up s'.lv s'.st s'.g Gp Rp qvp s'.qs) (hb:Below w.heap.size w w') (h2:RfAll (fun b=>b<w.heap.size) w' L A S1 Q cQ X bp bq P r S B n nv uv s'.lv s'.st s'.g G R qv' s'.qs) :
  Both (fun b=>Ep b\/(w.heap.size<=b/\b<w'.heap.size)) (fun b=>b<w.heap.size) w' Lp Ap Sp Qp bpp bqp up Gp Rp qvp L A S1 Q cQ X bp bq uv G R qv' P r S B n nv s' :=
 ⟨h1.grow hb.size fun b hlt _=>hb.block b hlt,h2,fun b hlt=>by
  by_cases hc':b<w.heap.size
  ·exact .inl hc'
  ·exact .inr (.inr ⟨by omega,hlt⟩)⟩
end
end
end Go.Proofs.YtfekhdgjgjodlaaGreat
