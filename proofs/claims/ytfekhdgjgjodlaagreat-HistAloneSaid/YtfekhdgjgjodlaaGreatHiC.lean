/-
  Words and contracts that a statement's proof rests on (OpenPn, OpenOp, MrN, HiC). No statement is proved here.
-/
import Derived.Test.YtfekhdgjgjodlaaGreatPlainVl
import Derived.Test.YtfekhdgjgjodlaaGreatBkD
import Derived.Test.YtfekhdgjgjodlaaGreatHiB
import Derived.Test.YtfekhdgjgjodlaaGreatMoT
import Derived.Test.YtfekhdgjgjodlaaGreatMrU
import Derived.Test.YtfekhdgjgjodlaaGreatBkT
import Derived.Test.YtfekhdgjgjodlaaGreatMoP
set_option linter.unusedVariables false
set_option linter.unusedSimpArgs false
namespace Go.Proofs.YtfekhdgjgjodlaaGreat
section
open Go.ChangeShapes Go.WideShapes Go.RowKit Go.Deep
theorem Sl.of_rls {w:World} {B n b off cap:Nat} {l:List Rl} (hl:l.length=n) (h1:n≤cap) (h2:cap≤maxLen) (hb:b < B)
  (h:∀ j,j < n→w.cell? ⟨b,off + j * 2,none⟩=some (.int .i64 (l.getD j rl0).pv)∧w.cell? ⟨b,off + j * 2 + 1,none⟩=some (.int .i64 (l.getD j rl0).ac)) :
  Sl w B 2 (.slice (some ⟨b,off,none⟩) n cap) n (rlc l):=by
 refine ⟨by rw [rlc_length,hl],_,cap,rfl,h1,h2,fun _ => ⟨b,off,rfl,hb,fun j hj => ?_⟩⟩
 have e:j=j / 2 * 2 + j % 2:=by omega
 have hm:j % 2 < 2:=by omega
 have hq:j / 2 < n:=by omega
 obtain ⟨c0,c1⟩:=h (j / 2) hq
 have hql:j / 2 < l.length:=by omega
 have hv:(rlc l)[j]?=(l[j / 2]?).bind fun x => x.cells[j % 2]?:=by
  have:=rlc_at l (j / 2) (j % 2) hm
  rw [← e] at this
  exact this
 rw [hv,List.getElem?_eq_getElem hql]
 simp only [List.getD_eq_getElem?_getD,List.getElem?_eq_getElem hql,Option.getD_some] at c0 c1
 have ea:off + j=off + j / 2 * 2 + j % 2:=by omega
 rw [ea]
 rcases (show j % 2=0 ∨ j % 2=1 by omega) with h | h
 ·rw [h]; exact c0
 ·rw [h]; exact c1
section
variable {H:Type} {enc:TypeId × Value→H} {P:Program} {w:World} {held:Bool}
theorem Holds1.flats {t e:TypeId} {ts:List TypeId} {v:Value} (ht:P.underlying t=some (.slice e)) (hl:leaves P 8 e=some ts) (hC:P.cellsOf e=ts.length) (h0:0 < ts.length)
  (h:Holds1 enc P w 0 (fun _ => true) held t v) :
  ∃ (A:Option Addr) (n cap:Nat),v=.slice A n cap∧n≤cap∧cap≤maxLen∧(0 < n→∃ b off,A=some ⟨b,off,none⟩∧b < w.heap.size ∧
   ∀ i,i < n→∀ (j:Nat) tj,ts[j]?=some tj→∃ u,w.cell? ⟨b,off + i * ts.length + j,none⟩=some u∧Holds1 enc P w 0 (fun _ => true) held tj u):=by
 obtain ⟨fuel,y,hf⟩:=h
 rcases open_slice ht hf with ⟨hcs,_⟩ | ⟨a,len,c,m,k,D,Pl,hcs,_,hl1,hm,hmm,_,hi⟩
 ·obtain rfl:v=.slice none 0 0:=by simpa using hcs
  exact ⟨none,0,0,rfl,Nat.le_refl _,by simp [maxLen],fun h => absurd h (by omega)⟩
 ·obtain rfl:v=.slice (some a) len c:=by simpa using hcs
  simp only [if_true] at hmm
  subst hmm
  refine ⟨some a,len,m,rfl,hl1,hm,fun hn => ?_⟩
  have hat:∀ i,i < m→∀ (j:Nat) tj,ts[j]?=some tj→∃ u,w.cell? (a.add (i * ts.length + j))=some u∧Holds1 enc P w 0 (fun _ => true) held tj u:=by
   intro i him j tj hj
   obtain ⟨cs',hc,ht'⟩:=hi i him
   rw [hC] at hc
   obtain ⟨_,hcl,hcat⟩:=World.cells?_some hc
   obtain ⟨u,hu,hh⟩:=leaves_held 8 e _ _ _ _ hl (by omega) ht' j tj hj
   have hjl:j < ts.length:=(List.getElem?_eq_some_iff.1 hj).1
   refine ⟨u,?_,hh⟩
   rw [← Go.Deep.add_add,hcat j hjl,hu]
  obtain ⟨u0,hu0,_⟩:=hat 0 (by omega) 0 _ (List.getElem?_eq_getElem h0)
  obtain ⟨b,off,spot⟩:=a
  have hspot:spot=none:=by simpa [Addr.add] using World.cell?_spot hu0
  subst hspot
  refine ⟨b,off,rfl,World.block_lt_of_cell? w _ (by simpa [Addr.add] using hu0),fun i hi2 j tj hj => ?_⟩
  obtain ⟨u,hu,hh⟩:=hat i (by omega) j tj hj
  have hadd:(⟨b,off,none⟩:Addr).add (i * ts.length + j)=⟨b,off + i * ts.length + j,none⟩:=by
   unfold Addr.add; split <;> simp_all [Nat.add_assoc]
  rw [hadd] at hu
  exact ⟨u,hu,hh⟩
theorem Holds1.vls {t e i u:TypeId} {v:Value} (ht:P.underlying t=some (.slice e)) (hl:leaves P 8 e=some [i,u,u]) (hC:P.cellsOf e=3) (hi:P.underlying i=some (.int .i64)) (hu:P.underlying u=some (.int .u64))
  (h:Holds1 enc P w 0 (fun _ => true) held t v):∃ l:List Vl,Sl w w.heap.size 3 v l.length (vlc l)∧∀ x ∈ l,x.ok:=by
 obtain ⟨A,n,cap,rfl,hn,hm,hc⟩:=Holds1.flats ht hl hC (by simp) h
 rcases Nat.eq_zero_or_pos n with hz | hz
 ·subst hz
  exact ⟨[],⟨by simp [vlc],A,cap,rfl,by simp,hm,fun h => absurd h (by simp)⟩,by simp⟩
 ·obtain ⟨b,off,rfl,hb,hcell⟩:=hc hz
  have hex:∀ j,j < n→∃ x:Vl,x.ok∧w.cell? ⟨b,off + j * 3,none⟩=some (.int .i64 x.vid)∧w.cell? ⟨b,off + j * 3 + 1,none⟩=some (.int .u64 (x.mem:Nat))∧w.cell? ⟨b,off + j * 3 + 2,none⟩=some (.int .u64 (x.unt:Nat)):=by
   intro j hj
   obtain ⟨u0,e0,g0⟩:=hcell j hj 0 i rfl
   obtain ⟨u1,e1,g1⟩:=hcell j hj 1 u rfl
   obtain ⟨u2,e2,g2⟩:=hcell j hj 2 u rfl
   obtain ⟨a,rfl,ha⟩:=g0.i64 hi
   obtain ⟨m,rfl,hm1⟩:=g1.u64 hu
   obtain ⟨k,rfl,hk⟩:=g2.u64 hu
   exact ⟨⟨a,m,k⟩,⟨ha,hm1,hk⟩,e0,e1,e2⟩
  obtain ⟨l,hlen,hq⟩:=list_of vl0 n hex
  subst hlen
  refine ⟨l,Sl.of_vls rfl hn hm hb fun j hj => (hq j hj).2,fun x hx => ?_⟩
  obtain ⟨j,hj,rfl⟩:=List.getElem_of_mem hx
  have:=(hq j hj).1
  rwa [List.getD_eq_getElem?_getD,List.getElem?_eq_getElem hj] at this
theorem Holds1.rls {t e i:TypeId} {v:Value} (ht:P.underlying t=some (.slice e)) (hl:leaves P 8 e=some [i,i]) (hC:P.cellsOf e=2) (hi:P.underlying i=some (.int .i64))
  (h:Holds1 enc P w 0 (fun _ => true) held t v):∃ l:List Rl,Sl w w.heap.size 2 v l.length (rlc l):=by
 obtain ⟨A,n,cap,rfl,hn,hm,hc⟩:=Holds1.flats ht hl hC (by simp) h
 rcases Nat.eq_zero_or_pos n with hz | hz
 ·subst hz
  exact ⟨[],⟨by simp [rlc],A,cap,rfl,by simp,hm,fun h => absurd h (by simp)⟩⟩
 ·obtain ⟨b,off,rfl,hb,hcell⟩:=hc hz
  have hex:∀ j,j < n→∃ x:Rl,w.cell? ⟨b,off + j * 2,none⟩=some (.int .i64 x.pv)∧w.cell? ⟨b,off + j * 2 + 1,none⟩=some (.int .i64 x.ac):=by
   intro j hj
   obtain ⟨u0,e0,g0⟩:=hcell j hj 0 i rfl
   obtain ⟨u1,e1,g1⟩:=hcell j hj 1 i rfl
   obtain ⟨a,rfl,ha⟩:=g0.i64 hi
   obtain ⟨m,rfl,hm1⟩:=g1.i64 hi
   exact ⟨⟨a,m⟩,e0,e1⟩
  obtain ⟨l,hlen,hq⟩:=list_of rl0 n hex
  subst hlen
  exact ⟨l,Sl.of_rls rfl hn hm hb fun j hj => hq j hj⟩
theorem open_plan {r:Reach} {b0:Nat} {t tr tv er ev i u q:TypeId} {fs:Array Field} {v:Value} {d:DataW H} {p:List MemPlace} (hs:P.underlying t=some (.struct fs)) (hl:leaves P 8 t=some [i,tr,tv,i,i,i,i,i,u,u]) (hn:P.cellsOf t=10)
  (hi:P.underlying i=some (.int .i64)) (hu:P.underlying u=some (.int .u32)) (hq:P.underlying q=some (.int .u64)) (htr:P.underlying tr=some (.slice er)) (hlr:leaves P 8 er=some [i,i]) (hcr:P.cellsOf er=2) (htv:P.underlying tv=some (.slice ev)) (hlv:leaves P 8 ev=some [i,q,q]) (hcv:P.cellsOf ev=3)
  (hv:Value.okWide P w r b0 t v) (h:DataW.Trod enc P w 0 (fun _ => true) held t v d p) :
  ∃ (P0:Int) (vr vv:Value) (a b c T R:Int) (nm sh:Nat) (lr:List Rl) (lv:List Vl),v=planV P0 vr vv a b c T R nm sh∧Sl w w.heap.size 2 vr lr.length (rlc lr)∧Sl w w.heap.size 3 vv lv.length (vlc lv)∧(∀ x ∈ lv,x.ok):=by
 obtain ⟨l,rfl,hlen,hf⟩:=open_flat hs hl hn hv h
 obtain ⟨u0,e0,g0⟩:=hf 0 i rfl
 obtain ⟨u1,e1,g1⟩:=hf 1 tr rfl
 obtain ⟨u2,e2,g2⟩:=hf 2 tv rfl
 obtain ⟨u3,e3,g3⟩:=hf 3 i rfl
 obtain ⟨u4,e4,g4⟩:=hf 4 i rfl
 obtain ⟨u5,e5,g5⟩:=hf 5 i rfl
 obtain ⟨u6,e6,g6⟩:=hf 6 i rfl
 obtain ⟨u7,e7,g7⟩:=hf 7 i rfl
 obtain ⟨u8,e8,g8⟩:=hf 8 u rfl
 obtain ⟨u9,e9,g9⟩:=hf 9 u rfl
 obtain ⟨x0,rfl,_⟩:=g0.i64 hi
 obtain ⟨lr,hr⟩:=Holds1.rls htr hlr hcr hi g1
 obtain ⟨lv,hvv,hok⟩:=Holds1.vls htv hlv hcv hi hq g2
 obtain ⟨x3,rfl,_⟩:=g3.i64 hi
 obtain ⟨x4,rfl,_⟩:=g4.i64 hi
 obtain ⟨x5,rfl,_⟩:=g5.i64 hi
 obtain ⟨x6,rfl,_⟩:=g6.i64 hi
 obtain ⟨x7,rfl,_⟩:=g7.i64 hi
 obtain ⟨x8,rfl,_⟩:=g8.u32 hu
 obtain ⟨x9,rfl,_⟩:=g9.u32 hu
 match l,hlen with
 | [y0,y1,y2,y3,y4,y5,y6,y7,y8,y9],_ =>
  simp at e0 e1 e2 e3 e4 e5 e6 e7 e8 e9
  subst e0 e1 e2 e3 e4 e5 e6 e7 e8 e9
  exact ⟨x0,_,_,x3,x4,x5,x6,x7,x8,x9,lr,lv,rfl,hr,hvv,hok⟩
end
end
section
open Go.ChangeShapes Go.WideShapes Go.RowKit Go.Deep
def Ops17 (w:World) (v:Value):Prop :=
 ∃ (A:Option Addr) (n cap:Nat),v=.slice A n cap∧n≤cap∧cap≤maxLen∧(0 < n→∃ b off,A=some ⟨b,off,none⟩∧b < w.heap.size ∧
  ∀ i,i < n→∃ (kd po tt vi sx kv:Int) (km me un nw li:Nat) (sh bu id:Int),((-9223372036854775808≤vi∧vi≤9223372036854775807)∧km < 18446744073709551616∧me < 18446744073709551616∧un < 18446744073709551616∧nw < 4294967296∧li < 4294967296)∧w.cell? ⟨b,off + i * 14 + 0,none⟩=some (.int .i64 kd)∧w.cell? ⟨b,off + i * 14 + 1,none⟩=some (.int .i64 po)∧w.cell? ⟨b,off + i * 14 + 2,none⟩=some (.int .i64 tt)∧w.cell? ⟨b,off + i * 14 + 3,none⟩=some (.int .i64 vi)∧w.cell? ⟨b,off + i * 14 + 4,none⟩=some (.int .i64 sx)∧w.cell? ⟨b,off + i * 14 + 5,none⟩=some (.int .i64 kv)∧w.cell? ⟨b,off + i * 14 + 6,none⟩=some (.int .u64 (km:Nat))∧w.cell? ⟨b,off + i * 14 + 7,none⟩=some (.int .u64 (me:Nat))∧w.cell? ⟨b,off + i * 14 + 8,none⟩=some (.int .u64 (un:Nat))∧w.cell? ⟨b,off + i * 14 + 9,none⟩=some (.int .u32 (nw:Nat))∧w.cell? ⟨b,off + i * 14 + 10,none⟩=some (.int .u32 (li:Nat))∧w.cell? ⟨b,off + i * 14 + 11,none⟩=some (.int .i64 sh)∧w.cell? ⟨b,off + i * 14 + 12,none⟩=some (.int .i64 bu)∧w.cell? ⟨b,off + i * 14 + 13,none⟩=some (.int .i64 id))
section
variable {H:Type} {enc:TypeId × Value→H} {P:Program} {w:World} {held:Bool}
theorem open_ops17 {r:Reach} {b0:Nat} {t e i q u:TypeId} {v:Value} {d:DataW H} {p:List MemPlace} (ht:P.underlying t=some (.slice e)) (hl:leaves P 8 e=some [i,i,i,i,i,i,q,q,q,u,u,i,i,i]) (hC:P.cellsOf e=14)
  (hi:P.underlying i=some (.int .i64)) (hq:P.underlying q=some (.int .u64)) (hu:P.underlying u=some (.int .u32))
  (hv:Value.okWide P w r b0 t v) (h:DataW.Trod enc P w 0 (fun _ => true) held t v d p):Ops17 w v:=by
 obtain ⟨A,n,cap,rfl,hn,hm,hc⟩:=open_flats ht hl hC (by simp) hv h
 refine ⟨A,n,cap,rfl,hn,hm,fun h0 => ?_⟩
 obtain ⟨b,off,rfl,hb,hcell⟩:=hc h0
 refine ⟨b,off,rfl,hb,fun j hj => ?_⟩
 obtain ⟨u0,e0,g0⟩:=hcell j hj 0 i rfl
 obtain ⟨u1,e1,g1⟩:=hcell j hj 1 i rfl
 obtain ⟨u2,e2,g2⟩:=hcell j hj 2 i rfl
 obtain ⟨u3,e3,g3⟩:=hcell j hj 3 i rfl
 obtain ⟨u4,e4,g4⟩:=hcell j hj 4 i rfl
 obtain ⟨u5,e5,g5⟩:=hcell j hj 5 i rfl
 obtain ⟨u6,e6,g6⟩:=hcell j hj 6 q rfl
 obtain ⟨u7,e7,g7⟩:=hcell j hj 7 q rfl
 obtain ⟨u8,e8,g8⟩:=hcell j hj 8 q rfl
 obtain ⟨u9,e9,g9⟩:=hcell j hj 9 u rfl
 obtain ⟨u10,e10,g10⟩:=hcell j hj 10 u rfl
 obtain ⟨u11,e11,g11⟩:=hcell j hj 11 i rfl
 obtain ⟨u12,e12,g12⟩:=hcell j hj 12 i rfl
 obtain ⟨u13,e13,g13⟩:=hcell j hj 13 i rfl
 obtain ⟨x0,rfl,b0⟩:=g0.i64 hi
 obtain ⟨x1,rfl,b1⟩:=g1.i64 hi
 obtain ⟨x2,rfl,b2⟩:=g2.i64 hi
 obtain ⟨x3,rfl,b3⟩:=g3.i64 hi
 obtain ⟨x4,rfl,b4⟩:=g4.i64 hi
 obtain ⟨x5,rfl,b5⟩:=g5.i64 hi
 obtain ⟨x6,rfl,b6⟩:=g6.u64 hq
 obtain ⟨x7,rfl,b7⟩:=g7.u64 hq
 obtain ⟨x8,rfl,b8⟩:=g8.u64 hq
 obtain ⟨x9,rfl,b9⟩:=g9.u32 hu
 obtain ⟨x10,rfl,b10⟩:=g10.u32 hu
 obtain ⟨x11,rfl,b11⟩:=g11.i64 hi
 obtain ⟨x12,rfl,b12⟩:=g12.i64 hi
 obtain ⟨x13,rfl,b13⟩:=g13.i64 hi
 exact ⟨x0,x1,x2,x3,x4,x5,x6,x7,x8,x9,x10,x11,x12,x13,⟨b3,b6,b7,b8,b9,b10⟩,e0,e1,e2,e3,e4,e5,e6,e7,e8,e9,e10,e11,e12,e13⟩
end
end
section
open Go.RowKit
theorem own_rowIs {w:World} {base n:Nat} {T:TypeId} {v:Value} {xs:List Value} (h:w.ownsRow base T 1 v n xs) (hn:0 < n) :
  ∃ (b cap:Nat) (F:Nat→Value),v=.slice (some ⟨b,0,none⟩) n cap∧n≤cap∧base≤b∧w.rowIs b T cap F∧∀ i,i < n→xs[i]?=some (F i):=by
 rcases h.2 with hn' | ⟨b,cap,cur,hv,hb,hh,hnc,hcm,hcs,ht⟩
 ·obtain ⟨hv,hx⟩:=hn'
  have h1:=h.1
  rw [hx] at h1
  simp at h1
  omega
 ·subst hv
  have hr:w.rowIs b T cap (fun i => (cur[i]?).getD (.bool false)):=⟨cur,hh,by simpa using hcs,fun i hi => by
   have hlt:i < cur.size:=by rw [hcs]; omega
   show cur[i]?=some ((cur[i]?).getD (.bool false))
   rw [Array.getElem?_eq_getElem hlt]
   rfl⟩
  refine ⟨b,cap,_,rfl,hnc,hb,hr,fun i hi => ?_⟩
  have h1:=h.cellAt i (by omega)
  rw [← h1]
  exact hr.cell (by omega)
theorem BkAt.grow {w w':World} {D:Nat→Prop} {p q S B n:Nat} {g:Nat→Nat→Pl} (h:BkAt w D p q S B n g) (hb:Below w.heap.size w w'):BkAt w' (fun b => D b ∨ (w.heap.size≤b∧b < w'.heap.size)) p q S B n g:=by
 have hbq:=h.2.1
 obtain ⟨k0,k1,k2,k3,k4,k5,k6,k9,k10⟩:=h.call hb
 obtain ⟨_,_,_,_,_,_,_,_,m10⟩:=h
 refine ⟨k0,k1,k2,k3,k4,k5,k6,k9,fun a ha => ?_⟩
 obtain ⟨v0,hv0,hrow0⟩:=m10 a ha
 obtain ⟨v,hv,Ax,cap,e1,e2,e3,e4⟩:=k10 a ha
 refine ⟨v,hv,Ax,cap,e1,e2,e3,fun hn => ?_⟩
 obtain ⟨b,off,f1,f2,f3,f4⟩:=e4 hn
 refine ⟨b,off,f1,f2,fun hd => ?_,f4⟩
 rcases hd with hd | hd
 ·exact f3 hd
 ·obtain ⟨Ay,cay,y1,y2,y3,y4⟩:=hrow0
  obtain ⟨b',off',z1,z2,z3,z4⟩:=y4 hn
  have hq0:w'.cell? ⟨q,a,none⟩=w.cell? ⟨q,a,none⟩:=hb.cell hbq
  rw [hq0,hv0] at hv
  injection hv with hv
  rw [y1,e1] at hv
  injection hv with hv
  rw [z1,f1] at hv
  injection hv with hv
  injection hv with hv
  omega
section
variable {w w1 w':World} {L A S1 Q cQ:Nat} {X:Nat→Value} {bp bq P r S B n nv H0:Nat} {uv:Value} {lv:List Vl} {st:Nat→Int × Nat} {G:Nat→Value} {R:Nat→Nat}
theorem RfAll.of_parts (hm:RfAt w' L A S1 Q cQ X uv (.pointer (some ⟨bp,0,none⟩)) P r nv lv st G) (hq:QuNew w' w1.heap.size P P R G) (hk:BkAt w1 (fun b => b < H0 ∨ b=bp ∨ b=bq) bp bq S B n (fun _ _ => pl0)) (hb:Below w1.heap.size w1 w')
  (hL:L≤H0) (h0:H0≤w1.heap.size) (hp:H0≤bp) (hqq:H0≤bq) (hA:A < H0 ∨ w1.heap.size≤A) (hS:S1 < H0 ∨ w1.heap.size≤S1) (hQ:Q < H0 ∨ w1.heap.size≤Q) (hu:∀ b,uv.ownBlock=some b→b < H0 ∨ w1.heap.size≤b) :
  RfAll (fun b => b < L) w' L A S1 Q cQ X bp bq P r S B n nv uv lv st (fun _ _ => pl0) G R (fun _ _ => .slice none 0 0) (fun _ _ => []):=by
 have hbp:=hk.1
 have hbq:=hk.2.1
 have hz:=hb.size
 have hblk:∀ b,MdBlk A S1 Q P uv R (fun _ _ => .slice none 0 0) b→(b < H0 ∨ w1.heap.size≤b)∧b < w'.heap.size:=by
  rintro b ((rfl | rfl | rfl | hc) | ⟨i,hi,hc⟩)
  ·exact ⟨hA,hm.cells.lt⟩
  ·exact ⟨hS,hm.stands.lt⟩
  ·exact ⟨hQ,hm.queues.lt⟩
  ·exact ⟨hu b hc,(hm.vlans.lt b hc).2⟩
  ·rcases hc with rfl | ⟨j,hj,hc⟩
   ·exact ⟨.inr (hq i hi).1,(hq i hi).2.2.1.lt⟩
   ·cases hc
 refine ⟨hm,QuAt.of_new hq (by omega),by omega,_,hk.grow hb,fun b hd => ?_,.inl (.inr (.inr rfl)),fun b hc => ?_,fun b he => ?_⟩
 ·rcases hd with (hd | hd | hd) | hd
  ·omega
  ·omega
  ·omega
  ·exact hd.2
 ·obtain ⟨h1,h2⟩:=hblk b hc
  refine ⟨?_,by omega,by omega⟩
  rcases h1 with h1 | h1
  ·exact .inl (.inl h1)
  ·exact .inr ⟨h1,h2⟩
 ·refine ⟨.inl (.inl (by omega)),by omega,by omega,?_⟩
  have h1:=hm.la
  have h2:=hm.ls
  have h3:=hm.lq
  rintro ((rfl | rfl | rfl | hc) | ⟨i,hi,hc⟩)
  ·omega
  ·omega
  ·omega
  ·have:=(hm.vlans.lt b hc).1
   omega
  ·rcases hc with rfl | ⟨j,hj,hc⟩
   ·have:=(hq i hi).1
    omega
   ·cases hc
end
end
section
open Go.RowKit
theorem stInts9:ST Tryz.prog 47 3 (.int .i64 0) 1 8:=ST.mk Tryz.underlying47 (by kernel_rfl) rfl (by omega) (by omega)
def natV (o:List Nat):List Value:=o.map fun (i:Nat) => .int .i64 (i:Int)
theorem natV_length (o:List Nat):(natV o).length=o.length:=by simp [natV]
theorem natV_at {o:List Nat} {i:Nat} (h:i < o.length):(natV o)[i]?=some (.int .i64 (getN o i:Nat)):=by
 unfold natV
 rw [List.getElem?_map,getN_at h]
 rfl
theorem natV_append (a b:List Nat):natV (a ++ b)=natV a ++ natV b:=by simp [natV]
theorem natV_one (i:Nat):natV [i]=[.int .i64 (i:Int)]:=rfl
def OrdPost (N:Nat) (key:Nat→Int) (w:World) (e:Ending) (w':World):Prop :=
 ∃ A cap o,e=.returned (.slice A o.length cap)∧OrdL N key o∧Sl w' w'.heap.size 1 (.slice A o.length cap) o.length (natV o)∧Below w.heap.size w w'∧∀ b off,A=some ⟨b,off,none⟩→0 < o.length→w.heap.size≤b
section
set_option maxRecDepth 20000 in
set_option maxHeartbeats 1600000 in
theorem ins_sort0 (A:Option Addr) (c:Nat) (f:Value) (w:World):Calls Tryz.prog 96 #[.slice A 0 c,.int .i64 0,.int .i64 0,f] w fun e w' => e=.returned (.tuple #[])∧w=w':=by
 go_enter Tryz.func96,Tryz.ntmps96
 go_wp2
 go_loopw [8] (fun i wr => i=.int .i64 1∧w=wr) (fun _ _ => 0)
 case atStart => exact ⟨rfl,rfl⟩
 case round =>
  obtain ⟨rfl,rfl⟩:=hrel
  go_wp2
  first | go_end0 | go_ret
  exact ⟨rfl,rfl⟩
set_option maxRecDepth 20000 in
set_option maxHeartbeats 1600000 in
theorem stable_row0 (A:Option Addr) (c:Nat) (f:Value) (w:World):Calls Tryz.prog 62 #[.slice A 0 c,.int .i64 0,f] w fun e w' => e=.returned (.tuple #[])∧w=w':=by
 have HI:=Lib.hid fun W => ins_sort0 A c f W
 go_enter Tryz.func62,Tryz.ntmps62
 go_wp2
 go_loopw [7,8] (fun a b wr => a=.int .i64 0∧b=.int .i64 20∧w=wr) (fun _ _ _ => 0)
 case atStart => exact ⟨rfl,rfl,rfl⟩
 case round =>
  obtain ⟨rfl,rfl,rfl⟩:=hrel
  go_wp2_with first
   | ((with_reducible refine Calls.mono (HI.out _) ?_); rintro _ w1 ⟨rfl,rfl⟩)
   | fail
  go_loopw [6,7,8,9] (fun Bv av bv mv wr => Bv=.int .i64 20∧w=wr) (fun Bv av bv mv _ => 0)
  case atStart => exact ⟨rfl,rfl⟩
  case round =>
   obtain ⟨rfl,rfl⟩:=hrel
   go_wp2
   first | go_end0 | go_ret
   exact ⟨rfl,rfl⟩
set_option maxRecDepth 20000 in
set_option maxHeartbeats 1600000 in
theorem sort_row0 (A:Option Addr) (c:Nat) (f:Value) (w:World):Calls Tryz.prog 34 #[.slice A 0 c,f] w fun e w' => e=.returned (.tuple #[])∧w=w':=by
 have HI:=Lib.hid fun W => stable_row0 A c f W
 go_enter Tryz.func34,Tryz.ntmps34
 go_wp2_with first
  | ((with_reducible refine Calls.mono (HI.out _) ?_); rintro _ w1 ⟨rfl,rfl⟩)
  | fail
 first | go_end0 | go_ret
 exact ⟨rfl,rfl⟩
end
theorem ord_post {w w':World} {pb c lb N:Nat} {key:Nat→Int} {f:Nat→Nat} (hm:MgK key (getN (pls key N)) f 0 (pls key N).length) (hs:SrAt w' pb (pls key N).length lb N key f) (hb:Below w.heap.size w w') (hpb:w.heap.size≤pb) (hc:(pls key N).length≤c) (hx:c≤maxLen) :
  OrdPost N key w (.returned (.slice (some ⟨pb,0,none⟩) (pls key N).length c)) w':=by
 refine ⟨some ⟨pb,0,none⟩,c,(List.range (pls key N).length).map f,by simp,OrdL.of_sorted hm,?_,hb,fun b off e _ => by injection e with e; injection e with e; omega⟩
 have hl:((List.range (pls key N).length).map f).length=(pls key N).length:=by simp
 rw [hl]
 refine ⟨by rw [natV_length,hl]; omega,_,c,rfl,hc,hx,fun hn => ⟨pb,0,rfl,hs.lt,fun j hj => ?_⟩⟩
 rw [Nat.zero_add,hs.row.cell (by omega),natV_at (by omega),getN_map f (by omega)]
theorem ord_post0 {w w':World} {N:Nat} {key:Nat→Int} {A:Option Addr} {c:Nat} (hz:(pls key N).length=0) (hb:Below w.heap.size w w') (hx:c≤maxLen):OrdPost N key w (.returned (.slice A 0 c)) w':=by
 have he:pls key N=[]:=List.eq_nil_of_length_eq_zero hz
 refine ⟨A,c,[],rfl,⟨List.Pairwise.nil,fun i => ?_⟩,⟨by simp [natV],A,c,rfl,Nat.zero_le _,hx,fun h => absurd h (by simp)⟩,hb,fun b off _ h => absurd h (by simp)⟩
 rw [← pls_mem,he]
section
variable {w:World} {N B:Nat} {v:Value} {L:Nat→Ent}
set_option maxRecDepth 20000 in
set_option maxHeartbeats 6400000 in
theorem hist_Order (hn:N≤1000000) (h:EnRow w B N v L) (hB:B≤w.heap.size) :
  Calls Tryz.prog 14 #[v] w (OrdPost N (fun i => (L i).mar) w):=by
 obtain ⟨A,cap,rfl,h1,h2,h3⟩:=h
 obtain ⟨key,hkey⟩:∃ key,key=fun i => (L i).mar:=⟨_,rfl⟩
 rw [← hkey]
 have HK:Hid (∀ i,key i=(L i).mar):=fun i => by rw [hkey]
 have HC:=Lib.hid h3
 have HN:=Lib.hid (And.intro hn (And.intro h1 hB))
 have HMX:=Lib.hid h2
 have HLE:=Lib.hid fun k => pls_le key k
 unfold maxLen at h2
 clear h3 hkey h1 hB hn
 go_enter Tryz.func14,Tryz.ntmps14
 go_wp2
 go_loopw [3,8] (fun pv i wr => ∃ (k:Nat) (pw:Value) (wx:World),pw=pv∧wx=wr∧k≤N∧i=.int .i64 k∧Hid (wr.ownsRow (w.heap.size + 1) 3 1 pv (pls key k).length (natV (pls key k)))∧Hid (Below w.heap.size w wr∧w.heap.size < wr.heap.size∧wr.cell? ⟨w.heap.size,0,none⟩=some (.slice A N cap))) (fun _ i _ => N - (intOf i).toNat)
 case atStart => exact ⟨0,_,_,rfl,rfl,Nat.zero_le _,rfl,⟨by simp [natV,pls],.inl ⟨rfl,rfl⟩⟩,(Below.refl _ _).alloc (Nat.le_refl _) _,by simp,by simp [go_sem]⟩
 case round =>
  obtain ⟨k,pv,wr,rfl,rfl,hk,rfl,HO,HI⟩:=hrel
  by_cases hlt:k < N
  ·have d1:decide (k < N)=true:=decide_eq_true hlt
   obtain ⟨b,off,rfl,hb,hc⟩:=HC.out (by omega)
   have HRG:=Lib.hid ((hc k hlt).keep (w':=wr) fun p hp => HI.out.1.cell (by rw [hp]; have:=HN.out; omega)).range
   have HKK:=Lib.hid (HK.out k)
   obtain ⟨x,hx⟩:∃ x,x=L k:=⟨_,rfl⟩
   rw [← hx] at HRG HKK
   clear hc hx HC
   obtain ⟨mar,hmar⟩:∃ m,m=x.mar:=⟨_,rfl⟩
   rw [← hmar] at HKK
   have HMR:=Lib.hid hmar
   clear hmar
   have HPS:=Lib.hid (pls_succ key k)
   have hplk:=HLE.out k
   have g0:(0:Int)≤(k:Int):=Int.natCast_nonneg _
   have g1:(k:Int) < (N:Int):=by omega
   have hKN:k≤1000000:=by have:=HN.out.1; omega
   have hzr:=HI.out.2.1
   by_cases hm:0 < mar
   ·have d2:decide (mar > 0)=true:=decide_eq_true hm
    have HP1:Hid (pls key (k + 1)=pls key k ++ [k]):=Lib.hid (by rw [HPS.out,if_pos (by rw [HKK.out]; exact hm)])
    clear HPS hm
    go_wp2_with (first
     | (refine wpList_load_mid (by rfl) 68 _ (by rfl) b (off + k * 19) (by rfl) x.cells _ HRG.out Tryz.underlying68 (by rfl) (by rw [Ent.cells_length]; kernel_rfl) ?_; clear HRG)
     | (refine wpList_store (by rfl) 68 _ _ (by rfl) wr.heap.size 0 x.cells.toArray (by rfl) (by rfl) (there_of (cs:=#[.int .i64 0,.int .i64 0,.int .i64 0,.int .i64 0,.int .i64 0,.int .i64 0,.int .i64 0,.int .i64 0,.int .i64 0,.int .i64 0,.int .u64 0,.int .u64 0,.int .u64 0,.int .u32 0,.int .u32 0,.int .i64 0,.int .i64 0,.int .i64 0,.int .i64 0]) (heap_self _ _ _)) (by rw [List.size_toArray,Ent.cells_length]; kernel_rfl) (all_oneCell_toArray x.cells_one) ?_; intro wz hst; (have z2:wz.cell? ⟨wr.heap.size,2,none⟩=some (.int .i64 mar):=by rw [HMR.out]; exact hst.cells 2 _ rfl); (have HZO:=Lib.hid (own_stored (HO.out.alloc _) hst (fun e => by have:=(HO.out.lt _ e).2; omega))); (have HZB:Hid (Below w.heap.size w wz∧w.heap.size < wz.heap.size∧wz.heap.size=wr.heap.size + 1∧wz.cell? ⟨w.heap.size,0,none⟩=some (.slice (some ⟨b,off,none⟩) N cap)):=⟨(HI.out.1.alloc (by omega) _).trans (hst.below _ (by omega)),by rw [hst.size]; simp; omega,by rw [hst.size]; simp,((hst.below wr.heap.size (Nat.le_refl _)).cell (p:=⟨w.heap.size,0,none⟩) hzr).trans ((World.cell?_alloc_lt _ _ _ hzr).trans HI.out.2.2)⟩); clear hst)
     | (at_builtin; refine wpList_app _ rfl stInts9 (.tmp 16) (.tmp 18) rfl (w.heap.size + 1) pv (pls key k).length _ rfl (HZO.out.alloc _) (wz.heap.size + 1) _ 1 [.int .i64 (k:Int)] rfl (Sl.lit wz #[.int .i64 (k:Int)] _ 1 rfl (by decide)) (by simp [Value.oneCell']) (by omega) (by have:=HZB.out.2.1; simp; omega) ?_; intro v2 w2 hown2 hgr2 hat2 hbel2; (have HO2:Hid (w2.ownsRow (w.heap.size + 1) 3 1 v2 (pls key (k + 1)).length (natV (pls key (k + 1)))):=by rw [HP1.out,natV_append,natV_one,List.length_append]; exact hown2); (have HB2:Hid (Below w.heap.size w w2∧w.heap.size < w2.heap.size∧w2.cell? ⟨w.heap.size,0,none⟩=some (.slice (some ⟨b,off,none⟩) N cap)):=⟨(HZB.out.1.alloc (Nat.le_of_lt HZB.out.2.1) _).trans (hbel2.mono (by omega)),by have:=hbel2.size; have:=HZB.out.2.1; simp at *; omega,(hbel2.cell (p:=⟨w.heap.size,0,none⟩) (by show w.heap.size < _; omega)).trans ((World.cell?_alloc_lt _ _ _ HZB.out.2.1).trans HZB.out.2.2.2)⟩); clear hown2 hgr2 hat2 hbel2)
     | fail)
    go_roundw
    case rel => exact ⟨k + 1,_,_,rfl,rfl,by omega,by go_num,HO2.out,HB2.out⟩
    case measure => simp [intOf]; omega
   ·have d2:decide (mar > 0)=false:=decide_eq_false hm
    have HP1:Hid (pls key (k + 1)=pls key k):=Lib.hid (by rw [HPS.out,if_neg (by rw [HKK.out]; exact hm),List.append_nil])
    clear HPS hm
    go_wp2_with (first
     | (refine wpList_load_mid (by rfl) 68 _ (by rfl) b (off + k * 19) (by rfl) x.cells _ HRG.out Tryz.underlying68 (by rfl) (by rw [Ent.cells_length]; kernel_rfl) ?_; clear HRG)
     | (refine wpList_store (by rfl) 68 _ _ (by rfl) wr.heap.size 0 x.cells.toArray (by rfl) (by rfl) (there_of (cs:=#[.int .i64 0,.int .i64 0,.int .i64 0,.int .i64 0,.int .i64 0,.int .i64 0,.int .i64 0,.int .i64 0,.int .i64 0,.int .i64 0,.int .u64 0,.int .u64 0,.int .u64 0,.int .u32 0,.int .u32 0,.int .i64 0,.int .i64 0,.int .i64 0,.int .i64 0]) (heap_self _ _ _)) (by rw [List.size_toArray,Ent.cells_length]; kernel_rfl) (all_oneCell_toArray x.cells_one) ?_; intro wz hst; (have z2:wz.cell? ⟨wr.heap.size,2,none⟩=some (.int .i64 mar):=by rw [HMR.out]; exact hst.cells 2 _ rfl); (have HZO:=Lib.hid (own_stored (HO.out.alloc _) hst (fun e => by have:=(HO.out.lt _ e).2; omega))); (have HZB:Hid (Below w.heap.size w wz∧w.heap.size < wz.heap.size∧wz.heap.size=wr.heap.size + 1∧wz.cell? ⟨w.heap.size,0,none⟩=some (.slice (some ⟨b,off,none⟩) N cap)):=⟨(HI.out.1.alloc (by omega) _).trans (hst.below _ (by omega)),by rw [hst.size]; simp; omega,by rw [hst.size]; simp,((hst.below wr.heap.size (Nat.le_refl _)).cell (p:=⟨w.heap.size,0,none⟩) hzr).trans ((World.cell?_alloc_lt _ _ _ hzr).trans HI.out.2.2)⟩); clear hst)
     | fail)
    go_roundw
    case rel => exact ⟨k + 1,_,_,rfl,rfl,by omega,by go_num,by rw [HP1.out]; exact HZO.out,HZB.out.1,HZB.out.2.1,HZB.out.2.2.2⟩
    case measure => simp [intOf]; omega
  ·have hkN:k=N:=by omega
   subst hkN
   have d1:decide (k < k)=false:=decide_eq_false hlt
   obtain ⟨n,hn⟩:∃ n,n=(pls key k).length:=⟨_,rfl⟩
   rcases Nat.eq_zero_or_pos n with h0 | h0
   ·have HZ:Hid ((pls key k).length=0):=Lib.hid (by rw [← hn]; exact h0)
    have hf:=(Sl.of_own HO.out).form
    rw [HZ.out] at hf
    obtain ⟨Ap,cp,rfl,_,hcm⟩:=hf
    have HCM:=Lib.hid hcm
    have HS:=Lib.hid fun f W => sort_row0 Ap cp f W
    clear h0 hn hcm hlt
    go_wp2_with first
     | ((with_reducible refine Calls.mono (HS.out _ _) ?_); rintro _ w1 ⟨rfl,rfl⟩)
     | fail
    go_ret
    exact ord_post0 HZ.out HI.out.1 HCM.out
   ·obtain ⟨pb,cp,F,rfl,hnc,hpb,hrow,hat⟩:=own_rowIs HO.out (by rw [← hn]; exact h0)
    have hcm:=(Sl.of_own HO.out).form
    have HCM:Hid ((pls key k).length≤cp∧cp≤maxLen):=by
     obtain ⟨A',c',e,e1,e2⟩:=hcm
     injection e with _ _ e
     subst e
     exact ⟨e1,e2⟩
    have hsr:SrAt wr pb (pls key k).length w.heap.size k key (getN (pls key k)):=by
     refine ⟨⟨cp,F,hrow,hnc,fun i hi => ?_⟩,⟨HI.out.2.1,by omega,A,cap,HI.out.2.2,fun hk0 => ?_⟩,fun i hi => (pls_mem.1 (getN_mem hi)).1⟩
     ·have:=hat i hi
      rw [natV_at hi] at this
      injection this with this
      exact this.symm
     ·obtain ⟨b,off,e,hb,hc⟩:=HC.out hk0
      refine ⟨b,off,e,by have:=HN.out.2.2; have:=HI.out.1.size; omega,by have:=HN.out.2.2; omega,fun i hi => ?_⟩
      rw [HK.out]
      exact (HI.out.1.cell (p:=⟨b,off + i * 19 + 2,none⟩) (by show b < _; have:=HN.out.2.2; omega)).trans (hc i hi).2.2.1
    have HS:=Lib.hid (sort_row (cp:=cp) (by have:=HLE.out k; have:=HN.out.1; omega) hsr (pls_st key k))
    have HPB:=Lib.hid hpb
    rw [← hn] at HS
    have HNN:=Lib.hid hn
    rw [← hn]
    clear h0 hcm hat hrow hnc hpb hsr hlt hn
    go_wp2_with first
     | ((with_reducible refine Calls.mono HS.out ?_); rintro _ w1 ⟨rfl,f',m1,m2,m3⟩; have HM:=Lib.hid (And.intro m1 (And.intro m2 m3)); clear m1 m2 m3)
     | fail
    go_ret
    rw [HNN.out]
    rw [HNN.out] at HM
    exact ord_post HM.out.1 HM.out.2.1 (HI.out.1.trans (HM.out.2.2.below.mono (by have:=HPB.out; omega))) (by have:=HPB.out; omega) HCM.out.1 HCM.out.2
end
end
end Go.Proofs.YtfekhdgjgjodlaaGreat
