/-
  Words and contracts that a statement's proof rests on (OpenPn, OpenOp, MoL, McS). No statement is proved here.
-/
import Derived.Test.YtpcapdpglpgcbaaGreatBkD
import Derived.Test.YtpcapdpglpgcbaaGreatBkE
import Derived.Test.YtpcapdpglpgcbaaGreatMoX
import Derived.Test.YtpcapdpglpgcbaaGreatMoM
import Derived.Test.YtpcapdpglpgcbaaGreatBkC2
set_option linter.unusedVariables false
set_option linter.unusedSimpArgs false
namespace Go.Proofs.YtpcapdpglpgcbaaGreat
section
open Go.ChangeShapes Go.WideShapes Go.RowKit Go.Deep
theorem Sl.of_rls {w:World} {B n b off cap:Nat} {l:List Rl} (hl:l.length=n) (h1:n≤cap) (h2:cap≤maxLen) (hb:b < B)
  (h:∀ j,j < n→w.cell? ⟨b,off + j * 2,none⟩=some (.int .i64 (l.getD j rl0).pv)∧w.cell? ⟨b,off + j * 2 + 1,none⟩=some (.int .i64 (l.getD j rl0).ac)) :
  Sl w B 2 (.slice (some ⟨b,off,none⟩) n cap) n (rlc l):=by
 refine ⟨by rw [rlc_length,hl],_,cap,rfl,h1,h2,fun _ => ⟨b,off,rfl,hb,fun j hj => ?_⟩⟩
 have e:j=j / 2 * 2 + j % 2:=by omega
 have hm:j % 2 < 2:=by omega
 have hq:j / 2 < n:=by omega
 obtain ⟨c0,c1⟩:=h (j / 2) hq
 have hql:j / 2 < l.length:=by omega
 have hv:(rlc l)[j]?=(l[j / 2]?).bind fun x => x.cells[j % 2]?:=by
  have:=rlc_at l (j / 2) (j % 2) hm
  rw [← e] at this
  exact this
 rw [hv,List.getElem?_eq_getElem hql]
 simp only [List.getD_eq_getElem?_getD,List.getElem?_eq_getElem hql,Option.getD_some] at c0 c1
 have ea:off + j=off + j / 2 * 2 + j % 2:=by omega
 rw [ea]
 rcases (show j % 2=0 ∨ j % 2=1 by omega) with h | h
 ·rw [h]; exact c0
 ·rw [h]; exact c1
section
variable {H:Type} {enc:TypeId × Value→H} {P:Program} {w:World} {held:Bool}
theorem Holds1.flats {t e:TypeId} {ts:List TypeId} {v:Value} (ht:P.underlying t=some (.slice e)) (hl:leaves P 8 e=some ts) (hC:P.cellsOf e=ts.length) (h0:0 < ts.length)
  (h:Holds1 enc P w 0 (fun _ => true) held t v) :
  ∃ (A:Option Addr) (n cap:Nat),v=.slice A n cap∧n≤cap∧cap≤maxLen∧(0 < n→∃ b off,A=some ⟨b,off,none⟩∧b < w.heap.size ∧
   ∀ i,i < n→∀ (j:Nat) tj,ts[j]?=some tj→∃ u,w.cell? ⟨b,off + i * ts.length + j,none⟩=some u∧Holds1 enc P w 0 (fun _ => true) held tj u):=by
 obtain ⟨fuel,y,hf⟩:=h
 rcases open_slice ht hf with ⟨hcs,_⟩ | ⟨a,len,c,m,k,D,Pl,hcs,_,hl1,hm,hmm,_,hi⟩
 ·obtain rfl:v=.slice none 0 0:=by simpa using hcs
  exact ⟨none,0,0,rfl,Nat.le_refl _,by simp [maxLen],fun h => absurd h (by omega)⟩
 ·obtain rfl:v=.slice (some a) len c:=by simpa using hcs
  simp only [if_true] at hmm
  subst hmm
  refine ⟨some a,len,m,rfl,hl1,hm,fun hn => ?_⟩
  have hat:∀ i,i < m→∀ (j:Nat) tj,ts[j]?=some tj→∃ u,w.cell? (a.add (i * ts.length + j))=some u∧Holds1 enc P w 0 (fun _ => true) held tj u:=by
   intro i him j tj hj
   obtain ⟨cs',hc,ht'⟩:=hi i him
   rw [hC] at hc
   obtain ⟨_,hcl,hcat⟩:=World.cells?_some hc
   obtain ⟨u,hu,hh⟩:=leaves_held 8 e _ _ _ _ hl (by omega) ht' j tj hj
   have hjl:j < ts.length:=(List.getElem?_eq_some_iff.1 hj).1
   refine ⟨u,?_,hh⟩
   rw [← Go.Deep.add_add,hcat j hjl,hu]
  obtain ⟨u0,hu0,_⟩:=hat 0 (by omega) 0 _ (List.getElem?_eq_getElem h0)
  obtain ⟨b,off,spot⟩:=a
  have hspot:spot=none:=by simpa [Addr.add] using World.cell?_spot hu0
  subst hspot
  refine ⟨b,off,rfl,World.block_lt_of_cell? w _ (by simpa [Addr.add] using hu0),fun i hi2 j tj hj => ?_⟩
  obtain ⟨u,hu,hh⟩:=hat i (by omega) j tj hj
  have hadd:(⟨b,off,none⟩:Addr).add (i * ts.length + j)=⟨b,off + i * ts.length + j,none⟩:=by
   unfold Addr.add; split <;> simp_all [Nat.add_assoc]
  rw [hadd] at hu
  exact ⟨u,hu,hh⟩
theorem Holds1.vls {t e i u:TypeId} {v:Value} (ht:P.underlying t=some (.slice e)) (hl:leaves P 8 e=some [i,u,u]) (hC:P.cellsOf e=3) (hi:P.underlying i=some (.int .i64)) (hu:P.underlying u=some (.int .u64))
  (h:Holds1 enc P w 0 (fun _ => true) held t v):∃ l:List Vl,Sl w w.heap.size 3 v l.length (vlc l)∧∀ x ∈ l,x.ok:=by
 obtain ⟨A,n,cap,rfl,hn,hm,hc⟩:=Holds1.flats ht hl hC (by simp) h
 rcases Nat.eq_zero_or_pos n with hz | hz
 ·subst hz
  exact ⟨[],⟨by simp [vlc],A,cap,rfl,by simp,hm,fun h => absurd h (by simp)⟩,by simp⟩
 ·obtain ⟨b,off,rfl,hb,hcell⟩:=hc hz
  have hex:∀ j,j < n→∃ x:Vl,x.ok∧w.cell? ⟨b,off + j * 3,none⟩=some (.int .i64 x.vid)∧w.cell? ⟨b,off + j * 3 + 1,none⟩=some (.int .u64 (x.mem:Nat))∧w.cell? ⟨b,off + j * 3 + 2,none⟩=some (.int .u64 (x.unt:Nat)):=by
   intro j hj
   obtain ⟨u0,e0,g0⟩:=hcell j hj 0 i rfl
   obtain ⟨u1,e1,g1⟩:=hcell j hj 1 u rfl
   obtain ⟨u2,e2,g2⟩:=hcell j hj 2 u rfl
   obtain ⟨a,rfl,ha⟩:=g0.i64 hi
   obtain ⟨m,rfl,hm1⟩:=g1.u64 hu
   obtain ⟨k,rfl,hk⟩:=g2.u64 hu
   exact ⟨⟨a,m,k⟩,⟨ha,hm1,hk⟩,e0,e1,e2⟩
  obtain ⟨l,hlen,hq⟩:=list_of vl0 n hex
  subst hlen
  refine ⟨l,Sl.of_vls rfl hn hm hb fun j hj => (hq j hj).2,fun x hx => ?_⟩
  obtain ⟨j,hj,rfl⟩:=List.getElem_of_mem hx
  have:=(hq j hj).1
  rwa [List.getD_eq_getElem?_getD,List.getElem?_eq_getElem hj] at this
theorem Holds1.rls {t e i:TypeId} {v:Value} (ht:P.underlying t=some (.slice e)) (hl:leaves P 8 e=some [i,i]) (hC:P.cellsOf e=2) (hi:P.underlying i=some (.int .i64))
  (h:Holds1 enc P w 0 (fun _ => true) held t v):∃ l:List Rl,Sl w w.heap.size 2 v l.length (rlc l):=by
 obtain ⟨A,n,cap,rfl,hn,hm,hc⟩:=Holds1.flats ht hl hC (by simp) h
 rcases Nat.eq_zero_or_pos n with hz | hz
 ·subst hz
  exact ⟨[],⟨by simp [rlc],A,cap,rfl,by simp,hm,fun h => absurd h (by simp)⟩⟩
 ·obtain ⟨b,off,rfl,hb,hcell⟩:=hc hz
  have hex:∀ j,j < n→∃ x:Rl,w.cell? ⟨b,off + j * 2,none⟩=some (.int .i64 x.pv)∧w.cell? ⟨b,off + j * 2 + 1,none⟩=some (.int .i64 x.ac):=by
   intro j hj
   obtain ⟨u0,e0,g0⟩:=hcell j hj 0 i rfl
   obtain ⟨u1,e1,g1⟩:=hcell j hj 1 i rfl
   obtain ⟨a,rfl,ha⟩:=g0.i64 hi
   obtain ⟨m,rfl,hm1⟩:=g1.i64 hi
   exact ⟨⟨a,m⟩,e0,e1⟩
  obtain ⟨l,hlen,hq⟩:=list_of rl0 n hex
  subst hlen
  exact ⟨l,Sl.of_rls rfl hn hm hb fun j hj => hq j hj⟩
theorem open_plan {r:Reach} {b0:Nat} {t tr tv er ev i u q:TypeId} {fs:Array Field} {v:Value} {d:DataW H} {p:List MemPlace} (hs:P.underlying t=some (.struct fs)) (hl:leaves P 8 t=some [i,tr,tv,i,i,i,i,i,u,u]) (hn:P.cellsOf t=10)
  (hi:P.underlying i=some (.int .i64)) (hu:P.underlying u=some (.int .u32)) (hq:P.underlying q=some (.int .u64)) (htr:P.underlying tr=some (.slice er)) (hlr:leaves P 8 er=some [i,i]) (hcr:P.cellsOf er=2) (htv:P.underlying tv=some (.slice ev)) (hlv:leaves P 8 ev=some [i,q,q]) (hcv:P.cellsOf ev=3)
  (hv:Value.okWide P w r b0 t v) (h:DataW.Trod enc P w 0 (fun _ => true) held t v d p) :
  ∃ (P0:Int) (vr vv:Value) (a b c T R:Int) (nm sh:Nat) (lr:List Rl) (lv:List Vl),v=planV P0 vr vv a b c T R nm sh∧Sl w w.heap.size 2 vr lr.length (rlc lr)∧Sl w w.heap.size 3 vv lv.length (vlc lv)∧(∀ x ∈ lv,x.ok):=by
 obtain ⟨l,rfl,hlen,hf⟩:=open_flat hs hl hn hv h
 obtain ⟨u0,e0,g0⟩:=hf 0 i rfl
 obtain ⟨u1,e1,g1⟩:=hf 1 tr rfl
 obtain ⟨u2,e2,g2⟩:=hf 2 tv rfl
 obtain ⟨u3,e3,g3⟩:=hf 3 i rfl
 obtain ⟨u4,e4,g4⟩:=hf 4 i rfl
 obtain ⟨u5,e5,g5⟩:=hf 5 i rfl
 obtain ⟨u6,e6,g6⟩:=hf 6 i rfl
 obtain ⟨u7,e7,g7⟩:=hf 7 i rfl
 obtain ⟨u8,e8,g8⟩:=hf 8 u rfl
 obtain ⟨u9,e9,g9⟩:=hf 9 u rfl
 obtain ⟨x0,rfl,_⟩:=g0.i64 hi
 obtain ⟨lr,hr⟩:=Holds1.rls htr hlr hcr hi g1
 obtain ⟨lv,hvv,hok⟩:=Holds1.vls htv hlv hcv hi hq g2
 obtain ⟨x3,rfl,_⟩:=g3.i64 hi
 obtain ⟨x4,rfl,_⟩:=g4.i64 hi
 obtain ⟨x5,rfl,_⟩:=g5.i64 hi
 obtain ⟨x6,rfl,_⟩:=g6.i64 hi
 obtain ⟨x7,rfl,_⟩:=g7.i64 hi
 obtain ⟨x8,rfl,_⟩:=g8.u32 hu
 obtain ⟨x9,rfl,_⟩:=g9.u32 hu
 match l,hlen with
 | [y0,y1,y2,y3,y4,y5,y6,y7,y8,y9],_ =>
  simp at e0 e1 e2 e3 e4 e5 e6 e7 e8 e9
  subst e0 e1 e2 e3 e4 e5 e6 e7 e8 e9
  exact ⟨x0,_,_,x3,x4,x5,x6,x7,x8,x9,lr,lv,rfl,hr,hvv,hok⟩
end
end
section
open Go.ChangeShapes Go.WideShapes Go.RowKit Go.Deep
def Ops17 (w:World) (v:Value):Prop :=
 ∃ (A:Option Addr) (n cap:Nat),v=.slice A n cap∧n≤cap∧cap≤maxLen∧(0 < n→∃ b off,A=some ⟨b,off,none⟩∧b < w.heap.size ∧
  ∀ i,i < n→∃ (kd po tt vi sx kv:Int) (km me un nw li:Nat) (sh bu id:Int),((-9223372036854775808≤vi∧vi≤9223372036854775807)∧km < 18446744073709551616∧me < 18446744073709551616∧un < 18446744073709551616∧nw < 4294967296∧li < 4294967296)∧w.cell? ⟨b,off + i * 14 + 0,none⟩=some (.int .i64 kd)∧w.cell? ⟨b,off + i * 14 + 1,none⟩=some (.int .i64 po)∧w.cell? ⟨b,off + i * 14 + 2,none⟩=some (.int .i64 tt)∧w.cell? ⟨b,off + i * 14 + 3,none⟩=some (.int .i64 vi)∧w.cell? ⟨b,off + i * 14 + 4,none⟩=some (.int .i64 sx)∧w.cell? ⟨b,off + i * 14 + 5,none⟩=some (.int .i64 kv)∧w.cell? ⟨b,off + i * 14 + 6,none⟩=some (.int .u64 (km:Nat))∧w.cell? ⟨b,off + i * 14 + 7,none⟩=some (.int .u64 (me:Nat))∧w.cell? ⟨b,off + i * 14 + 8,none⟩=some (.int .u64 (un:Nat))∧w.cell? ⟨b,off + i * 14 + 9,none⟩=some (.int .u32 (nw:Nat))∧w.cell? ⟨b,off + i * 14 + 10,none⟩=some (.int .u32 (li:Nat))∧w.cell? ⟨b,off + i * 14 + 11,none⟩=some (.int .i64 sh)∧w.cell? ⟨b,off + i * 14 + 12,none⟩=some (.int .i64 bu)∧w.cell? ⟨b,off + i * 14 + 13,none⟩=some (.int .i64 id))
section
variable {H:Type} {enc:TypeId × Value→H} {P:Program} {w:World} {held:Bool}
theorem open_ops17 {r:Reach} {b0:Nat} {t e i q u:TypeId} {v:Value} {d:DataW H} {p:List MemPlace} (ht:P.underlying t=some (.slice e)) (hl:leaves P 8 e=some [i,i,i,i,i,i,q,q,q,u,u,i,i,i]) (hC:P.cellsOf e=14)
  (hi:P.underlying i=some (.int .i64)) (hq:P.underlying q=some (.int .u64)) (hu:P.underlying u=some (.int .u32))
  (hv:Value.okWide P w r b0 t v) (h:DataW.Trod enc P w 0 (fun _ => true) held t v d p):Ops17 w v:=by
 obtain ⟨A,n,cap,rfl,hn,hm,hc⟩:=open_flats ht hl hC (by simp) hv h
 refine ⟨A,n,cap,rfl,hn,hm,fun h0 => ?_⟩
 obtain ⟨b,off,rfl,hb,hcell⟩:=hc h0
 refine ⟨b,off,rfl,hb,fun j hj => ?_⟩
 obtain ⟨u0,e0,g0⟩:=hcell j hj 0 i rfl
 obtain ⟨u1,e1,g1⟩:=hcell j hj 1 i rfl
 obtain ⟨u2,e2,g2⟩:=hcell j hj 2 i rfl
 obtain ⟨u3,e3,g3⟩:=hcell j hj 3 i rfl
 obtain ⟨u4,e4,g4⟩:=hcell j hj 4 i rfl
 obtain ⟨u5,e5,g5⟩:=hcell j hj 5 i rfl
 obtain ⟨u6,e6,g6⟩:=hcell j hj 6 q rfl
 obtain ⟨u7,e7,g7⟩:=hcell j hj 7 q rfl
 obtain ⟨u8,e8,g8⟩:=hcell j hj 8 q rfl
 obtain ⟨u9,e9,g9⟩:=hcell j hj 9 u rfl
 obtain ⟨u10,e10,g10⟩:=hcell j hj 10 u rfl
 obtain ⟨u11,e11,g11⟩:=hcell j hj 11 i rfl
 obtain ⟨u12,e12,g12⟩:=hcell j hj 12 i rfl
 obtain ⟨u13,e13,g13⟩:=hcell j hj 13 i rfl
 obtain ⟨x0,rfl,b0⟩:=g0.i64 hi
 obtain ⟨x1,rfl,b1⟩:=g1.i64 hi
 obtain ⟨x2,rfl,b2⟩:=g2.i64 hi
 obtain ⟨x3,rfl,b3⟩:=g3.i64 hi
 obtain ⟨x4,rfl,b4⟩:=g4.i64 hi
 obtain ⟨x5,rfl,b5⟩:=g5.i64 hi
 obtain ⟨x6,rfl,b6⟩:=g6.u64 hq
 obtain ⟨x7,rfl,b7⟩:=g7.u64 hq
 obtain ⟨x8,rfl,b8⟩:=g8.u64 hq
 obtain ⟨x9,rfl,b9⟩:=g9.u32 hu
 obtain ⟨x10,rfl,b10⟩:=g10.u32 hu
 obtain ⟨x11,rfl,b11⟩:=g11.i64 hi
 obtain ⟨x12,rfl,b12⟩:=g12.i64 hi
 obtain ⟨x13,rfl,b13⟩:=g13.i64 hi
 exact ⟨x0,x1,x2,x3,x4,x5,x6,x7,x8,x9,x10,x11,x12,x13,⟨b3,b6,b7,b8,b9,b10⟩,e0,e1,e2,e3,e4,e5,e6,e7,e8,e9,e10,e11,e12,e13⟩
end
end
section
open Go.RowKit
set_option maxHeartbeats 1600000 in
theorem model_Stand {w:World} {L A S1 Q bp:Nat} {uv:Value} {P r nv:Nat} {lv:List Vl} {st:Nat→Int × Nat} {G:Nat→Value} (h:MdAt w L A S1 Q uv (.pointer (some ⟨bp,0,none⟩)) P r nv lv st G) (p:Nat) (hp:p < P) :
  Calls Tryz.prog 14 #[.pointer (some ⟨A,0,none⟩),.int .i64 (p:Nat)] w (Says (.agg #[.int .i64 (st p).1,.int .u32 ((st p).2:Nat)]) w):=by
 have hpb:portB P (p:Int)=true:=by unfold portB; simp; omega
 have hip:=fun w' (hb:Below w.heap.size w w') => model_isPort (h.call hb) (p:Int)
 rw [hpb] at hip
 have HIP:=Lib.hid hip
 have HH:=Lib.hid h
 have d1:decide (p < P)=true:=decide_eq_true hp
 have HPP:=Lib.hid hp
 have hAz:A < w.heap.size:=h.cells.lt
 clear h hip hpb hp
 go_enter Tryz.func14,Tryz.ntmps14
 go_wp2_with fail
 refine (HIP.out _ ((Below.refl _ _).alloc (Nat.le_refl _) _)).mono ?_
 rintro e w1 ⟨rfl,hb⟩
 have hBZ:Below w.heap.size w w1:=((Below.refl _ _).alloc (Nat.le_refl _) _).trans (hb.mono (by simp))
 have r0:w1.cell? ⟨w.heap.size,0,none⟩=some (.int .i64 0):=by
  rw [hb.cell (by show w.heap.size < _; simp)]
  simp [go_sem]
 have r1:w1.cell? ⟨w.heap.size,1,none⟩=some (.int .u32 0):=by
  rw [hb.cell (by show w.heap.size < _; simp)]
  simp [go_sem]
 have rf:∀ o,w1.frozen? ⟨w.heap.size,o,none⟩=false:=fun o => by
  rw [hb.frozen (p:=⟨w.heap.size,o,none⟩) (by show w.heap.size < _; simp)]
  simp [go_sem]
 have f0:=rf 0
 have f1:=rf 1
 have HM:=Lib.hid (HH.out.call hBZ)
 have HBZ:=Lib.hid hBZ
 have c1:w1.cell? ⟨A,1,none⟩=some (.slice (some ⟨S1,0,none⟩) P (capV (G 100))):=HM.out.cells.cell (by omega)
 obtain ⟨s0,s1⟩:=thereS HM.out p HPP.out
 clear hb hBZ rf
 go_wp2
 exact bodyPost_ret (v:=.agg #[.int .i64 (st p).1,.int .u32 ((st p).2:Nat)]) (by simp [results,Tryz.results14,go_sem,r0,r1]) rfl ⟨rfl,(by (repeat' (first | (with_reducible exact HBZ.out) | (with_reducible refine Below.setCell ?_ ?_ _) | go_size)))⟩
end
section
open Go.RowKit
section
variable {P r S B n nv:Nat} {s:Ms} {o:Od}
theorem dS2_cl (h:clG s.g):clG (dS2 P r S B n nv s o).g:=by
 unfold dS2
 split
 ·exact updR_cl h (put_cl fun j => own_own _) _
 ·exact h
theorem dS4_cl (h:clG s.g):clG (dS4 P r S B n nv s o).g:=by
 unfold dS4
 split
 ·exact updR_cl h (put_cl fun j => own_own _) _
 ·exact h
theorem dS6_cl (h:clG s.g):clG (dS6 P r S B n nv s o).g:=by
 unfold dS6
 split
 ·exact h
 ·exact updR_cl h (sweep_cl fun j => own_own _) _
theorem dS7_cl (h:clG s.g):clG (dS7 P r S B n nv s o).g:=by
 intro i j
 show ownP (flG o.po o.vi s.g (S * B) i j)=flG o.po o.vi s.g (S * B) i j
 unfold flG
 split
 ·exact sweep_cl (fun j => own_own _) j
 ·exact h i j
theorem dS8_cl (h:clG s.g):clG (dS8 P r S B n nv s o).g:=by
 unfold dS8
 split
 ·split <;> exact h
 ·exact h
theorem dS9_cl (h:clG s.g):clG (dS9 P r S B n nv s o).g:=by
 unfold dS9
 split <;> exact h
theorem dS10_cl (h:clG s.g):clG (dS10 P r S B n nv s o).g:=by
 unfold dS10
 split
 ·split
  ·split <;> exact h
  ·exact h
 ·exact h
theorem dS11_cl (h:clG s.g):clG (dS11 P r S B n nv s o).g:=by
 unfold dS11
 split
 ·split
  ·split <;> exact h
  ·exact h
 ·exact h
theorem doS_cl (h:clG s.g):clG (doS P r S B n nv s o).g:=by
 unfold doS
 split
 ·exact dS2_cl h
 ·split
  ·exact dS4_cl h
  ·split
   ·exact updR_cl h (drop_cl fun j => own_own _) _
   ·split
    ·exact dS6_cl h
    ·split
     ·exact dS7_cl h
     ·split
      ·exact dS8_cl h
      ·split
       ·exact dS9_cl h
       ·split
        ·exact dS10_cl h
        ·split
         ·exact dS11_cl h
         ·exact h
end
end
end Go.Proofs.YtpcapdpglpgcbaaGreat
