/-
  Words and contracts that a statement's proof rests on (Base). No statement is proved here.
-/
import Derived.Below
import Derived.WalkKit
import Derived.WalkSpells
import Derived.Laws.OwnMore
import Derived.Maps.AppendAt
import Derived.Deep.AppendLies
import Derived.ProofKit
import Derived.OpenShut
import Derived.ChangeSame
import Derived.ChangeOld
import Derived.Carry
import Derived.Handy
import Derived.Deep.Draws
set_option linter.unusedVariables false
set_option linter.unusedSimpArgs false
namespace Go.Proofs.Ythloabdfkakehaa
open Go.RowKit Go.WideShapes Go.ChangeShapes
def Sl (w:World) (B size:Nat) (v:Value) (n:Nat) (xs:List Value):Prop :=
 xs.length=n * size∧∃ A cap,v=.slice A n cap∧n≤cap∧cap≤maxLen ∧
  (0 < n→∃ b off,A=some ⟨b,off,none⟩∧b < B∧∀ j,j < n * size→w.cell? ⟨b,off + j,none⟩=xs[j]?)
section
variable {w w':World} {B B' size n:Nat} {v:Value} {xs:List Value}
theorem Sl.len (h:Sl w B size v n xs):xs.length=n * size:=h.1
theorem Sl.form (h:Sl w B size v n xs):∃ A cap,v=.slice A n cap∧n≤cap∧cap≤maxLen:=by
 obtain ⟨_,A,cap,hv,h1,h2,_⟩:=h
 exact ⟨A,cap,hv,h1,h2⟩
theorem Sl.at_ (h:Sl w B size v n xs) (hn:0 < n):∃ b off cap,v=.slice (some ⟨b,off,none⟩) n cap∧n≤cap∧cap≤maxLen∧b < B∧∀ j,j < n * size→w.cell? ⟨b,off + j,none⟩=xs[j]?:=by
 obtain ⟨_,A,cap,hv,h1,h2,h3⟩:=h
 obtain ⟨b,off,rfl,hb,hc⟩:=h3 hn
 exact ⟨b,off,cap,hv,h1,h2,hb,hc⟩
theorem Sl.keep (h:Sl w B size v n xs) (hk:∀ p:Addr,p.block < B→w'.cell? p=w.cell? p):Sl w' B size v n xs:=by
 obtain ⟨h0,A,cap,hv,h1,h2,h3⟩:=h
 refine ⟨h0,A,cap,hv,h1,h2,fun hn => ?_⟩
 obtain ⟨b,off,hA,hb,hc⟩:=h3 hn
 exact ⟨b,off,hA,hb,fun j hj => (hk _ hb).trans (hc j hj)⟩
theorem Sl.mono (h:Sl w B size v n xs) (hB:B≤B'):Sl w B' size v n xs:=by
 obtain ⟨h0,A,cap,hv,h1,h2,h3⟩:=h
 refine ⟨h0,A,cap,hv,h1,h2,fun hn => ?_⟩
 obtain ⟨b,off,hA,hb,hc⟩:=h3 hn
 exact ⟨b,off,hA,Nat.lt_of_lt_of_le hb hB,hc⟩
theorem Sl.below (h:Sl w B size v n xs) (hb:Below B w w'):Sl w' B size v n xs:=h.keep fun _ hp => hb.cell hp
theorem Sl.alloc (h:Sl w B size v n xs) (hB:B≤w.heap.size) (o:Obj):Sl (w.alloc o) B size v n xs:=h.below ((Below.refl _ _).alloc hB o)
theorem Sl.drew (h:Sl w B size v n xs):Sl w.drew B size v n xs:=h
theorem Sl.drewN (h:Sl w B size v n xs) (k:Nat):Sl (w.drewN k) B size v n xs:=h
theorem Sl.nil (w:World) (B size:Nat):Sl w B size (.slice none 0 0) 0 []:=⟨by simp,none,0,rfl,Nat.le_refl _,by simp [maxLen],fun h => absurd h (by omega)⟩
theorem Sl.of_own {e:TypeId} {base:Nat} (h:w.ownsRow base e size v n xs):Sl w w.heap.size size v n xs:=by
 refine ⟨h.1,?_⟩
 rcases h.2 with ⟨rfl,rfl⟩ | ⟨g,cap,cur,rfl,hb,hg,hnc,hcm,hcs,htake⟩
 ·exact ⟨none,0,rfl,Nat.le_refl _,by simp [maxLen],fun h => absurd h (by omega)⟩
 ·refine ⟨_,cap,rfl,hnc,hcm,fun hn => ⟨g,0,rfl,(Array.getElem?_eq_some_iff.1 hg).1,fun j hj => ?_⟩⟩
  have:=h.cellAt j hj
  simpa using this
theorem own_below {e:TypeId} {base:Nat} (h:w.ownsRow base e size v n xs) (hb:Below w.heap.size w w'):w'.ownsRow base e size v n xs :=
 h.kept ⟨hb.os,hb.tape,hb.output,hb.size,fun k hk _ => hb.block k hk⟩ (row:=none) (by cases v.ownBlock <;> simp)
theorem own_base {e:TypeId} {base base':Nat} (h:w.ownsRow base e size v n xs) (hb:base'≤base):w.ownsRow base' e size v n xs:=by
 refine ⟨h.1,?_⟩
 rcases h.2 with hn | ⟨g,cap,cur,hv,hg,r⟩
 ·exact .inl hn
 ·exact .inr ⟨g,cap,cur,hv,Nat.le_trans hb hg,r⟩
theorem own_full {g:Nat} {cs:Array Value} {e:TypeId} (hg:w.heap[g]?=some (.cells cs e (0,0))) (hB:B≤g) (hs:cs.size=n) (hm:n≤maxLen) (hx:cs.toList=xs):w.ownsRow B e 1 (.slice (some ⟨g,0,none⟩) n n) n xs:=by
 subst hs; subst hx
 exact ⟨by simp,.inr ⟨g,cs.size,cs,rfl,hB,hg,Nat.le_refl _,hm,by simp,by simp [List.take_of_length_le]⟩⟩
theorem below_grown_base {e:TypeId} {base:Nat} (h:w.ownsRow base e size v n xs) (hb:base≤w.heap.size) (hg:w.grownBy w' v.ownBlock):Below base w w' :=
 (Below.refl _ _).grown hg hb fun k hk => (h.lt k hk).1
end
def ST (P:Program) (t e:TypeId) (z:Value) (size bytes:Nat):Prop :=
 ∃ i,P.underlying t=some (.slice e)∧P.info? e=some i∧i.zero=some z∧i.size=size∧i.bytes=bytes∧z.cells.size=size∧0 < size∧0 < bytes
theorem ST.mk {P:Program} {t e:TypeId} {z:Value} {size bytes:Nat} (h:P.underlying t=some (.slice e)) (hi:(P.info? e).map (fun i => (i.zero,i.size,i.bytes))=some (some z,size,bytes)) (hz:z.cells.size=size) (hs:0 < size) (hb:0 < bytes):ST P t e z size bytes:=by
 obtain ⟨i,h1,h2,h3,h4⟩:=info_parts hi
 exact ⟨i,h,h1,h2,h3,h4,hz,hs,hb⟩
theorem Sl.lit (w:World) (cs:Array Value) (e:TypeId) (n:Nat) (hs:cs.size=n) (hm:n≤maxLen):Sl (w.alloc (.cells cs e)) (w.heap.size + 1) 1 (.slice (some ⟨w.heap.size,0,none⟩) n n) n cs.toList:=by
 have:=Sl.of_own (own_full (w:=w.alloc (.cells cs e)) (B:=w.heap.size) (heap_alloc_new w (.cells cs e)) (Nat.le_refl _) hs hm rfl)
 simpa using this
theorem Sl.lit_at {w:World} {cs:Array Value} {e:TypeId} {n g:Nat} (hg:w.heap.size=g) (hs:cs.size=n) (hm:n≤maxLen):Sl (w.alloc (.cells cs e)) (g + 1) 1 (.slice (some ⟨g,0,none⟩) n n) n cs.toList:=by
 subst hg
 exact Sl.lit w cs e n hs hm
section
variable {P:Program} (w:World)
theorem run_app {t ty e:TypeId} {z:Value} {size bytes:Nat} (hT:ST P t e z size bytes) (base:Nat)
  (v:Value) (n:Nat) (xs:List Value) (hown:w.ownsRow base e size v n xs) (B:Nat) (u:Value) (m:Nat) (news:List Value) (hu:Sl w B size u m news) (h1:∀ u ∈ news,u.oneCell'=true)
  (hb:(n + m) * bytes≤140737488355328) (hbase:base≤w.heap.size) :
  ∃ v' w',(Builtin.append_ #[t,t] ty #[v,u]).run P w=.ok v' w'∧w'.ownsRow base e size v' (n + m) (xs ++ news)∧w.grownBy w' v.ownBlock ∧
   (v'.ownBlock=v.ownBlock ∨ v'.ownBlock=some w.heap.size):=by
 obtain ⟨i,ht,hi,hz,hsz,hby,hzs,hs0,hb0⟩:=hT
 have hmx:n + m≤maxLen:=by
  have:n + m≤(n + m) * bytes:=Nat.le_mul_of_pos_right _ hb0
  simp only [maxLen]; omega
 obtain ⟨hl,A,cap,rfl,hm,hc,hA⟩:=hu
 rcases Nat.eq_zero_or_pos m with h0 | h0
 ·subst h0
  have hn:news=[]:=List.eq_nil_of_length_eq_zero (by simpa using hl)
  subst hn
  rcases A with _ | a
  ·refine ⟨v,w,?_,by simpa using hown,World.grownBy.refl w _,.inl rfl⟩
   rcases hown.2 with ⟨rfl,rfl⟩ | ⟨g,cap',cur,rfl,_,_,hnc,_⟩
   ·simp [Builtin.append_,run_underlying ht,sizeOf,typeInfo,hi,Builtin.lenOf,Builtin.firstCells]
   ·simp [Builtin.append_,run_underlying ht,sizeOf,typeInfo,hi,Builtin.lenOf,Builtin.firstCells,hnc,storeCells]
  ·obtain ⟨v',w',hr,h2,h3,_,h5⟩:=run_append_own_at (P:=P) w base t ty e i z size bytes ht hi hz hsz hby hzs hs0 v n xs hown a 0 cap [] (by simp) (by simp) (by simp) hmx hb hbase
   exact ⟨v',w',hr,h2,h3,h5⟩
 ·obtain ⟨b,off,rfl,_,hcell⟩:=hA h0
  have hcells:∀ j u,news[j]?=some u→w.cell? ((⟨b,off,none⟩:Addr).add j)=some u:=by
   intro j u hu
   have hj:j < m * size:=by rw [← hl]; exact (List.getElem?_eq_some_iff.1 hu).1
   have:=hcell j hj
   rw [hu] at this
   have hadd:(⟨b,off,none⟩:Addr).add j=⟨b,off + j,none⟩:=by unfold Addr.add; split <;> simp_all
   rw [hadd]; exact this
  obtain ⟨v',w',hr,h2,h3,_,h5⟩:=run_append_own_at (P:=P) w base t ty e i z size bytes ht hi hz hsz hby hzs hs0 v n xs hown ⟨b,off,none⟩ m cap news hl hcells h1 hmx hb hbase
  exact ⟨v',w',hr,h2,h3,h5⟩
theorem Sl.cutTo {w:World} {B size n k:Nat} {A:Option Addr} {cap:Nat} {xs:List Value} (h:Sl w B size (.slice A n cap) n xs) (hk:k≤n):Sl w B size (.slice A k cap) k (xs.take (k * size)):=by
 obtain ⟨hl,A',cap',hv,h1,h2,h3⟩:=h
 injection hv with e1 _ e2
 subst e1 e2
 have hks:k * size≤n * size:=Nat.mul_le_mul_right _ hk
 refine ⟨by rw [List.length_take,hl]; omega,A,cap,rfl,by omega,h2,fun h0 => ?_⟩
 obtain ⟨b,off,hA,hB,hc⟩:=h3 (by omega)
 refine ⟨b,off,hA,hB,fun j hj => ?_⟩
 rw [hc j (by omega),List.getElem?_take,if_pos hj]
theorem Sl.dropAt {w:World} {B n k b off cap:Nat} {xs:List Value} (h:Sl w B 1 (.slice (some ⟨b,off,none⟩) n cap) n xs) (hk:k≤n):Sl w B 1 (.slice (some ⟨b,off + k,none⟩) (n - k) (cap - k)) (n - k) (xs.drop k):=by
 obtain ⟨hl,A',cap',hv,h1,h2,h3⟩:=h
 injection hv with e1 _ e2
 subst e1 e2
 refine ⟨by rw [List.length_drop,hl]; omega,_,cap - k,rfl,by omega,by omega,fun h0 => ?_⟩
 obtain ⟨b',off',hA,hB,hc⟩:=h3 (by omega)
 injection hA with hA
 injection hA with e3 e4
 subst e3 e4
 refine ⟨b,off + k,rfl,hB,fun j hj => ?_⟩
 rw [Nat.add_assoc,hc (k + j) (by omega),List.getElem?_drop]
theorem Sl.length {w:World} {B n:Nat} {v:Value} {l:List Nat} (h:Sl w B 1 v n (l.map fun (x:Nat) => .int .u8 (x:Int))):l.length=n:=by
 have:=h.1
 simpa using this
theorem wp_app {o:Oper} {a:Act} {K:Act→World→Prop} {Q:Exit→Act→World→Prop} {t e:TypeId} {z:Value} {size bytes:Nat} (hT:ST P t e z size bytes) (s x:Operand)
  (ho:o.op=.call { callee:=.builtin .append,args:=#[s,x],argTypes:=#[t,t] }) (base:Nat)
  (v:Value) (n:Nat) (xs:List Value) (hs:a.eval s=v) (hown:w.ownsRow base e size v n xs) (B:Nat) (u:Value) (m:Nat) (news:List Value) (hx:a.eval x=u) (hu:Sl w B size u m news) (h1:∀ u ∈ news,u.oneCell'=true)
  (hb:(n + m) * bytes≤140737488355328) (hbase:base≤w.heap.size)
  (h:∀ v' w',w'.ownsRow base e size v' (n + m) (xs ++ news)→w.grownBy w' v.ownBlock→(v'.ownBlock=v.ownBlock ∨ v'.ownBlock=some w.heap.size)→Below base w w'→K (a.put o.dst v') w'):o.wp P a w K Q:=by
 obtain ⟨v',w',hr,h2,h3,h4⟩:=run_app (P:=P) w hT (ty:=o.type) base v n xs hown B u m news hu h1 hb hbase
 unfold Oper.wp execOp
 simp only [ho,resolve,invoke,builtin,Sem.run_bind,Sem.run_pure,Result.andThen_ok,List.map_toArray,List.map_cons,List.map_nil,hs,hx,hr]
 exact h v' w' h2 h3 h4 (below_grown_base hown hbase h3)
theorem wpList_app {ops:Array Oper} {rest:List Oper} {o:Oper} {a:Act} {Q:Exit→Act→World→Prop} (hgd:o.guard=none) {t e:TypeId} {z:Value} {size bytes:Nat} (hT:ST P t e z size bytes) (s x:Operand)
  (ho:o.op=.call { callee:=.builtin .append,args:=#[s,x],argTypes:=#[t,t] }) (base:Nat)
  (v:Value) (n:Nat) (xs:List Value) (hs:a.eval s=v) (hown:w.ownsRow base e size v n xs) (B:Nat) (u:Value) (m:Nat) (news:List Value) (hx:a.eval x=u) (hu:Sl w B size u m news) (h1:∀ u ∈ news,u.oneCell'=true)
  (hb:(n + m) * bytes≤140737488355328) (hbase:base≤w.heap.size)
  (h:∀ v' w',w'.ownsRow base e size v' (n + m) (xs ++ news)→w.grownBy w' v.ownBlock→(v'.ownBlock=v.ownBlock ∨ v'.ownBlock=some w.heap.size)→Below base w w'→wpList P ops Q rest (a.put o.dst v') w'):wpList P ops Q (o :: rest) a w :=
 wpList_plain hgd fun _ hK => wp_app w hT s x ho base v n xs hs hown B u m news hx hu h1 hb hbase fun v' w' h2 h3 h4 h5 => hK _ _ (h v' w' h2 h3 h4 h5)
theorem wpList_apv {ops:Array Oper} {rest:List Oper} {o:Oper} {a:Act} {Q:Exit→Act→World→Prop} (hgd:o.guard=none) {t e:TypeId} {z:Value} {size bytes:Nat} (hT:ST P t e z size bytes) (s x:Operand)
  (ho:o.op=.call { callee:=.builtin .append,args:=#[s,x],argTypes:=#[t,t] }) (base:Nat)
  (v:Value) (n:Nat) (xs:List Value) (hs:a.eval s=v) (hown:w.ownsRow base e size v n xs) (B:Nat) (u:Value) (m:Nat) (news:List Value) (hx:a.eval x=u) (hu:Sl w B size u m news) (h1:∀ u ∈ news,u.oneCell'=true)
  (hb:(n + m) * bytes≤140737488355328) (hbase:base≤w.heap.size)
  (h:∀ A c w',w'.ownsRow base e size (.slice A (n + m) c) (n + m) (xs ++ news)→w.grownBy w' v.ownBlock→((Value.slice A (n + m) c).ownBlock=v.ownBlock ∨ (Value.slice A (n + m) c).ownBlock=some w.heap.size)→Below base w w'→wpList P ops Q rest (a.put o.dst (.slice A (n + m) c)) w'):wpList P ops Q (o :: rest) a w :=
 wpList_app w hgd hT s x ho base v n xs hs hown B u m news hx hu h1 hb hbase fun v' w' h2 h3 h4 h5 => by
  obtain ⟨A,c,rfl,_,_⟩:=(Sl.of_own h2).form
  exact h A c w' h2 h3 h4 h5
theorem step_app {ops:Array Oper} {o:Oper} {a:Act} {K:Act→World→Prop} {Q:Exit→Act→World→Prop} {E:Prop} (hgd:o.guard=none) {t e:TypeId} {z:Value} {size bytes:Nat} (hT:ST P t e z size bytes) (s x:Operand)
  (ho:o.op=.call { callee:=.builtin .append,args:=#[s,x],argTypes:=#[t,t] }) (base:Nat)
  (v:Value) (n:Nat) (xs:List Value) (hs:a.eval s=v) (hown:w.ownsRow base e size v n xs) (B:Nat) (u:Value) (m:Nat) (news:List Value) (hx:a.eval x=u) (hu:Sl w B size u m news) (h1:∀ u ∈ news,u.oneCell'=true)
  (hb:(n + m) * bytes≤140737488355328) (hbase:base≤w.heap.size)
  (h:∀ v' w',w'.ownsRow base e size v' (n + m) (xs ++ news)→w.grownBy w' v.ownBlock→(v'.ownBlock=v.ownBlock ∨ v'.ownBlock=some w.heap.size)→Below base w w'→K (a.put o.dst v') w') :
  if Region.wanted o (yielded ops a.tmps)=true then Oper.wp P o a w K Q else E:=by
 have hw:Region.wanted o (yielded ops a.tmps)=true:=by simp [Region.wanted,hgd]
 rw [if_pos hw]
 exact wp_app w hT s x ho base v n xs hs hown B u m news hx hu h1 hb hbase h
end
def bv (l:List Nat):List Value:=l.map fun (n:Nat) => .int .u8 (n:Int)
theorem bv_length (l:List Nat):(bv l).length=l.length:=by simp [bv]
theorem bv_one (l:List Nat):∀ u ∈ bv l,u.oneCell'=true:=by
 intro u hu
 obtain ⟨n,_,rfl⟩:=List.mem_map.1 hu
 rfl
theorem bv_at (l:List Nat) (j:Nat) (h:j < l.length):(bv l)[j]?=some (.int .u8 (l[j]:Int)):=by
 simp [bv,List.getElem?_map,List.getElem?_eq_getElem h]
theorem trodAll_below {H:Type} {enc:TypeId × Value→H} {P:Program} (hl:laidOutB P=true) {W W':World} (hb:Below W.heap.size W W') :
  ∀ (ts:List TypeId) (vs:List Value) (ds:List (DataW H)) (ps:List MemPlace),(ts.all fun t => P.readableRec t && decide (t < P.types.size))=true→DataW.TrodAll enc P W 0 (fun _ => true) true ts vs ds ps→(∀ x ∈ ps,x.block < W.heap.size) →
   DataW.TrodAll enc P W' 0 (fun b => decide (b < W.heap.size)) true ts vs ds ps
 | [],vs,ds,ps,_,h,_ => by
  obtain ⟨rfl,rfl,rfl⟩:=trodAll_nil h
  exact trodAll_mk0
 | t :: ts,vs,ds,ps,ha,h,hlt => by
  obtain ⟨v,vs',d,ds',p,q,rfl,rfl,rfl,h0,hr⟩:=trodAll_cons h
  simp only [List.all_cons,Bool.and_eq_true,decide_eq_true_eq] at ha
  exact trodAll_cons_mk (Below.trod hl ha.1.1 ha.1.2 h0 hb fun x hx => hlt x (by simp [hx])) (trodAll_below hl hb ts vs' ds' q ha.2 hr fun x hx => hlt x (by simp [hx]))
theorem close_true {H:Type} {enc:TypeId × Value→H} {P:Program} {f:Func} {s:ChangeSpec} {b:TypeId} {W W':World} {args:Array Value} {ds gs:List (DataW H)} {before:List MemPlace}
  (hl:laidOutB P=true) (hb:P.underlying b=some .bool) (hr:f.resultTypes=#[b]) (hp:(f.params.toList.all fun t => P.readableRec t && decide (t < P.types.size))=true)
  (hvars:s.vars=[]) (hfn:s.fn H ds={ results:=[.lit (.bool true)],args:=ds })
  (hW:DataW.Whole enc P f.params.toList s.vars false W args.toList ds gs before) (hbel:Below W.heap.size W W') :
  ∃ v,Ending.returned (.bool true)=.returned v∧s.post enc P f false true false false W args v W':=by
 have hlt:∀ p ∈ before,p.block < W.heap.size:=fun p hp => hW.lt p hp
 have hW':=hW
 obtain ⟨p,q,hA,hV,rfl,hfz,hnd⟩:=hW
 rw [hvars] at hV
 obtain ⟨rfl,rfl⟩:=trodVars_none hV
 refine ⟨_,rfl,ds,[],p ++ [],[],p,[],hW',?_,?_,?_,hbel.frame _,fun h => by cases h⟩
 ·rw [List.append_nil,hfn,hr]
  exact trodAll_mk1 (shut_bool hb _)
 ·rw [List.append_nil,hfn]
  exact trodAll_below hl hbel _ _ _ _ hp hA fun x hx => hlt x (by simp [hx])
 ·rw [List.append_nil,hfn,hvars]
  rfl
theorem nats_of_u8:∀ zs:List Int,(∀ n ∈ zs,(Lit.int .u8 n).wf=true)→∃ l:List Nat,zs=l.map (fun n:Nat => (n:Int))∧∀ x ∈ l,x < 256
 | [],_ => ⟨[],rfl,by simp⟩
 | z :: zs,h => by
  obtain ⟨l,rfl,hl⟩:=nats_of_u8 zs fun n hn => h n (by simp [hn])
  have:=Go.bounds_u8 (h z (by simp))
  refine ⟨z.toNat :: l,?_,?_⟩
  ·simp; omega
  ·intro x hx
   rcases List.mem_cons.1 hx with rfl | hx
   ·omega
   ·exact hl x hx
section
variable {H:Type} {enc:TypeId × Value→H} {P:Program} {w:World} {held:Bool}
end
end Go.Proofs.Ythloabdfkakehaa
