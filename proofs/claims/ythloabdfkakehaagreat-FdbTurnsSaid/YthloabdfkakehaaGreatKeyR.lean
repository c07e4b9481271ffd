/-
  Words and contracts that a statement's proof rests on (KeyR, OpenFl, OpenBk, OpenOl, MemC). No statement is proved here.
-/
import Derived.WalkKit
import Derived.Test.YthloabdfkakehaaGreatPlainKy
import Derived.Test.YthloabdfkakehaaGreatKeyB
import Derived.Test.YthloabdfkakehaaGreatPlainTn
set_option linter.unusedVariables false
set_option linter.unusedSimpArgs false
namespace Go.Proofs.YthloabdfkakehaaGreat
section
open Go.RowKit
end
section
open Go.ChangeShapes Go.WideShapes Go.RowKit Go.Deep
section
variable {H:Type} {enc:TypeId × Value→H} {P:Program} {w:World} {base:Nat} {spare:Nat→Bool} {held:Bool}
def leavesF (P:Program) (rec:TypeId→Option (List TypeId)):List Field→Nat→Option (List TypeId)
 | [],_ => some []
 | f :: fs,off => if f.offset=off then
   match rec f.type with
   | some a => if P.cellsOf f.type=a.length then
     match leavesF P rec fs (off + a.length) with
     | some b => some (a ++ b)
     | none => none
    else none
   | none => none
  else none
def leaves (P:Program):Nat→TypeId→Option (List TypeId)
 | 0,_ => none
 | n + 1,t => match P.underlying t with
  | some (.struct fs) => match leavesF P (leaves P n) fs.toList 0 with
   | some l => if P.cellsOf t=l.length then some l else none
   | none => none
  | _ => if P.cellsOf t=1 then some [t] else none
theorem leavesF_held (rec:TypeId→Option (List TypeId))
  (hrec:∀ t cs x fuel ts,rec t=some ts→cs.length=P.cellsOf t→DataW.trod enc P w base spare held fuel t cs=some x→∀ (j:Nat) tj,ts[j]?=some tj→∃ u,cs[j]?=some u∧Holds1 enc P w base spare held tj u) :
  ∀ (fs:List Field) (off:Nat) (ts:List TypeId) (cs:List Value),leavesF P rec fs off=some ts→off + ts.length≤cs.length →
   (∀ f ∈ fs,∃ fuel x,DataW.trod enc P w base spare held fuel f.type ((cs.drop f.offset).take (P.cellsOf f.type))=some x) →
   ∀ (j:Nat) tj,ts[j]?=some tj→∃ u,cs[off + j]?=some u∧Holds1 enc P w base spare held tj u
 | [],off,ts,cs,h,_,_ => by
  intro j tj hj
  simp [leavesF] at h
  subst h
  simp at hj
 | f :: fs,off,ts,cs,h,hlen,hf => by
  intro j tj hj
  unfold leavesF at h
  split at h
  ·rename_i ho
   split at h
   ·rename_i a ha
    split at h
    ·rename_i hc
     split at h
     ·rename_i b hb
      injection h with h
      subst h
      rw [List.length_append] at hlen
      obtain ⟨fuel,x,hx⟩:=hf f (by simp)
      rw [ho] at hx
      have hcl:((cs.drop off).take (P.cellsOf f.type)).length=P.cellsOf f.type:=by
       rw [List.length_take,List.length_drop]; omega
      rcases Nat.lt_or_ge j a.length with h1 | h1
      ·rw [List.getElem?_append_left h1] at hj
       obtain ⟨u,hu,hh⟩:=hrec f.type _ _ _ _ ha hcl hx j tj hj
       refine ⟨u,?_,hh⟩
       rw [List.getElem?_take,if_pos (by omega),List.getElem?_drop] at hu
       exact hu
      ·rw [List.getElem?_append_right h1] at hj
       obtain ⟨u,hu,hh⟩:=leavesF_held rec hrec fs (off + a.length) b cs hb (by omega) (fun g hg => hf g (by simp [hg])) (j - a.length) tj hj
       refine ⟨u,?_,hh⟩
       rw [← hu]
       congr 1
       omega
     ·cases h
    ·cases h
   ·cases h
  ·cases h
theorem leaves_held:∀ (n:Nat) (t:TypeId) (cs:List Value) (x:DataW H × List MemPlace) (fuel:Nat) (ts:List TypeId),leaves P n t=some ts→cs.length=P.cellsOf t→DataW.trod enc P w base spare held fuel t cs=some x →
  ∀ (j:Nat) tj,ts[j]?=some tj→∃ u,cs[j]?=some u∧Holds1 enc P w base spare held tj u
 | 0,t,cs,x,fuel,ts,h,_,_ => by simp [leaves] at h
 | n + 1,t,cs,x,fuel,ts,h,hcs,hx => by
  intro j tj hj
  unfold leaves at h
  split at h
  ·rename_i fs hs
   split at h
   ·rename_i l hl
    split at h
    ·rename_i hc
     injection h with h
     subst h
     obtain ⟨xs,m,_,_,hlen,hxl,hg⟩:=DataW.trod_struct hs hx
     have hf:∀ f ∈ fs.toList,∃ fuel x,DataW.trod enc P w base spare held fuel f.type ((cs.drop f.offset).take (P.cellsOf f.type))=some x:=by
      intro f hf
      obtain ⟨i,hi,rfl⟩:=List.getElem_of_mem hf
      have hi':i < fs.size:=by simpa using hi
      have:=hg i fs[i] (Array.getElem?_eq_getElem hi')
      rw [List.getElem?_eq_getElem (show i < xs.length by omega)] at this
      exact ⟨m,_,by simpa using this⟩
     have:=leavesF_held (leaves P n) (fun t cs x fuel ts a b c => leaves_held n t cs x fuel ts a b c) fs.toList 0 l cs hl (by omega) hf j tj hj
     simpa using this
    ·cases h
   ·cases h
  ·split at h
   ·rename_i hc
    injection h with h
    subst h
    rw [hc] at hcs
    match cs,hcs with
    | [u],_ =>
     match j,hj with
     | 0,hj =>
      simp at hj
      subst hj
      exact ⟨u,rfl,fuel,x,hx⟩
   ·cases h
theorem open_flat {r:Reach} {b0:Nat} {t:TypeId} {fs:Array Field} {ts:List TypeId} {v:Value} {d:DataW H} {p:List MemPlace} (hs:P.underlying t=some (.struct fs)) (hl:leaves P 8 t=some ts) (hn:P.cellsOf t=ts.length)
  (hv:Value.okWide P w r b0 t v) (h:DataW.Trod enc P w base spare held t v d p) :
  ∃ l:List Value,v=.agg l.toArray∧l.length=ts.length∧∀ (j:Nat) tj,ts[j]?=some tj→∃ u,l[j]?=some u∧Holds1 enc P w base spare held tj u:=by
 obtain ⟨cs,rfl,hsz⟩:=okWide_struct hs hv
 obtain ⟨fuel,hf⟩:=h
 obtain ⟨_,_,_,_,hlen,_⟩:=DataW.trod_struct hs hf
 obtain ⟨l⟩:=cs
 have hll:l.length=P.cellsOf t:=by simpa [Value.cells] using hlen
 have:=leaves_held 8 t _ _ _ _ hl hlen hf
 exact ⟨l,rfl,by omega,by simpa [Value.cells] using this⟩
theorem open_flats {r:Reach} {b0:Nat} {t e:TypeId} {ts:List TypeId} {v:Value} {d:DataW H} {p:List MemPlace} (ht:P.underlying t=some (.slice e)) (hl:leaves P 8 e=some ts) (hC:P.cellsOf e=ts.length) (h0:0 < ts.length)
  (hv:Value.okWide P w r b0 t v) (h:DataW.Trod enc P w 0 (fun _ => true) held t v d p) :
  ∃ (A:Option Addr) (n cap:Nat),v=.slice A n cap∧n≤cap∧cap≤maxLen∧(0 < n→∃ b off,A=some ⟨b,off,none⟩∧b < w.heap.size ∧
   ∀ i,i < n→∀ (j:Nat) tj,ts[j]?=some tj→∃ u,w.cell? ⟨b,off + i * ts.length + j,none⟩=some u∧Holds1 enc P w 0 (fun _ => true) held tj u):=by
 obtain ⟨A,n,cap,rfl⟩:=okWide_slice ht hv
 obtain ⟨fuel,hf⟩:=h
 rcases open_slice ht hf with ⟨hcs,_⟩ | ⟨a,len,c,m,k,D,Pl,hcs,_,hl1,hm,hmm,_,hi⟩
 ·simp [Value.cells] at hcs
  obtain ⟨rfl,rfl,rfl⟩:=hcs
  exact ⟨none,0,0,rfl,Nat.le_refl _,by simp [maxLen],fun h => absurd h (by omega)⟩
 ·simp [Value.cells] at hcs
  obtain ⟨rfl,rfl,rfl⟩:=hcs
  simp only [if_true] at hmm
  subst hmm
  refine ⟨some a,n,m,rfl,hl1,hm,fun hn => ?_⟩
  have hat:∀ i,i < m→∀ (j:Nat) tj,ts[j]?=some tj→∃ u,w.cell? (a.add (i * ts.length + j))=some u∧Holds1 enc P w 0 (fun _ => true) held tj u:=by
   intro i him j tj hj
   obtain ⟨cs',hc,ht'⟩:=hi i him
   rw [hC] at hc
   obtain ⟨_,hcl,hcat⟩:=World.cells?_some hc
   obtain ⟨u,hu,hh⟩:=leaves_held 8 e _ _ _ _ hl (by omega) ht' j tj hj
   have hjl:j < ts.length:=(List.getElem?_eq_some_iff.1 hj).1
   refine ⟨u,?_,hh⟩
   rw [← Go.Deep.add_add,hcat j hjl,hu]
  obtain ⟨u0,hu0,_⟩:=hat 0 (by omega) 0 _ (List.getElem?_eq_getElem h0)
  obtain ⟨b,off,spot⟩:=a
  have hspot:spot=none:=by simpa [Addr.add] using World.cell?_spot hu0
  subst hspot
  refine ⟨b,off,rfl,World.block_lt_of_cell? w _ (by simpa [Addr.add] using hu0),fun i hi2 j tj hj => ?_⟩
  obtain ⟨u,hu,hh⟩:=hat i (by omega) j tj hj
  have hadd:(⟨b,off,none⟩:Addr).add (i * ts.length + j)=⟨b,off + i * ts.length + j,none⟩:=by
   unfold Addr.add; split <;> simp_all [Nat.add_assoc]
  rw [hadd] at hu
  exact ⟨u,hu,hh⟩
end
end
section
open Go.ChangeShapes Go.WideShapes Go.RowKit Go.Deep
def Ops11 (w:World) (v:Value):Prop:=∃ (A:Option Addr) (n cap:Nat),v=.slice A n cap∧n≤cap∧cap≤maxLen∧(0 < n→∃ b off,A=some ⟨b,off,none⟩∧b < w.heap.size ∧
 ∀ i,i < n→∃ (kd kv:Int) (m:Nat) (port vid:Int) (now old:Nat),m < 18446744073709551616∧now < 4294967296∧old < 4294967296∧w.cell? ⟨b,off + i * 7,none⟩=some (.int .i64 kd)∧w.cell? ⟨b,off + i * 7 + 1,none⟩=some (.int .i64 kv)∧w.cell? ⟨b,off + i * 7 + 2,none⟩=some (.int .u64 (m:Int))∧w.cell? ⟨b,off + i * 7 + 3,none⟩=some (.int .i64 port)∧w.cell? ⟨b,off + i * 7 + 4,none⟩=some (.int .i64 vid)∧w.cell? ⟨b,off + i * 7 + 5,none⟩=some (.int .u32 (now:Int))∧w.cell? ⟨b,off + i * 7 + 6,none⟩=some (.int .u32 (old:Int)))
section
variable {H:Type} {enc:TypeId × Value→H} {P:Program} {w:World} {held:Bool} {base:Nat} {spare:Nat→Bool}
end
end
section
open Go.ChangeShapes Go.WideShapes Go.RowKit Go.Deep
def OpsRows (w:World) (v:Value):Prop:=∃ (A:Option Addr) (n cap:Nat),v=.slice A n cap∧n≤cap∧cap≤maxLen∧(0 < n→∃ b off,A=some ⟨b,off,none⟩∧b < w.heap.size ∧
 ∀ i,i < n→∃ (u:Value),w.cell? ⟨b,off + i,none⟩=some u∧Ops11 w u)
section
variable {H:Type} {enc:TypeId × Value→H} {P:Program} {w:World} {held:Bool}
theorem Holds1.ops11 {t e t0 t1 t2 t3 t4 t5 t6:TypeId} {u:Value} (h:Holds1 enc P w 0 (fun _ => true) held t u) (ht:P.underlying t=some (.slice e)) (hl:leaves P 8 e=some [t0,t1,t2,t3,t4,t5,t6]) (hC:P.cellsOf e=7)
  (h0:P.underlying t0=some (.int .i64)) (h1:P.underlying t1=some (.int .i64)) (h2:P.underlying t2=some (.int .u64)) (h3:P.underlying t3=some (.int .i64)) (h4:P.underlying t4=some (.int .i64)) (h5:P.underlying t5=some (.int .u32)) (h6:P.underlying t6=some (.int .u32)):Ops11 w u:=by
 obtain ⟨fuel,x,hf⟩:=h
 rcases open_slice ht hf with ⟨hcs,_⟩ | ⟨a,len,c,m,k,D,Pl,hcs,_,hl1,hm,hmm,_,hi⟩
 ·simp at hcs
  subst hcs
  exact ⟨none,0,0,rfl,Nat.le_refl _,by simp [maxLen],fun h => absurd h (by omega)⟩
 ·simp at hcs
  subst hcs
  simp only [if_true] at hmm
  subst hmm
  have hat:∀ i,i < m→∃ (kd kv:Int) (q:Nat) (port vid:Int) (now old:Nat),q < 18446744073709551616∧now < 4294967296∧old < 4294967296∧w.cell? ((a.add (i * 7)).add 0)=some (.int .i64 kd)∧w.cell? ((a.add (i * 7)).add 1)=some (.int .i64 kv)∧w.cell? ((a.add (i * 7)).add 2)=some (.int .u64 (q:Int))∧w.cell? ((a.add (i * 7)).add 3)=some (.int .i64 port)∧w.cell? ((a.add (i * 7)).add 4)=some (.int .i64 vid)∧w.cell? ((a.add (i * 7)).add 5)=some (.int .u32 (now:Int))∧w.cell? ((a.add (i * 7)).add 6)=some (.int .u32 (old:Int)):=by
   intro i him
   obtain ⟨cs',hc,ht'⟩:=hi i him
   rw [hC] at hc
   obtain ⟨_,hcl,hcat⟩:=World.cells?_some hc
   obtain ⟨u0,e0,g0⟩:=leaves_held 8 e _ _ _ _ hl (by omega) ht' 0 t0 rfl
   obtain ⟨u1,e1,g1⟩:=leaves_held 8 e _ _ _ _ hl (by omega) ht' 1 t1 rfl
   obtain ⟨u2,e2,g2⟩:=leaves_held 8 e _ _ _ _ hl (by omega) ht' 2 t2 rfl
   obtain ⟨u3,e3,g3⟩:=leaves_held 8 e _ _ _ _ hl (by omega) ht' 3 t3 rfl
   obtain ⟨u4,e4,g4⟩:=leaves_held 8 e _ _ _ _ hl (by omega) ht' 4 t4 rfl
   obtain ⟨u5,e5,g5⟩:=leaves_held 8 e _ _ _ _ hl (by omega) ht' 5 t5 rfl
   obtain ⟨u6,e6,g6⟩:=leaves_held 8 e _ _ _ _ hl (by omega) ht' 6 t6 rfl
   obtain ⟨kd,rfl,p0⟩:=g0.i64 h0
   obtain ⟨kv,rfl,p1⟩:=g1.i64 h1
   obtain ⟨q,rfl,p2⟩:=g2.u64 h2
   obtain ⟨port,rfl,p3⟩:=g3.i64 h3
   obtain ⟨vid,rfl,p4⟩:=g4.i64 h4
   obtain ⟨now,rfl,p5⟩:=g5.u32 h5
   obtain ⟨old,rfl,p6⟩:=g6.u32 h6
   exact ⟨kd,kv,q,port,vid,now,old,p2,p5,p6,(hcat 0 (by omega)).trans e0,(hcat 1 (by omega)).trans e1,(hcat 2 (by omega)).trans e2,(hcat 3 (by omega)).trans e3,(hcat 4 (by omega)).trans e4,(hcat 5 (by omega)).trans e5,(hcat 6 (by omega)).trans e6⟩
  rcases Nat.eq_zero_or_pos len with hz | hz
  ·exact ⟨some a,len,m,rfl,hl1,hm,fun hn => absurd hn (by omega)⟩
  ·obtain ⟨b,off,spot⟩:=a
   have hspot:spot=none:=by
    obtain ⟨_,_,_,_,_,_,_,_,_,_,x0,_⟩:=hat 0 (by omega)
    have:=World.cell?_spot x0
    simpa [Addr.add] using this
   subst hspot
   have hadd:∀ x y,((⟨b,off,none⟩:Addr).add x).add y=⟨b,off + x + y,none⟩:=fun x y => by
    unfold Addr.add
    by_cases h1:x=0 <;> by_cases h2:y=0 <;> simp_all <;> omega
   refine ⟨some ⟨b,off,none⟩,len,m,rfl,hl1,hm,fun _ => ⟨b,off,rfl,?_,fun i hi9 => ?_⟩⟩
   ·obtain ⟨_,_,_,_,_,_,_,_,_,_,x0,_⟩:=hat 0 (by omega)
    rw [hadd] at x0
    exact World.block_lt_of_cell? w _ x0
   ·obtain ⟨kd,kv,q,port,vid,now,old,p2,p5,p6,x0,x1,x2,x3,x4,x5,x6⟩:=hat i (by omega)
    rw [hadd] at x0 x1 x2 x3 x4 x5 x6
    exact ⟨kd,kv,q,port,vid,now,old,p2,p5,p6,x0,x1,x2,x3,x4,x5,x6⟩
theorem open_opsrows {r:Reach} {b0:Nat} {t e e2 t0 t1 t2 t3 t4 t5 t6:TypeId} {v:Value} {d:DataW H} {p:List MemPlace} (ht:P.underlying t=some (.slice e)) (hl:leaves P 8 e=some [e]) (hC:P.cellsOf e=1) (ht2:P.underlying e=some (.slice e2)) (hl2:leaves P 8 e2=some [t0,t1,t2,t3,t4,t5,t6]) (hC2:P.cellsOf e2=7)
  (h0:P.underlying t0=some (.int .i64)) (h1:P.underlying t1=some (.int .i64)) (h2:P.underlying t2=some (.int .u64)) (h3:P.underlying t3=some (.int .i64)) (h4:P.underlying t4=some (.int .i64)) (h5:P.underlying t5=some (.int .u32)) (h6:P.underlying t6=some (.int .u32))
  (hv:Value.okWide P w r b0 t v) (h:DataW.Trod enc P w 0 (fun _ => true) held t v d p):OpsRows w v:=by
 obtain ⟨A,n,cap,rfl,c1,c2,c3⟩:=open_flats ht hl (by simpa using hC) (by simp) hv h
 refine ⟨A,n,cap,rfl,c1,c2,fun hn => ?_⟩
 obtain ⟨b,off,rfl,hb,hc⟩:=c3 hn
 refine ⟨b,off,rfl,hb,fun i hi => ?_⟩
 obtain ⟨u,e0,g0⟩:=hc i hi 0 e rfl
 exact ⟨u,by simpa using e0,g0.ops11 ht2 hl2 hC2 h0 h1 h2 h3 h4 h5 h6⟩
end
end
section
open Go.RowKit
end
end Go.Proofs.YthloabdfkakehaaGreat
