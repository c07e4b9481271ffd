/-
  Words and contracts that a statement's proof rests on (Open, OpenFl). No statement is proved here.
-/
import Derived.Deep.Slices
import Derived.Deep.Fields
import Derived.ChangeSame
import Derived.Test.YthloabdfkakehaaBase
set_option linter.unusedVariables false
set_option linter.unusedSimpArgs false
namespace Go.Proofs.Ythloabdfkakehaa
section
open Go.ChangeShapes Go.WideShapes Go.RowKit Go.Deep
section
variable {H:Type} {enc:TypeId × Value→H} {P:Program} {w:World} {base:Nat} {spare:Nat→Bool} {held:Bool}
def Holds1 (enc:TypeId × Value→H) (P:Program) (w:World) (base:Nat) (spare:Nat→Bool) (held:Bool) (t:TypeId) (u:Value):Prop :=
 ∃ (n:Nat) (y:DataW H × List MemPlace),DataW.trod enc P w base spare held n t [u]=some y
theorem Holds1.int {k:IntKind} {t:TypeId} {u:Value} (h:Holds1 enc P w base spare held t u) (ht:P.underlying t=some (.int k)):∃ n,u=.int k n∧(Lit.int k n).wf=true:=by
 obtain ⟨m,y,hy⟩:=h
 obtain ⟨n,h1,_,h3⟩:=DataW.trod_int ht hy
 exact ⟨n,by simpa using h1,h3⟩
theorem Holds1.bool {t:TypeId} {u:Value} (h:Holds1 enc P w base spare held t u) (ht:P.underlying t=some .bool):∃ b,u=.bool b:=by
 obtain ⟨m,y,hy⟩:=h
 obtain ⟨n,h1,_⟩:=DataW.trod_bool ht hy
 exact ⟨n,by simpa using h1⟩
theorem Holds1.i64 {t:TypeId} {u:Value} (h:Holds1 enc P w base spare held t u) (ht:P.underlying t=some (.int .i64)):∃ n:Int,u=.int .i64 n∧-9223372036854775808≤n∧n≤9223372036854775807:=by
 obtain ⟨n,rfl,hw⟩:=h.int ht
 exact ⟨n,rfl,Go.bounds_i64 hw⟩
theorem Holds1.u64 {t:TypeId} {u:Value} (h:Holds1 enc P w base spare held t u) (ht:P.underlying t=some (.int .u64)):∃ n:Nat,u=.int .u64 (n:Int)∧n < 18446744073709551616:=by
 obtain ⟨n,rfl,hw⟩:=h.int ht
 have:=Go.bounds_u64 hw
 exact ⟨n.toNat,by congr 1; omega,by omega⟩
theorem Holds1.u32 {t:TypeId} {u:Value} (h:Holds1 enc P w base spare held t u) (ht:P.underlying t=some (.int .u32)):∃ n:Nat,u=.int .u32 (n:Int)∧n < 4294967296:=by
 obtain ⟨n,rfl,hw⟩:=h.int ht
 have:=Go.bounds_u32 hw
 exact ⟨n.toNat,by congr 1; omega,by omega⟩
theorem Holds1.bytes {t e:TypeId} {u:Value} (h:Holds1 enc P w 0 (fun _ => true) held t u) (ht:P.underlying t=some (.slice e)) (he:P.underlying e=some (.int .u8)) (hc:P.cellsOf e=1) :
  ∃ l:List Nat,Sl w w.heap.size 1 u l.length (bv l)∧∀ x ∈ l,x < 256:=by
 obtain ⟨fuel,y,hf⟩:=h
 rcases open_ints ht he hc hf with ⟨hcs,_⟩ | ⟨x,l,c,zs,hcs,_,hl,hm,hz,_,hcell,hwz⟩
 ·obtain rfl:u=.slice none 0 0:=by simpa using hcs
  exact ⟨[],Sl.nil _ _ _,by simp⟩
 ·obtain rfl:u=.slice (some x) l c:=by simpa using hcs
  simp only [if_true] at hz
  obtain ⟨ns,rfl,hns⟩:=nats_of_u8 zs hwz
  simp only [List.length_map] at hz hcell
  have hlen:(ns.take l).length=l:=by rw [List.length_take]; omega
  refine ⟨ns.take l,?_,fun x hx => hns x (List.mem_of_mem_take hx)⟩
  refine ⟨by simp [bv_length],some x,c,by rw [hlen],by omega,hm,fun hn => ?_⟩
  obtain ⟨b,off,spot⟩:=x
  have h0:=hcell 0 (by omega)
  have hspot:spot=none:=by simpa [Addr.add] using World.cell?_spot h0
  subst hspot
  refine ⟨b,off,rfl,World.block_lt_of_cell? w _ (by simpa [Addr.add] using h0),fun j hj => ?_⟩
  rw [hlen,Nat.mul_one] at hj
  have hj2:j < ns.length:=by omega
  have h1:=hcell j hj2
  have hadd:(⟨b,off,none⟩:Addr).add j=⟨b,off + j,none⟩:=by unfold Addr.add; split <;> simp_all
  rw [hadd] at h1
  rw [h1,bv_at _ _ (by rw [hlen]; exact hj)]
  simp [List.getD_eq_getElem?_getD,List.getElem?_map,List.getElem?_eq_getElem hj2]
end
end
section
open Go.ChangeShapes Go.WideShapes Go.RowKit Go.Deep
section
variable {H:Type} {enc:TypeId × Value→H} {P:Program} {w:World} {base:Nat} {spare:Nat→Bool} {held:Bool}
def leavesF (P:Program) (rec:TypeId→Option (List TypeId)):List Field→Nat→Option (List TypeId)
 | [],_ => some []
 | f :: fs,off => if f.offset=off then
   match rec f.type with
   | some a => if P.cellsOf f.type=a.length then
     match leavesF P rec fs (off + a.length) with
     | some b => some (a ++ b)
     | none => none
    else none
   | none => none
  else none
def leaves (P:Program):Nat→TypeId→Option (List TypeId)
 | 0,_ => none
 | n + 1,t => match P.underlying t with
  | some (.struct fs) => match leavesF P (leaves P n) fs.toList 0 with
   | some l => if P.cellsOf t=l.length then some l else none
   | none => none
  | _ => if P.cellsOf t=1 then some [t] else none
theorem leavesF_held (rec:TypeId→Option (List TypeId))
  (hrec:∀ t cs x fuel ts,rec t=some ts→cs.length=P.cellsOf t→DataW.trod enc P w base spare held fuel t cs=some x→∀ (j:Nat) tj,ts[j]?=some tj→∃ u,cs[j]?=some u∧Holds1 enc P w base spare held tj u) :
  ∀ (fs:List Field) (off:Nat) (ts:List TypeId) (cs:List Value),leavesF P rec fs off=some ts→off + ts.length≤cs.length →
   (∀ f ∈ fs,∃ fuel x,DataW.trod enc P w base spare held fuel f.type ((cs.drop f.offset).take (P.cellsOf f.type))=some x) →
   ∀ (j:Nat) tj,ts[j]?=some tj→∃ u,cs[off + j]?=some u∧Holds1 enc P w base spare held tj u
 | [],off,ts,cs,h,_,_ => by
  intro j tj hj
  simp [leavesF] at h
  subst h
  simp at hj
 | f :: fs,off,ts,cs,h,hlen,hf => by
  intro j tj hj
  unfold leavesF at h
  split at h
  ·rename_i ho
   split at h
   ·rename_i a ha
    split at h
    ·rename_i hc
     split at h
     ·rename_i b hb
      injection h with h
      subst h
      rw [List.length_append] at hlen
      obtain ⟨fuel,x,hx⟩:=hf f (by simp)
      rw [ho] at hx
      have hcl:((cs.drop off).take (P.cellsOf f.type)).length=P.cellsOf f.type:=by
       rw [List.length_take,List.length_drop]; omega
      rcases Nat.lt_or_ge j a.length with h1 | h1
      ·rw [List.getElem?_append_left h1] at hj
       obtain ⟨u,hu,hh⟩:=hrec f.type _ _ _ _ ha hcl hx j tj hj
       refine ⟨u,?_,hh⟩
       rw [List.getElem?_take,if_pos (by omega),List.getElem?_drop] at hu
       exact hu
      ·rw [List.getElem?_append_right h1] at hj
       obtain ⟨u,hu,hh⟩:=leavesF_held rec hrec fs (off + a.length) b cs hb (by omega) (fun g hg => hf g (by simp [hg])) (j - a.length) tj hj
       refine ⟨u,?_,hh⟩
       rw [← hu]
       congr 1
       omega
     ·cases h
    ·cases h
   ·cases h
  ·cases h
theorem leaves_held:∀ (n:Nat) (t:TypeId) (cs:List Value) (x:DataW H × List MemPlace) (fuel:Nat) (ts:List TypeId),leaves P n t=some ts→cs.length=P.cellsOf t→DataW.trod enc P w base spare held fuel t cs=some x →
  ∀ (j:Nat) tj,ts[j]?=some tj→∃ u,cs[j]?=some u∧Holds1 enc P w base spare held tj u
 | 0,t,cs,x,fuel,ts,h,_,_ => by simp [leaves] at h
 | n + 1,t,cs,x,fuel,ts,h,hcs,hx => by
  intro j tj hj
  unfold leaves at h
  split at h
  ·rename_i fs hs
   split at h
   ·rename_i l hl
    split at h
    ·rename_i hc
     injection h with h
     subst h
     obtain ⟨xs,m,_,_,hlen,hxl,hg⟩:=DataW.trod_struct hs hx
     have hf:∀ f ∈ fs.toList,∃ fuel x,DataW.trod enc P w base spare held fuel f.type ((cs.drop f.offset).take (P.cellsOf f.type))=some x:=by
      intro f hf
      obtain ⟨i,hi,rfl⟩:=List.getElem_of_mem hf
      have hi':i < fs.size:=by simpa using hi
      have:=hg i fs[i] (Array.getElem?_eq_getElem hi')
      rw [List.getElem?_eq_getElem (show i < xs.length by omega)] at this
      exact ⟨m,_,by simpa using this⟩
     have:=leavesF_held (leaves P n) (fun t cs x fuel ts a b c => leaves_held n t cs x fuel ts a b c) fs.toList 0 l cs hl (by omega) hf j tj hj
     simpa using this
    ·cases h
   ·cases h
  ·split at h
   ·rename_i hc
    injection h with h
    subst h
    rw [hc] at hcs
    match cs,hcs with
    | [u],_ =>
     match j,hj with
     | 0,hj =>
      simp at hj
      subst hj
      exact ⟨u,rfl,fuel,x,hx⟩
   ·cases h
theorem open_flat {r:Reach} {b0:Nat} {t:TypeId} {fs:Array Field} {ts:List TypeId} {v:Value} {d:DataW H} {p:List MemPlace} (hs:P.underlying t=some (.struct fs)) (hl:leaves P 8 t=some ts) (hn:P.cellsOf t=ts.length)
  (hv:Value.okWide P w r b0 t v) (h:DataW.Trod enc P w base spare held t v d p) :
  ∃ l:List Value,v=.agg l.toArray∧l.length=ts.length∧∀ (j:Nat) tj,ts[j]?=some tj→∃ u,l[j]?=some u∧Holds1 enc P w base spare held tj u:=by
 obtain ⟨cs,rfl,hsz⟩:=okWide_struct hs hv
 obtain ⟨fuel,hf⟩:=h
 obtain ⟨_,_,_,_,hlen,_⟩:=DataW.trod_struct hs hf
 obtain ⟨l⟩:=cs
 have hll:l.length=P.cellsOf t:=by simpa [Value.cells] using hlen
 have:=leaves_held 8 t _ _ _ _ hl hlen hf
 exact ⟨l,rfl,by omega,by simpa [Value.cells] using this⟩
theorem open_flats {r:Reach} {b0:Nat} {t e:TypeId} {ts:List TypeId} {v:Value} {d:DataW H} {p:List MemPlace} (ht:P.underlying t=some (.slice e)) (hl:leaves P 8 e=some ts) (hC:P.cellsOf e=ts.length) (h0:0 < ts.length)
  (hv:Value.okWide P w r b0 t v) (h:DataW.Trod enc P w 0 (fun _ => true) held t v d p) :
  ∃ (A:Option Addr) (n cap:Nat),v=.slice A n cap∧n≤cap∧cap≤maxLen∧(0 < n→∃ b off,A=some ⟨b,off,none⟩∧b < w.heap.size ∧
   ∀ i,i < n→∀ (j:Nat) tj,ts[j]?=some tj→∃ u,w.cell? ⟨b,off + i * ts.length + j,none⟩=some u∧Holds1 enc P w 0 (fun _ => true) held tj u):=by
 obtain ⟨A,n,cap,rfl⟩:=okWide_slice ht hv
 obtain ⟨fuel,hf⟩:=h
 rcases open_slice ht hf with ⟨hcs,_⟩ | ⟨a,len,c,m,k,D,Pl,hcs,_,hl1,hm,hmm,_,hi⟩
 ·simp [Value.cells] at hcs
  obtain ⟨rfl,rfl,rfl⟩:=hcs
  exact ⟨none,0,0,rfl,Nat.le_refl _,by simp [maxLen],fun h => absurd h (by omega)⟩
 ·simp [Value.cells] at hcs
  obtain ⟨rfl,rfl,rfl⟩:=hcs
  simp only [if_true] at hmm
  subst hmm
  refine ⟨some a,n,m,rfl,hl1,hm,fun hn => ?_⟩
  have hat:∀ i,i < m→∀ (j:Nat) tj,ts[j]?=some tj→∃ u,w.cell? (a.add (i * ts.length + j))=some u∧Holds1 enc P w 0 (fun _ => true) held tj u:=by
   intro i him j tj hj
   obtain ⟨cs',hc,ht'⟩:=hi i him
   rw [hC] at hc
   obtain ⟨_,hcl,hcat⟩:=World.cells?_some hc
   obtain ⟨u,hu,hh⟩:=leaves_held 8 e _ _ _ _ hl (by omega) ht' j tj hj
   have hjl:j < ts.length:=(List.getElem?_eq_some_iff.1 hj).1
   refine ⟨u,?_,hh⟩
   rw [← Go.Deep.add_add,hcat j hjl,hu]
  obtain ⟨u0,hu0,_⟩:=hat 0 (by omega) 0 _ (List.getElem?_eq_getElem h0)
  obtain ⟨b,off,spot⟩:=a
  have hspot:spot=none:=by simpa [Addr.add] using World.cell?_spot hu0
  subst hspot
  refine ⟨b,off,rfl,World.block_lt_of_cell? w _ (by simpa [Addr.add] using hu0),fun i hi2 j tj hj => ?_⟩
  obtain ⟨u,hu,hh⟩:=hat i (by omega) j tj hj
  have hadd:(⟨b,off,none⟩:Addr).add (i * ts.length + j)=⟨b,off + i * ts.length + j,none⟩:=by
   unfold Addr.add; split <;> simp_all [Nat.add_assoc]
  rw [hadd] at hu
  exact ⟨u,hu,hh⟩
end
end
end Go.Proofs.Ythloabdfkakehaa
