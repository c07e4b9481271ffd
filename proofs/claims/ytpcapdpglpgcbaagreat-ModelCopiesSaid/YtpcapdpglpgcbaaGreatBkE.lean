/-
  Words and contracts that a statement's proof rests on (Open, OpenFl, OpenVl, BkE, BuO). No statement is proved here.
-/
import Derived.Deep.Slices
import Derived.Deep.Fields
import Derived.ChangeSame
import Derived.Deep.RegionHeld3
import Derived.Test.YtpcapdpglpgcbaaGreatBase
import Derived.Test.YtpcapdpglpgcbaaGreatPlainVl
import Derived.Test.YtpcapdpglpgcbaaGreatBuB
import Derived.Test.YtpcapdpglpgcbaaGreatBkD
import Derived.Test.YtpcapdpglpgcbaaGreatBuN
set_option linter.unusedVariables false
set_option linter.unusedSimpArgs false
namespace Go.Proofs.YtpcapdpglpgcbaaGreat
section
open Go.ChangeShapes Go.WideShapes Go.RowKit Go.Deep
section
variable {H:Type} {enc:TypeId × Value→H} {P:Program} {w:World} {base:Nat} {spare:Nat→Bool} {held:Bool}
def Holds1 (enc:TypeId × Value→H) (P:Program) (w:World) (base:Nat) (spare:Nat→Bool) (held:Bool) (t:TypeId) (u:Value):Prop :=
 ∃ (n:Nat) (y:DataW H × List MemPlace),DataW.trod enc P w base spare held n t [u]=some y
theorem Holds1.int {k:IntKind} {t:TypeId} {u:Value} (h:Holds1 enc P w base spare held t u) (ht:P.underlying t=some (.int k)):∃ n,u=.int k n∧(Lit.int k n).wf=true:=by
 obtain ⟨m,y,hy⟩:=h
 obtain ⟨n,h1,_,h3⟩:=DataW.trod_int ht hy
 exact ⟨n,by simpa using h1,h3⟩
theorem Holds1.bool {t:TypeId} {u:Value} (h:Holds1 enc P w base spare held t u) (ht:P.underlying t=some .bool):∃ b,u=.bool b:=by
 obtain ⟨m,y,hy⟩:=h
 obtain ⟨n,h1,_⟩:=DataW.trod_bool ht hy
 exact ⟨n,by simpa using h1⟩
theorem Holds1.i64 {t:TypeId} {u:Value} (h:Holds1 enc P w base spare held t u) (ht:P.underlying t=some (.int .i64)):∃ n:Int,u=.int .i64 n∧-9223372036854775808≤n∧n≤9223372036854775807:=by
 obtain ⟨n,rfl,hw⟩:=h.int ht
 exact ⟨n,rfl,Go.bounds_i64 hw⟩
theorem Holds1.u64 {t:TypeId} {u:Value} (h:Holds1 enc P w base spare held t u) (ht:P.underlying t=some (.int .u64)):∃ n:Nat,u=.int .u64 (n:Int)∧n < 18446744073709551616:=by
 obtain ⟨n,rfl,hw⟩:=h.int ht
 have:=Go.bounds_u64 hw
 exact ⟨n.toNat,by congr 1; omega,by omega⟩
theorem Holds1.u32 {t:TypeId} {u:Value} (h:Holds1 enc P w base spare held t u) (ht:P.underlying t=some (.int .u32)):∃ n:Nat,u=.int .u32 (n:Int)∧n < 4294967296:=by
 obtain ⟨n,rfl,hw⟩:=h.int ht
 have:=Go.bounds_u32 hw
 exact ⟨n.toNat,by congr 1; omega,by omega⟩
theorem Holds1.bytes {t e:TypeId} {u:Value} (h:Holds1 enc P w 0 (fun _ => true) held t u) (ht:P.underlying t=some (.slice e)) (he:P.underlying e=some (.int .u8)) (hc:P.cellsOf e=1) :
  ∃ l:List Nat,Sl w w.heap.size 1 u l.length (bv l)∧∀ x ∈ l,x < 256:=by
 obtain ⟨fuel,y,hf⟩:=h
 rcases open_ints ht he hc hf with ⟨hcs,_⟩ | ⟨x,l,c,zs,hcs,_,hl,hm,hz,_,hcell,hwz⟩
 ·obtain rfl:u=.slice none 0 0:=by simpa using hcs
  exact ⟨[],Sl.nil _ _ _,by simp⟩
 ·obtain rfl:u=.slice (some x) l c:=by simpa using hcs
  simp only [if_true] at hz
  obtain ⟨ns,rfl,hns⟩:=nats_of_u8 zs hwz
  simp only [List.length_map] at hz hcell
  have hlen:(ns.take l).length=l:=by rw [List.length_take]; omega
  refine ⟨ns.take l,?_,fun x hx => hns x (List.mem_of_mem_take hx)⟩
  refine ⟨by simp [bv_length],some x,c,by rw [hlen],by omega,hm,fun hn => ?_⟩
  obtain ⟨b,off,spot⟩:=x
  have h0:=hcell 0 (by omega)
  have hspot:spot=none:=by simpa [Addr.add] using World.cell?_spot h0
  subst hspot
  refine ⟨b,off,rfl,World.block_lt_of_cell? w _ (by simpa [Addr.add] using h0),fun j hj => ?_⟩
  rw [hlen,Nat.mul_one] at hj
  have hj2:j < ns.length:=by omega
  have h1:=hcell j hj2
  have hadd:(⟨b,off,none⟩:Addr).add j=⟨b,off + j,none⟩:=by unfold Addr.add; split <;> simp_all
  rw [hadd] at h1
  rw [h1,bv_at _ _ (by rw [hlen]; exact hj)]
  simp [List.getD_eq_getElem?_getD,List.getElem?_map,List.getElem?_eq_getElem hj2]
end
end
section
open Go.ChangeShapes Go.WideShapes Go.RowKit Go.Deep
section
variable {H:Type} {enc:TypeId × Value→H} {P:Program} {w:World} {base:Nat} {spare:Nat→Bool} {held:Bool}
def leavesF (P:Program) (rec:TypeId→Option (List TypeId)):List Field→Nat→Option (List TypeId)
 | [],_ => some []
 | f :: fs,off => if f.offset=off then
   match rec f.type with
   | some a => if P.cellsOf f.type=a.length then
     match leavesF P rec fs (off + a.length) with
     | some b => some (a ++ b)
     | none => none
    else none
   | none => none
  else none
def leaves (P:Program):Nat→TypeId→Option (List TypeId)
 | 0,_ => none
 | n + 1,t => match P.underlying t with
  | some (.struct fs) => match leavesF P (leaves P n) fs.toList 0 with
   | some l => if P.cellsOf t=l.length then some l else none
   | none => none
  | _ => if P.cellsOf t=1 then some [t] else none
theorem leavesF_held (rec:TypeId→Option (List TypeId))
  (hrec:∀ t cs x fuel ts,rec t=some ts→cs.length=P.cellsOf t→DataW.trod enc P w base spare held fuel t cs=some x→∀ (j:Nat) tj,ts[j]?=some tj→∃ u,cs[j]?=some u∧Holds1 enc P w base spare held tj u) :
  ∀ (fs:List Field) (off:Nat) (ts:List TypeId) (cs:List Value),leavesF P rec fs off=some ts→off + ts.length≤cs.length →
   (∀ f ∈ fs,∃ fuel x,DataW.trod enc P w base spare held fuel f.type ((cs.drop f.offset).take (P.cellsOf f.type))=some x) →
   ∀ (j:Nat) tj,ts[j]?=some tj→∃ u,cs[off + j]?=some u∧Holds1 enc P w base spare held tj u
 | [],off,ts,cs,h,_,_ => by
  intro j tj hj
  simp [leavesF] at h
  subst h
  simp at hj
 | f :: fs,off,ts,cs,h,hlen,hf => by
  intro j tj hj
  unfold leavesF at h
  split at h
  ·rename_i ho
   split at h
   ·rename_i a ha
    split at h
    ·rename_i hc
     split at h
     ·rename_i b hb
      injection h with h
      subst h
      rw [List.length_append] at hlen
      obtain ⟨fuel,x,hx⟩:=hf f (by simp)
      rw [ho] at hx
      have hcl:((cs.drop off).take (P.cellsOf f.type)).length=P.cellsOf f.type:=by
       rw [List.length_take,List.length_drop]; omega
      rcases Nat.lt_or_ge j a.length with h1 | h1
      ·rw [List.getElem?_append_left h1] at hj
       obtain ⟨u,hu,hh⟩:=hrec f.type _ _ _ _ ha hcl hx j tj hj
       refine ⟨u,?_,hh⟩
       rw [List.getElem?_take,if_pos (by omega),List.getElem?_drop] at hu
       exact hu
      ·rw [List.getElem?_append_right h1] at hj
       obtain ⟨u,hu,hh⟩:=leavesF_held rec hrec fs (off + a.length) b cs hb (by omega) (fun g hg => hf g (by simp [hg])) (j - a.length) tj hj
       refine ⟨u,?_,hh⟩
       rw [← hu]
       congr 1
       omega
     ·cases h
    ·cases h
   ·cases h
  ·cases h
theorem leaves_held:∀ (n:Nat) (t:TypeId) (cs:List Value) (x:DataW H × List MemPlace) (fuel:Nat) (ts:List TypeId),leaves P n t=some ts→cs.length=P.cellsOf t→DataW.trod enc P w base spare held fuel t cs=some x →
  ∀ (j:Nat) tj,ts[j]?=some tj→∃ u,cs[j]?=some u∧Holds1 enc P w base spare held tj u
 | 0,t,cs,x,fuel,ts,h,_,_ => by simp [leaves] at h
 | n + 1,t,cs,x,fuel,ts,h,hcs,hx => by
  intro j tj hj
  unfold leaves at h
  split at h
  ·rename_i fs hs
   split at h
   ·rename_i l hl
    split at h
    ·rename_i hc
     injection h with h
     subst h
     obtain ⟨xs,m,_,_,hlen,hxl,hg⟩:=DataW.trod_struct hs hx
     have hf:∀ f ∈ fs.toList,∃ fuel x,DataW.trod enc P w base spare held fuel f.type ((cs.drop f.offset).take (P.cellsOf f.type))=some x:=by
      intro f hf
      obtain ⟨i,hi,rfl⟩:=List.getElem_of_mem hf
      have hi':i < fs.size:=by simpa using hi
      have:=hg i fs[i] (Array.getElem?_eq_getElem hi')
      rw [List.getElem?_eq_getElem (show i < xs.length by omega)] at this
      exact ⟨m,_,by simpa using this⟩
     have:=leavesF_held (leaves P n) (fun t cs x fuel ts a b c => leaves_held n t cs x fuel ts a b c) fs.toList 0 l cs hl (by omega) hf j tj hj
     simpa using this
    ·cases h
   ·cases h
  ·split at h
   ·rename_i hc
    injection h with h
    subst h
    rw [hc] at hcs
    match cs,hcs with
    | [u],_ =>
     match j,hj with
     | 0,hj =>
      simp at hj
      subst hj
      exact ⟨u,rfl,fuel,x,hx⟩
   ·cases h
theorem open_flat {r:Reach} {b0:Nat} {t:TypeId} {fs:Array Field} {ts:List TypeId} {v:Value} {d:DataW H} {p:List MemPlace} (hs:P.underlying t=some (.struct fs)) (hl:leaves P 8 t=some ts) (hn:P.cellsOf t=ts.length)
  (hv:Value.okWide P w r b0 t v) (h:DataW.Trod enc P w base spare held t v d p) :
  ∃ l:List Value,v=.agg l.toArray∧l.length=ts.length∧∀ (j:Nat) tj,ts[j]?=some tj→∃ u,l[j]?=some u∧Holds1 enc P w base spare held tj u:=by
 obtain ⟨cs,rfl,hsz⟩:=okWide_struct hs hv
 obtain ⟨fuel,hf⟩:=h
 obtain ⟨_,_,_,_,hlen,_⟩:=DataW.trod_struct hs hf
 obtain ⟨l⟩:=cs
 have hll:l.length=P.cellsOf t:=by simpa [Value.cells] using hlen
 have:=leaves_held 8 t _ _ _ _ hl hlen hf
 exact ⟨l,rfl,by omega,by simpa [Value.cells] using this⟩
theorem open_flats {r:Reach} {b0:Nat} {t e:TypeId} {ts:List TypeId} {v:Value} {d:DataW H} {p:List MemPlace} (ht:P.underlying t=some (.slice e)) (hl:leaves P 8 e=some ts) (hC:P.cellsOf e=ts.length) (h0:0 < ts.length)
  (hv:Value.okWide P w r b0 t v) (h:DataW.Trod enc P w 0 (fun _ => true) held t v d p) :
  ∃ (A:Option Addr) (n cap:Nat),v=.slice A n cap∧n≤cap∧cap≤maxLen∧(0 < n→∃ b off,A=some ⟨b,off,none⟩∧b < w.heap.size ∧
   ∀ i,i < n→∀ (j:Nat) tj,ts[j]?=some tj→∃ u,w.cell? ⟨b,off + i * ts.length + j,none⟩=some u∧Holds1 enc P w 0 (fun _ => true) held tj u):=by
 obtain ⟨A,n,cap,rfl⟩:=okWide_slice ht hv
 obtain ⟨fuel,hf⟩:=h
 rcases open_slice ht hf with ⟨hcs,_⟩ | ⟨a,len,c,m,k,D,Pl,hcs,_,hl1,hm,hmm,_,hi⟩
 ·simp [Value.cells] at hcs
  obtain ⟨rfl,rfl,rfl⟩:=hcs
  exact ⟨none,0,0,rfl,Nat.le_refl _,by simp [maxLen],fun h => absurd h (by omega)⟩
 ·simp [Value.cells] at hcs
  obtain ⟨rfl,rfl,rfl⟩:=hcs
  simp only [if_true] at hmm
  subst hmm
  refine ⟨some a,n,m,rfl,hl1,hm,fun hn => ?_⟩
  have hat:∀ i,i < m→∀ (j:Nat) tj,ts[j]?=some tj→∃ u,w.cell? (a.add (i * ts.length + j))=some u∧Holds1 enc P w 0 (fun _ => true) held tj u:=by
   intro i him j tj hj
   obtain ⟨cs',hc,ht'⟩:=hi i him
   rw [hC] at hc
   obtain ⟨_,hcl,hcat⟩:=World.cells?_some hc
   obtain ⟨u,hu,hh⟩:=leaves_held 8 e _ _ _ _ hl (by omega) ht' j tj hj
   have hjl:j < ts.length:=(List.getElem?_eq_some_iff.1 hj).1
   refine ⟨u,?_,hh⟩
   rw [← Go.Deep.add_add,hcat j hjl,hu]
  obtain ⟨u0,hu0,_⟩:=hat 0 (by omega) 0 _ (List.getElem?_eq_getElem h0)
  obtain ⟨b,off,spot⟩:=a
  have hspot:spot=none:=by simpa [Addr.add] using World.cell?_spot hu0
  subst hspot
  refine ⟨b,off,rfl,World.block_lt_of_cell? w _ (by simpa [Addr.add] using hu0),fun i hi2 j tj hj => ?_⟩
  obtain ⟨u,hu,hh⟩:=hat i (by omega) j tj hj
  have hadd:(⟨b,off,none⟩:Addr).add (i * ts.length + j)=⟨b,off + i * ts.length + j,none⟩:=by
   unfold Addr.add; split <;> simp_all [Nat.add_assoc]
  rw [hadd] at hu
  exact ⟨u,hu,hh⟩
end
end
section
open Go.ChangeShapes Go.WideShapes Go.RowKit Go.Deep
theorem list_of {α:Type} (d:α) {Q:Nat→α→Prop}:∀ n,(∀ i,i < n→∃ x,Q i x)→∃ l:List α,l.length=n∧∀ i,i < n→Q i (l.getD i d)
 | 0,_ => ⟨[],rfl,fun i hi => by omega⟩
 | n + 1,h => by
  obtain ⟨l,hl,hq⟩:=list_of d n fun i hi => h i (by omega)
  obtain ⟨x,hx⟩:=h n (by omega)
  refine ⟨l ++ [x],by simp [hl],fun i hi => ?_⟩
  rcases Nat.lt_or_ge i n with h1 | h1
  ·have:=hq i h1
   rw [List.getD_eq_getElem?_getD,List.getElem?_append_left (by omega),← List.getD_eq_getElem?_getD]
   exact this
  ·obtain rfl:i=n:=by omega
   rw [List.getD_eq_getElem?_getD,List.getElem?_append_right (by omega),hl]
   simpa using hx
theorem Sl.of_vls {w:World} {B n b off cap:Nat} {l:List Vl} (hl:l.length=n) (h1:n≤cap) (h2:cap≤maxLen) (hb:b < B)
  (h:∀ j,j < n→w.cell? ⟨b,off + j * 3,none⟩=some (.int .i64 (l.getD j vl0).vid)∧w.cell? ⟨b,off + j * 3 + 1,none⟩=some (.int .u64 ((l.getD j vl0).mem:Nat))∧w.cell? ⟨b,off + j * 3 + 2,none⟩=some (.int .u64 ((l.getD j vl0).unt:Nat))) :
  Sl w B 3 (.slice (some ⟨b,off,none⟩) n cap) n (vlc l):=by
 refine ⟨by rw [vlc_length,hl],_,cap,rfl,h1,h2,fun _ => ⟨b,off,rfl,hb,fun j hj => ?_⟩⟩
 have e:j=j / 3 * 3 + j % 3:=by omega
 have hm:j % 3 < 3:=by omega
 have hq:j / 3 < n:=by omega
 obtain ⟨c0,c1,c2⟩:=h (j / 3) hq
 have hql:j / 3 < l.length:=by omega
 have hv:(vlc l)[j]?=(l[j / 3]?).bind fun x => x.cells[j % 3]?:=by
  have:=vlc_at l (j / 3) (j % 3) hm
  rw [← e] at this
  exact this
 rw [hv,List.getElem?_eq_getElem hql]
 simp only [List.getD_eq_getElem?_getD,List.getElem?_eq_getElem hql,Option.getD_some] at c0 c1 c2
 have ea:off + j=off + j / 3 * 3 + j % 3:=by omega
 rw [ea]
 rcases (show j % 3=0 ∨ j % 3=1 ∨ j % 3=2 by omega) with h | h | h
 ·rw [h]; exact c0
 ·rw [h]; exact c1
 ·rw [h]; exact c2
section
variable {H:Type} {enc:TypeId × Value→H} {P:Program} {w:World} {held:Bool}
end
end
section
open Go.RowKit
theorem stRows:ST Tryz.prog 121 133 (.slice none 0 0) 1 24:=ST.mk Tryz.underlying121 (by kernel_rfl) rfl (by omega) (by omega)
theorem rowIs_nils {w:World} {M:Nat} {e:TypeId}:(w.alloc (.cells (mkC (.slice none 0 0) 1 M) e)).rowIs w.heap.size e M (fun _ => .slice none 0 0):=by
 have h:=World.rowIs_made w (.slice none 0 0) M e
 unfold mkC
 rw [Nat.mul_one]
 exact h
theorem own_nils {w:World} {M:Nat} {T:TypeId} (hM:M≤maxLen):RowOf (w.alloc (.cells (mkC (.agg #[.bool false,.int .i64 0,.int .u64 0,.int .i64 0,.bool false,.int .u32 0]) 6 M) T)) T w.heap.size (.slice (some ⟨w.heap.size,0,none⟩) M M) M (fun _ => pl0) :=
 ⟨_,M,rfl,Nat.le_refl _,hM,fun _ => ⟨w.heap.size,_,rfl,Nat.le_refl _,rowIs_mk6,fun _ _ => rfl⟩⟩
set_option maxRecDepth 20000 in
set_option maxHeartbeats 12800000 in
theorem book_New (S B n:Nat) (hS:1≤S∧S≤8) (hB:1≤B∧B≤16) (hn:1≤n∧n≤8) (w:World) :
  Calls Tryz.prog 24 #[.agg #[.int .i64 (S:Nat),.int .i64 (B:Nat),.int .i64 (n:Nat)]] w fun e w' => ∃ p q,e=.returned (.tuple #[.pointer (some ⟨p,0,none⟩),.int .i64 0]) ∧
   BkAt w' (fun b => b≤p) p q S B n (fun _ _ => pl0)∧w.heap.size≤p∧w.heap.size≤q∧q < p∧Below w.heap.size w w':=by
 obtain ⟨M,hM⟩:∃ M,M=S * B:=⟨_,rfl⟩
 have hMB:M≤128:=by rw [hM]; exact Nat.mul_le_mul hS.2 hB.2
 have hM1:1≤M:=by rw [hM]; exact Nat.mul_pos hS.1 hB.1
 have hmul:(S:Int) * (B:Int)=(M:Int):=by rw [hM]; simp
 have hmw:wrap64 ((S:Int) * (B:Int))=(M:Int):=by rw [hmul]; exact IntWalk.wrap64_in _ (by omega)
 have hmw3:IntKind.i64.wrap ((S:Int) * (B:Int))=(M:Int):=by rw [hmul]; exact IntWalk.i64_in _ (by omega)
 have hr:=fun W => book_Right (S:Int) (B:Int) (n:Int) W
 have hy:rightS (S:Int) (B:Int) (n:Int)=true:=by unfold rightS inB; simp; omega
 rw [hy] at hr
 have HR:=Lib.hid hr
 have HM:=Lib.hid hM
 have hk1:=fun W => run_mkFull (P:=Tryz.prog) W stRows M (by omega)
 have hk2:=fun W => run_mkFull (P:=Tryz.prog) W stPlaces n (by omega)
 clear hr hy hM hmul
 go_enter Tryz.func24,Tryz.ntmps24
 go_wp2_with fail
 refine (HR.out _).mono ?_
 rintro e w1 ⟨rfl,hb⟩
 have HB1:Hid (Below w.heap.size w w1):=Below.trans ((Below.refl _ _).alloc (Nat.le_refl _) _) (hb.mono (by simp))
 have s0:w1.cell? ⟨w.heap.size,0,none⟩=some (.int .i64 (S:Nat)):=by rw [(bcell hb).1 _ _ (by simp)]; simp [go_sem]
 have s1:w1.cell? ⟨w.heap.size,1,none⟩=some (.int .i64 (B:Nat)):=by rw [(bcell hb).1 _ _ (by simp)]; simp [go_sem]
 have s2:w1.cell? ⟨w.heap.size,2,none⟩=some (.int .i64 (n:Nat)):=by rw [(bcell hb).1 _ _ (by simp)]; simp [go_sem]
 have hz1:w.heap.size + 1≤w1.heap.size:=by have:=hb.size; simpa using this
 clear hb HR
 go_wp2_with fail
 refine wp_region_held_drew (S:=fun w' => w'.cell? ⟨w.heap.size,0,none⟩=some (.int .i64 (S:Nat))∧w'.cell? ⟨w.heap.size,1,none⟩=some (.int .i64 (B:Nat))∧w'.cell? ⟨w.heap.size,2,none⟩=some (.int .i64 (n:Nat))) (by kernel_rfl) ?_ (fun hHeld => ?_)
 ·exact ⟨s0,s1,s2⟩
 refine tkR 0 rfl ?_
 refine tkR 1 rfl ?_
 refine tkR 2 rfl ?_
 refine tkR 3 rfl ?_
 refine tkR 4 rfl ?_
 refine tkR 5 rfl ?_
 refine clR 6 rfl fun K hK => ?_
 go_simp
 refine hK.out _ _ ?_ (fun hHeld => ?_)
 ·(try dsimp only)
  obtain ⟨q0,q1,q2⟩:=hHeld
  exact ⟨(World.cell?_alloc_lt _ _ _ (by show w.heap.size < w1.heap.size; omega)).trans q0,(World.cell?_alloc_lt _ _ _ (by show w.heap.size < w1.heap.size; omega)).trans q1,(World.cell?_alloc_lt _ _ _ (by show w.heap.size < w1.heap.size; omega)).trans q2⟩
 clear hK K
 refine tkR 7 rfl ?_
 refine clR 8 rfl fun K hK => ?_
 go_simp
 refine hK.out _ _ ?_ (fun hHeld => ?_)
 ·(try dsimp only)
  obtain ⟨q0,q1,q2⟩:=hHeld
  exact ⟨(World.cell?_alloc_lt _ _ _ (by show w.heap.size < _; simp; omega)).trans q0,(World.cell?_alloc_lt _ _ _ (by show w.heap.size < _; simp; omega)).trans q1,(World.cell?_alloc_lt _ _ _ (by show w.heap.size < _; simp; omega)).trans q2⟩
 clear hK K
 refine tkR 9 rfl ?_
 refine wpAnyH_done (by kernel_rfl) ?_ _
 obtain ⟨q,hq⟩:∃ q,q=w1.heap.size:=⟨_,rfl⟩
 obtain ⟨p,hp⟩:∃ p,p=w1.heap.size + 1:=⟨_,rfl⟩
 obtain ⟨w2,hw2⟩:∃ w2,w2=((w1.alloc (.cells (mkC (.slice none 0 0) 1 M) 133)).alloc (.cells #[.int .i64 (S:Nat),.int .i64 (B:Nat),.int .i64 (n:Nat),.slice (some ⟨q,0,none⟩) M M] 156)).drew:=⟨_,rfl⟩
 have HQ0:Hid (w2.rowIs q 133 M (fun _ => .slice none 0 0)):=by rw [hw2,hq]; exact (rowIs_nils.alloc _).drew
 have HP0:Hid (w2.cell? ⟨p,0,none⟩=some (.int .i64 (S:Nat))∧w2.cell? ⟨p,1,none⟩=some (.int .i64 (B:Nat))∧w2.cell? ⟨p,2,none⟩=some (.int .i64 (n:Nat))∧w2.cell? ⟨p,3,none⟩=some (.slice (some ⟨q,0,none⟩) M M)∧w2.cell? ⟨w.heap.size,2,none⟩=some (.int .i64 (n:Nat))):=by
  rw [hw2,hp]
  refine ⟨by simp [go_sem],by simp [go_sem],by simp [go_sem],by simp [go_sem],?_⟩
  exact (World.cell?_alloc_lt _ _ _ (by show w.heap.size < _; simp; omega)).trans ((World.cell?_alloc_lt _ _ _ (by show w.heap.size < _; omega)).trans s2)
 have HB2:Hid (Below w.heap.size w w2):=by rw [hw2]; exact ((HB1.out.alloc (by omega) _).alloc (by simp; omega) _).drew
 have hp2:p < w2.heap.size:=by rw [hw2,hp]; simp
 have hpq:q + 1=p:=by rw [hp,hq]
 have hqw:w.heap.size < q:=by rw [hq]; omega
 rw [← hp,← hq,← hw2]
 clear hw2 hq hp hHeld s0 s1 s2 hk1 hmw hmw3 HB1 hz1
 obtain ⟨t0,t1,t2,t3,t4⟩:=HP0.out
 go_wp2
 clear t0 t1 t2 t3 t4
 go_loopw [23] (fun i wr => ∃ (k:Nat) (G:Nat→Value),k≤M∧i=.int .i64 k∧p < wr.heap.size∧Hid (wr.rowIs q 133 M G)∧Hid (∀ i,i < k→PlRowD wr (fun b => b≤p) (G i) n (fun _ => pl0))∧Hid (wr.cell? ⟨p,0,none⟩=some (.int .i64 (S:Nat))∧wr.cell? ⟨p,1,none⟩=some (.int .i64 (B:Nat))∧wr.cell? ⟨p,2,none⟩=some (.int .i64 (n:Nat))∧wr.cell? ⟨p,3,none⟩=some (.slice (some ⟨q,0,none⟩) M M)∧wr.cell? ⟨w.heap.size,2,none⟩=some (.int .i64 (n:Nat)))∧Hid (Below w.heap.size w wr)) (fun i _ => M - (intOf i).toNat)
 case atStart => exact ⟨0,_,by omega,rfl,hp2,HQ0,fun i hi => absurd hi (by omega),HP0,HB2⟩
 case round =>
  obtain ⟨k,G,hk,rfl,hpz,HQ,HR,HP,HB⟩:=hrel
  obtain ⟨t0,t1,t2,t3,t4⟩:=HP.out
  by_cases hlt:k < M
  ·have g0:(0:Int)≤(k:Int):=Int.natCast_nonneg _
   have g1:(k:Int) < (M:Int):=by omega
   go_wp2_with fail
   refine wp_region_held_drew (S:=fun w' => w'.cell? ⟨p,3,none⟩=some (.slice (some ⟨q,0,none⟩) M M)∧w'.cell? ⟨w.heap.size,2,none⟩=some (.int .i64 (n:Nat))) (by kernel_rfl) ?_ (fun hHeld => ?_)
   ·exact ⟨t3,t4⟩
   obtain ⟨v0,hv0⟩:∃ w',w'=wr.drew:=⟨_,rfl⟩
   have hvz:v0.heap.size=wr.heap.size:=by rw [hv0]; rfl
   have hvb:Below wr.heap.size wr v0:=by rw [hv0]; exact (Below.refl _ _).drew
   rw [← hv0] at hHeld ⊢
   clear hv0
   obtain ⟨gb,hgb⟩:∃ g',g'=wr.heap.size:=⟨_,rfl⟩
   obtain ⟨v1,hv1⟩:∃ w',w'=v0.alloc (.cells (mkC (.agg #[.bool false,.int .i64 0,.int .u64 0,.int .i64 0,.bool false,.int .u32 0]) 6 n) 162):=⟨_,rfl⟩
   have HO:Hid (RowOf v1 162 wr.heap.size (.slice (some ⟨gb,0,none⟩) n n) n (fun _ => pl0)):=by rw [hv1,hgb,← hvz]; exact own_nils (by unfold maxLen; omega)
   have hb1:Below wr.heap.size wr v1:=by rw [hv1]; exact hvb.alloc (by omega) _
   have HQ1:Hid (v1.rowIs q 133 M G):=HQ.out.of_block (hb1.block q (by omega))
   have y1:(v0.alloc (.cells (mkC (.agg #[.bool false,.int .i64 0,.int .u64 0,.int .i64 0,.bool false,.int .u32 0]) 6 n) 162)).cell? ⟨q,k,none⟩=some (G k):=by rw [← hv1]; exact HQ1.out.cell hlt
   have y2:∀ i,(v0.alloc (.cells (mkC (.agg #[.bool false,.int .i64 0,.int .u64 0,.int .i64 0,.bool false,.int .u32 0]) 6 n) 162)).frozen? ⟨q,i,none⟩=false:=fun i => by rw [← hv1]; exact HQ1.out.frozen i
   refine tkR 0 rfl ?_
   refine tkR 1 rfl ?_
   refine tkR 2 rfl ?_
   refine tkR 3 rfl ?_
   refine tkR 4 rfl ?_
   refine tkR 5 rfl ?_
   refine tkR 6 rfl ?_
   refine clR 7 rfl fun K hK => ?_
   go_simp
   refine hK.out _ _ ?_ (fun hHeld => ?_)
   ·(try dsimp only)
    obtain ⟨q0,q1⟩:=hHeld
    exact ⟨(World.cell?_alloc_lt _ _ _ (by show p < v0.heap.size; omega)).trans q0,(World.cell?_alloc_lt _ _ _ (by show w.heap.size < v0.heap.size; omega)).trans q1⟩
   clear hK K
   refine tkR 8 rfl ?_
   refine clR 9 rfl fun K hK => ?_
   go_simp
   refine hK.out _ _ ?_ (fun hHeld => ?_)
   ·(try dsimp only)
    obtain ⟨q0,q1⟩:=hHeld
    have hz1:=hb1.size
    exact ⟨((But.set k _).cell (show p < (v0.alloc _).heap.size by rw [World.size_alloc]; omega) (show p ≠ q by omega)).trans q0,((But.set k _).cell (show w.heap.size < (v0.alloc _).heap.size by rw [World.size_alloc]; omega) (show w.heap.size ≠ q by omega)).trans q1⟩
   clear hK K
   (try simp only [Act.put,sqA,sqB,sqC])
   refine wpAnyH_done (by kernel_rfl) ?_ _
   obtain ⟨v2,hv2⟩:∃ w',w'=v1.setCell ⟨q,k,none⟩ (.slice (some ⟨gb,0,none⟩) n n):=⟨_,rfl⟩
   have hbut:But q wr v2:=by rw [hv2]; exact (But.of hb1 (by omega)).trans (But.set k _)
   have HQ2:Hid (v2.rowIs q 133 M (fun j => if j=k then .slice (some ⟨gb,0,none⟩) n n else G j)):=by rw [hv2]; exact HQ1.out.set k _
   have HR2:Hid (∀ i,i < k + 1→PlRowD v2 (fun b => b≤p) ((fun j => if j=k then .slice (some ⟨gb,0,none⟩) n n else G j) i) n (fun _ => pl0)):=fun i hi => by
    by_cases hik:i=k
    ·show PlRowD v2 _ (if i=k then _ else _) n _
     rw [if_pos hik,hv2]
     exact (PlRowD.of_own (D:=fun b => b≤p) HO.out (fun b hb => by show b < wr.heap.size; have:b≤p:=hb; omega)).but (But.set k _) (by show q≤p; omega)
    ·show PlRowD v2 _ (if i=k then _ else _) n _
     rw [if_neg hik]
     exact (HR.out i (by omega)).but hbut (by show q≤p; omega)
   have c2:=hbut.below.size
   have HP2:Hid (v2.cell? ⟨p,0,none⟩=some (.int .i64 (S:Nat))∧v2.cell? ⟨p,1,none⟩=some (.int .i64 (B:Nat))∧v2.cell? ⟨p,2,none⟩=some (.int .i64 (n:Nat))∧v2.cell? ⟨p,3,none⟩=some (.slice (some ⟨q,0,none⟩) M M)∧v2.cell? ⟨w.heap.size,2,none⟩=some (.int .i64 (n:Nat))) :=
    ⟨(hbut.cell (show p < _ by omega) (show p ≠ q by omega)).trans t0,(hbut.cell (show p < _ by omega) (show p ≠ q by omega)).trans t1,(hbut.cell (show p < _ by omega) (show p ≠ q by omega)).trans t2,(hbut.cell (show p < _ by omega) (show p ≠ q by omega)).trans t3,(hbut.cell (show w.heap.size < _ by omega) (show w.heap.size ≠ q by omega)).trans t4⟩
   have HB3:Hid (Below w.heap.size w v2):=HB.out.trans (hbut.below.mono (by omega))
   try rw [← hgb]
   try rw [← hv1]
   rw [← hv2]
   have hpz2:p < v2.heap.size:=by omega
   clear hv1 hv2 hgb hHeld y1 y2 HO HQ1 HQ HR HP HB hbut hb1 hvb hvz t0 t1 t2 t3 t4
   go_wp2
   go_roundw
   case rel => exact ⟨k + 1,_,by omega,by go_num,hpz2,HQ2,HR2,HP2,HB3⟩
   case measure => simp [intOf]; omega
  ·have hkM:M=k:=by omega
   subst hkM
   go_wp2
   refine bodyPost_ret (v:=.tuple #[.pointer (some ⟨p,0,none⟩),.int .i64 0]) (by simp [results,Tryz.results24,go_sem]) rfl ⟨p,q,rfl,?_,by omega,by omega,by omega,HB.out⟩
   have hcap:M≤maxLen:=by unfold maxLen; omega
   refine ⟨hpz,by omega,by omega,t0,t1,t2,⟨M,by rw [← HM.out]; exact Nat.le_refl _,hcap,?_⟩,HQ.out.frozen,fun i hi => ?_⟩
   ·rw [← HM.out]; exact t3
   ·rw [← HM.out] at hi
    exact ⟨_,HQ.out.cell hi,HR.out i hi⟩
end
section
open Go.RowKit
end
end Go.Proofs.YtpcapdpglpgcbaaGreat
