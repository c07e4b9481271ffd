/-
  Words and contracts that a statement's proof rests on (Open, OpenFl, Plain, PlainVlan, PlainVl, OpenVl, PlainVlanB, PlainFrame). No statement is proved here.
-/
import Derived.Deep.Slices
import Derived.Deep.Fields
import Derived.ChangeSame
import Derived.Laws.BitsAllLaws
import Derived.Below
import Derived.Test.YtfekhdgjgjodlaaGreatBase
set_option linter.unusedVariables false
set_option linter.unusedSimpArgs false
namespace Go.Proofs.YtfekhdgjgjodlaaGreat
section
open Go.ChangeShapes Go.WideShapes Go.RowKit Go.Deep
section
variable {H:Type} {enc:TypeId × Value→H} {P:Program} {w:World} {base:Nat} {spare:Nat→Bool} {held:Bool}
def Holds1 (enc:TypeId × Value→H) (P:Program) (w:World) (base:Nat) (spare:Nat→Bool) (held:Bool) (t:TypeId) (u:Value):Prop :=
 ∃ (n:Nat) (y:DataW H × List MemPlace),DataW.trod enc P w base spare held n t [u]=some y
theorem Holds1.int {k:IntKind} {t:TypeId} {u:Value} (h:Holds1 enc P w base spare held t u) (ht:P.underlying t=some (.int k)):∃ n,u=.int k n∧(Lit.int k n).wf=true:=by
 obtain ⟨m,y,hy⟩:=h
 obtain ⟨n,h1,_,h3⟩:=DataW.trod_int ht hy
 exact ⟨n,by simpa using h1,h3⟩
theorem Holds1.bool {t:TypeId} {u:Value} (h:Holds1 enc P w base spare held t u) (ht:P.underlying t=some .bool):∃ b,u=.bool b:=by
 obtain ⟨m,y,hy⟩:=h
 obtain ⟨n,h1,_⟩:=DataW.trod_bool ht hy
 exact ⟨n,by simpa using h1⟩
theorem Holds1.i64 {t:TypeId} {u:Value} (h:Holds1 enc P w base spare held t u) (ht:P.underlying t=some (.int .i64)):∃ n:Int,u=.int .i64 n∧-9223372036854775808≤n∧n≤9223372036854775807:=by
 obtain ⟨n,rfl,hw⟩:=h.int ht
 exact ⟨n,rfl,Go.bounds_i64 hw⟩
theorem Holds1.u64 {t:TypeId} {u:Value} (h:Holds1 enc P w base spare held t u) (ht:P.underlying t=some (.int .u64)):∃ n:Nat,u=.int .u64 (n:Int)∧n < 18446744073709551616:=by
 obtain ⟨n,rfl,hw⟩:=h.int ht
 have:=Go.bounds_u64 hw
 exact ⟨n.toNat,by congr 1; omega,by omega⟩
theorem Holds1.u32 {t:TypeId} {u:Value} (h:Holds1 enc P w base spare held t u) (ht:P.underlying t=some (.int .u32)):∃ n:Nat,u=.int .u32 (n:Int)∧n < 4294967296:=by
 obtain ⟨n,rfl,hw⟩:=h.int ht
 have:=Go.bounds_u32 hw
 exact ⟨n.toNat,by congr 1; omega,by omega⟩
theorem Holds1.bytes {t e:TypeId} {u:Value} (h:Holds1 enc P w 0 (fun _ => true) held t u) (ht:P.underlying t=some (.slice e)) (he:P.underlying e=some (.int .u8)) (hc:P.cellsOf e=1) :
  ∃ l:List Nat,Sl w w.heap.size 1 u l.length (bv l)∧∀ x ∈ l,x < 256:=by
 obtain ⟨fuel,y,hf⟩:=h
 rcases open_ints ht he hc hf with ⟨hcs,_⟩ | ⟨x,l,c,zs,hcs,_,hl,hm,hz,_,hcell,hwz⟩
 ·obtain rfl:u=.slice none 0 0:=by simpa using hcs
  exact ⟨[],Sl.nil _ _ _,by simp⟩
 ·obtain rfl:u=.slice (some x) l c:=by simpa using hcs
  simp only [if_true] at hz
  obtain ⟨ns,rfl,hns⟩:=nats_of_u8 zs hwz
  simp only [List.length_map] at hz hcell
  have hlen:(ns.take l).length=l:=by rw [List.length_take]; omega
  refine ⟨ns.take l,?_,fun x hx => hns x (List.mem_of_mem_take hx)⟩
  refine ⟨by simp [bv_length],some x,c,by rw [hlen],by omega,hm,fun hn => ?_⟩
  obtain ⟨b,off,spot⟩:=x
  have h0:=hcell 0 (by omega)
  have hspot:spot=none:=by simpa [Addr.add] using World.cell?_spot h0
  subst hspot
  refine ⟨b,off,rfl,World.block_lt_of_cell? w _ (by simpa [Addr.add] using h0),fun j hj => ?_⟩
  rw [hlen,Nat.mul_one] at hj
  have hj2:j < ns.length:=by omega
  have h1:=hcell j hj2
  have hadd:(⟨b,off,none⟩:Addr).add j=⟨b,off + j,none⟩:=by unfold Addr.add; split <;> simp_all
  rw [hadd] at h1
  rw [h1,bv_at _ _ (by rw [hlen]; exact hj)]
  simp [List.getD_eq_getElem?_getD,List.getElem?_map,List.getElem?_eq_getElem hj2]
end
end
section
open Go.ChangeShapes Go.WideShapes Go.RowKit Go.Deep
section
variable {H:Type} {enc:TypeId × Value→H} {P:Program} {w:World} {base:Nat} {spare:Nat→Bool} {held:Bool}
def leavesF (P:Program) (rec:TypeId→Option (List TypeId)):List Field→Nat→Option (List TypeId)
 | [],_ => some []
 | f :: fs,off => if f.offset=off then
   match rec f.type with
   | some a => if P.cellsOf f.type=a.length then
     match leavesF P rec fs (off + a.length) with
     | some b => some (a ++ b)
     | none => none
    else none
   | none => none
  else none
def leaves (P:Program):Nat→TypeId→Option (List TypeId)
 | 0,_ => none
 | n + 1,t => match P.underlying t with
  | some (.struct fs) => match leavesF P (leaves P n) fs.toList 0 with
   | some l => if P.cellsOf t=l.length then some l else none
   | none => none
  | _ => if P.cellsOf t=1 then some [t] else none
theorem leavesF_held (rec:TypeId→Option (List TypeId))
  (hrec:∀ t cs x fuel ts,rec t=some ts→cs.length=P.cellsOf t→DataW.trod enc P w base spare held fuel t cs=some x→∀ (j:Nat) tj,ts[j]?=some tj→∃ u,cs[j]?=some u∧Holds1 enc P w base spare held tj u) :
  ∀ (fs:List Field) (off:Nat) (ts:List TypeId) (cs:List Value),leavesF P rec fs off=some ts→off + ts.length≤cs.length →
   (∀ f ∈ fs,∃ fuel x,DataW.trod enc P w base spare held fuel f.type ((cs.drop f.offset).take (P.cellsOf f.type))=some x) →
   ∀ (j:Nat) tj,ts[j]?=some tj→∃ u,cs[off + j]?=some u∧Holds1 enc P w base spare held tj u
 | [],off,ts,cs,h,_,_ => by
  intro j tj hj
  simp [leavesF] at h
  subst h
  simp at hj
 | f :: fs,off,ts,cs,h,hlen,hf => by
  intro j tj hj
  unfold leavesF at h
  split at h
  ·rename_i ho
   split at h
   ·rename_i a ha
    split at h
    ·rename_i hc
     split at h
     ·rename_i b hb
      injection h with h
      subst h
      rw [List.length_append] at hlen
      obtain ⟨fuel,x,hx⟩:=hf f (by simp)
      rw [ho] at hx
      have hcl:((cs.drop off).take (P.cellsOf f.type)).length=P.cellsOf f.type:=by
       rw [List.length_take,List.length_drop]; omega
      rcases Nat.lt_or_ge j a.length with h1 | h1
      ·rw [List.getElem?_append_left h1] at hj
       obtain ⟨u,hu,hh⟩:=hrec f.type _ _ _ _ ha hcl hx j tj hj
       refine ⟨u,?_,hh⟩
       rw [List.getElem?_take,if_pos (by omega),List.getElem?_drop] at hu
       exact hu
      ·rw [List.getElem?_append_right h1] at hj
       obtain ⟨u,hu,hh⟩:=leavesF_held rec hrec fs (off + a.length) b cs hb (by omega) (fun g hg => hf g (by simp [hg])) (j - a.length) tj hj
       refine ⟨u,?_,hh⟩
       rw [← hu]
       congr 1
       omega
     ·cases h
    ·cases h
   ·cases h
  ·cases h
theorem leaves_held:∀ (n:Nat) (t:TypeId) (cs:List Value) (x:DataW H × List MemPlace) (fuel:Nat) (ts:List TypeId),leaves P n t=some ts→cs.length=P.cellsOf t→DataW.trod enc P w base spare held fuel t cs=some x →
  ∀ (j:Nat) tj,ts[j]?=some tj→∃ u,cs[j]?=some u∧Holds1 enc P w base spare held tj u
 | 0,t,cs,x,fuel,ts,h,_,_ => by simp [leaves] at h
 | n + 1,t,cs,x,fuel,ts,h,hcs,hx => by
  intro j tj hj
  unfold leaves at h
  split at h
  ·rename_i fs hs
   split at h
   ·rename_i l hl
    split at h
    ·rename_i hc
     injection h with h
     subst h
     obtain ⟨xs,m,_,_,hlen,hxl,hg⟩:=DataW.trod_struct hs hx
     have hf:∀ f ∈ fs.toList,∃ fuel x,DataW.trod enc P w base spare held fuel f.type ((cs.drop f.offset).take (P.cellsOf f.type))=some x:=by
      intro f hf
      obtain ⟨i,hi,rfl⟩:=List.getElem_of_mem hf
      have hi':i < fs.size:=by simpa using hi
      have:=hg i fs[i] (Array.getElem?_eq_getElem hi')
      rw [List.getElem?_eq_getElem (show i < xs.length by omega)] at this
      exact ⟨m,_,by simpa using this⟩
     have:=leavesF_held (leaves P n) (fun t cs x fuel ts a b c => leaves_held n t cs x fuel ts a b c) fs.toList 0 l cs hl (by omega) hf j tj hj
     simpa using this
    ·cases h
   ·cases h
  ·split at h
   ·rename_i hc
    injection h with h
    subst h
    rw [hc] at hcs
    match cs,hcs with
    | [u],_ =>
     match j,hj with
     | 0,hj =>
      simp at hj
      subst hj
      exact ⟨u,rfl,fuel,x,hx⟩
   ·cases h
theorem open_flat {r:Reach} {b0:Nat} {t:TypeId} {fs:Array Field} {ts:List TypeId} {v:Value} {d:DataW H} {p:List MemPlace} (hs:P.underlying t=some (.struct fs)) (hl:leaves P 8 t=some ts) (hn:P.cellsOf t=ts.length)
  (hv:Value.okWide P w r b0 t v) (h:DataW.Trod enc P w base spare held t v d p) :
  ∃ l:List Value,v=.agg l.toArray∧l.length=ts.length∧∀ (j:Nat) tj,ts[j]?=some tj→∃ u,l[j]?=some u∧Holds1 enc P w base spare held tj u:=by
 obtain ⟨cs,rfl,hsz⟩:=okWide_struct hs hv
 obtain ⟨fuel,hf⟩:=h
 obtain ⟨_,_,_,_,hlen,_⟩:=DataW.trod_struct hs hf
 obtain ⟨l⟩:=cs
 have hll:l.length=P.cellsOf t:=by simpa [Value.cells] using hlen
 have:=leaves_held 8 t _ _ _ _ hl hlen hf
 exact ⟨l,rfl,by omega,by simpa [Value.cells] using this⟩
theorem open_flats {r:Reach} {b0:Nat} {t e:TypeId} {ts:List TypeId} {v:Value} {d:DataW H} {p:List MemPlace} (ht:P.underlying t=some (.slice e)) (hl:leaves P 8 e=some ts) (hC:P.cellsOf e=ts.length) (h0:0 < ts.length)
  (hv:Value.okWide P w r b0 t v) (h:DataW.Trod enc P w 0 (fun _ => true) held t v d p) :
  ∃ (A:Option Addr) (n cap:Nat),v=.slice A n cap∧n≤cap∧cap≤maxLen∧(0 < n→∃ b off,A=some ⟨b,off,none⟩∧b < w.heap.size ∧
   ∀ i,i < n→∀ (j:Nat) tj,ts[j]?=some tj→∃ u,w.cell? ⟨b,off + i * ts.length + j,none⟩=some u∧Holds1 enc P w 0 (fun _ => true) held tj u):=by
 obtain ⟨A,n,cap,rfl⟩:=okWide_slice ht hv
 obtain ⟨fuel,hf⟩:=h
 rcases open_slice ht hf with ⟨hcs,_⟩ | ⟨a,len,c,m,k,D,Pl,hcs,_,hl1,hm,hmm,_,hi⟩
 ·simp [Value.cells] at hcs
  obtain ⟨rfl,rfl,rfl⟩:=hcs
  exact ⟨none,0,0,rfl,Nat.le_refl _,by simp [maxLen],fun h => absurd h (by omega)⟩
 ·simp [Value.cells] at hcs
  obtain ⟨rfl,rfl,rfl⟩:=hcs
  simp only [if_true] at hmm
  subst hmm
  refine ⟨some a,n,m,rfl,hl1,hm,fun hn => ?_⟩
  have hat:∀ i,i < m→∀ (j:Nat) tj,ts[j]?=some tj→∃ u,w.cell? (a.add (i * ts.length + j))=some u∧Holds1 enc P w 0 (fun _ => true) held tj u:=by
   intro i him j tj hj
   obtain ⟨cs',hc,ht'⟩:=hi i him
   rw [hC] at hc
   obtain ⟨_,hcl,hcat⟩:=World.cells?_some hc
   obtain ⟨u,hu,hh⟩:=leaves_held 8 e _ _ _ _ hl (by omega) ht' j tj hj
   have hjl:j < ts.length:=(List.getElem?_eq_some_iff.1 hj).1
   refine ⟨u,?_,hh⟩
   rw [← Go.Deep.add_add,hcat j hjl,hu]
  obtain ⟨u0,hu0,_⟩:=hat 0 (by omega) 0 _ (List.getElem?_eq_getElem h0)
  obtain ⟨b,off,spot⟩:=a
  have hspot:spot=none:=by simpa [Addr.add] using World.cell?_spot hu0
  subst hspot
  refine ⟨b,off,rfl,World.block_lt_of_cell? w _ (by simpa [Addr.add] using hu0),fun i hi2 j tj hj => ?_⟩
  obtain ⟨u,hu,hh⟩:=hat i (by omega) j tj hj
  have hadd:(⟨b,off,none⟩:Addr).add (i * ts.length + j)=⟨b,off + i * ts.length + j,none⟩:=by
   unfold Addr.add; split <;> simp_all [Nat.add_assoc]
  rw [hadd] at hu
  exact ⟨u,hu,hh⟩
end
end
section
theorem and_low (m:Nat):m &&& 281474976710655=m % 281474976710656:=by
 have:=Nat.and_two_pow_sub_one_eq_mod m 48
 simpa using this
theorem andNot_15 (a:Nat) (ha:a < 18446744073709551616):a &&& (18446744073709551615 - 15)=a / 16 * 16:=by
 have e1:(18446744073709551615 - 15:Nat)=(2 ^ 60 - 1) <<< 4:=by decide
 have e2:a / 16 * 16=(a >>> 4) <<< 4:=by rw [Nat.shiftLeft_eq,Nat.shiftRight_eq_div_pow]
 rw [e1,e2]
 apply Nat.eq_of_testBit_eq
 intro i
 simp only [Nat.testBit_and,Nat.testBit_shiftLeft,Nat.testBit_shiftRight,Nat.testBit_two_pow_sub_one]
 by_cases h4:i ≥ 4
 ·by_cases h64:i < 64
  ·have:i - 4 < 60:=by omega
   have e:4 + (i - 4)=i:=by omega
   simp [h4,this,e]
  ·have:a.testBit i=false:=Nat.testBit_lt_two_pow (Nat.lt_of_lt_of_le ha (by
    have:2 ^ 64≤2 ^ i:=Nat.pow_le_pow_right (by omega) (by omega)
    simpa using this))
   have e:4 + (i - 4)=i:=by omega
   simp [h4,this,e]
 ·simp [h4]
theorem and_bit (a k:Nat):a &&& 2 ^ k=(a / 2 ^ k % 2) * 2 ^ k:=by
 have hc:a.testBit k=decide (a / 2 ^ k % 2=1):=Nat.testBit_eq_decide_div_mod_eq ..
 have h2:a / 2 ^ k % 2=0 ∨ a / 2 ^ k % 2=1:=by omega
 apply Nat.eq_of_testBit_eq
 intro i
 rw [Nat.testBit_and,Nat.testBit_two_pow]
 by_cases hi:k=i
 ·subst hi
  rcases h2 with h | h <;> simp [hc,h]
 ·rcases h2 with h | h <;> simp [h,hi]
theorem and_40 (a:Nat):a &&& 1099511627776=(a / 1099511627776 % 2) * 1099511627776:=by
 have:=and_bit a 40
 simpa using this
def mb (m:Nat):List Nat:=[m / 1099511627776 % 256,m / 4294967296 % 256,m / 16777216 % 256,m / 65536 % 256,m / 256 % 256,m % 256]
def lastk (m:Nat):Nat→List Nat
 | 0 => []
 | k + 1 => (m / 256 ^ k % 256) :: lastk m k
theorem lastk_six (m:Nat):lastk m 6=mb m:=by simp [lastk,mb]
def kindN (m:Nat):Nat :=
 if m % 281474976710656=281474976710655 then 2 else if m % 281474976710656 / 16 * 16=1652522221568 then 3 else m / 1099511627776 % 2
theorem reserved_iff (m:Nat):m % 281474976710656 / 16 * 16=1652522221568 ↔
  (m / 1099511627776 % 256=1∧m / 4294967296 % 256=128∧m / 16777216 % 256=194∧m / 65536 % 256=0∧m / 256 % 256=0∧m % 256 < 16):=by
 omega
end
section
theorem bit_lt {p:Nat} (hp:p < 64):2 ^ p < 18446744073709551616:=Nat.lt_of_lt_of_eq (Nat.pow_lt_pow_right (by omega) hp) (by decide)
theorem and_one (s k:Nat):s &&& 2 ^ k=if s.testBit k=true then 2 ^ k else 0:=by
 apply Nat.eq_of_testBit_eq
 intro i
 rw [Nat.testBit_and,Nat.testBit_two_pow]
 split
 ·rename_i h
  rw [Nat.testBit_two_pow]
  by_cases hk:k=i
  ·subst hk; simp [h]
  ·simp [hk]
 ·rename_i h
  by_cases hk:k=i
  ·subst hk; simp [h]
  ·simp [hk]
theorem or_bit_same {s k:Nat} (h:s.testBit k=true):s ||| 2 ^ k=s:=by
 apply Nat.eq_of_testBit_eq
 intro i
 rw [Nat.testBit_or,Nat.testBit_two_pow]
 by_cases hk:k=i
 ·subst hk; simp [h]
 ·simp [hk]
theorem or_bit_add {s k:Nat} (hs:s < 18446744073709551616) (hk:k < 64) (h:s.testBit k=false):s ||| 2 ^ k=s + 2 ^ k:=by
 have h1:=bit_lt hk
 have hx:(BitVec.ofNat 65 s).toNat=s:=by rw [BitVec.toNat_ofNat]; exact Nat.mod_eq_of_lt (by omega)
 have hy:(BitVec.ofNat 65 (2 ^ k)).toNat=2 ^ k:=by rw [BitVec.toNat_ofNat]; exact Nat.mod_eq_of_lt (by omega)
 have h0:BitVec.ofNat 65 s &&& BitVec.ofNat 65 (2 ^ k)=0#65:=by
  apply BitVec.eq_of_toNat_eq
  rw [BitVec.toNat_and,hx,hy,and_one,h]
  rfl
 have:=congrArg BitVec.toNat (BitVec.add_eq_or_of_and_eq_zero _ _ h0)
 rw [BitVec.toNat_add,BitVec.toNat_or,hx,hy,Nat.mod_eq_of_lt (by omega)] at this
 exact this.symm
def hasB (s:Nat) (p:Int):Bool:=decide (0≤p∧p < 64) && s.testBit p.toNat
def withN (s:Nat) (p:Int):Nat:=if 0≤p∧p < 64 then s ||| 2 ^ p.toNat else s
theorem hasB_out (s:Nat) {p:Int} (hp:p < 0 ∨ 64≤p):hasB s p=false:=by
 unfold hasB
 rw [decide_eq_false (by omega)]; rfl
theorem hasB_in (s:Nat) {k:Nat} (hk:k < 64):hasB s (k:Int)=s.testBit k:=by
 unfold hasB
 rw [decide_eq_true (by omega),Int.toNat_natCast]; rfl
theorem has_and (s k:Nat):(((s &&& 2 ^ k:Nat):Int) != 0)=s.testBit k:=by
 rw [and_one]
 have:0 < 2 ^ k:=Nat.two_pow_pos k
 generalize 2 ^ k=y at *
 cases h:s.testBit k
 ·simp
 ·simp
  omega
theorem withN_out (s:Nat) {p:Int} (hp:p < 0 ∨ 64≤p):withN s p=s:=by unfold withN; rw [if_neg (by omega)]
theorem withN_in (s:Nat) {k:Nat} (hk:k < 64):withN s (k:Int)=s ||| 2 ^ k:=by unfold withN; rw [if_pos (by omega),Int.toNat_natCast]
theorem withN_lt {s:Nat} (hs:s < 18446744073709551616) (p:Int):withN s p < 18446744073709551616:=by
 unfold withN
 split
 ·exact Nat.or_lt_two_pow (n:=64) hs (bit_lt (by omega))
 ·exact hs
end
section
open Go.RowKit
structure Vl where
 vid:Int
 mem:Nat
 unt:Nat
def vl0:Vl:=⟨0,0,0⟩
def Vl.ok (x:Vl):Prop:=(-9223372036854775808≤x.vid∧x.vid≤9223372036854775807)∧x.mem < 18446744073709551616∧x.unt < 18446744073709551616
def Vl.cells (x:Vl):List Value:=[.int .i64 x.vid,.int .u64 (x.mem:Nat),.int .u64 (x.unt:Nat)]
def vlc:List Vl→List Value
 | [] => []
 | x :: l => x.cells ++ vlc l
theorem vlc_length:∀ l:List Vl,(vlc l).length=l.length * 3
 | [] => rfl
 | x :: l => by
  have:=vlc_length l
  simp [vlc,Vl.cells,this]
  omega
theorem vlc_append:∀ a b:List Vl,vlc (a ++ b)=vlc a ++ vlc b
 | [],b => rfl
 | x :: a,b => by simp [vlc,vlc_append a b]
theorem vlc_at:∀ (l:List Vl) (j f:Nat),f < 3→(vlc l)[j * 3 + f]?=(l[j]?).bind fun x => x.cells[f]?
 | [],j,f,_ => by simp [vlc]
 | x :: l,0,f,h => by
  rw [vlc,List.getElem?_append_left (by simp [Vl.cells]; omega)]
  simp
 | x :: l,j + 1,f,h => by
  have:=vlc_at l j f h
  rw [vlc,List.getElem?_append_right (by simp [Vl.cells]; omega)]
  have e:(j + 1) * 3 + f - x.cells.length=j * 3 + f:=by simp [Vl.cells]; omega
  rw [e,this]
  simp
theorem vlc_one (l:List Vl):∀ u ∈ vlc l,u.oneCell'=true:=by
 induction l with
 | nil => simp [vlc]
 | cons x l ih =>
  intro u hu
  rw [vlc,List.mem_append] at hu
  rcases hu with h | h
  ·simp [Vl.cells] at h
   rcases h with rfl | rfl | rfl <;> rfl
  ·exact ih u h
theorem vl_ok {l:List Vl} (h:∀ x ∈ l,x.ok) (k:Nat):(l.getD k vl0).ok:=by
 rw [List.getD_eq_getElem?_getD]
 rcases Nat.lt_or_ge k l.length with hk | hk
 ·rw [List.getElem?_eq_getElem hk]; exact h _ (List.getElem_mem hk)
 ·rw [List.getElem?_eq_none hk]
  simp [Vl.ok,vl0]
theorem Sl.vlAt {w:World} {B n:Nat} {v:Value} {l:List Vl} (h:Sl w B 3 v n (vlc l)) (hn:0 < n) :
  ∃ b off cap,v=.slice (some ⟨b,off,none⟩) n cap∧n≤cap∧cap≤maxLen∧b < B∧l.length=n ∧
   ∀ j,j < n→w.cell? ⟨b,off + j * 3,none⟩=some (.int .i64 (l.getD j vl0).vid)∧w.cell? ⟨b,off + j * 3 + 1,none⟩=some (.int .u64 ((l.getD j vl0).mem:Nat))∧w.cell? ⟨b,off + j * 3 + 2,none⟩=some (.int .u64 ((l.getD j vl0).unt:Nat)):=by
 have hl:=h.len
 rw [vlc_length] at hl
 obtain ⟨b,off,cap,rfl,h1,h2,h3,h4⟩:=h.at_ hn
 refine ⟨b,off,cap,rfl,h1,h2,h3,by omega,fun j hj => ?_⟩
 have hjl:j < l.length:=by omega
 have a0:=h4 (j * 3 + 0) (by omega)
 have a1:=h4 (j * 3 + 1) (by omega)
 have a2:=h4 (j * 3 + 2) (by omega)
 rw [vlc_at l j _ (by omega),List.getElem?_eq_getElem hjl] at a0 a1 a2
 simp only [List.getD_eq_getElem?_getD,List.getElem?_eq_getElem hjl,Option.getD_some]
 exact ⟨a0,a1,a2⟩
theorem Sl.vlLen {w:World} {B n:Nat} {v:Value} {l:List Vl} (h:Sl w B 3 v n (vlc l)):l.length=n:=by
 have hl:=h.len
 rw [vlc_length] at hl
 omega
def firstI (f:Nat→Bool):Nat→Int
 | 0 => -1
 | k + 1 => if 0≤firstI f k then firstI f k else if f k=true then (k:Int) else -1
theorem firstI_none (f:Nat→Bool):∀ k,(∀ i,i < k→f i=false)→firstI f k=-1
 | 0,_ => rfl
 | k + 1,h => by
  rw [firstI,firstI_none f k fun i hi => h i (by omega),if_neg (by omega),h k (by omega)]
  rfl
theorem firstI_at (f:Nat→Bool) (k:Nat) (h:∀ i,i < k→f i=false) (hk:f k=true):∀ n,k < n→firstI f n=(k:Int)
 | 0,h0 => by omega
 | n + 1,h0 => by
  rw [firstI]
  rcases Nat.lt_or_ge k n with h1 | h1
  ·rw [firstI_at f k h hk n h1,if_pos (by omega)]
  ·obtain rfl:k=n:=by omega
   rw [firstI_none f k h,if_neg (by omega),if_pos hk]
theorem firstI_bd (f:Nat→Bool):∀ k,-1≤firstI f k∧firstI f k < k
 | 0 => by simp [firstI]
 | k + 1 => by
  have:=firstI_bd f k
  rw [firstI]
  split
  ·omega
  ·split <;> omega
def vidAt (l:List Vl) (vid:Int) (i:Nat):Bool:=(l.getD i vl0).vid == vid
def findN (l:List Vl) (vid:Int) (n:Nat):Int:=firstI (vidAt l vid) n
end
section
open Go.ChangeShapes Go.WideShapes Go.RowKit Go.Deep
theorem list_of {α:Type} (d:α) {Q:Nat→α→Prop}:∀ n,(∀ i,i < n→∃ x,Q i x)→∃ l:List α,l.length=n∧∀ i,i < n→Q i (l.getD i d)
 | 0,_ => ⟨[],rfl,fun i hi => by omega⟩
 | n + 1,h => by
  obtain ⟨l,hl,hq⟩:=list_of d n fun i hi => h i (by omega)
  obtain ⟨x,hx⟩:=h n (by omega)
  refine ⟨l ++ [x],by simp [hl],fun i hi => ?_⟩
  rcases Nat.lt_or_ge i n with h1 | h1
  ·have:=hq i h1
   rw [List.getD_eq_getElem?_getD,List.getElem?_append_left (by omega),← List.getD_eq_getElem?_getD]
   exact this
  ·obtain rfl:i=n:=by omega
   rw [List.getD_eq_getElem?_getD,List.getElem?_append_right (by omega),hl]
   simpa using hx
theorem Sl.of_vls {w:World} {B n b off cap:Nat} {l:List Vl} (hl:l.length=n) (h1:n≤cap) (h2:cap≤maxLen) (hb:b < B)
  (h:∀ j,j < n→w.cell? ⟨b,off + j * 3,none⟩=some (.int .i64 (l.getD j vl0).vid)∧w.cell? ⟨b,off + j * 3 + 1,none⟩=some (.int .u64 ((l.getD j vl0).mem:Nat))∧w.cell? ⟨b,off + j * 3 + 2,none⟩=some (.int .u64 ((l.getD j vl0).unt:Nat))) :
  Sl w B 3 (.slice (some ⟨b,off,none⟩) n cap) n (vlc l):=by
 refine ⟨by rw [vlc_length,hl],_,cap,rfl,h1,h2,fun _ => ⟨b,off,rfl,hb,fun j hj => ?_⟩⟩
 have e:j=j / 3 * 3 + j % 3:=by omega
 have hm:j % 3 < 3:=by omega
 have hq:j / 3 < n:=by omega
 obtain ⟨c0,c1,c2⟩:=h (j / 3) hq
 have hql:j / 3 < l.length:=by omega
 have hv:(vlc l)[j]?=(l[j / 3]?).bind fun x => x.cells[j % 3]?:=by
  have:=vlc_at l (j / 3) (j % 3) hm
  rw [← e] at this
  exact this
 rw [hv,List.getElem?_eq_getElem hql]
 simp only [List.getD_eq_getElem?_getD,List.getElem?_eq_getElem hql,Option.getD_some] at c0 c1 c2
 have ea:off + j=off + j / 3 * 3 + j % 3:=by omega
 rw [ea]
 rcases (show j % 3=0 ∨ j % 3=1 ∨ j % 3=2 by omega) with h | h | h
 ·rw [h]; exact c0
 ·rw [h]; exact c1
 ·rw [h]; exact c2
section
variable {H:Type} {enc:TypeId × Value→H} {P:Program} {w:World} {held:Bool}
end
end
section

end
section
structure Fr where
 dst:Nat
 src:Nat
 tagged:Bool
 tci:Nat
 typ:Nat
 load:List Nat
def Fr.zero:Fr:=⟨0,0,false,0,0,[]⟩
end
end Go.Proofs.YtfekhdgjgjodlaaGreat
