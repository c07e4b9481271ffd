/-
  Words and contracts that a statement's proof rests on (Plain, PlainVlan, PlainVl, PlainVlanB, PlainVlanC, PlainMo, PlainFrame, Mac, Keep, PlainFx). No statement is proved here.
-/
import Derived.Laws.BitsAllLaws
import Derived.Below
import Derived.Test.YtfekhdgjgjodlaaGreatProg
import Derived.Handy
import Derived.WalkLawsBesides
import Derived.Lib.Hide
import Derived.Deep.QuietTactic
import Derived.BigQuiet
import Derived.Test.YtfekhdgjgjodlaaGreatKit
set_option linter.unusedVariables false
set_option linter.unusedSimpArgs false
namespace Go.Proofs.YtfekhdgjgjodlaaGreat
section
theorem and_low (m:Nat):m &&& 281474976710655=m % 281474976710656:=by
 have:=Nat.and_two_pow_sub_one_eq_mod m 48
 simpa using this
theorem zon (a:Nat) (ha:a<18446744073709551616):a &&& (18446744073709551615 - 15)=a / 16*16:=by
 have e1:(18446744073709551615 - 15:Nat)=(2 ^ 60 - 1) <<< 4:=by decide
 have e2:a / 16*16=(a >>> 4) <<< 4:=by rw [Nat.shiftLeft_eq,Nat.shiftRight_eq_div_pow]
 rw [e1,e2]
 apply Nat.eq_of_testBit_eq
 intro i
 simp only [Nat.testBit_and,Nat.testBit_shiftLeft,Nat.testBit_shiftRight,Nat.testBit_two_pow_sub_one]
 by_cases h4:i≥4
 ·by_cases h64:i<64
  ·have:i - 4<60:=by omega
   have e:4+(i - 4)=i:=by omega
   simp [h4,this,e]
  ·have:a.testBit i=false:=Nat.testBit_lt_two_pow (Nat.lt_of_lt_of_le ha (by
    have:2 ^ 64<=2 ^ i:=Nat.pow_le_pow_right (by omega) (by omega)
    simpa using this))
   have e:4+(i - 4)=i:=by omega
   simp [h4,this,e]
 ·simp [h4]
theorem and_bit (a k:Nat):a &&& 2 ^ k=(a / 2 ^ k % 2)*2 ^ k:=by
 have hc:a.testBit k=decide (a / 2 ^ k % 2=1):=Nat.testBit_eq_decide_div_mod_eq ..
 have h2:a / 2 ^ k % 2=0\/a / 2 ^ k % 2=1:=by omega
 apply Nat.eq_of_testBit_eq
 intro i;rw [Nat.testBit_and,Nat.testBit_two_pow]
 by_cases hi:k=i
 ·subst hi
  rcases h2 with h|h <;> simp [hc,h]
 ·rcases h2 with h|h <;> simp [h,hi]
theorem and_40 (a:Nat):a &&& 1099511627776=(a / 1099511627776 % 2)*1099511627776:=by
 have:=and_bit a 40
 simpa using this
def mb (m:Nat):List Nat:=[m / 1099511627776 % 256,m / 4294967296 % 256,m / 16777216 % 256,m / 65536 % 256,m / 256 % 256,m % 256]
def zi6 (m:Nat):Nat->List Nat
 |0=>[]
 |k+1=>(m / 256 ^ k % 256) :: zi6 m k
theorem zpx (m:Nat):zi6 m 6=mb m:=by simp [zi6,mb]
def zfh (m:Nat):Nat :=
 if m % 281474976710656=281474976710655 then 2 else if m % 281474976710656 / 16*16=1652522221568 then 3 else m / 1099511627776 % 2
theorem zi1 (m:Nat):m % 281474976710656 / 16*16=1652522221568 ↔
  (m / 1099511627776 % 256=1/\m / 4294967296 % 256=128/\m / 16777216 % 256=194/\m / 65536 % 256=0/\m / 256 % 256=0/\m % 256<16):=by
 omega
end
section
theorem zel {p:Nat} (hp:p<64):2 ^ p<18446744073709551616:=Nat.lt_of_lt_of_eq (Nat.pow_lt_pow_right (by omega) hp) (by decide)
theorem zox (s k:Nat):s &&& 2 ^ k=if s.testBit k=true then 2 ^ k else 0:=by
 apply Nat.eq_of_testBit_eq
 intro i;rw [Nat.testBit_and,Nat.testBit_two_pow]
 split
 ·rename_i h
  rw [Nat.testBit_two_pow]
  by_cases hk:k=i
  ·subst hk;simp [h]
  ·simp [hk]
 ·rename_i h
  by_cases hk:k=i
  ·subst hk;simp [h]
  ·simp [hk]
theorem zkr {s k:Nat} (h:s.testBit k=true):s ||| 2 ^ k=s:=by
 apply Nat.eq_of_testBit_eq
 intro i;rw [Nat.testBit_or,Nat.testBit_two_pow]
 by_cases hk:k=i
 ·subst hk;simp [h]
 ·simp [hk]
theorem zhu {s k:Nat} (hs:s<18446744073709551616) (hk:k<64) (h:s.testBit k=false):s ||| 2 ^ k=s+2 ^ k:=by
 have h1:=zel hk
 have hx:(BitVec.ofNat 65 s).toNat=s:=by rw [BitVec.toNat_ofNat];exact Nat.mod_eq_of_lt (by omega)
 have hy:(BitVec.ofNat 65 (2 ^ k)).toNat=2 ^ k:=by rw [BitVec.toNat_ofNat];exact Nat.mod_eq_of_lt (by omega)
 have h0:BitVec.ofNat 65 s &&& BitVec.ofNat 65 (2 ^ k)=0#65:=by
  apply BitVec.eq_of_toNat_eq
  rw [BitVec.toNat_and,hx,hy,zox,h]
  rfl
 have:=congrArg BitVec.toNat (BitVec.add_eq_or_of_and_eq_zero _ _ h0)
 rw [BitVec.toNat_add,BitVec.toNat_or,hx,hy,Nat.mod_eq_of_lt (by omega)] at this
 exact this.symm
def hasB (s:Nat) (p:Int):Bool:=decide (0<=p/\p<64) && s.testBit p.toNat
def zgq (s:Nat) (p:Int):Nat:=if 0<=p/\p<64 then s ||| 2 ^ p.toNat else s
theorem zh2 (s:Nat) {p:Int} (hp:p<0\/64<=p):hasB s p=false:=by
 unfold hasB
 rw [decide_eq_false (by omega)];rfl
theorem zcn (s:Nat) {k:Nat} (hk:k<64):hasB s (k:Int)=s.testBit k:=by
 unfold hasB
 rw [decide_eq_true (by omega),Int.toNat_natCast];rfl
theorem has_and (s k:Nat):(((s &&& 2 ^ k:Nat):Int) != 0)=s.testBit k:=by
 rw [zox]
 have:0<2 ^ k:=Nat.two_pow_pos k
 generalize 2 ^ k=y at *
 cases h:s.testBit k
 ·simp
 ·simp
  omega
theorem zjf (s:Nat) {p:Int} (hp:p<0\/64<=p):zgq s p=s:=by unfold zgq;rw [if_neg (by omega)]
theorem zdz (s:Nat) {k:Nat} (hk:k<64):zgq s (k:Int)=s ||| 2 ^ k:=by unfold zgq;rw [if_pos (by omega),Int.toNat_natCast]
theorem withN_lt {s:Nat} (hs:s<18446744073709551616) (p:Int):zgq s p<18446744073709551616:=by
 unfold zgq
 split
 ·exact Nat.or_lt_two_pow (n:=64) hs (zel (by omega))
 ·exact hs
end
section
open Go.RowKit
structure Vl where
 vid:Int
 mem:Nat
 unt:Nat
def vl0:Vl:=⟨0,0,0⟩
def Vl.ok (x:Vl):Prop:=(-9223372036854775808<=x.vid/\x.vid<=9223372036854775807)/\x.mem<18446744073709551616/\x.unt<18446744073709551616
def Vl.cells (x:Vl):List Value:=[.int .i64 x.vid,.int .u64 (x.mem:Nat),.int .u64 (x.unt:Nat)]
def vlc:List Vl->List Value
 |[]=>[]
 |x :: l=>x.cells ++ vlc l
theorem zdw:∀ l:List Vl,(vlc l).length=l.length*3
 |[]=>rfl
 |x :: l=>by
  have:=zdw l
  simp [vlc,Vl.cells,this]
  omega
theorem ze2:∀ a b:List Vl,vlc (a ++ b)=vlc a ++ vlc b
 |[],b=>rfl
 |x :: a,b=>by simp [vlc,ze2 a b]
theorem zqr:∀ (l:List Vl) (j f:Nat),f<3->(vlc l)[j*3+f]?=(l[j]?).bind fun x=>x.cells[f]?
 |[],j,f,_=>by simp [vlc]
 |x :: l,0,f,h=>by
  rw [vlc,List.getElem?_append_left (by simp [Vl.cells];omega)]
  simp
 |x :: l,j+1,f,h=>by
  have:=zqr l j f h
  rw [vlc,List.getElem?_append_right (by simp [Vl.cells];omega)]
  have e:(j+1)*3+f - x.cells.length=j*3+f:=by simp [Vl.cells];omega
  rw [e,this]
  simp
theorem zh3 (l:List Vl):∀ u∈vlc l,u.oneCell'=true:=by
 induction l with
 |nil=>simp [vlc]
 |cons x l ih =>
  intro u hu;rw [vlc,List.mem_append] at hu
  rcases hu with h|h
  ·simp [Vl.cells] at h
   rcases h with rfl|rfl|rfl <;> rfl
  ·exact ih u h
theorem vl_ok {l:List Vl} (h:∀ x∈l,x.ok) (k:Nat):(l.getD k vl0).ok:=by
 rw [List.getD_eq_getElem?_getD]
 rcases Nat.lt_or_ge k l.length with hk|hk
 ·rw [List.getElem?_eq_getElem hk];exact h _ (List.getElem_mem hk)
 ·rw [List.getElem?_eq_none hk]
  simp [Vl.ok,vl0]
theorem Sl.vlAt {w:World} {B n:Nat} {v:Value} {l:List Vl} (h:Sl w B 3 v n (vlc l)) (hn:0<n) :
  ∃ b off cap,v=.slice (some ⟨b,off,none⟩) n cap/\n<=cap/\cap<=maxLen/\b<B/\l.length=n /\
   ∀ j,j<n->w.cell? ⟨b,off+j*3,none⟩=some (.int .i64 (l.getD j vl0).vid)/\w.cell? ⟨b,off+j*3+1,none⟩=some (.int .u64 ((l.getD j vl0).mem:Nat))/\w.cell? ⟨b,off+j*3+2,none⟩=some (.int .u64 ((l.getD j vl0).unt:Nat)):=by
 have hl:=h.len;rw [zdw] at hl;obtain ⟨b,off,cap,rfl,h1,h2,h3,h4⟩:=h.at_ hn
 refine ⟨b,off,cap,rfl,h1,h2,h3,by omega,fun j hj=>?_⟩
 have hjl:j<l.length:=by omega
 have a0:=h4 (j*3+0) (by omega)
 have a1:=h4 (j*3+1) (by omega)
 have a2:=h4 (j*3+2) (by omega)
 rw [zqr l j _ (by omega),List.getElem?_eq_getElem hjl] at a0 a1 a2
 simp only [List.getD_eq_getElem?_getD,List.getElem?_eq_getElem hjl,Option.getD_some]
 exact ⟨a0,a1,a2⟩
theorem Sl.vlLen {w:World} {B n:Nat} {v:Value} {l:List Vl} (h:Sl w B 3 v n (vlc l)):l.length=n:=by
 have hl:=h.len;rw [zdw] at hl
 omega
def zbl (f:Nat->Bool):Nat->Int
 |0=>-1
 |k+1=>if 0<=zbl f k then zbl f k else if f k=true then (k:Int) else -1
theorem zdc (f:Nat->Bool):∀ k,(∀ i,i<k->f i=false)->zbl f k=-1
 |0,_=>rfl
 |k+1,h=>by
  rw [zbl,zdc f k fun i hi=>h i (by omega),if_neg (by omega),h k (by omega)]
  rfl
theorem zge (f:Nat->Bool) (k:Nat) (h:∀ i,i<k->f i=false) (hk:f k=true):∀ n,k<n->zbl f n=(k:Int)
 |0,h0=>by omega
 |n+1,h0=>by
  rw [zbl]
  rcases Nat.lt_or_ge k n with h1|h1
  ·rw [zge f k h hk n h1,if_pos (by omega)]
  ·obtain rfl:k=n:=by omega
   rw [zdc f k h,if_neg (by omega),if_pos hk]
theorem zba (f:Nat->Bool):∀ k,-1<=zbl f k/\zbl f k<k
 |0=>by simp [zbl]
 |k+1=>by
  have:=zba f k
  rw [zbl]
  split
  ·omega
  ·split <;> omega
def zb7 (l:List Vl) (vid:Int) (i:Nat):Bool:=(l.getD i vl0).vid == vid
def zax (l:List Vl) (vid:Int) (n:Nat):Int:=zbl (zb7 l vid) n
end
section

end
section
def zb8 (a b:Nat):Nat->Bool
 |0=>true
 |k+1=>zb8 a b k && !(a.testBit k && !b.testBit k)
def zaz (a b:Nat):Bool:=zb8 a b 64
theorem zdg (a b:Nat):∀ k,zb8 a b k=true↔∀ i,i<k->a.testBit i=true->b.testBit i=true
 |0=>by simp [zb8]
 |k+1=>by
  rw [zb8,Bool.and_eq_true,zdg a b k]
  constructor
  ·rintro ⟨h1,h2⟩ i hi ha
   rcases Nat.lt_or_ge i k with h|h
   ·exact h1 i h ha
   ·obtain rfl:i=k:=by omega
    rw [ha] at h2
    simpa using h2
  ·intro h
   refine ⟨fun i hi=>h i (by omega),?_⟩
   cases hk:a.testBit k
   ·rfl
   ·rw [h k (by omega) hk];rfl
theorem zm9 {a b k n:Nat} (hk:k<n) (ha:a.testBit k=true) (hb:b.testBit k=false):zb8 a b n=false:=by
 cases h:zb8 a b n
 ·rfl
 ·have:=(zdg a b n).1 h k hk ha
  rw [hb] at this
  cases this
theorem zej {a b:Nat} (ha:a<18446744073709551616) (hb:b<18446744073709551616):(((a &&& (18446744073709551615 - b):Nat):Int) != 0)=!zaz a b:=by
 have e:18446744073709551615 - b=2 ^ 64 - (b+1):=by omega
 have hz:(a &&& (18446744073709551615 - b)=0)↔zaz a b=true:=by
  unfold zaz;rw [zdg,e]
  constructor
  ·intro h i hi hai
   have h2:=congrArg (fun x=>x.testBit i) h
   simp only [Nat.testBit_and,Nat.zero_testBit] at h2
   rw [Nat.testBit_two_pow_sub_succ (by omega),hai] at h2
   simpa [hi] using h2
  ·intro h
   apply Nat.eq_of_testBit_eq
   intro i
   rw [Nat.testBit_and,Nat.zero_testBit,Nat.testBit_two_pow_sub_succ (by omega)]
   by_cases hi:i<64
   ·cases hai:a.testBit i
    ·rfl
    ·rw [h i hi hai];simp
   ·have:a.testBit i=false:=Nat.testBit_lt_two_pow (Nat.lt_of_lt_of_le ha (show 2 ^ 64<=2 ^ i from Nat.pow_le_pow_right (by omega) (by omega)))
    simp [this]
 generalize a &&& (18446744073709551615 - b)=x at *
 cases h:zaz a b
 ·have:¬ x=0:=fun hx=>by rw [hz.1 hx] at h;cases h
  simp;omega
 ·have:=hz.2 h
  subst this
  rfl
def allN (n:Int):Nat:=if 64<=n then 18446744073709551615 else 2 ^ n.toNat - 1
theorem zd8 (n:Int):allN n<18446744073709551616:=by
 unfold allN
 split
 ·omega
 ·rename_i h
  have:=zel (show n.toNat<64 by omega)
  omega
theorem zqp (k:Nat) (hk:k<64):zgq (2 ^ k - 1) (k:Int)=2 ^ (k+1) - 1:=by
 have h0:=Nat.two_pow_pos k;have h1:=zel hk
 rw [zdz _ hk,zhu (by omega) hk (by rw [Nat.testBit_two_pow_sub_one];simp),Nat.pow_succ]
 omega
def vidB (v:Int):Bool:=decide (1<=v) && decide (v<=4094)
def zfv (p a:Int):Bool:=vidB p && (decide (0<=a) && decide (a<=2))
def zbt (l:List Vl) (ports:Int) (i:Nat):Nat :=
 if vidB (l.getD i vl0).vid=false\/(0<i/\(l.getD i vl0).vid<=(l.getD (i - 1) vl0).vid) then 6
 else if zaz (l.getD i vl0).mem (allN ports)=false then 5
 else if zaz (l.getD i vl0).unt (l.getD i vl0).mem=false then 1 else 0
def zf4 (f:Nat->Nat):Nat->Nat
 |0=>0
 |k+1=>if zf4 f k=0 then f k else zf4 f k
theorem zec (f:Nat->Nat):∀ k,(∀ i,i<k->f i=0)->zf4 f k=0
 |0,_=>rfl
 |k+1,h=>by
  rw [zf4,zec f k fun i hi=>h i (by omega),if_pos rfl]
  exact h k (by omega)
theorem zjb (f:Nat->Nat) (k:Nat) (h:∀ i,i<k->f i=0) (hk:f k≠0):∀ n,k<n->zf4 f n=f k
 |0,h0=>by omega
 |n+1,h0=>by
  rw [zf4]
  rcases Nat.lt_or_ge k n with h1|h1
  ·rw [zjb f k h hk n h1,if_neg hk]
  ·obtain rfl:k=n:=by omega
   rw [zec f k h,if_pos rfl]
def zb4 (l:List Vl) (ports:Int) (n:Nat):Nat:=if ports<2\/64<ports then 5 else if 16<n then 8 else zf4 (zbt l ports) n
theorem check5 {l:List Vl} {ports:Int} {n:Nat} (h:ports<2\/64<ports):zb4 l ports n=5:=by unfold zb4;rw [if_pos h]
theorem check8 {l:List Vl} {ports:Int} {n:Nat} (h:¬ (ports<2\/64<ports)) (h2:16<n):zb4 l ports n=8:=by unfold zb4;rw [if_neg h,if_pos h2]
theorem zo1 {l:List Vl} {ports:Int} {n:Nat} (h:¬ (ports<2\/64<ports)) (h2:¬ 16<n) (h3:∀ i,i<n->zbt l ports i=0):zb4 l ports n=0:=by unfold zb4;rw [if_neg h,if_neg h2];exact zec _ _ h3
theorem zc0 {l:List Vl} {ports:Int} {n k E:Nat} (h:¬ (ports<2\/64<ports)) (h2:¬ 16<n) (h3:∀ i,i<k->zbt l ports i=0) (hk:k<n) (he:zbt l ports k=E) (hE:E≠0):zb4 l ports n=E:=by
 unfold zb4;rw [if_neg h,if_neg h2,zjb _ k h3 (by rw [he];exact hE) n hk];exact he
end
section
open Go.RowKit
structure Rl where
 pv:Int
 ac:Int
def rl0:Rl:=⟨0,0⟩
def Rl.cells (x:Rl):List Value:=[.int .i64 x.pv,.int .i64 x.ac]
def rlc:List Rl->List Value
 |[]=>[]
 |x :: l=>x.cells ++ rlc l
theorem zdq:∀ l:List Rl,(rlc l).length=l.length*2
 |[]=>rfl
 |x :: l=>by
  have:=zdq l
  simp [rlc,Rl.cells,this]
  omega
theorem ze0:∀ a b:List Rl,rlc (a ++ b)=rlc a ++ rlc b
 |[],b=>rfl
 |x :: a,b=>by simp [rlc,ze0 a b]
theorem zoj:∀ (l:List Rl) (j f:Nat),f<2->(rlc l)[j*2+f]?=(l[j]?).bind fun x=>x.cells[f]?
 |[],j,f,_=>by simp [rlc]
 |x :: l,0,f,h=>by
  rw [rlc,List.getElem?_append_left (by simp [Rl.cells];omega)]
  simp
 |x :: l,j+1,f,h=>by
  have:=zoj l j f h
  rw [rlc,List.getElem?_append_right (by simp [Rl.cells];omega)]
  have e:(j+1)*2+f - x.cells.length=j*2+f:=by simp [Rl.cells];omega
  rw [e,this]
  simp
theorem Sl.rlAt {w:World} {B n:Nat} {v:Value} {l:List Rl} (h:Sl w B 2 v n (rlc l)) (hn:0<n) :
  ∃ b off cap,v=.slice (some ⟨b,off,none⟩) n cap/\n<=cap/\cap<=maxLen/\b<B/\l.length=n /\
   ∀ j,j<n->w.cell? ⟨b,off+j*2,none⟩=some (.int .i64 (l.getD j rl0).pv)/\w.cell? ⟨b,off+j*2+1,none⟩=some (.int .i64 (l.getD j rl0).ac):=by
 have hl:=h.len;rw [zdq] at hl;obtain ⟨b,off,cap,rfl,h1,h2,h3,h4⟩:=h.at_ hn
 refine ⟨b,off,cap,rfl,h1,h2,h3,by omega,fun j hj=>?_⟩
 have hjl:j<l.length:=by omega
 have a0:=h4 (j*2+0) (by omega)
 have a1:=h4 (j*2+1) (by omega)
 rw [zoj l j _ (by omega),List.getElem?_eq_getElem hjl] at a0 a1
 simp only [List.getD_eq_getElem?_getD,List.getElem?_eq_getElem hjl,Option.getD_some]
 exact ⟨a0,a1⟩
theorem Sl.rlLen {w:World} {B n:Nat} {v:Value} {l:List Rl} (h:Sl w B 2 v n (rlc l)):l.length=n:=by
 have hl:=h.len;rw [zdq] at hl
 omega
def badR (l:List Rl) (k:Nat):Bool:=!(zfv (l.getD k rl0).pv (l.getD k rl0).ac)
def zdh (l:List Rl) (n m:Nat):Prop:=m<=n/\(∀ i,i<m->badR l i=false)/\(m<n->badR l m=true)
def zaq (n most:Int):Bool:=decide (1<=n) && decide (n<=most)
end
section
structure Fr where
 dst:Nat
 src:Nat
 tagged:Bool
 tci:Nat
 typ:Nat
 load:List Nat
def Fr.zero:Fr:=⟨0,0,false,0,0,[]⟩
end
section
open Go.RowKit
set_option maxHeartbeats 400000 in
theorem zpi (m:Nat) (hm:m<18446744073709551616) (w:World) :
  Calls Tryz.prog 144 #[.int .u64 (m:Int)] w fun e w'=>e=.returned (.bool (decide (m<281474976710656)))/\w=w':=by
 go_enter Tryz.func144,Tryz.ntmps144
 go_wp2
 go_ret
 exact ⟨zai (by rw [decide_eq_decide];omega),rfl⟩
theorem zqx (m:Nat) (w:World) :
  Calls Tryz.prog 121 #[.int .u64 (m:Int)] w fun e w'=>e=.returned (.int .u64 (m % 281474976710656:Nat))/\w=w':=by
 go_enter Tryz.func121,Tryz.ntmps121
 go_wp2
 go_ret
 exact ⟨zcr (by omega),rfl⟩
set_option maxHeartbeats 400000 in
theorem mac_Kind (m:Nat) (hm:m<18446744073709551616) (w:World) :
  Calls Tryz.prog 145 #[.int .u64 (m:Int)] w fun e w'=>e=.returned (.int .i64 (zfh m:Nat))/\w=w':=by
 have h1:bits .and .u64 (m:Int) 281474976710655=((m % 281474976710656:Nat):Int):=by
  have:=u64_and_nat m 281474976710655 hm (by omega)
  rw [and_low] at this
  exact this
 have hk:zfh m=if m % 281474976710656=281474976710655 then 2 else if m % 281474976710656 / 16*16=1652522221568 then 3 else m % 281474976710656 / 1099511627776 % 2:=by
  unfold zfh
  split
  ·rfl
  ·split
   ·rfl
   ·omega
 obtain ⟨L,hL⟩:∃ L,L=m % 281474976710656:=⟨_,rfl⟩
 have hLb:L<281474976710656:=by omega
 rw [<- hL] at h1 hk;have HK:=Lib.hid hk;clear hk hL
 have h2:bits .andNot .u64 (L:Int) 15=((L / 16*16:Nat):Int):=by
  have:=u64_andNot_nat L 15 (by omega) (by omega)
  rw [zon L (by omega)] at this
  exact this
 have h3:bits .and .u64 (L:Int) 1099511627776=((L / 1099511627776 % 2*1099511627776:Nat):Int):=by
  have:=u64_and_nat L 1099511627776 (by omega) (by omega)
  rw [and_40] at this
  exact this
 go_enter Tryz.func145,Tryz.ntmps145
 go_wp2
 all_goals go_ret
 all_goals refine ⟨za4 ?_,rfl⟩
 all_goals rw [HK.out]
 all_goals simp only [beq_iff_eq,beq_eq_false_iff_ne,bne_iff_ne,bne_eq_false_iff_eq,ne_eq] at *
 ·rw [if_pos (by omega)];rfl
 ·rw [if_neg (by omega),if_pos (by omega)];rfl
 ·rw [if_neg (by omega),if_neg (by omega)];omega
 ·rw [if_neg (by omega),if_neg (by omega)];omega
def Made (e:TypeId) (size n:Nat) (xs:List Value) (w:World) (en:Ending) (w':World):Prop :=
 ∃ v,en=.returned v/\w'.ownsRow w.heap.size e size v n xs/\Below w.heap.size w w'
theorem stBytes:ST Tryz.prog 216 5 (.int .u8 0) 1 1:=ST.mk Tryz.underlying216 (by kernel_rfl) rfl (by omega) (by omega)
set_option maxHeartbeats 400000 in
theorem zo5 (m:Nat) (hm:m<18446744073709551616) (w:World) :
  Calls Tryz.prog 136 #[.int .u64 (m:Int)] w (Made 5 1 6 (bv (mb m)) w):=by
 go_enter Tryz.func136,Tryz.ntmps136
 go_wp2
 go_loopw [0,3,4] (fun q v i wr=>∃ k:Nat,k<=6/\i=.int .i64 k/\q=.int .u64 (m / 256 ^ k:Nat)/\wr.ownsRow w.heap.size 5 1 v k (bv (zi6 m k))/\Below w.heap.size w wr) (fun _ _ i _=>6 - (intOf i).toNat)
 case atStart=>exact ⟨0,by omega,rfl,by simp,World.ownsRow_nil _ _ _ _,Below.refl _ _⟩
 case round =>
  obtain ⟨k,hk,rfl,rfl,hown,hbel⟩:=hrel;have hsz:=hbel.size
  by_cases hlt:k<6
  ·obtain ⟨q,hq⟩:∃ q,q=m / 256 ^ k:=⟨_,rfl⟩
   have hqb:q<18446744073709551616:=by
    have:=Nat.div_le_self m (256 ^ k)
    omega
   have HQ:Hid (bv (zi6 m (k+1))=[.int .u8 ((q:Int) % 256)] ++ bv (zi6 m k)):=by
    rw [hq]
    simp [Hid,zi6,bv]
   have HQ2:Hid (m / 256 ^ (k+1)=q / 256):=by
    show _=_
    rw [Nat.pow_succ,<- Nat.div_div_eq_div_mul,hq]
   rw [<- hq];clear hq
   go_wp2_with (first
    |(at_builtin;refine zdp _ rfl stBytes (.tmp 12) (.tmp 13) rfl w.heap.size _ 1 [.int .u8 ((q:Int) % 256)] rfl (World.ownsRow_lit wr #[.int .u8 ((q:Int) % 256)] 1 hsz (by decide) rfl) wr.heap.size _ k (bv (zi6 m k)) rfl ((Sl.of_own hown).alloc (Nat.le_refl _) _) (bv_one _) (by omega) (by simp;omega) ?_;intro v1 w1 hown1 hg1 hat1 hbel1))
   go_roundw
   case rel =>
    refine ⟨k+1,by omega,by go_num,by rw [HQ2.out];go_num,?_,?_⟩
    ·rw [HQ.out,Nat.add_comm];exact hown1
    ·exact (hbel.alloc hsz _).trans hbel1
   case measure=>simp [intOf];omega
  ·have:k=6:=by omega
   subst this
   go_wp2
   go_ret
   exact ⟨_,rfl,by rw [<- zpx];exact hown,hbel⟩
theorem six {w:World} {B:Nat} {v:Value} {m:Nat} {e:TypeId} (h:w.ownsRow B e 1 v 6 (bv (mb m))):∃ g cap,v=.slice (some ⟨g,0,none⟩) 6 cap/\B<=g/\g<w.heap.size/\6<=cap /\
  w.cell? ⟨g,0,none⟩=some (.int .u8 (m / 1099511627776 % 256:Nat))/\w.cell? ⟨g,1,none⟩=some (.int .u8 (m / 4294967296 % 256:Nat))/\w.cell? ⟨g,2,none⟩=some (.int .u8 (m / 16777216 % 256:Nat)) /\
  w.cell? ⟨g,3,none⟩=some (.int .u8 (m / 65536 % 256:Nat))/\w.cell? ⟨g,4,none⟩=some (.int .u8 (m / 256 % 256:Nat))/\w.cell? ⟨g,5,none⟩=some (.int .u8 (m % 256:Nat)):=by
 rcases h.2 with ⟨_,h0⟩|⟨g,cap,cur,rfl,hb,hg,hc,_⟩
 ·omega
 ·refine ⟨g,cap,rfl,hb,(Array.getElem?_eq_some_iff.1 hg).1,hc,?_,?_,?_,?_,?_,?_⟩ <;> (rw [h.cellAt _ (by omega)];simp [bv,mb])
set_option maxHeartbeats 1000000 in
theorem ref_Kind (m:Nat) (hm:m<18446744073709551616) (w:World) :
  Calls Tryz.prog 122 #[.int .u64 (m:Int)] w (Says (.int .i64 (zfh m:Nat)) w):=by
 have hk:=zi1 m
 have hk2:zfh m=if m % 281474976710656=281474976710655 then 2 else if (m / 1099511627776 % 256=1/\m / 4294967296 % 256=128/\m / 16777216 % 256=194/\m / 65536 % 256=0/\m / 256 % 256=0/\m % 256<16) then 3 else m / 1099511627776 % 256 % 2:=by
  unfold zfh
  simp only [hk]
  split
  ·rfl
  ·split
   ·rfl
   ·omega
 have HK:=Lib.hid hk2;clear hk hk2
 go_enter Tryz.func122,Tryz.ntmps122
 go_wp2_with fail
 refine (zo5 m hm _).mono ?_
 rintro e w1 ⟨v,rfl,hown,hb⟩;obtain ⟨g,cap,rfl,_,_,hc,c0,c1,c2,c3,c4,c5⟩:=six hown;have HB:=Lib.hid hb;clear hown hb
 generalize m / 1099511627776 % 256=x0 at *
 generalize m / 4294967296 % 256=x1 at *
 generalize m / 16777216 % 256=x2 at *
 generalize m / 65536 % 256=x3 at *
 generalize m / 256 % 256=x4 at *
 generalize m % 256=x5 at *
 go_wp2_with (go_at_call 121;refine (zqx m _).mono ?_;rintro e w2 ⟨rfl,rfl⟩)
 all_goals go_ret
 all_goals refine ⟨za4 ?_,HB.out⟩
 all_goals rw [HK.out]
 all_goals (try simp only [beq_iff_eq,beq_eq_false_iff_ne,ne_eq] at *)
 all_goals first|(rw [if_pos (by omega)];rfl)|(rw [if_neg (by omega),if_pos (by omega)];rfl)|(rw [if_neg (by omega),if_neg (by omega)];omega)
end
section
open Go.RowKit
theorem kp2 {w w':World} {b o0 o1:Nat} {v0 v1:Value} (h:w.cell? ⟨b,o0,none⟩=some v0/\w.cell? ⟨b,o1,none⟩=some v1) (hk:∀ p:Addr,p.block=b->w'.cell? p=w.cell? p) :
  w'.cell? ⟨b,o0,none⟩=some v0/\w'.cell? ⟨b,o1,none⟩=some v1 :=
 ⟨(hk _ rfl).trans h.1,(hk _ rfl).trans h.2⟩
theorem kp6 {w w':World} {b o0 o1 o2 o3 o4 o5:Nat} {v0 v1 v2 v3 v4 v5:Value} (h:w.cell? ⟨b,o0,none⟩=some v0/\w.cell? ⟨b,o1,none⟩=some v1/\w.cell? ⟨b,o2,none⟩=some v2/\w.cell? ⟨b,o3,none⟩=some v3/\w.cell? ⟨b,o4,none⟩=some v4/\w.cell? ⟨b,o5,none⟩=some v5) (hk:∀ p:Addr,p.block=b->w'.cell? p=w.cell? p) :
  w'.cell? ⟨b,o0,none⟩=some v0/\w'.cell? ⟨b,o1,none⟩=some v1/\w'.cell? ⟨b,o2,none⟩=some v2/\w'.cell? ⟨b,o3,none⟩=some v3/\w'.cell? ⟨b,o4,none⟩=some v4/\w'.cell? ⟨b,o5,none⟩=some v5 :=
 ⟨(hk _ rfl).trans h.1,(hk _ rfl).trans h.2.1,(hk _ rfl).trans h.2.2.1,(hk _ rfl).trans h.2.2.2.1,(hk _ rfl).trans h.2.2.2.2.1,(hk _ rfl).trans h.2.2.2.2.2⟩
end
section
open Go.RowKit
def fx (k:Nat) (x:Int):Nat:=(IntKind.u64.wrap x).toNat % k
theorem zg1 (x:Int):0<=IntKind.u64.wrap x:=by rw [IntKind.wrap_u64];omega
theorem zk5 (k:Nat) (x:Int):(IntKind.u64.wrap x).tmod (k:Int)=(fx k x:Int):=by
 rw [Int.tmod_eq_emod_of_nonneg (zg1 x)];have h:=zg1 x;unfold fx
 generalize IntKind.u64.wrap x=y at *
 obtain ⟨m,rfl⟩:∃ m:Nat,y=m:=⟨y.toNat,by omega⟩
 simp
theorem zdd {k:Nat} (hk:0<k) (x:Int):fx k x<k:=Nat.mod_lt _ hk
theorem zqb {k:Nat} (hk:0<k) (hk2:k<=5000) (x:Int):wrap64 ((IntKind.u64.wrap x).tmod (k:Int))=(fx k x:Int):=by
 rw [zk5]
 have:=zdd hk x
 exact IntWalk.wrap64_in _ (by omega)
theorem fx_one {k:Nat} (hk:0<k) (hk2:k<=5000) (x:Int) (c:Nat) (hc:c<=100000):wrap64 ((c:Int)+(fx k x:Int))=((c+fx k x:Nat):Int):=by
 have:=zdd hk x
 rw [IntWalk.wrap64_in _ (by omega)]
 omega
theorem zqc {k:Nat} (hk:0<k) (hk2:k<=5000) (x:Int) (c:Nat) (hc:c<=100000):wrap64 ((c:Int)+wrap64 ((IntKind.u64.wrap x).tmod (k:Int)))=((c+fx k x:Nat):Int):=by
 rw [zqb hk hk2,fx_one hk hk2 x c hc]
theorem zh5 {k:Nat} (hk:0<k) (hk2:k<=5000) (x:Int) (c:Nat) (hc:c<=100000):IntKind.i64.wrap ((c:Int)+IntKind.i64.wrap ((IntKind.u64.wrap x).tmod (k:Int)))=((c+fx k x:Nat):Int):=by
 have:=zdd hk x
 rw [zk5,IntWalk.i64_in (fx k x:Int) (by omega),IntWalk.i64_in _ (by omega)]
 omega
theorem fx_mod' {k:Nat} (hk:0<k) (hk2:k<=5000) (x:Int):IntKind.i64.wrap ((IntKind.u64.wrap x).tmod (k:Int))=(fx k x:Int):=by
 have:=zdd hk x
 rw [zk5,IntWalk.i64_in _ (by omega)]
def zgl (l:List Rl) (i:Nat):Rl:=if i<l.length then ⟨((1+fx 4094 (l.getD i rl0).pv:Nat):Int),((fx 3 (l.getD i rl0).ac:Nat):Int)⟩ else ⟨1,0⟩
def zck (l:List Rl) (k:Nat):List Rl:=(List.range k).map (zgl l)
theorem zg7 (l:List Rl) (k:Nat):rlc (zck l (k+1))=rlc (zck l k) ++ [.int .i64 (zgl l k).pv,.int .i64 (zgl l k).ac]:=by
 unfold zck;rw [List.range_succ,List.map_append,ze0]
 rfl
def vidF (l:List Vl):Nat->Nat
 |0=>0
 |k+1=>vidF l k+1+fx 3 (l.getD k vl0).vid
theorem zie (l:List Vl):∀ k,vidF l k<=3*k
 |0=>Nat.le_refl _
 |k+1=>by
  have:=zie l k
  have:=zdd (k:=3) (by omega) (l.getD k vl0).vid
  unfold vidF
  omega
theorem vid_sum (v f:Nat) (hv:v<=100) (hf:f<3):wrap64 (wrap64 ((v:Int)+1)+(f:Int))=((v+1+f:Nat):Int):=by
 rw [IntWalk.wrap64_in ((v:Int)+1) (by omega),IntWalk.wrap64_in _ (by omega)]
 omega
theorem vid_sum' (v f:Nat) (hv:v<=100) (hf:f<3):wrap64 ((v:Int)+1+(f:Int))=((v+1+f:Nat):Int):=by
 rw [IntWalk.wrap64_in _ (by omega)]
 omega
def lowB (s j:Nat):Nat:=s % 2 ^ j
theorem zep (s:Nat):lowB s 0=0:=by simp [lowB,Nat.mod_one]
theorem zfm (s j i:Nat):(lowB s j).testBit i=(decide (i<j) && s.testBit i):=by
 unfold lowB
 exact Nat.testBit_mod_two_pow ..
theorem zfn {s j:Nat} (h:s.testBit j=true):lowB s j ||| 2 ^ j=lowB s (j+1):=by
 apply Nat.eq_of_testBit_eq
 intro i;rw [Nat.testBit_or,zfm,zfm,Nat.testBit_two_pow]
 by_cases e:j=i
 ·subst e;simp [h]
 ·have:decide (i<j+1)=decide (i<j):=decide_eq_decide.mpr (by omega)
  rw [this]
  simp [e]
theorem zc1 {s j:Nat} (h:s.testBit j=false):lowB s j=lowB s (j+1):=by
 apply Nat.eq_of_testBit_eq
 intro i;rw [zfm,zfm]
 by_cases e:j=i
 ·subst e;simp [h]
 ·have:decide (i<j+1)=decide (i<j):=decide_eq_decide.mpr (by omega)
  rw [this]
theorem zic (s:Nat) {j:Nat} (hj:j<=64):lowB s j<18446744073709551616 :=
 Nat.lt_of_lt_of_le (Nat.mod_lt _ (Nat.two_pow_pos j)) (Nat.le_trans (Nat.pow_le_pow_right (by omega) hj) (by decide))
theorem zfp {s:Nat} (h:s<18446744073709551616):lowB s 64=s:=Nat.mod_eq_of_lt h
def zir (all:Nat) (l:List Vl) (i:Nat):Vl:=⟨(vidF l (i+1):Int),all &&& (l.getD i vl0).mem,all &&& (l.getD i vl0).mem &&& (l.getD i vl0).unt⟩
def zcj (all:Nat) (l:List Vl) (k:Nat):List Vl:=(List.range k).map (zir all l)
theorem zmq (all:Nat) (l:List Vl) (k:Nat):vlc (zcj all l (k+1))=vlc (zcj all l k) ++ [.int .i64 (vidF l (k+1):Int),.int .u64 ((all &&& (l.getD k vl0).mem:Nat):Int),.int .u64 ((all &&& (l.getD k vl0).mem &&& (l.getD k vl0).unt:Nat):Int)]:=by
 unfold zcj;rw [List.range_succ,List.map_append,ze2]
 rfl
theorem zez (l:List Rl) {k i:Nat} (h:i<k):(zck l k).getD i rl0=zgl l i:=by
 unfold zck;rw [List.getD_eq_getElem?_getD,List.getElem?_map,List.getElem?_range h]
 rfl
theorem zg0 (all:Nat) (l:List Vl) {k i:Nat} (h:i<k):(zcj all l k).getD i vl0=zir all l i:=by
 unfold zcj;rw [List.getD_eq_getElem?_getD,List.getElem?_map,List.getElem?_range h]
 rfl
theorem zp9 (l:List Rl) (i:Nat):badR (zck l (i+1)) i=false:=by
 unfold badR
 rw [zez l (by omega)]
 unfold zgl zfv vidB
 split
 ·have:=zdd (k:=4094) (by omega) (l.getD i rl0).pv
  have:=zdd (k:=3) (by omega) (l.getD i rl0).ac
  simp only [Bool.not_eq_false',Bool.and_eq_true,decide_eq_true_eq]
  omega
 ·rfl
theorem zfz (l:List Rl) (P:Nat):zdh (zck l P) P P:=by
 refine ⟨Nat.le_refl _,fun i hi=>?_,fun h=>absurd h (by omega)⟩
 have:=zp9 l i
 unfold badR at *
 rw [zez l (by omega)] at this
 rw [zez l hi]
 exact this
theorem zhf (a b:Nat):zaz (a &&& b) a=true:=by
 unfold zaz;rw [zdg];intro i _ h;rw [Nat.testBit_and,Bool.and_eq_true] at h
 exact h.1
theorem zk6 (l:List Vl) {P k:Nat} (h2:2<=P) (hP:P<=64) (hk:k<=8):zb4 (zcj (allN P) l k) P k=0:=by
 refine zo1 (by omega) (by omega) fun i hi=>?_
 unfold zbt;rw [zg0 _ l hi];have hv:=zie l (i+1)
 have h3:vidF l (i+1)=vidF l i+1+fx 3 (l.getD i vl0).vid:=rfl
 rw [if_neg,if_neg,if_neg]
 ·have:zaz (zir (allN P) l i).unt (zir (allN P) l i).mem=true:=zhf _ _
  rw [this];simp
 ·have:zaz (zir (allN P) l i).mem (allN P)=true:=zhf _ _
  rw [this];simp
 ·rintro (h|⟨h,h'⟩)
  ·unfold vidB zir at h
   simp at h
   omega
  ·rw [zg0 _ l (by omega)] at h'
   have h4:i - 1+1=i:=by omega
   unfold zir at h';rw [h4] at h'
   simp at h'
   omega
theorem zlv (l:List Vl) (all:Nat) (ha:all<18446744073709551616) (k:Nat) (hk:k<=8):∀ x∈zcj all l k,x.ok:=by
 intro x hx;obtain ⟨i,hi,rfl⟩:=List.mem_map.mp hx;have hi:=List.mem_range.mp hi;have hv:=zie l (i+1);have h1:all &&& (l.getD i vl0).mem<18446744073709551616:=Nat.lt_of_le_of_lt Nat.and_le_left ha
 refine ⟨?_,h1,Nat.lt_of_le_of_lt Nat.and_le_left h1⟩
 unfold zir
 simp only
 omega
end
end Go.Proofs.YtfekhdgjgjodlaaGreat
