/-
  Words and contracts that a statement's proof rests on (PlainKy, PlainBu). No statement is proved here.
-/
import Derived.Deep.OwnRows
import Derived.Test.YthloabdfkakehaaBase
import Derived.Test.YthloabdfkakehaaBase2
import Derived.Test.YthloabdfkakehaaTicks
set_option linter.unusedVariables false
set_option linter.unusedSimpArgs false
namespace Go.Proofs.Ythloabdfkakehaa
section
def rightK (v:Int) (m:Nat):Bool:=decide (1≤v∧v≤4094∧0 < m∧m < 281474976710656∧m / 1099511627776 % 2=0)
theorem rightK_iff {v:Int} {m:Nat}:rightK v m=true ↔ 1≤v∧v≤4094∧0 < m∧m < 281474976710656∧m / 1099511627776 % 2=0:=by simp [rightK]
theorem rightK_no {v:Int} {m:Nat} (h:¬ (1≤v∧v≤4094∧0 < m∧m < 281474976710656∧m / 1099511627776 % 2=0)):rightK v m=false:=by
 unfold rightK; exact decide_eq_false h
theorem kind_zero {m:Nat} (h:m < 281474976710656):kindN m=0 ↔ m / 1099511627776 % 2=0:=by
 unfold kindN
 rw [Nat.mod_eq_of_lt h]
 split
 ·omega
 ·split <;> omega
def wordN (v:Int) (m:Nat):Nat:=if rightK v m=true then 1152921504606846976 + v.toNat * 281474976710656 + m else 0
theorem wordN_yes {v:Int} {m:Nat} (h:rightK v m=true):wordN v m=1152921504606846976 + v.toNat * 281474976710656 + m:=if_pos h
theorem wordN_no {v:Int} {m:Nat} (h:rightK v m=false):wordN v m=0:=by unfold wordN; rw [h]; rfl
theorem wordN_lt (v:Int) (m:Nat):wordN v m < 18446744073709551616:=by
 cases h:rightK v m
 ·rw [wordN_no h]; omega
 ·rw [wordN_yes h]
  have:=rightK_iff.1 h
  omega
def vidW (w:Nat):Nat:=w / 281474976710656 % 4096
def macW (w:Nat):Nat:=w % 281474976710656
def okW (w:Nat):Bool:=rightK (vidW w:Int) (macW w) && decide (w / 1152921504606846976=1)
theorem okW_iff {w:Nat}:okW w=true ↔ rightK (vidW w:Int) (macW w)=true∧w / 1152921504606846976=1:=by simp [okW]
theorem word_back {w:Nat} (h:okW w=true):wordN (vidW w:Int) (macW w)=w:=by
 obtain ⟨h1,h2⟩:=okW_iff.1 h
 rw [wordN_yes h1,Int.toNat_natCast]
 unfold vidW macW
 omega
theorem of_word {v:Int} {m:Nat} (h:rightK v m=true):okW (wordN v m)=true∧(vidW (wordN v m):Int)=v∧macW (wordN v m)=m:=by
 have hr:=rightK_iff.1 h
 have e1:(vidW (wordN v m):Int)=v:=by rw [wordN_yes h]; unfold vidW; omega
 have e2:macW (wordN v m)=m:=by rw [wordN_yes h]; unfold macW; omega
 refine ⟨okW_iff.2 ⟨by rw [e1,e2]; exact h,by rw [wordN_yes h]; omega⟩,e1,e2⟩
theorem okW_word (w:Nat) (hw:w < 18446744073709551616):okW w=(rightK (vidW w:Int) (macW w) && decide (wordN (vidW w:Int) (macW w)=w)):=by
 cases hr:rightK (vidW w:Int) (macW w)
 ·unfold okW; rw [hr]; rfl
 ·unfold okW
  rw [hr,Bool.true_and,Bool.true_and,decide_eq_decide]
  constructor
  ·intro h
   exact word_back (okW_iff.2 ⟨hr,h⟩)
  ·intro h
   rw [wordN_yes hr,Int.toNat_natCast] at h
   have:=rightK_iff.1 hr
   omega
theorem or_48 (a b:Nat) (hb:b < 281474976710656):(a * 281474976710656) ||| b=a * 281474976710656 + b:=by
 have:=Nat.shiftLeft_add_eq_or_of_lt (i:=48) (b:=b) (by simpa using hb) a
 rw [Nat.shiftLeft_eq] at this
 simpa using this.symm
theorem or_word (v m:Nat) (hv:v < 4096) (hm:m < 281474976710656):(1152921504606846976 ||| v * 281474976710656) ||| m=1152921504606846976 + v * 281474976710656 + m:=by
 have e1:=or_48 4096 0 (by omega)
 have h1:(1152921504606846976 ||| v * 281474976710656)=(4096 + v) * 281474976710656:=by
  have:=Nat.shiftLeft_add_eq_or_of_lt (i:=60) (b:=v * 281474976710656) (by omega) 1
  rw [Nat.shiftLeft_eq] at this
  have e:(1 * 2 ^ 60:Nat)=1152921504606846976:=by decide
  rw [e] at this
  omega
 rw [h1,or_48 _ _ hm]
 omega
theorem and_4095 (a:Nat):a &&& 4095=a % 4096:=by
 have:=Nat.and_two_pow_sub_one_eq_mod a 12
 simpa using this
theorem and_255 (a:Nat):a &&& 255=a % 256:=by
 have:=Nat.and_two_pow_sub_one_eq_mod a 8
 simpa using this
theorem and_256 (a:Nat):a &&& 256=(a / 256 % 2) * 256:=by
 have:=and_bit a 8
 simpa using this
theorem or_32 (a b:Nat) (hb:b < 4294967296):(a * 4294967296) ||| b=a * 4294967296 + b:=by
 have:=Nat.shiftLeft_add_eq_or_of_lt (i:=32) (b:=b) (by simpa using hb) a
 rw [Nat.shiftLeft_eq] at this
 simpa using this.symm
theorem or_256 (s p:Nat) (hp:p < 256):(s * 4294967296 + p) ||| 256=s * 4294967296 + 256 + p:=by
 rw [← or_32 s p (by omega),Nat.or_assoc]
 have:p ||| 256=256 + p:=by
  have:=Nat.shiftLeft_add_eq_or_of_lt (i:=8) (b:=p) (by simpa using hp) 1
  rw [Nat.shiftLeft_eq] at this
  rw [Nat.or_comm]
  simpa using this.symm
 rw [this,or_32 s _ (by omega)]
 omega
def fixV (v:Int):Int:=1 + v % 18446744073709551616 % 4094
def fixM (m:Nat):Nat :=
 if m % 281474976710656 / 1099511627776 % 2=1 then (if m % 281474976710656 - 1099511627776=0 then 1 else m % 281474976710656 - 1099511627776)
 else (if m % 281474976710656=0 then 1 else m % 281474976710656)
theorem fix_right (v:Int) (m:Nat):rightK (fixV v) (fixM m)=true:=by
 rw [rightK_iff]
 unfold fixV fixM
 have h:m % 281474976710656 < 281474976710656:=Nat.mod_lt _ (by omega)
 generalize m % 281474976710656=L at *
 refine ⟨by omega,by omega,?_⟩
 split <;> split <;> omega
theorem fixV_lt (v:Int):1≤fixV v∧fixV v≤4094:=by unfold fixV; omega
theorem fixM_lt (m:Nat):fixM m < 281474976710656:=(rightK_iff.1 (fix_right 0 m)).2.2.2.1
structure En where
 vid:Int
 mac:Nat
 port:Int
 st:Bool
 stamp:Nat
deriving DecidableEq
def en0:En:=⟨0,0,0,false,0⟩
def En.ok (e:En):Prop:=(-9223372036854775808≤e.vid∧e.vid≤9223372036854775807)∧e.mac < 18446744073709551616∧(-9223372036854775808≤e.port∧e.port≤9223372036854775807)∧e.stamp < 4294967296
def rightE (e:En):Bool:=rightK e.vid e.mac && decide (0≤e.port∧e.port < 64∧¬ (e.st=true∧e.stamp ≠ 0))
theorem rightE_iff {e:En}:rightE e=true ↔ rightK e.vid e.mac=true∧0≤e.port∧e.port < 64∧¬ (e.st=true∧e.stamp ≠ 0):=by
 unfold rightE
 rw [Bool.and_eq_true,decide_eq_true_eq]
def lowN (e:En):Nat:=e.stamp * 4294967296 + (if e.st=true then 256 else 0) + e.port.toNat
def wordA (e:En):Nat:=if rightE e=true then wordN e.vid e.mac else 0
def wordB (e:En):Nat:=if rightE e=true then lowN e else 0
def entW (a b:Nat):En:=⟨vidW a,macW a,(b % 256:Nat),decide (b / 256 % 2=1),b / 4294967296⟩
def okE (a b:Nat):Bool:=okW a && rightE (entW a b) && decide (b / 512 % 8388608=0)
theorem okE_iff {a b:Nat}:okE a b=true ↔ okW a=true∧rightE (entW a b)=true∧b / 512 % 8388608=0:=by simp [okE,and_assoc]
theorem lowN_lt {e:En} (h:rightE e=true) (hs:e.stamp < 4294967296):lowN e < 18446744073709551616:=by
 have:=rightE_iff.1 h
 unfold lowN
 split <;> omega
theorem low_back {a b:Nat} (h:b / 512 % 8388608=0):lowN (entW a b)=b:=by
 unfold lowN entW
 simp only [Int.toNat_natCast,decide_eq_true_eq]
 split <;> omega
theorem of_words {e:En} (h:rightE e=true) (hs:e.stamp < 4294967296):okE (wordA e) (wordB e)=true∧entW (wordA e) (wordB e)=e:=by
 obtain ⟨h1,h2,h3,h4⟩:=rightE_iff.1 h
 obtain ⟨a1,a2,a3⟩:=of_word h1
 obtain ⟨p,hp⟩:=Int.eq_ofNat_of_zero_le h2
 have e1:entW (wordA e) (wordB e)=e:=by
  unfold entW wordA wordB
  rw [if_pos h,if_pos h,a2,a3]
  obtain ⟨v,m,q,st,s⟩:=e
  simp only at hp hs
  subst hp
  unfold lowN
  simp only [Int.toNat_natCast,En.mk.injEq,true_and]
  simp only at h3
  cases st
  ·refine ⟨by simp; omega,by simp; omega,by simp; omega⟩
  ·refine ⟨by simp; omega,by simp; omega,by simp; omega⟩
 refine ⟨okE_iff.2 ⟨?_,by rw [e1]; exact h,?_⟩,e1⟩
 ·unfold wordA; rw [if_pos h]; exact a1
 ·unfold wordB lowN; rw [if_pos h]
  split <;> omega
theorem okE_back (a b:Nat) (hb:b < 18446744073709551616) (ha:okW a=true):okE a b=decide (wordB (entW a b)=b):=by
 have hw:okE a b=(rightE (entW a b) && decide (b / 512 % 8388608=0)):=by unfold okE; rw [ha]; rfl
 rw [hw]
 unfold wordB
 cases hr:rightE (entW a b)
 ·simp only [Bool.false_and]
  symm
  apply decide_eq_false
  rw [if_neg (by simp)]
  intro h0
  subst h0
  have:rightE (entW a 0)=true:=rightE_iff.2 ⟨(okW_iff.1 ha).1,by simp [entW],by simp [entW],by simp [entW]⟩
  rw [hr] at this
  exact absurd this (by simp)
 ·rw [Bool.true_and,decide_eq_decide,if_pos rfl]
  constructor
  ·exact fun h => low_back h
  ·intro h
   unfold lowN entW at h
   simp only [Int.toNat_natCast,decide_eq_true_eq] at h
   split at h <;> omega
end
section
open Go.RowKit
structure Pl where
 used:Bool
 e:En
deriving DecidableEq
def pl0:Pl:=⟨false,en0⟩
def Pl.ok (x:Pl):Prop:=x.e.ok
def Pl.cells (x:Pl):List Value:=[.bool x.used,.int .i64 x.e.vid,.int .u64 (x.e.mac:Nat),.int .i64 x.e.port,.bool x.e.st,.int .u32 (x.e.stamp:Nat)]
def plc:List Pl→List Value
 | [] => []
 | x :: l => x.cells ++ plc l
theorem plc_at:∀ (l:List Pl) (j f:Nat),f < 6→(plc l)[j * 6 + f]?=(l[j]?).bind fun x => x.cells[f]?
 | [],j,f,_ => by simp [plc]
 | x :: l,0,f,h => by
  rw [plc,List.getElem?_append_left (by simp [Pl.cells]; omega)]
  simp
 | x :: l,j + 1,f,h => by
  have:=plc_at l j f h
  rw [plc,List.getElem?_append_right (by simp [Pl.cells]; omega)]
  have e:(j + 1) * 6 + f - x.cells.length=j * 6 + f:=by simp [Pl.cells]; omega
  rw [e,this]
  simp
def plHolds (w:World) (b o:Nat) (x:Pl):Prop :=
 w.cell? ⟨b,o,none⟩=some (.bool x.used)∧w.cell? ⟨b,o + 1,none⟩=some (.int .i64 x.e.vid)∧w.cell? ⟨b,o + 2,none⟩=some (.int .u64 (x.e.mac:Nat))∧w.cell? ⟨b,o + 3,none⟩=some (.int .i64 x.e.port)∧w.cell? ⟨b,o + 4,none⟩=some (.bool x.e.st)∧w.cell? ⟨b,o + 5,none⟩=some (.int .u32 (x.e.stamp:Nat))
def rowP (f:Nat→Pl) (j:Nat):Value:=(f (j / 6)).cells.getD (j % 6) (.bool false)
def updP (f:Nat→Pl) (k:Nat) (p:Pl) (i:Nat):Pl:=if i=k then p else f i
theorem rowP_at (f:Nat→Pl) (k c:Nat) (hc:c < 6):rowP f (k * 6 + c)=(f k).cells.getD c (.bool false):=by
 unfold rowP
 rw [show (k * 6 + c) / 6=k by omega,show (k * 6 + c) % 6=c by omega]
theorem rowP_holds {w:World} {g M:Nat} {t:TypeId} {f:Nat→Pl} (h:w.rowIs g t (M * 6) (rowP f)) {k:Nat} (hk:k < M):plHolds w g (k * 6) (f k):=by
 have q:∀ c,c < 6→w.cell? ⟨g,k * 6 + c,none⟩=some ((f k).cells.getD c (.bool false)):=fun c hc => by
  rw [h.cell (show k * 6 + c < M * 6 by omega),rowP_at f k c hc]
 exact ⟨q 0 (by omega),q 1 (by omega),q 2 (by omega),q 3 (by omega),q 4 (by omega),q 5 (by omega)⟩
theorem rowP_upd (f:Nat→Pl) (G:Nat→Value) (k:Nat) (u:Bool) (v:Int) (m:Nat) (p:Int) (st:Bool) (s:Nat) (i:Nat) (hG:G i=rowP f i) :
  (if i=k * 6 + 5 then Value.int .u32 (s:Nat) else if i=k * 6 + 4 then .bool st else if i=k * 6 + 3 then .int .i64 p else if i=k * 6 + 2 then .int .u64 (m:Nat) else if i=k * 6 + 1 then .int .i64 v else if i=k * 6 then .bool u else G i)=rowP (updP f k ⟨u,⟨v,m,p,st,s⟩⟩) i:=by
 have e:i=i / 6 * 6 + i % 6:=by omega
 have hm:i % 6 < 6:=by omega
 by_cases hik:i / 6=k
 ·have hr:rowP (updP f k ⟨u,⟨v,m,p,st,s⟩⟩) i=(Pl.cells ⟨u,⟨v,m,p,st,s⟩⟩).getD (i % 6) (.bool false):=by
   unfold rowP updP; rw [if_pos hik]
  rw [hr]
  rcases (show i % 6=0 ∨ i % 6=1 ∨ i % 6=2 ∨ i % 6=3 ∨ i % 6=4 ∨ i % 6=5 by omega) with h | h | h | h | h | h <;> rw [h] <;> simp only [Pl.cells,List.getD_cons_zero,List.getD_cons_succ]
  ·rw [if_neg (by omega),if_neg (by omega),if_neg (by omega),if_neg (by omega),if_neg (by omega),if_pos (by omega)]
  ·rw [if_neg (by omega),if_neg (by omega),if_neg (by omega),if_neg (by omega),if_pos (by omega)]
  ·rw [if_neg (by omega),if_neg (by omega),if_neg (by omega),if_pos (by omega)]
  ·rw [if_neg (by omega),if_neg (by omega),if_pos (by omega)]
  ·rw [if_neg (by omega),if_pos (by omega)]
  ·rw [if_pos (by omega)]
 ·rw [if_neg (by omega),if_neg (by omega),if_neg (by omega),if_neg (by omega),if_neg (by omega),if_neg (by omega),hG]
  unfold rowP updP
  rw [if_neg hik]
theorem rowP_store {w:World} {g M:Nat} {t:TypeId} {f:Nat→Pl} (h:w.rowIs g t (M * 6) (rowP f)) (k:Nat) (u:Bool) (v:Int) (m:Nat) (p:Int) (st:Bool) (s:Nat) :
  ((((((w.setCell ⟨g,k * 6,none⟩ (.bool u)).setCell ⟨g,k * 6 + 1,none⟩ (.int .i64 v)).setCell ⟨g,k * 6 + 2,none⟩ (.int .u64 (m:Nat))).setCell ⟨g,k * 6 + 3,none⟩ (.int .i64 p)).setCell ⟨g,k * 6 + 4,none⟩ (.bool st)).setCell ⟨g,k * 6 + 5,none⟩ (.int .u32 (s:Nat))).rowIs g t (M * 6) (rowP (updP f k ⟨u,⟨v,m,p,st,s⟩⟩)) :=
 ((((((h.set _ _).set _ _).set _ _).set _ _).set _ _).set _ _).congr fun i _ => rowP_upd f (rowP f) k u v m p st s i rfl
def listP (f:Nat→Pl) (n:Nat):List Pl:=(List.range n).map f
def firstJ (f:Nat→Bool):Nat→Int
 | 0 => -1
 | k + 1 => if 0≤firstJ f k then firstJ f k else if f k=true then (k:Int) else -1
theorem firstJ_none (f:Nat→Bool):∀ k,(∀ i,i < k→f i=false)→firstJ f k=-1
 | 0,_ => rfl
 | k + 1,h => by
  rw [firstJ,firstJ_none f k fun i hi => h i (by omega),if_neg (by omega),h k (by omega)]
  rfl
theorem firstJ_at (f:Nat→Bool) (k:Nat) (h:∀ i,i < k→f i=false) (hk:f k=true):∀ n,k < n→firstJ f n=(k:Int)
 | 0,h0 => by omega
 | n + 1,h0 => by
  rw [firstJ]
  rcases Nat.lt_or_ge k n with h1 | h1
  ·rw [firstJ_at f k h hk n h1,if_pos (by omega)]
  ·obtain rfl:k=n:=by omega
   rw [firstJ_none f k h,if_neg (by omega),if_pos hk]
theorem firstJ_bd (f:Nat→Bool):∀ k,-1≤firstJ f k∧firstJ f k < k
 | 0 => by simp [firstJ]
 | k + 1 => by
  have:=firstJ_bd f k
  rw [firstJ]
  split
  ·omega
  ·split <;> omega
theorem firstJ_holds (f:Nat→Bool):∀ k,0≤firstJ f k→f (firstJ f k).toNat=true
 | 0 => by simp [firstJ]
 | k + 1 => by
  intro h
  rw [firstJ] at h ⊢
  split
  ·rename_i h1; exact firstJ_holds f k h1
  ·rename_i h1
   rw [if_neg h1] at h
   split
   ·rename_i h2; simpa using h2
   ·rename_i h2; rw [if_neg h2] at h; omega
def bestF (ok:Nat→Bool) (f:Nat→Nat):Nat→Int
 | 0 => -1
 | k + 1 => if ok k=true∧(bestF ok f k < 0 ∨ f (bestF ok f k).toNat < f k) then (k:Int) else bestF ok f k
theorem bestF_bd (ok:Nat→Bool) (f:Nat→Nat):∀ k,-1≤bestF ok f k∧bestF ok f k < k
 | 0 => by simp [bestF]
 | k + 1 => by
  have:=bestF_bd ok f k
  rw [bestF]
  split <;> omega
def ownP (p:Pl):Pl:=if p.used=true then p else pl0
def keyF (f:Nat→Pl) (v:Int) (m:Nat) (i:Nat):Bool:=(f i).used && ((f i).e.vid == v && (f i).e.mac == m)
def findF (f:Nat→Pl) (v:Int) (m n:Nat):Int:=firstJ (keyF f v m) n
def roomF (f:Nat→Pl) (now n:Nat):Int × Nat :=
 if 0≤firstJ (fun i => !(f i).used) n then (firstJ (fun i => !(f i).used) n,3)
 else if bestF (fun i => !(f i).e.st) (fun i => ageN now (f i).e.stamp) n < 0 then (-1,5)
 else (bestF (fun i => !(f i).e.st) (fun i => ageN now (f i).e.stamp) n,4)
def againE (o e:En):Nat:=if o=e ∨ (o.st=true∧e.st=false) then 0 else if e.st=false∧o.port=e.port then 1 else 2
def putF (f:Nat→Pl) (e:En) (now n:Nat):(Nat→Pl) × Nat :=
 if rightE e=false then (f,5)
 else if findF f e.vid e.mac n < 0 then
  (if (roomF f now n).1 < 0 then (f,5) else (updP f (roomF f now n).1.toNat ⟨true,e⟩,(roomF f now n).2))
 else if againE (f (findF f e.vid e.mac n).toNat).e e=0 then (f,0)
 else (updP f (findF f e.vid e.mac n).toNat ⟨true,e⟩,againE (f (findF f e.vid e.mac n).toNat).e e)
def dropF (f:Nat→Pl) (v:Int) (m n:Nat):(Nat→Pl) × Bool :=
 if findF f v m n < 0 then (f,false)
 else if (f (findF f v m n).toNat).e.st=true then (updP f (findF f v m n).toNat pl0,true) else (f,false)
def goesF (f:Nat→Pl) (g:En→Bool) (i:Nat):Bool:=(f i).used && !(f i).e.st && g (f i).e
def sweepF (f:Nat→Pl) (g:En→Bool) (i:Nat):Pl:=if goesF f g i=true then pl0 else f i
def goneF (f:Nat→Pl) (g:En→Bool):Nat→Nat
 | 0 => 0
 | k + 1 => goneF f g k + (if goesF f g k=true then 1 else 0)
theorem goneF_le (f:Nat→Pl) (g:En→Bool):∀ k,goneF f g k≤k
 | 0 => Nat.le_refl _
 | k + 1 => by
  have:=goneF_le f g k
  rw [goneF]
  split <;> omega
end
end Go.Proofs.Ythloabdfkakehaa
