/-
  Words and contracts that a statement's proof rests on (PlainFd). No statement is proved here.
-/
import Derived.Test.YthloabdfkakehaaBkE
import Derived.Test.YthloabdfkakehaaFgF
set_option linter.unusedVariables false
set_option linter.unusedSimpArgs false
namespace Go.Proofs.Ythloabdfkakehaa
structure FcS where
 ba:Nat
 lk:Nat
 S:Nat
 B:Nat
 n:Nat
 tr:Nat
def FcS.W (F:FcS):Nat:=1 + 2 * F.n
def FcS.cell (F:FcS) (H:Nat):Nat:=F.ba + H * F.W
inductive Wk where
 | look (v:Int) (m:Nat)
 | learn (v:Int) (m:Nat) (p:Int) (now:Nat)
 | order (v:Int) (m:Nat) (p:Int) (now:Nat)
 | drop (v:Int) (m:Nat)
 | age (now lim:Nat)
 | flush (p v:Int)
def wkF (n:Nat) (f:Nat→Pl):Wk→(Nat→Pl) × Int
 | .look v m => (f,portF f v m n)
 | .learn v m p now => ((putF (fun i => ownP (f i)) ⟨v,m,p,false,now⟩ now n).1,((putF (fun i => ownP (f i)) ⟨v,m,p,false,now⟩ now n).2:Nat))
 | .order v m p now => ((putF (fun i => ownP (f i)) ⟨v,m,p,true,0⟩ now n).1,((putF (fun i => ownP (f i)) ⟨v,m,p,true,0⟩ now n).2:Nat))
 | .drop v m => ((dropF (fun i => ownP (f i)) v m n).1,if (dropF (fun i => ownP (f i)) v m n).2=true then 1 else 0)
 | .age now lim => (sweepF (fun i => ownP (f i)) (oldE now lim),(goneF (fun i => ownP (f i)) (oldE now lim) n:Nat))
 | .flush p v => (flR p v f,(flN p v f n:Nat))
def Wk.ok:Wk→Prop
 | .look v m => m < 18446744073709551616
 | .learn v m p now => m < 18446744073709551616∧now < 4294967296
 | .order v m p now => m < 18446744073709551616∧now < 4294967296
 | .drop v m => m < 18446744073709551616
 | .age now lim => now < 4294967296
 | .flush p v => True
def eqP (n:Nat) (f g:Nat→Pl):Prop:=∀ i,i < n→f i=g i
theorem firstJ_congr {f g:Nat→Bool}:∀ n,(∀ i,i < n→f i=g i)→firstJ f n=firstJ g n
 | 0,_ => rfl
 | k + 1,h => by rw [firstJ,firstJ,firstJ_congr k (fun i hi => h i (by omega)),h k (by omega)]
theorem bestF_congr {o o':Nat→Bool} {f f':Nat→Nat}:∀ n,(∀ i,i < n→o i=o' i∧f i=f' i)→bestF o f n=bestF o' f' n
 | 0,_ => rfl
 | k + 1,h => by
  have ih:=bestF_congr k (fun i hi => h i (by omega))
  have hb:=bestF_bd o' f' k
  rw [bestF,bestF,ih,(h k (by omega)).1,(h k (by omega)).2]
  by_cases h0:bestF o' f' k < 0
  ·simp only [h0,true_or,and_true]
  ·have e:f (bestF o' f' k).toNat=f' (bestF o' f' k).toNat:=(h _ (by omega)).2
   rw [e]
theorem goneF_congr {f g:Nat→Pl} (q:En→Bool):∀ n,eqP n f g→goneF f q n=goneF g q n
 | 0,_ => rfl
 | k + 1,h => by
  rw [goneF,goneF,goneF_congr q k (fun i hi => h i (by omega))]
  unfold goesF
  rw [h k (by omega)]
theorem findF_congr {n:Nat} {f g:Nat→Pl} (h:eqP n f g) (v:Int) (m:Nat):findF f v m n=findF g v m n :=
 firstJ_congr n fun i hi => by unfold keyF; rw [h i hi]
theorem roomF_congr {n:Nat} {f g:Nat→Pl} (h:eqP n f g) (now:Nat):roomF f now n=roomF g now n:=by
 unfold roomF
 rw [firstJ_congr n (f:=fun i => !(f i).used) (g:=fun i => !(g i).used) (fun i hi => by simp only [h i hi]),bestF_congr n (o:=fun i => !(f i).e.st) (o':=fun i => !(g i).e.st) (f:=fun i => ageN now (f i).e.stamp) (f':=fun i => ageN now (g i).e.stamp) (fun i hi => by simp only [h i hi]; exact ⟨trivial,trivial⟩)]
theorem updP_congr {n:Nat} {f g:Nat→Pl} (h:eqP n f g) (k:Nat) (x:Pl):eqP n (updP f k x) (updP g k x):=fun i hi => by
 unfold updP
 rw [h i hi]
theorem ownP_congr {n:Nat} {f g:Nat→Pl} (h:eqP n f g):eqP n (fun i => ownP (f i)) (fun i => ownP (g i)):=fun i hi => by
 show ownP (f i)=ownP (g i)
 rw [h i hi]
theorem findF_lt {f:Nat→Pl} {v:Int} {m n:Nat} (h:¬ findF f v m n < 0):(findF f v m n).toNat < n:=by
 have:=firstJ_bd (keyF f v m) n
 unfold findF at h ⊢
 omega
theorem putF_congr {n:Nat} {f g:Nat→Pl} (h:eqP n f g) (e:En) (now:Nat):(putF f e now n).2=(putF g e now n).2∧eqP n (putF f e now n).1 (putF g e now n).1:=by
 unfold putF
 rw [findF_congr h,roomF_congr h]
 by_cases h0:rightE e=false
 ·rw [if_pos h0,if_pos h0]; exact ⟨rfl,h⟩
 ·rw [if_neg h0,if_neg h0]
  by_cases h1:findF g e.vid e.mac n < 0
  ·rw [if_pos h1,if_pos h1]
   by_cases h2:(roomF g now n).1 < 0
   ·rw [if_pos h2,if_pos h2]; exact ⟨rfl,h⟩
   ·rw [if_neg h2,if_neg h2]; exact ⟨rfl,updP_congr h _ _⟩
  ·rw [if_neg h1,if_neg h1,h _ (findF_lt h1)]
   by_cases h2:againE (g (findF g e.vid e.mac n).toNat).e e=0
   ·rw [if_pos h2,if_pos h2]; exact ⟨rfl,h⟩
   ·rw [if_neg h2,if_neg h2]; exact ⟨rfl,updP_congr h _ _⟩
theorem dropF_congr {n:Nat} {f g:Nat→Pl} (h:eqP n f g) (v:Int) (m:Nat):(dropF f v m n).2=(dropF g v m n).2∧eqP n (dropF f v m n).1 (dropF g v m n).1:=by
 unfold dropF
 rw [findF_congr h]
 by_cases h1:findF g v m n < 0
 ·rw [if_pos h1,if_pos h1]; exact ⟨rfl,h⟩
 ·rw [if_neg h1,if_neg h1,h _ (findF_lt h1)]
  by_cases h2:(g (findF g v m n).toNat).e.st=true
  ·rw [if_pos h2,if_pos h2]; exact ⟨rfl,updP_congr h _ _⟩
  ·rw [if_neg h2,if_neg h2]; exact ⟨rfl,h⟩
theorem sweepF_congr {n:Nat} {f g:Nat→Pl} (h:eqP n f g) (q:En→Bool):eqP n (sweepF f q) (sweepF g q):=fun i hi => by
 unfold sweepF goesF
 rw [h i hi]
theorem portF_congr {n:Nat} {f g:Nat→Pl} (h:eqP n f g) (v:Int) (m:Nat):portF f v m n=portF g v m n:=by
 unfold portF
 rw [findF_congr h]
 by_cases h1:findF g v m n < 0
 ·rw [if_pos h1,if_pos h1]
 ·rw [if_neg h1,if_neg h1,h _ (findF_lt h1)]
theorem wk_congr {n:Nat} {f g:Nat→Pl} (h:eqP n f g) (k:Wk):(wkF n f k).2=(wkF n g k).2∧eqP n (wkF n f k).1 (wkF n g k).1:=by
 have ho:=ownP_congr h
 cases k with
 | look v m => exact ⟨portF_congr h v m,h⟩
 | learn v m p now => exact ⟨congrArg (fun z:Nat => (z:Int)) (putF_congr ho _ _).1,(putF_congr ho _ _).2⟩
 | order v m p now => exact ⟨congrArg (fun z:Nat => (z:Int)) (putF_congr ho _ _).1,(putF_congr ho _ _).2⟩
 | drop v m => exact ⟨by show (if _ then (1:Int) else 0)=if _ then 1 else 0; rw [(dropF_congr ho v m).1],(dropF_congr ho v m).2⟩
 | age now lim => exact ⟨congrArg (fun z:Nat => (z:Int)) (goneF_congr _ n ho),sweepF_congr ho _⟩
 | flush p v => exact ⟨congrArg (fun z:Nat => (z:Int)) (goneF_congr _ n ho),sweepF_congr ho _⟩
def decP (a b:Int):Pl:=if okE a.toNat b.toNat=true then ⟨true,entW a.toNat b.toNat⟩ else pl0
def decF (c:Nat→Int) (i:Nat):Pl:=decP (c (2 * i)) (c (2 * i + 1))
def wA (p:Pl):Int:=((wordA p.e:Nat):Int)
def wB (p:Pl):Int:=((wordB p.e:Nat):Int)
def goodP (p:Pl):Prop:=(p.used=true∧rightE p.e=true∧p.e.stamp < 4294967296) ∨ p=pl0
theorem dec_enc {p:Pl} (h:goodP p):decP (wA p) (wB p)=p:=by
 unfold decP wA wB
 rw [Int.toNat_natCast,Int.toNat_natCast]
 rcases h with ⟨h1,h2,h3⟩ | rfl
 ·obtain ⟨a1,a2⟩:=of_words h2 h3
  rw [if_pos a1,a2]
  cases p
  simp only at h1
  rw [h1]
 ·decide +kernel
theorem dec_good {a b:Int} (hb:b < 18446744073709551616):goodP (decP a b):=by
 unfold decP
 by_cases h:okE a.toNat b.toNat=true
 ·rw [if_pos h]
  refine .inl ⟨rfl,(okE_iff.1 h).2.1,?_⟩
  show b.toNat / 4294967296 < 4294967296
  omega
 ·rw [if_neg h]; exact .inr rfl
theorem good_pl0:goodP pl0:=.inr rfl
theorem own_good {p:Pl} (h:goodP p):ownP p=p:=by
 unfold ownP
 rcases h with ⟨h1,_⟩ | rfl
 ·rw [if_pos h1]
 ·rfl
theorem own_goodP {p:Pl} (h:goodP p):goodP (ownP p):=by rw [own_good h]; exact h
theorem upd_good {f:Nat→Pl} (h:∀ i,goodP (f i)) {x:Pl} (hx:goodP x) (k i:Nat):goodP (updP f k x i):=by
 unfold updP
 split
 ·exact hx
 ·exact h i
theorem put_good {f:Nat→Pl} (h:∀ i,goodP (f i)) {e:En} (he:e.stamp < 4294967296) (now n i:Nat):goodP ((putF f e now n).1 i):=by
 unfold putF
 by_cases h0:rightE e=false
 ·rw [if_pos h0]; exact h i
 ·have hx:goodP ⟨true,e⟩:=.inl ⟨rfl,by simpa using h0,he⟩
  rw [if_neg h0]
  split
  ·split
   ·exact h i
   ·exact upd_good h hx _ _
  ·split
   ·exact h i
   ·exact upd_good h hx _ _
theorem drop_good {f:Nat→Pl} (h:∀ i,goodP (f i)) (v:Int) (m n i:Nat):goodP ((dropF f v m n).1 i):=by
 unfold dropF
 split
 ·exact h i
 ·split
  ·exact upd_good h good_pl0 _ _
  ·exact h i
theorem sweep_good {f:Nat→Pl} (h:∀ i,goodP (f i)) (q:En→Bool) (i:Nat):goodP (sweepF f q i):=by
 unfold sweepF
 split
 ·exact good_pl0
 ·exact h i
theorem wk_good {f:Nat→Pl} (h:∀ i,goodP (f i)) (n:Nat) {k:Wk} (hk:k.ok) (i:Nat):goodP ((wkF n f k).1 i):=by
 have ho:∀ i,goodP (ownP (f i)):=fun i => own_goodP (h i)
 cases k with
 | look v m => exact h i
 | learn v m p now => exact put_good ho hk.2 _ _ _
 | order v m p now => exact put_good ho (by show (0:Nat) < _; omega) _ _ _
 | drop v m => exact drop_good ho _ _ _ _
 | age now lim => exact sweep_good ho _ _
 | flush p v => exact sweep_good ho _ _
theorem wordA_lt (e:En):wordA e < 18446744073709551616:=by
 unfold wordA
 split
 ·exact wordN_lt _ _
 ·omega
theorem wordB_lt {e:En} (hs:e.stamp < 4294967296):wordB e < 18446744073709551616:=by
 unfold wordB
 split
 ·rename_i h; exact lowN_lt h hs
 ·omega
theorem good_stamp {p:Pl} (h:goodP p):p.e.stamp < 4294967296:=by
 rcases h with ⟨_,_,h⟩ | rfl
 ·exact h
 ·decide
theorem wAB_rng {p:Pl} (h:goodP p):(0≤wA p∧wA p < 18446744073709551616)∧0≤wB p∧wB p < 18446744073709551616:=by
 have h1:=wordA_lt p.e
 have h2:=wordB_lt (good_stamp h)
 unfold wA wB
 omega
structure FaS where
 who:Int
 wk:Wk
 l0:Nat
 lc:Nat
 h0:Nat
 hc:Nat
 st:Nat
 held:Nat
 ld:List Int
 wr:List (Nat × Int)
 od:Nat
 wt:Nat
 mark:Int
 ans:Int
 vain:Nat
def segF (F:FcS) (ld:List Int) (j:Nat):Nat→Pl:=decF fun x => ld.getD (j * F.W + 1 + x) 0
def isF (F:FcS) (k:Wk) (ld:List Int) (j:Nat):Nat→Pl:=(wkF F.n (segF F ld j) k).1
def difB (n:Nat) (f g:Nat→Pl):Bool:=(List.range n).any fun i => decide (f i ≠ g i)
def chgB (F:FcS) (k:Wk) (ld:List Int) (j:Nat):Bool:=difB F.n (segF F ld j) (isF F k ld j)
def oddI (c:Int):Int:=((c.toNat ||| 1:Nat):Int)
def evenI (c:Int):Int:=(oddI c + 1) % 18446744073709551616
def chgL (a0:Nat) (f g:Nat→Pl):Nat→List (Nat × Int)
 | 0 => []
 | i + 1 => chgL a0 f g i ++ if f i=g i then [] else [(a0 + 2 * i,wA (g i)),(a0 + 2 * i + 1,wB (g i))]
def oddsL (F:FcS) (k:Wk) (ld:List Int) (h0:Nat):Nat→List (Nat × Int)
 | 0 => []
 | j + 1 => oddsL F k ld h0 j ++ if chgB F k ld j=true then [(F.cell (h0 + j),oddI (ld.getD (j * F.W) 0))] else []
def wordsL (F:FcS) (k:Wk) (ld:List Int) (h0:Nat):Nat→List (Nat × Int)
 | 0 => []
 | j + 1 => wordsL F k ld h0 j ++ if chgB F k ld j=true then chgL (F.cell (h0 + j) + 1) (segF F ld j) (isF F k ld j) F.n else []
def evensL (F:FcS) (k:Wk) (ld:List Int) (h0:Nat):Nat→List (Nat × Int)
 | 0 => []
 | j + 1 => evensL F k ld h0 j ++ if chgB F k ld j=true then [(F.cell (h0 + j),evenI (ld.getD (j * F.W) 0))] else []
def cameS (F:FcS) (k:Wk) (ld:List Int):Nat→Int
 | 0 => 0
 | j + 1 => cameS F k ld j + (wkF F.n (segF F ld j) k).2
def wrL (F:FcS) (k:Wk) (ld:List Int) (h0 hc:Nat):List (Nat × Int):=oddsL F k ld h0 hc ++ (wordsL F k ld h0 hc ++ evensL F k ld h0 hc)
def rdA (F:FcS) (m:MemS) (a:FaS):FaS:={ a with ld:=a.ld ++ [m.c (F.cell a.h0 + a.ld.length)] }
def tryF (F:FcS) (m:MemS) (a:FaS):MemS × FaS :=
 if a.ld.length < a.hc * F.W then (tickS m,rdA F m a)
 else if m.c (F.cell a.h0)=a.ld.getD 0 0∧m.c (F.cell a.h0) % 2=0 then (tickS m,{ a with ans:=(wkF F.n (segF F a.ld 0) a.wk).2,mark:=m.t + 1,st:=0,ld:=[],wr:=[] })
 else (tickS m,{ a with vain:=a.vain + 1,ld:=[],st:=if a.vain + 1=F.tr then 2 else 1 })
def takF (m:MemS) (a:FaS):MemS × FaS :=
 if m.h (a.l0 + a.held)=-1 then (putL (tickS m) (a.l0 + a.held) a.who,{ a with held:=a.held + 1,st:=if a.held + 1=a.lc then 3 else 2 }) else (tickS m,a)
def setA (F:FcS) (t:Int) (a:FaS):FaS :=
 { a with ans:=a.ans + cameS F a.wk a.ld a.hc,od:=(oddsL F a.wk a.ld a.h0 a.hc).length,wr:=wrL F a.wk a.ld a.h0 a.hc,st:=if wrL F a.wk a.ld a.h0 a.hc=[] then 5 else 4,mark:=if wrL F a.wk a.ld a.h0 a.hc=[] then t else a.mark }
def loaF (F:FcS) (m:MemS) (a:FaS):MemS × FaS :=
 (tickS m,if (rdA F m a).ld.length < a.hc * F.W then rdA F m a else setA F (m.t + 1) (rdA F m a))
def stoF (m:MemS) (a:FaS):MemS × FaS :=
 (putC (tickS m) (a.wr.getD a.wt (0,0)).1 (a.wr.getD a.wt (0,0)).2,{ a with wt:=a.wt + 1,mark:=if a.wt + 1=a.od then m.t + 1 else a.mark,st:=if a.wt + 1=a.wr.length then 5 else 4 })
def freF (m:MemS) (a:FaS):MemS × FaS :=
 (if m.h (a.l0 + (a.held - 1))=a.who then putL (tickS m) (a.l0 + (a.held - 1)) (-1) else tickS m,
  if a.held - 1=0 then { a with held:=0,st:=0,ld:=[],wr:=[] } else { a with held:=a.held - 1 })
def stepF (F:FcS) (m:MemS) (a:FaS):MemS × FaS :=
 if a.st=1 then tryF F m a else if a.st=2 then takF m a else if a.st=3 then loaF F m a else if a.st=4 then stoF m a else if a.st=5 then freF m a else (m,a)
end Go.Proofs.Ythloabdfkakehaa
