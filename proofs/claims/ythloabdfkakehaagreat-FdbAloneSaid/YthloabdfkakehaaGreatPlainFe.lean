/-
  Words and contracts that a statement's proof rests on (PlainFd, PlainFe). No statement is proved here.
-/
import Derived.Test.YthloabdfkakehaaGreatKeyR
import Derived.Test.YthloabdfkakehaaGreatBkH
set_option linter.unusedVariables false
set_option linter.unusedSimpArgs false
namespace Go.Proofs.YthloabdfkakehaaGreat
section
structure FcS where
 ba:Nat
 lk:Nat
 S:Nat
 B:Nat
 n:Nat
 tr:Nat
def FcS.W (F:FcS):Nat:=1 + 2 * F.n
def FcS.cell (F:FcS) (H:Nat):Nat:=F.ba + H * F.W
inductive Wk where
 | look (v:Int) (m:Nat)
 | learn (v:Int) (m:Nat) (p:Int) (now:Nat)
 | order (v:Int) (m:Nat) (p:Int) (now:Nat)
 | drop (v:Int) (m:Nat)
 | age (now lim:Nat)
 | flush (p v:Int)
def wkF (n:Nat) (f:Nat→Pl):Wk→(Nat→Pl) × Int
 | .look v m => (f,portF f v m n)
 | .learn v m p now => ((putF (fun i => ownP (f i)) ⟨v,m,p,false,now⟩ now n).1,((putF (fun i => ownP (f i)) ⟨v,m,p,false,now⟩ now n).2:Nat))
 | .order v m p now => ((putF (fun i => ownP (f i)) ⟨v,m,p,true,0⟩ now n).1,((putF (fun i => ownP (f i)) ⟨v,m,p,true,0⟩ now n).2:Nat))
 | .drop v m => ((dropF (fun i => ownP (f i)) v m n).1,if (dropF (fun i => ownP (f i)) v m n).2=true then 1 else 0)
 | .age now lim => (sweepF (fun i => ownP (f i)) (oldE now lim),(goneF (fun i => ownP (f i)) (oldE now lim) n:Nat))
 | .flush p v => (flR p v f,(flN p v f n:Nat))
def Wk.ok:Wk→Prop
 | .look v m => m < 18446744073709551616
 | .learn v m p now => m < 18446744073709551616∧now < 4294967296
 | .order v m p now => m < 18446744073709551616∧now < 4294967296
 | .drop v m => m < 18446744073709551616
 | .age now lim => now < 4294967296
 | .flush p v => True
def eqP (n:Nat) (f g:Nat→Pl):Prop:=∀ i,i < n→f i=g i
theorem firstJ_congr {f g:Nat→Bool}:∀ n,(∀ i,i < n→f i=g i)→firstJ f n=firstJ g n
 | 0,_ => rfl
 | k + 1,h => by rw [firstJ,firstJ,firstJ_congr k (fun i hi => h i (by omega)),h k (by omega)]
theorem bestF_congr {o o':Nat→Bool} {f f':Nat→Nat}:∀ n,(∀ i,i < n→o i=o' i∧f i=f' i)→bestF o f n=bestF o' f' n
 | 0,_ => rfl
 | k + 1,h => by
  have ih:=bestF_congr k (fun i hi => h i (by omega))
  have hb:=bestF_bd o' f' k
  rw [bestF,bestF,ih,(h k (by omega)).1,(h k (by omega)).2]
  by_cases h0:bestF o' f' k < 0
  ·simp only [h0,true_or,and_true]
  ·have e:f (bestF o' f' k).toNat=f' (bestF o' f' k).toNat:=(h _ (by omega)).2
   rw [e]
theorem goneF_congr {f g:Nat→Pl} (q:En→Bool):∀ n,eqP n f g→goneF f q n=goneF g q n
 | 0,_ => rfl
 | k + 1,h => by
  rw [goneF,goneF,goneF_congr q k (fun i hi => h i (by omega))]
  unfold goesF
  rw [h k (by omega)]
theorem findF_congr {n:Nat} {f g:Nat→Pl} (h:eqP n f g) (v:Int) (m:Nat):findF f v m n=findF g v m n :=
 firstJ_congr n fun i hi => by unfold keyF; rw [h i hi]
theorem roomF_congr {n:Nat} {f g:Nat→Pl} (h:eqP n f g) (now:Nat):roomF f now n=roomF g now n:=by
 unfold roomF
 rw [firstJ_congr n (f:=fun i => !(f i).used) (g:=fun i => !(g i).used) (fun i hi => by simp only [h i hi]),bestF_congr n (o:=fun i => !(f i).e.st) (o':=fun i => !(g i).e.st) (f:=fun i => ageN now (f i).e.stamp) (f':=fun i => ageN now (g i).e.stamp) (fun i hi => by simp only [h i hi]; exact ⟨trivial,trivial⟩)]
theorem updP_congr {n:Nat} {f g:Nat→Pl} (h:eqP n f g) (k:Nat) (x:Pl):eqP n (updP f k x) (updP g k x):=fun i hi => by
 unfold updP
 rw [h i hi]
theorem ownP_congr {n:Nat} {f g:Nat→Pl} (h:eqP n f g):eqP n (fun i => ownP (f i)) (fun i => ownP (g i)):=fun i hi => by
 show ownP (f i)=ownP (g i)
 rw [h i hi]
theorem findF_lt {f:Nat→Pl} {v:Int} {m n:Nat} (h:¬ findF f v m n < 0):(findF f v m n).toNat < n:=by
 have:=firstJ_bd (keyF f v m) n
 unfold findF at h ⊢
 omega
theorem putF_congr {n:Nat} {f g:Nat→Pl} (h:eqP n f g) (e:En) (now:Nat):(putF f e now n).2=(putF g e now n).2∧eqP n (putF f e now n).1 (putF g e now n).1:=by
 unfold putF
 rw [findF_congr h,roomF_congr h]
 by_cases h0:rightE e=false
 ·rw [if_pos h0,if_pos h0]; exact ⟨rfl,h⟩
 ·rw [if_neg h0,if_neg h0]
  by_cases h1:findF g e.vid e.mac n < 0
  ·rw [if_pos h1,if_pos h1]
   by_cases h2:(roomF g now n).1 < 0
   ·rw [if_pos h2,if_pos h2]; exact ⟨rfl,h⟩
   ·rw [if_neg h2,if_neg h2]; exact ⟨rfl,updP_congr h _ _⟩
  ·rw [if_neg h1,if_neg h1,h _ (findF_lt h1)]
   by_cases h2:againE (g (findF g e.vid e.mac n).toNat).e e=0
   ·rw [if_pos h2,if_pos h2]; exact ⟨rfl,h⟩
   ·rw [if_neg h2,if_neg h2]; exact ⟨rfl,updP_congr h _ _⟩
theorem dropF_congr {n:Nat} {f g:Nat→Pl} (h:eqP n f g) (v:Int) (m:Nat):(dropF f v m n).2=(dropF g v m n).2∧eqP n (dropF f v m n).1 (dropF g v m n).1:=by
 unfold dropF
 rw [findF_congr h]
 by_cases h1:findF g v m n < 0
 ·rw [if_pos h1,if_pos h1]; exact ⟨rfl,h⟩
 ·rw [if_neg h1,if_neg h1,h _ (findF_lt h1)]
  by_cases h2:(g (findF g v m n).toNat).e.st=true
  ·rw [if_pos h2,if_pos h2]; exact ⟨rfl,updP_congr h _ _⟩
  ·rw [if_neg h2,if_neg h2]; exact ⟨rfl,h⟩
theorem sweepF_congr {n:Nat} {f g:Nat→Pl} (h:eqP n f g) (q:En→Bool):eqP n (sweepF f q) (sweepF g q):=fun i hi => by
 unfold sweepF goesF
 rw [h i hi]
theorem portF_congr {n:Nat} {f g:Nat→Pl} (h:eqP n f g) (v:Int) (m:Nat):portF f v m n=portF g v m n:=by
 unfold portF
 rw [findF_congr h]
 by_cases h1:findF g v m n < 0
 ·rw [if_pos h1,if_pos h1]
 ·rw [if_neg h1,if_neg h1,h _ (findF_lt h1)]
theorem wk_congr {n:Nat} {f g:Nat→Pl} (h:eqP n f g) (k:Wk):(wkF n f k).2=(wkF n g k).2∧eqP n (wkF n f k).1 (wkF n g k).1:=by
 have ho:=ownP_congr h
 cases k with
 | look v m => exact ⟨portF_congr h v m,h⟩
 | learn v m p now => exact ⟨congrArg (fun z:Nat => (z:Int)) (putF_congr ho _ _).1,(putF_congr ho _ _).2⟩
 | order v m p now => exact ⟨congrArg (fun z:Nat => (z:Int)) (putF_congr ho _ _).1,(putF_congr ho _ _).2⟩
 | drop v m => exact ⟨by show (if _ then (1:Int) else 0)=if _ then 1 else 0; rw [(dropF_congr ho v m).1],(dropF_congr ho v m).2⟩
 | age now lim => exact ⟨congrArg (fun z:Nat => (z:Int)) (goneF_congr _ n ho),sweepF_congr ho _⟩
 | flush p v => exact ⟨congrArg (fun z:Nat => (z:Int)) (goneF_congr _ n ho),sweepF_congr ho _⟩
def decP (a b:Int):Pl:=if okE a.toNat b.toNat=true then ⟨true,entW a.toNat b.toNat⟩ else pl0
def decF (c:Nat→Int) (i:Nat):Pl:=decP (c (2 * i)) (c (2 * i + 1))
def wA (p:Pl):Int:=((wordA p.e:Nat):Int)
def wB (p:Pl):Int:=((wordB p.e:Nat):Int)
def goodP (p:Pl):Prop:=(p.used=true∧rightE p.e=true∧p.e.stamp < 4294967296) ∨ p=pl0
theorem dec_enc {p:Pl} (h:goodP p):decP (wA p) (wB p)=p:=by
 unfold decP wA wB
 rw [Int.toNat_natCast,Int.toNat_natCast]
 rcases h with ⟨h1,h2,h3⟩ | rfl
 ·obtain ⟨a1,a2⟩:=of_words h2 h3
  rw [if_pos a1,a2]
  cases p
  simp only at h1
  rw [h1]
 ·decide +kernel
theorem dec_good {a b:Int} (hb:b < 18446744073709551616):goodP (decP a b):=by
 unfold decP
 by_cases h:okE a.toNat b.toNat=true
 ·rw [if_pos h]
  refine .inl ⟨rfl,(okE_iff.1 h).2.1,?_⟩
  show b.toNat / 4294967296 < 4294967296
  omega
 ·rw [if_neg h]; exact .inr rfl
theorem good_pl0:goodP pl0:=.inr rfl
theorem own_good {p:Pl} (h:goodP p):ownP p=p:=by
 unfold ownP
 rcases h with ⟨h1,_⟩ | rfl
 ·rw [if_pos h1]
 ·rfl
theorem own_goodP {p:Pl} (h:goodP p):goodP (ownP p):=by rw [own_good h]; exact h
theorem upd_good {f:Nat→Pl} (h:∀ i,goodP (f i)) {x:Pl} (hx:goodP x) (k i:Nat):goodP (updP f k x i):=by
 unfold updP
 split
 ·exact hx
 ·exact h i
theorem put_good {f:Nat→Pl} (h:∀ i,goodP (f i)) {e:En} (he:e.stamp < 4294967296) (now n i:Nat):goodP ((putF f e now n).1 i):=by
 unfold putF
 by_cases h0:rightE e=false
 ·rw [if_pos h0]; exact h i
 ·have hx:goodP ⟨true,e⟩:=.inl ⟨rfl,by simpa using h0,he⟩
  rw [if_neg h0]
  split
  ·split
   ·exact h i
   ·exact upd_good h hx _ _
  ·split
   ·exact h i
   ·exact upd_good h hx _ _
theorem drop_good {f:Nat→Pl} (h:∀ i,goodP (f i)) (v:Int) (m n i:Nat):goodP ((dropF f v m n).1 i):=by
 unfold dropF
 split
 ·exact h i
 ·split
  ·exact upd_good h good_pl0 _ _
  ·exact h i
theorem sweep_good {f:Nat→Pl} (h:∀ i,goodP (f i)) (q:En→Bool) (i:Nat):goodP (sweepF f q i):=by
 unfold sweepF
 split
 ·exact good_pl0
 ·exact h i
theorem wk_good {f:Nat→Pl} (h:∀ i,goodP (f i)) (n:Nat) {k:Wk} (hk:k.ok) (i:Nat):goodP ((wkF n f k).1 i):=by
 have ho:∀ i,goodP (ownP (f i)):=fun i => own_goodP (h i)
 cases k with
 | look v m => exact h i
 | learn v m p now => exact put_good ho hk.2 _ _ _
 | order v m p now => exact put_good ho (by show (0:Nat) < _; omega) _ _ _
 | drop v m => exact drop_good ho _ _ _ _
 | age now lim => exact sweep_good ho _ _
 | flush p v => exact sweep_good ho _ _
theorem wordA_lt (e:En):wordA e < 18446744073709551616:=by
 unfold wordA
 split
 ·exact wordN_lt _ _
 ·omega
theorem wordB_lt {e:En} (hs:e.stamp < 4294967296):wordB e < 18446744073709551616:=by
 unfold wordB
 split
 ·rename_i h; exact lowN_lt h hs
 ·omega
theorem good_stamp {p:Pl} (h:goodP p):p.e.stamp < 4294967296:=by
 rcases h with ⟨_,_,h⟩ | rfl
 ·exact h
 ·decide
theorem wAB_rng {p:Pl} (h:goodP p):(0≤wA p∧wA p < 18446744073709551616)∧0≤wB p∧wB p < 18446744073709551616:=by
 have h1:=wordA_lt p.e
 have h2:=wordB_lt (good_stamp h)
 unfold wA wB
 omega
structure FaS where
 who:Int
 wk:Wk
 l0:Nat
 lc:Nat
 h0:Nat
 hc:Nat
 st:Nat
 held:Nat
 ld:List Int
 wr:List (Nat × Int)
 od:Nat
 wt:Nat
 mark:Int
 ans:Int
 vain:Nat
def segF (F:FcS) (ld:List Int) (j:Nat):Nat→Pl:=decF fun x => ld.getD (j * F.W + 1 + x) 0
def isF (F:FcS) (k:Wk) (ld:List Int) (j:Nat):Nat→Pl:=(wkF F.n (segF F ld j) k).1
def difB (n:Nat) (f g:Nat→Pl):Bool:=(List.range n).any fun i => decide (f i ≠ g i)
def chgB (F:FcS) (k:Wk) (ld:List Int) (j:Nat):Bool:=difB F.n (segF F ld j) (isF F k ld j)
def oddI (c:Int):Int:=((c.toNat ||| 1:Nat):Int)
def evenI (c:Int):Int:=(oddI c + 1) % 18446744073709551616
def chgL (a0:Nat) (f g:Nat→Pl):Nat→List (Nat × Int)
 | 0 => []
 | i + 1 => chgL a0 f g i ++ if f i=g i then [] else [(a0 + 2 * i,wA (g i)),(a0 + 2 * i + 1,wB (g i))]
def oddsL (F:FcS) (k:Wk) (ld:List Int) (h0:Nat):Nat→List (Nat × Int)
 | 0 => []
 | j + 1 => oddsL F k ld h0 j ++ if chgB F k ld j=true then [(F.cell (h0 + j),oddI (ld.getD (j * F.W) 0))] else []
def wordsL (F:FcS) (k:Wk) (ld:List Int) (h0:Nat):Nat→List (Nat × Int)
 | 0 => []
 | j + 1 => wordsL F k ld h0 j ++ if chgB F k ld j=true then chgL (F.cell (h0 + j) + 1) (segF F ld j) (isF F k ld j) F.n else []
def evensL (F:FcS) (k:Wk) (ld:List Int) (h0:Nat):Nat→List (Nat × Int)
 | 0 => []
 | j + 1 => evensL F k ld h0 j ++ if chgB F k ld j=true then [(F.cell (h0 + j),evenI (ld.getD (j * F.W) 0))] else []
def cameS (F:FcS) (k:Wk) (ld:List Int):Nat→Int
 | 0 => 0
 | j + 1 => cameS F k ld j + (wkF F.n (segF F ld j) k).2
def wrL (F:FcS) (k:Wk) (ld:List Int) (h0 hc:Nat):List (Nat × Int):=oddsL F k ld h0 hc ++ (wordsL F k ld h0 hc ++ evensL F k ld h0 hc)
def rdA (F:FcS) (m:MemS) (a:FaS):FaS:={ a with ld:=a.ld ++ [m.c (F.cell a.h0 + a.ld.length)] }
def tryF (F:FcS) (m:MemS) (a:FaS):MemS × FaS :=
 if a.ld.length < a.hc * F.W then (tickS m,rdA F m a)
 else if m.c (F.cell a.h0)=a.ld.getD 0 0∧m.c (F.cell a.h0) % 2=0 then (tickS m,{ a with ans:=(wkF F.n (segF F a.ld 0) a.wk).2,mark:=m.t + 1,st:=0,ld:=[],wr:=[] })
 else (tickS m,{ a with vain:=a.vain + 1,ld:=[],st:=if a.vain + 1=F.tr then 2 else 1 })
def takF (m:MemS) (a:FaS):MemS × FaS :=
 if m.h (a.l0 + a.held)=-1 then (putL (tickS m) (a.l0 + a.held) a.who,{ a with held:=a.held + 1,st:=if a.held + 1=a.lc then 3 else 2 }) else (tickS m,a)
def setA (F:FcS) (t:Int) (a:FaS):FaS :=
 { a with ans:=a.ans + cameS F a.wk a.ld a.hc,od:=(oddsL F a.wk a.ld a.h0 a.hc).length,wr:=wrL F a.wk a.ld a.h0 a.hc,st:=if wrL F a.wk a.ld a.h0 a.hc=[] then 5 else 4,mark:=if wrL F a.wk a.ld a.h0 a.hc=[] then t else a.mark }
def loaF (F:FcS) (m:MemS) (a:FaS):MemS × FaS :=
 (tickS m,if (rdA F m a).ld.length < a.hc * F.W then rdA F m a else setA F (m.t + 1) (rdA F m a))
def stoF (m:MemS) (a:FaS):MemS × FaS :=
 (putC (tickS m) (a.wr.getD a.wt (0,0)).1 (a.wr.getD a.wt (0,0)).2,{ a with wt:=a.wt + 1,mark:=if a.wt + 1=a.od then m.t + 1 else a.mark,st:=if a.wt + 1=a.wr.length then 5 else 4 })
def freF (m:MemS) (a:FaS):MemS × FaS :=
 (if m.h (a.l0 + (a.held - 1))=a.who then putL (tickS m) (a.l0 + (a.held - 1)) (-1) else tickS m,
  if a.held - 1=0 then { a with held:=0,st:=0,ld:=[],wr:=[] } else { a with held:=a.held - 1 })
def stepF (F:FcS) (m:MemS) (a:FaS):MemS × FaS :=
 if a.st=1 then tryF F m a else if a.st=2 then takF m a else if a.st=3 then loaF F m a else if a.st=4 then stoF m a else if a.st=5 then freF m a else (m,a)
end
section
def putsC (c:Nat→Int):List (Nat × Int)→Nat→Int
 | [] => c
 | x :: l => putsC (fun y => if y=x.1 then x.2 else c y) l
theorem putsC_append (c:Nat→Int):∀ l l',putsC c (l ++ l')=putsC (putsC c l) l'
 | [],_ => rfl
 | x :: l,l' => putsC_append _ l l'
theorem putsC_snoc (c:Nat→Int) (l:List (Nat × Int)) (x:Nat × Int) (y:Nat):putsC c (l ++ [x]) y=if y=x.1 then x.2 else putsC c l y:=by
 rw [putsC_append]
 rfl
theorem putsC_filter (p:Nat→Bool):∀ (l:List (Nat × Int)) (c c':Nat→Int),(∀ y,p y=true→c y=c' y)→∀ y,p y=true→putsC c l y=putsC c' (l.filter fun x => p x.1) y
 | [],c,c',h,y,hy => h y hy
 | x :: l,c,c',h,y,hy => by
  rw [putsC]
  by_cases hx:p x.1=true
  ·rw [List.filter_cons_of_pos (by simpa using hx),putsC]
   exact putsC_filter p l _ _ (fun z hz => by
    show (if _ then _ else _)=if _ then _ else _
    rw [h z hz]) y hy
  ·rw [List.filter_cons_of_neg (by simpa using hx)]
   exact putsC_filter p l _ _ (fun z hz => by
    show (if _ then _ else _)=_
    rw [if_neg (fun e => hx (by rw [← e]; exact hz))]
    exact h z hz) y hy
theorem putsC_far (c:Nat→Int):∀ (l:List (Nat × Int)) (y:Nat),(∀ x ∈ l,x.1 ≠ y)→putsC c l y=c y
 | [],_,_ => rfl
 | x :: l,y,h => by
  rw [putsC,putsC_far _ l y (fun z hz => h z (List.mem_cons_of_mem _ hz)),if_neg (fun e => h x (List.mem_cons_self ..) e.symm)]
def inB8 (F:FcS) (H y:Nat):Bool:=decide (F.cell H≤y∧y < F.cell H + F.W)
theorem inB8_iff {F:FcS} {H y:Nat}:inB8 F H y=true ↔ F.cell H≤y∧y < F.cell H + F.W:=by simp [inB8]
theorem FcS.W_pos (F:FcS):1≤F.W:=by unfold FcS.W; omega
theorem cell_succ (F:FcS) (H:Nat):F.cell (H + 1)=F.cell H + F.W:=by unfold FcS.cell; rw [Nat.add_mul,Nat.one_mul]; omega
theorem cell_le (F:FcS) {H H':Nat} (h:H≤H'):F.cell H≤F.cell H':=by
 unfold FcS.cell
 have:=Nat.mul_le_mul_right F.W h
 omega
theorem cell_lt (F:FcS) {H H':Nat} (h:H < H'):F.cell H + F.W≤F.cell H':=by
 have:=cell_le F (show H + 1≤H' from h)
 rw [cell_succ] at this
 exact this
theorem cell_add (F:FcS) (H j:Nat):F.cell (H + j)=F.cell H + j * F.W:=by unfold FcS.cell; rw [Nat.add_mul]; omega
theorem inB8_self (F:FcS) (H x:Nat) (hx:x < F.W):inB8 F H (F.cell H + x)=true:=inB8_iff.2 ⟨by omega,by omega⟩
theorem inB8_uniq {F:FcS} {H H' y:Nat} (h:inB8 F H y=true) (h':inB8 F H' y=true):H=H':=by
 rw [inB8_iff] at h h'
 rcases Nat.lt_trichotomy H H' with hl | he | hl
 ·have:=cell_lt F hl; omega
 ·exact he
 ·have:=cell_lt F hl; omega
theorem inB8_other {F:FcS} {H H' y:Nat} (h:inB8 F H y=true) (hne:H ≠ H'):inB8 F H' y=false:=by
 cases e:inB8 F H' y
 ·rfl
 ·exact absurd (inB8_uniq h e) hne
theorem chgL_in (a0:Nat) (f g:Nat→Pl):∀ n,∀ x ∈ chgL a0 f g n,a0≤x.1∧x.1 < a0 + 2 * n
 | 0,x,h => by simp [chgL] at h
 | n + 1,x,h => by
  rw [chgL,List.mem_append] at h
  rcases h with h | h
  ·have:=chgL_in a0 f g n x h; omega
  ·split at h
   ·simp at h
   ·simp at h
    rcases h with rfl | rfl <;> simp <;> omega
theorem chgL_rng (a0:Nat) (f g:Nat→Pl) (hg:∀ i,goodP (g i)):∀ n,∀ x ∈ chgL a0 f g n,0≤x.2∧x.2 < 18446744073709551616
 | 0,x,h => by simp [chgL] at h
 | n + 1,x,h => by
  rw [chgL,List.mem_append] at h
  rcases h with h | h
  ·exact chgL_rng a0 f g hg n x h
  ·split at h
   ·simp at h
   ·simp at h
    rcases h with rfl | rfl
    ·exact (wAB_rng (hg n)).1
    ·exact (wAB_rng (hg n)).2
theorem filter_all {p:Nat→Bool} {l:List (Nat × Int)} (h:∀ x ∈ l,p x.1=true):l.filter (fun x => p x.1)=l:=List.filter_eq_self.2 fun x hx => h x hx
theorem filter_none {p:Nat→Bool} {l:List (Nat × Int)} (h:∀ x ∈ l,p x.1=false):l.filter (fun x => p x.1)=[]:=List.filter_eq_nil_iff.2 fun x hx => by simp [h x hx]
section
variable (F:FcS) (k:Wk) (ld:List Int) (h0:Nat)
def odd1 (j:Nat):List (Nat × Int):=if chgB F k ld j=true then [(F.cell (h0 + j),oddI (ld.getD (j * F.W) 0))] else []
def even1 (j:Nat):List (Nat × Int):=if chgB F k ld j=true then [(F.cell (h0 + j),evenI (ld.getD (j * F.W) 0))] else []
def words1 (j:Nat):List (Nat × Int):=if chgB F k ld j=true then chgL (F.cell (h0 + j) + 1) (segF F ld j) (isF F k ld j) F.n else []
theorem odd1_in (j:Nat):∀ x ∈ odd1 F k ld h0 j,inB8 F (h0 + j) x.1=true:=fun x h => by
 unfold odd1 at h
 split at h
 ·simp at h; subst h; exact inB8_self F _ 0 F.W_pos
 ·simp at h
theorem even1_in (j:Nat):∀ x ∈ even1 F k ld h0 j,inB8 F (h0 + j) x.1=true:=fun x h => by
 unfold even1 at h
 split at h
 ·simp at h; subst h; exact inB8_self F _ 0 F.W_pos
 ·simp at h
theorem words1_in (j:Nat):∀ x ∈ words1 F k ld h0 j,F.cell (h0 + j) + 1≤x.1∧x.1 < F.cell (h0 + j) + F.W:=fun x h => by
 unfold words1 at h
 split at h
 ·have:=chgL_in _ _ _ _ x h
  unfold FcS.W
  omega
 ·simp at h
theorem words1_in' (j:Nat):∀ x ∈ words1 F k ld h0 j,inB8 F (h0 + j) x.1=true:=fun x h => by
 have:=words1_in F k ld h0 j x h
 exact inB8_iff.2 ⟨by omega,by omega⟩
def gath (L1:Nat→List (Nat × Int)):Nat→List (Nat × Int)
 | 0 => []
 | j + 1 => gath L1 j ++ L1 j
theorem odds_gath:∀ N,oddsL F k ld h0 N=gath (odd1 F k ld h0) N
 | 0 => rfl
 | N + 1 => by rw [oddsL,gath,odds_gath N]; rfl
theorem words_gath:∀ N,wordsL F k ld h0 N=gath (words1 F k ld h0) N
 | 0 => rfl
 | N + 1 => by rw [wordsL,gath,words_gath N]; rfl
theorem evens_gath:∀ N,evensL F k ld h0 N=gath (even1 F k ld h0) N
 | 0 => rfl
 | N + 1 => by rw [evensL,gath,evens_gath N]; rfl
variable {F h0}
theorem gath_filter {L1:Nat→List (Nat × Int)} (hin:∀ j,∀ x ∈ L1 j,inB8 F (h0 + j) x.1=true) (j:Nat):∀ N,(gath L1 N).filter (fun x => inB8 F (h0 + j) x.1)=if j < N then L1 j else []
 | 0 => rfl
 | N + 1 => by
  rw [gath,List.filter_append,gath_filter hin j N]
  by_cases e:j=N
  ·subst e
   rw [if_neg (by omega),if_pos (by omega),filter_all (p:=inB8 F (h0 + j)) (hin j),List.nil_append]
  ·rw [filter_none (p:=inB8 F (h0 + j)) (l:=L1 N) (fun x hx => inB8_other (hin N x hx) (by omega)),List.append_nil]
   by_cases h:j < N
   ·rw [if_pos h,if_pos (by omega)]
   ·rw [if_neg h,if_neg (by omega)]
theorem gath_mem {L1:Nat→List (Nat × Int)} {x:Nat × Int}:∀ {N},x ∈ gath L1 N→∃ j,j < N∧x ∈ L1 j
 | 0,h => by simp [gath] at h
 | N + 1,h => by
  rw [gath,List.mem_append] at h
  rcases h with h | h
  ·obtain ⟨j,h1,h2⟩:=gath_mem h; exact ⟨j,by omega,h2⟩
  ·exact ⟨N,by omega,h⟩
variable (F h0)
def seqB (j:Nat):List (Nat × Int):=odd1 F k ld h0 j ++ (words1 F k ld h0 j ++ even1 F k ld h0 j)
theorem wr_filter {hc j:Nat} (hj:j < hc):(wrL F k ld h0 hc).filter (fun x => inB8 F (h0 + j) x.1)=seqB F k ld h0 j:=by
 unfold wrL seqB
 rw [List.filter_append,List.filter_append,odds_gath,words_gath,evens_gath,gath_filter (odd1_in F k ld h0),gath_filter (words1_in' F k ld h0),gath_filter (even1_in F k ld h0),if_pos hj,if_pos hj,if_pos hj]
theorem wr_mem {hc:Nat} {x:Nat × Int} (h:x ∈ wrL F k ld h0 hc):∃ j,j < hc∧chgB F k ld j=true∧inB8 F (h0 + j) x.1=true:=by
 unfold wrL at h
 rw [List.mem_append,List.mem_append,odds_gath,words_gath,evens_gath] at h
 rcases h with h | h | h
 ·obtain ⟨j,hj,h⟩:=gath_mem h
  refine ⟨j,hj,?_,odd1_in F k ld h0 j x h⟩
  unfold odd1 at h; split at h
  ·assumption
  ·simp at h
 ·obtain ⟨j,hj,h⟩:=gath_mem h
  refine ⟨j,hj,?_,words1_in' F k ld h0 j x h⟩
  unfold words1 at h; split at h
  ·assumption
  ·simp at h
 ·obtain ⟨j,hj,h⟩:=gath_mem h
  refine ⟨j,hj,?_,even1_in F k ld h0 j x h⟩
  unfold even1 at h; split at h
  ·assumption
  ·simp at h
theorem gath_nil {L1:Nat→List (Nat × Int)}:∀ {N},gath L1 N=[] ↔ ∀ j,j < N→L1 j=[]
 | 0 => ⟨fun _ j h => by omega,fun _ => rfl⟩
 | N + 1 => by
  rw [gath,List.append_eq_nil_iff,gath_nil]
  exact ⟨fun ⟨h1,h2⟩ j hj => by
   by_cases e:j=N
   ·subst e; exact h2
   ·exact h1 j (by omega),fun h => ⟨fun j hj => h j (by omega),h N (by omega)⟩⟩
theorem wr_nil {hc:Nat}:wrL F k ld h0 hc=[] ↔ ∀ j,j < hc→chgB F k ld j=false:=by
 unfold wrL
 rw [List.append_eq_nil_iff,List.append_eq_nil_iff,odds_gath,words_gath,evens_gath,gath_nil,gath_nil,gath_nil]
 constructor
 ·intro h j hj
  have:=h.1 j hj
  unfold odd1 at this
  cases e:chgB F k ld j
  ·rfl
  ·rw [e,if_pos rfl] at this; simp at this
 ·intro h
  refine ⟨fun j hj => ?_,fun j hj => ?_,fun j hj => ?_⟩
  ·unfold odd1; rw [h j hj]; rfl
  ·unfold words1; rw [h j hj]; rfl
  ·unfold even1; rw [h j hj]; rfl
theorem odds_pos {hc:Nat} (h:wrL F k ld h0 hc ≠ []):0 < (oddsL F k ld h0 hc).length:=by
 rcases Nat.eq_zero_or_pos (oddsL F k ld h0 hc).length with h1 | h1
 ·exfalso
  apply h
  rw [wr_nil]
  have h2:=List.eq_nil_of_length_eq_zero h1
  rw [odds_gath,gath_nil] at h2
  intro j hj
  have:=h2 j hj
  unfold odd1 at this
  cases e:chgB F k ld j
  ·rfl
  ·rw [e,if_pos rfl] at this; simp at this
 ·exact h1
end
theorem prefix3 {a e:Nat × Int} {ws p:List (Nat × Int)} (h:p <+: [a] ++ (ws ++ [e])):p=[] ∨ (∃ q,p=a :: q∧q <+: ws) ∨ p=a :: (ws ++ [e]):=by
 obtain ⟨t,ht⟩:=h
 cases p with
 | nil => exact .inl rfl
 | cons b q =>
  simp only [List.cons_append,List.nil_append,List.cons.injEq] at ht
  obtain ⟨rfl,ht⟩:=ht
  rcases List.eq_nil_or_concat t with h0 | ⟨t',z,h0⟩
  ·rw [h0,List.append_nil] at ht
   exact .inr (.inr (by rw [ht]))
  ·rw [h0,List.concat_eq_append,← List.append_assoc] at ht
   obtain ⟨h1,_⟩:=List.append_inj' ht (by simp)
   exact .inr (.inl ⟨q,rfl,t',h1⟩)
theorem difB_iff {n:Nat} {f g:Nat→Pl}:difB n f g=false ↔ eqP n f g:=by
 unfold difB eqP
 rw [List.any_eq_false]
 simp
theorem putsC_two (c:Nat→Int) (a b:Nat) (u v:Int) (y:Nat):putsC c [(a,u),(b,v)] y=if y=b then v else if y=a then u else c y:=rfl
theorem chgL_puts (F:FcS) {H n:Nat} (hn:n≤F.n) (f g:Nat→Pl) (c:Nat→Int) (hg:∀ i,goodP (g i)) (hf:∀ i,i < n→decP (c (F.cell H + 1 + 2 * i)) (c (F.cell H + 1 + (2 * i + 1)))=f i):∀ i,i < n →
  decP (putsC c (chgL (F.cell H + 1) f g n) (F.cell H + 1 + 2 * i)) (putsC c (chgL (F.cell H + 1) f g n) (F.cell H + 1 + (2 * i + 1)))=g i:=by
 induction n with
 | zero => intro i hi; omega
 | succ n ih =>
  intro i hi
  have ih:=ih (by omega) (fun i hi => hf i (by omega))
  have hfar:∀ y,F.cell H + 1 + 2 * n≤y→putsC c (chgL (F.cell H + 1) f g n) y=c y:=fun y hy => putsC_far c _ y fun x hx => by
   have:=chgL_in _ _ _ _ x hx; omega
  rw [chgL]
  by_cases e:f n=g n
  ·rw [if_pos e,List.append_nil]
   by_cases hin:i=n
   ·subst hin
    rw [hfar _ (by omega),hfar _ (by omega),hf i (by omega),e]
   ·exact ih i (by omega)
  ·rw [if_neg e,putsC_append,putsC_two,putsC_two]
   by_cases hin:i=n
   ·subst hin
    rw [if_neg (by omega),if_pos (by omega),if_pos (by omega)]
    exact dec_enc (hg i)
   ·rw [if_neg (by omega),if_neg (by omega),if_neg (by omega),if_neg (by omega)]
    exact ih i (by omega)
theorem oddI_even {c:Int} (h0:0≤c) (h:c % 2=0):oddI c=c + 1:=by
 obtain ⟨n,rfl⟩:=Int.eq_ofNat_of_zero_le h0
 unfold oddI
 rw [Int.toNat_natCast]
 have hn:n % 2=0:=by omega
 have:n ||| 1=n + 1:=by
  have h9:=Nat.shiftLeft_add_eq_or_of_lt (i:=1) (b:=1) (by omega) (n / 2)
  rw [Nat.shiftLeft_eq] at h9
  have e:n / 2 * 2 ^ 1=n:=by omega
  rw [e] at h9
  exact h9.symm
 rw [this]
 omega
theorem evenI_even {c:Int} (h0:0≤c) (h:c % 2=0) (hb:c≤4611686018427387904):evenI c=c + 2:=by
 unfold evenI
 rw [oddI_even h0 h]
 omega
end
end Go.Proofs.YthloabdfkakehaaGreat
