/-
  Words and contracts that a statement's proof rests on (PlainRg, RgA, PlainFi). No statement is proved here.
-/
import Derived.Laws.Bits64
import Derived.Test.YthloabdfkakehaaBase2
import Derived.Test.YthloabdfkakehaaPlainFh
import Derived.Test.YthloabdfkakehaaMemB
set_option linter.unusedVariables false
set_option linter.unusedSimpArgs false
namespace Go.Proofs.Ythloabdfkakehaa
section
structure RgS where
 m:MemS
 ba:Nat
 sz:Nat
 st:Int
 pu:Bool
 po:Bool
def tickR (g:RgS):RgS:={ g with m:=tickS g.m }
def putR (g:RgS) (k:Nat) (v:Int):RgS:={ g with m:=putC (tickS g.m) k v }
structure Fits (g:RgS):Prop where
 cells:g.ba + 2 + g.sz≤g.m.C
 mem:g.m.C≤1048576
 one:1≤g.sz
 most:g.sz≤64
structure RngQ (g:RgS) (p t:Nat) (q:List Int):Prop where
 fits:Fits g
 st0:0≤g.st
 st1:g.st < 18446744073709551616
 cp:g.m.c g.ba=(g.st + p) % 18446744073709551616
 ct:g.m.c (g.ba + 1)=(g.st + t) % 18446744073709551616
 tp:t≤p
 len:q.length=p - t
 room:p - t≤g.sz
 few:p≤1000000
 num:∀ i (h:i < q.length),g.m.c (g.ba + 2 + (t + i) % g.sz)=q[i]
theorem RngQ.tick {g:RgS} {p t:Nat} {q:List Int} (h:RngQ g p t q):RngQ (tickR g) p t q :=
 ⟨⟨h.fits.cells,h.fits.mem,h.fits.one,h.fits.most⟩,h.st0,h.st1,h.cp,h.ct,h.tp,h.len,h.room,h.few,h.num⟩
theorem mod_ne {a b n:Nat} (hab:a < b) (h:b < a + n):a % n ≠ b % n:=by
 intro e
 have h1:=Nat.div_add_mod a n
 have h2:=Nat.div_add_mod b n
 rw [e] at h1
 have h3:n * (a / n) < n * (b / n):=by omega
 have h4:a / n < b / n:=Nat.lt_of_mul_lt_mul_left h3
 have h5:n * (a / n + 1)≤n * (b / n):=Nat.mul_le_mul_left _ h4
 rw [Nat.mul_add] at h5
 omega
theorem RngQ.put {g:RgS} {p t:Nat} {q:List Int} (h:RngQ g p t q) (hr:p - t < g.sz) (v:Int):RngQ (putR g (g.ba + 2 + p % g.sz) v) p t q:=by
 refine ⟨⟨h.fits.cells,h.fits.mem,h.fits.one,h.fits.most⟩,h.st0,h.st1,?_,?_,h.tp,h.len,h.room,h.few,fun i hi => ?_⟩
 ·show (if g.ba=_ then _ else _)=_
  rw [if_neg (by omega)]; exact h.cp
 ·show (if g.ba + 1=_ then _ else _)=_
  rw [if_neg (by omega)]; exact h.ct
 ·show (if g.ba + 2 + (t + i) % g.sz=_ then _ else _)=_
  have:=h.len
  have:=h.tp
  rw [if_neg (by have:=mod_ne (a:=t + i) (b:=p) (n:=g.sz) (by omega) (by omega); omega)]
  exact h.num i hi
end
section
open Go.RowKit
structure Tch (D:Nat→Prop) (w w':World):Prop where
 os:w'.os=w.os
 tape:w'.tape=w.tape
 output:w'.output=w.output
 size:w.heap.size≤w'.heap.size
 block:∀ k,k < w.heap.size→¬ D k→w'.heap[k]?=w.heap[k]?
theorem Tch.refl (D:Nat→Prop) (w:World):Tch D w w:=⟨rfl,rfl,rfl,Nat.le_refl _,fun _ _ _ => rfl⟩
theorem Tch.trans {D:Nat→Prop} {a b c:World} (h:Tch D a b) (k:Tch D b c):Tch D a c :=
 ⟨k.os.trans h.os,k.tape.trans h.tape,k.output.trans h.output,Nat.le_trans h.size k.size,fun i hi hn => (k.block i (Nat.lt_of_lt_of_le hi h.size) hn).trans (h.block i hi hn)⟩
theorem Tch.mono {D E:Nat→Prop} {a b:World} (h:Tch D a b) (hd:∀ k,k < a.heap.size→D k→E k):Tch E a b :=
 ⟨h.os,h.tape,h.output,h.size,fun i hi hn => h.block i hi fun hk => hn (hd i hi hk)⟩
theorem Tch.of_below {D:Nat→Prop} {w w':World} (h:Below w.heap.size w w'):Tch D w w':=⟨h.os,h.tape,h.output,h.size,fun k hk _ => h.block k hk⟩
theorem Tch.of_touch {D:Nat→Prop} {lo:Nat} {w w':World} (h:Touch lo w w') (hd:∀ k,lo≤k→k < lo + 3→D k):Tch D w w' :=
 ⟨h.os,h.tape,h.output,h.size,fun k hk hn => h.block k hk (by
  rcases Nat.lt_or_ge k lo with h1 | h1
  ·exact .inl h1
  ·rcases Nat.lt_or_ge k (lo + 3) with h2 | h2
   ·exact absurd (hd k h1 h2) hn
   ·exact .inr h2)⟩
theorem Tch.setCell {D:Nat→Prop} {a w:World} (h:Tch D a w) {p:Addr} (hp:D p.block) (u:Value):Tch D a (w.setCell p u) :=
 h.trans ⟨rfl,rfl,rfl,by simp [World.setCell],fun k hk hn => Below.heap_setCell _ _ _ _ (by intro e; exact hn (by rw [e]; exact hp))⟩
theorem Tch.alloc {D:Nat→Prop} {a w:World} (h:Tch D a w) (o:Obj):Tch D a (w.alloc o):=h.trans (Tch.of_below ((Below.refl _ _).alloc (Nat.le_refl _) o))
theorem Tch.drewN {D:Nat→Prop} {a w:World} (h:Tch D a w) (n:Nat):Tch D a (w.drewN n):=h.trans (Tch.of_below (below_drewN (Below.refl _ _) n))
theorem Tch.below {D:Nat→Prop} {B:Nat} {W w w':World} (h:Tch D w w') (hb:Below B W w) (hB:∀ k,D k→B≤k) (hB2:B≤w.heap.size):Below B W w' :=
 hb.trans ⟨h.os,h.tape,h.output,h.size,fun k hk => h.block k (by omega) (fun hd => by have:=hB k hd; omega)⟩
theorem Tch.cell {D:Nat→Prop} {w w':World} (h:Tch D w w') {p:Addr} (hp:p.block < w.heap.size) (hd:¬ D p.block):w'.cell? p=w.cell? p :=
 World.cell?_of_block (w:=w) (h.block p.block hp hd)
theorem rowIs_tch {D:Nat→Prop} {w w':World} {g M:Nat} {T:TypeId} {f:Nat→Value} (h:w.rowIs g T M f) (ht:Tch D w w') (hd:¬ D g):w'.rowIs g T M f:=h.of_block (ht.block g h.lt hd)
theorem MemAt.tch {D:Nat→Prop} {w w':World} {T:TypeId} {lo b:Nat} {s:MemS} (h:MemAt w T lo b s) (ht:Tch D w w') (hd:∀ k,lo≤k→k < lo + 3→¬ D k):MemAt w' T lo b s:=by
 obtain ⟨bc,bl,h⟩:=h
 exact ⟨bc,bl,h.of_blocks fun k h1 h2 hk => ht.block k hk (hd k h1 h2)⟩
theorem own_tch {D:Nat→Prop} {w w':World} {B size n:Nat} {e:TypeId} {v:Value} {xs:List Value} (h:w.ownsRow B e size v n xs) (ht:Tch D w w') (hd:∀ k,v.ownBlock=some k→¬ D k):w'.ownsRow B e size v n xs:=by
 obtain ⟨h1,h2⟩:=h
 refine ⟨h1,?_⟩
 rcases h2 with h2 | ⟨g,cap,cur,hv,hb,hg,rest⟩
 ·exact .inl h2
 ·have hlt:g < w.heap.size:=by
   rcases Nat.lt_or_ge g w.heap.size with h | h
   ·exact h
   ·rw [Array.getElem?_eq_none h] at hg; simp at hg
  exact .inr ⟨g,cap,cur,hv,hb,(ht.block g hlt (hd g (by rw [hv]; rfl))).trans hg,rest⟩
theorem hasC_k {s:MemS} {k:Nat} (hk:k < s.C):hasC s (k:Int)=true:=hasC_iff.2 ⟨by omega,by omega⟩
theorem loadS_k {s:MemS} {k:Nat} (hk:k < s.C):loadS s (k:Int)=tickS s:=by unfold loadS; rw [if_pos (hasC_k hk)]
theorem peekS_k {s:MemS} {k:Nat} (hk:k < s.C):peekS s (k:Int)=s.c k:=by unfold peekS; rw [if_pos (hasC_k hk),Int.toNat_natCast]
theorem storeS_k {s:MemS} {k:Nat} (hk:k < s.C) (v:Int):storeS s (k:Int) v=putC (tickS s) k v:=by unfold storeS; rw [if_pos (hasC_k hk),Int.toNat_natCast]
end
section
def u64R (x:Int):Prop:=0≤x∧x < 18446744073709551616
theorem oddI_rng {x:Int} (h:u64R x):u64R (oddI x):=by
 obtain ⟨h1,h2⟩:=h
 have h3:x.toNat < 2 ^ 64:=by omega
 have h4:(x.toNat ||| 1) < 2 ^ 64:=Nat.or_lt_two_pow h3 (by decide)
 unfold oddI u64R
 constructor
 ·exact Int.natCast_nonneg _
 ·have h5:((x.toNat ||| 1:Nat):Int) < ((2 ^ 64:Nat):Int):=by exact_mod_cast h4
  exact h5
theorem evenI_rng (x:Int):u64R (evenI x):=by
 unfold evenI u64R
 omega
theorem getD_rng {l:List Int} (h:∀ x ∈ l,u64R x) (k:Nat):u64R (l.getD k 0):=by
 rw [List.getD_eq_getElem?_getD]
 rcases Nat.lt_or_ge k l.length with h9 | h9
 ·rw [List.getElem?_eq_getElem h9]; exact h _ (List.getElem_mem h9)
 ·rw [List.getElem?_eq_none h9]; exact ⟨by decide,by decide⟩
theorem seg_good {F:FcS} {l:List Int} (h:∀ x ∈ l,u64R x) (j i:Nat):goodP (segF F l j i):=dec_good (getD_rng h _).2
theorem chgL_rng2 (a0:Nat) (f:Nat→Pl) {g:Nat→Pl} (hg:∀ i,goodP (g i)):∀ n,∀ p ∈ chgL a0 f g n,u64R p.2
 | 0 => fun p hp => by cases hp
 | n + 1 => fun p hp => by
  rw [chgL,List.mem_append] at hp
  rcases hp with hp | hp
  ·exact chgL_rng2 a0 f hg n p hp
  ·have h9:=wAB_rng (hg n)
   split at hp
   ·cases hp
   ·simp only [List.mem_cons,List.not_mem_nil,or_false] at hp
    rcases hp with rfl | rfl
    ·exact h9.1
    ·exact h9.2
theorem wrL_rng {F:FcS} {k:Wk} {l:List Int} (hk:k.ok) (h:∀ x ∈ l,u64R x) (h0 n:Nat):∀ p ∈ wrL F k l h0 n,u64R p.2:=by
 have ho:∀ n,∀ p ∈ oddsL F k l h0 n,u64R p.2:=fun n => by
  induction n with
  | zero => intro p hp; cases hp
  | succ n ih =>
   intro p hp
   rw [oddsL,List.mem_append] at hp
   rcases hp with hp | hp
   ·exact ih p hp
   ·split at hp
    ·simp only [List.mem_cons,List.not_mem_nil,or_false] at hp
     subst hp
     exact oddI_rng (getD_rng h _)
    ·cases hp
 have he:∀ n,∀ p ∈ evensL F k l h0 n,u64R p.2:=fun n => by
  induction n with
  | zero => intro p hp; cases hp
  | succ n ih =>
   intro p hp
   rw [evensL,List.mem_append] at hp
   rcases hp with hp | hp
   ·exact ih p hp
   ·split at hp
    ·simp only [List.mem_cons,List.not_mem_nil,or_false] at hp
     subst hp
     exact evenI_rng _
    ·cases hp
 have hw:∀ n,∀ p ∈ wordsL F k l h0 n,u64R p.2:=fun n => by
  induction n with
  | zero => intro p hp; cases hp
  | succ n ih =>
   intro p hp
   rw [wordsL,List.mem_append] at hp
   rcases hp with hp | hp
   ·exact ih p hp
   ·split at hp
    ·exact chgL_rng2 _ _ (wk_good (f:=segF F l n) (fun i => seg_good h n i) F.n hk) F.n p hp
    ·cases hp
 intro p hp
 rw [wrL,List.mem_append,List.mem_append] at hp
 rcases hp with hp | hp | hp
 ·exact ho n p hp
 ·exact hw n p hp
 ·exact he n p hp
def MemR (m:MemS):Prop:=∀ x,u64R (m.c x)
structure ActR (a:FaS):Prop where
 ld:∀ x ∈ a.ld,u64R x
 wr:∀ p ∈ a.wr,u64R p.2
theorem rd_rng {F:FcS} {m:MemS} {a:FaS} (hm:MemR m) (ha:ActR a):ActR (rdA F m a) where
 ld:=fun x hx => by
  have hx:x ∈ a.ld ++ [m.c (F.cell a.h0 + a.ld.length)]:=hx
  rw [List.mem_append] at hx
  rcases hx with hx | hx
  ·exact ha.ld x hx
  ·simp only [List.mem_cons,List.not_mem_nil,or_false] at hx
   subst hx
   exact hm _
 wr:=ha.wr
theorem step_rng {F:FcS} {m:MemS} {a:FaS} (hk:a.wk.ok) (hm:MemR m) (ha:ActR a):MemR (stepF F m a).1∧ActR (stepF F m a).2:=by
 have no1:∀ x ∈ ([]:List Int),u64R x:=fun x hx => by cases hx
 have no2:∀ p ∈ ([]:List (Nat × Int)),u64R p.2:=fun x hx => by cases hx
 unfold stepF
 split
 ·unfold tryF
  split
  ·exact ⟨hm,rd_rng hm ha⟩
  ·split
   ·exact ⟨hm,no1,no2⟩
   ·exact ⟨hm,no1,ha.wr⟩
 split
 ·unfold takF
  split
  ·exact ⟨hm,ha.ld,ha.wr⟩
  ·exact ⟨hm,ha⟩
 split
 ·unfold loaF
  refine ⟨hm,?_⟩
  have hr:=rd_rng (F:=F) hm ha
  show ActR (if _ then _ else _)
  split
  ·exact hr
  ·exact ⟨hr.ld,wrL_rng hk hr.ld _ _⟩
 split
 ·unfold stoF
  refine ⟨fun x => ?_,ha.ld,ha.wr⟩
  show u64R (if x=(a.wr.getD a.wt (0,0)).1 then (a.wr.getD a.wt (0,0)).2 else m.c x)
  split
  ·rw [List.getD_eq_getElem?_getD]
   rcases Nat.lt_or_ge a.wt a.wr.length with h9 | h9
   ·rw [List.getElem?_eq_getElem h9]; exact ha.wr _ (List.getElem_mem h9)
   ·rw [List.getElem?_eq_none h9]; exact ⟨by decide,by decide⟩
  ·exact hm x
 split
 ·unfold freF
  refine ⟨?_,?_⟩
  ·show MemR (if _ then _ else _)
   split
   ·exact hm
   ·exact hm
  ·show ActR (if _ then _ else _)
   split
   ·exact ⟨no1,no2⟩
   ·exact ⟨ha.ld,ha.wr⟩
 ·exact ⟨hm,ha⟩
end
end Go.Proofs.Ythloabdfkakehaa
