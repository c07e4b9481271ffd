/-
  Words and contracts that a statement's proof rests on (Words, Row, RowH, TicksB, BuQ, PlainSu, SrA, HiI). No statement is proved here.
-/
import Derived.Deep.OwnRows
import Derived.IntWalk
import Derived.Test.YtfekhdgjgjodlaaGreatKit
import Derived.Test.YtfekhdgjgjodlaaGreatKeyA
import Derived.Test.YtfekhdgjgjodlaaGreatBuB
import Derived.Test.YtfekhdgjgjodlaaGreatBuI
import Derived.Test.YtfekhdgjgjodlaaGreatPtB
import Derived.Test.YtfekhdgjgjodlaaGreatPlainSt
set_option linter.unusedVariables false
set_option linter.unusedSimpArgs false
namespace Go.Proofs.YtfekhdgjgjodlaaGreat
section
open Go.RowKit Go.WideShapes Go.ChangeShapes
def kv (k:IntKind) (l:List Int):List Value:=l.map fun n => .int k n
def uv (l:List Nat):List Value:=l.map fun (n:Nat) => .int .u32 (n:Int)
section
variable {H:Type} {enc:TypeId × Value→H} {P:Program} {w:World} {held:Bool}
end
end
section
open Go.RowKit
theorem rowIs_mk {w:World} {g M:Nat} {z:Value} {e:TypeId} (hz:z.cells=#[z]) (hg:w.heap.size=g):(w.alloc (.cells (mkC z 1 M) e)).rowIs g e M (fun _ => z):=by
 subst hg
 unfold mkC
 rw [hz,Nat.mul_one]
 exact World.rowIs_made w z M e
theorem rowIs_own {w:World} {B g M:Nat} {e:TypeId} {f:Nat→Value} (h:w.rowIs g e M f) (hB:B≤g) (hM:M≤maxLen):w.ownsRow B e 1 (.slice (some ⟨g,0,none⟩) M M) M ((List.range M).map f):=by
 obtain ⟨cs,h1,h2,h3⟩:=h
 refine own_full h1 hB h2 hM ?_
 apply List.ext_getElem
 ·simp [h2]
 ·intro i hi1 hi2
  simp at hi1 hi2
  have:=h3 i (by omega)
  rw [Array.getElem?_eq_getElem hi1] at this
  simp at this
  simp [this]
def Ints (l:List Int) (w:World) (e:Ending) (w':World):Prop :=
 ∃ A cap,e=.returned (.slice A l.length cap)∧Sl w' w'.heap.size 1 (.slice A l.length cap) l.length (kv .i64 l)∧Below w.heap.size w w'
theorem Ints.nil (w w':World) (h:Below w.heap.size w w'):Ints [] w (.returned (.slice none 0 0)) w':=⟨none,0,rfl,by simpa [kv] using Sl.nil _ _ _,h⟩
theorem Ints.row {w w':World} {g M:Nat} {e:TypeId} {f:Nat→Int} {l:List Int} (h:w'.rowIs g e M (fun j => .int .i64 (f j))) (hl:l=(List.range M).map f) (hM:M≤maxLen) (hb:Below w.heap.size w w') :
  Ints l w (.returned (.slice (some ⟨g,0,none⟩) M M)) w':=by
 have hlen:l.length=M:=by rw [hl]; simp
 refine ⟨some ⟨g,0,none⟩,M,by rw [hlen],?_,hb⟩
 rw [hlen]
 have:=Sl.of_own (rowIs_own h (Nat.zero_le _) hM)
 rw [hl]
 unfold kv
 rw [List.map_map]
 exact this
end
section
open Go.RowKit
def rowH (w:World) (b:Nat) (T:TypeId) (n:Nat) (f:Nat→Value):Prop:=∃ m F,w.rowIs b T m F∧n≤m∧∀ i,i < n→F i=f i
section
variable {w w':World} {b n:Nat} {T:TypeId} {f g:Nat→Value}
theorem rowH.of (h:w.rowIs b T n f):rowH w b T n f:=⟨n,f,h,Nat.le_refl _,fun _ _ => rfl⟩
theorem rowH.cell (h:rowH w b T n f) {i:Nat} (hi:i < n):w.cell? ⟨b,i,none⟩=some (f i):=by
 obtain ⟨m,F,h1,h2,h3⟩:=h
 rw [h1.cell (Nat.lt_of_lt_of_le hi h2),h3 i hi]
theorem rowH.frozen (h:rowH w b T n f) (i:Nat):w.frozen? ⟨b,i,none⟩=false:=by
 obtain ⟨m,F,h1,_⟩:=h
 exact h1.frozen i
theorem rowH.lt (h:rowH w b T n f):b < w.heap.size:=by
 obtain ⟨m,F,h1,_⟩:=h
 exact h1.lt
theorem rowH.of_block (h:rowH w b T n f) (e:w'.heap[b]?=w.heap[b]?):rowH w' b T n f:=by
 obtain ⟨m,F,h1,h2⟩:=h
 exact ⟨m,F,h1.of_block e,h2⟩
theorem rowH.congr (h:rowH w b T n f) (e:∀ i,i < n→f i=g i):rowH w b T n g:=by
 obtain ⟨m,F,h1,h2,h3⟩:=h
 exact ⟨m,F,h1,h2,fun i hi => (h3 i hi).trans (e i hi)⟩
theorem rowH.set (h:rowH w b T n f) (i:Nat) (v:Value):rowH (w.setCell ⟨b,i,none⟩ v) b T n (fun j => if j=i then v else f j):=by
 obtain ⟨m,F,h1,h2,h3⟩:=h
 refine ⟨m,_,h1.set i v,h2,fun j hj => ?_⟩
 show (if j=i then v else F j)=if j=i then v else f j
 split
 ·rfl
 ·exact h3 j hj
end
end
section
open Go.RowKit
end
section

end
section
structure MgK (key:Nat→Int) (f f':Nat→Nat) (a b:Nat):Prop where
 im:ImK f f' a b
 sd:SdK key f' a b
 st:StK key f' a b
section
variable {key:Nat→Int} {f f' f2:Nat→Nat} {a b a0 b0 i j m n s e c:Nat}
theorem roK_id (h:a=m ∨ m=b) (h1:a≤m) (h2:m≤b):roK f a m b=f:=funext fun p => by
 unfold roK
 rcases h with rfl | rfl
 ·split
  ·congr 1; omega
  ·split
   ·omega
   ·rfl
 ·split
  ·omega
  ·split
   ·congr 1; omega
   ·rfl
theorem MgK.whole (h:MgK key f f' a b) (ht:StK key f a0 b0) (h1:a0≤a) (h2:b≤b0):StK key f' a0 b0:=fun p q p1 p2 p3 x => by
 by_cases cp:a≤p∧p < b
 ·by_cases cq:q < b
  ·exact h.st p q cp.1 p2 cq x
  ·obtain ⟨u,u1,u2,e1⟩:=h.im.2 p cp.1 cp.2
   rw [e1,h.im.1 q (by omega)] at x ⊢
   exact ht u q (by omega) (by omega) p3 x
 ·rw [h.im.1 p (by omega)] at x ⊢
  by_cases cq:a≤q∧q < b
  ·obtain ⟨v,v1,v2,e2⟩:=h.im.2 q cq.1 cq.2
   rw [e2] at x ⊢
   exact ht p v p1 (by omega) (by omega) x
  ·rw [h.im.1 q (by omega)] at x ⊢
   exact ht p q p1 p2 p3 x
theorem MgK.beside (h:MgK key f f' a b) (hs:SdK key f a0 b0) (h1:b0≤a ∨ b≤a0):SdK key f' a0 b0:=hs.congr fun p p1 p2 => h.im.1 p (by omega)
theorem MgK.trans (h:ImK f f' a b) (k:MgK key f' f2 a b):MgK key f f2 a b:=⟨h.trans k.im,k.sd,k.st⟩
theorem ins_left (hm:m=a + 1) (h1:m≤i) (h2:i≤b) (hr:SdK key f m b) (ht:StK key f a b) (hlo:∀ h,m≤h→h < i→key (f h) < key (f a)) (hhi:∀ h,i≤h→h < b→key (f a)≤key (f h)):MgK key f (roK f a m i) a b:=by
 subst hm
 have o1:∀ p,a≤p→p < i - 1→roK f a (a + 1) i p=f (p + 1):=fun p p1 p2 => by
  unfold roK; rw [if_pos (by omega)]; congr 1; omega
 have o2:roK f a (a + 1) i (i - 1)=f a:=by
  unfold roK; rw [if_neg (by omega),if_pos (by omega)]; congr 1; omega
 have o3:∀ p,i≤p→roK f a (a + 1) i p=f p:=fun p hp => by
  unfold roK; rw [if_neg (by omega),if_neg (by omega)]
 refine ⟨roK_im (Nat.le_refl _) (by omega) (by omega) h2,fun p q p1 p2 p3 => ?_,fun p q p1 p2 p3 x => ?_⟩
 ·rcases Nat.lt_trichotomy p (i - 1) with c1 | c1 | c1
  ·rw [o1 p p1 c1]
   rcases Nat.lt_trichotomy q (i - 1) with d | d | d
   ·rw [o1 q (by omega) d]; exact hr _ _ (by omega) (by omega) (by omega)
   ·rw [d,o2]; exact Int.le_of_lt (hlo _ (by omega) (by omega))
   ·rw [o3 q (by omega)]; exact hr _ q (by omega) (by omega) p3
  ·rw [c1,o2,o3 q (by omega)]; exact hhi q (by omega) p3
  ·rw [o3 p (by omega),o3 q (by omega)]; exact hr p q (by omega) p2 p3
 ·rcases Nat.lt_trichotomy p (i - 1) with c1 | c1 | c1
  ·rw [o1 p p1 c1] at x ⊢
   rcases Nat.lt_trichotomy q (i - 1) with d | d | d
   ·rw [o1 q (by omega) d] at x ⊢; exact ht _ _ (by omega) (by omega) (by omega) x
   ·rw [d,o2] at x ⊢
    have:=hlo (p + 1) (by omega) (by omega)
    omega
   ·rw [o3 q (by omega)] at x ⊢; exact ht _ q (by omega) (by omega) p3 x
  ·rw [c1,o2,o3 q (by omega)] at x ⊢; exact ht a q (by omega) (by omega) p3 x
  ·rw [o3 p (by omega),o3 q (by omega)] at x ⊢; exact ht p q p1 p2 p3 x
theorem ins_right (hb:b=m + 1) (h1:a≤i) (h2:i≤m) (hl:SdK key f a m) (ht:StK key f a b) (hlo:∀ h,a≤h→h < i→key (f h)≤key (f m)) (hhi:∀ h,i≤h→h < m→key (f m) < key (f h)):MgK key f (roK f i m b) a b:=by
 subst hb
 have o1:∀ p,p < i→roK f i m (m + 1) p=f p:=fun p hp => by
  unfold roK; rw [if_neg (by omega),if_neg (by omega)]
 have o2:roK f i m (m + 1) i=f m:=by
  unfold roK; rw [if_pos (by omega)]; congr 1; omega
 have o3:∀ p,i < p→p≤m→roK f i m (m + 1) p=f (p - 1):=fun p p1 p2 => by
  unfold roK; rw [if_neg (by omega),if_pos (by omega)]; congr 1; omega
 refine ⟨roK_im h1 h2 (by omega) (Nat.le_refl _),fun p q p1 p2 p3 => ?_,fun p q p1 p2 p3 x => ?_⟩
 ·rcases Nat.lt_trichotomy q i with c1 | c1 | c1
  ·rw [o1 p (by omega),o1 q c1]; exact hl p q p1 p2 (by omega)
  ·rw [c1,o2,o1 p (by omega)]; exact hlo p p1 (by omega)
  ·rw [o3 q c1 (by omega)]
   rcases Nat.lt_trichotomy p i with d | d | d
   ·rw [o1 p d]; exact hl p _ p1 (by omega) (by omega)
   ·rw [d,o2]; exact Int.le_of_lt (hhi _ (by omega) (by omega))
   ·rw [o3 p d (by omega)]; exact hl _ _ (by omega) (by omega) (by omega)
 ·rcases Nat.lt_trichotomy q i with c1 | c1 | c1
  ·rw [o1 p (by omega),o1 q c1] at x ⊢; exact ht p q p1 p2 (by omega) x
  ·rw [c1,o2,o1 p (by omega)] at x ⊢; exact ht p m p1 (by omega) (by omega) x
  ·rw [o3 q c1 (by omega)] at x ⊢
   rcases Nat.lt_trichotomy p i with d | d | d
   ·rw [o1 p d] at x ⊢; exact ht p _ p1 (by omega) (by omega) x
   ·rw [d,o2] at x ⊢
    have:=hhi (q - 1) (by omega) (by omega)
    omega
   ·rw [o3 p d (by omega)] at x ⊢; exact ht _ _ (by omega) (by omega) (by omega) x
theorem roK_up (h:a≤c):swK (roK f a (a + 1) (c + 1)) c (c + 1)=roK f a (a + 1) (c + 2):=funext fun p => by
 have o1:∀ k p,a≤p→p < k→roK f a (a + 1) (k + 1) p=f (p + 1):=fun k p p1 p2 => by
  unfold roK; rw [if_pos (by omega)]; congr 1; omega
 have o2:∀ k,a≤k→roK f a (a + 1) (k + 1) k=f a:=fun k hk => by
  unfold roK; rw [if_neg (by omega),if_pos (by omega)]; congr 1; omega
 have o3:∀ k p,a≤k→(k < p ∨ p < a)→roK f a (a + 1) (k + 1) p=f p:=fun k p hk hp => by
  unfold roK; rw [if_neg (by omega),if_neg (by omega)]
 by_cases e1:p=c
 ·subst e1; rw [swK_i,o3 p (p + 1) h (by omega),o1 (p + 1) p h (by omega)]
 ·by_cases e2:p=c + 1
  ·subst e2; rw [swK_j,o2 c h,o2 (c + 1) (by omega)]
  ·rw [swK_o e1 e2]
   by_cases c1:a≤p∧p < c
   ·rw [o1 c p c1.1 c1.2,o1 (c + 1) p c1.1 (by omega)]
   ·rw [o3 c p h (by omega),o3 (c + 1) p (by omega) (by omega)]
theorem roK_down (h:c≤m) (h0:0 < c):swK (roK f c m (m + 1)) c (c - 1)=roK f (c - 1) m (m + 1):=funext fun p => by
 have o1:∀ k p,k < p→p≤m→roK f k m (m + 1) p=f (p - 1):=fun k p p1 p2 => by
  unfold roK; rw [if_neg (by omega),if_pos (by omega)]; congr 1; omega
 have o2:∀ k,k≤m→roK f k m (m + 1) k=f m:=fun k hk => by
  unfold roK; rw [if_pos (by omega)]; congr 1; omega
 have o3:∀ k p,k≤m→(m < p ∨ p < k)→roK f k m (m + 1) p=f p:=fun k p hk hp => by
  unfold roK; rw [if_neg (by omega),if_neg (by omega)]
 by_cases e1:p=c
 ·subst e1; rw [swK_i,o3 p (p - 1) h (by omega),o1 (p - 1) p (by omega) h]
 ·by_cases e2:p=c - 1
  ·subst e2; rw [swK_j,o2 c h,o2 (c - 1) (by omega)]
  ·rw [swK_o e1 e2]
   by_cases c1:c < p∧p≤m
   ·rw [o1 c p c1.1 c1.2,o1 (c - 1) p (by omega) c1.2]
   ·rw [o3 c p h (by omega),o3 (c - 1) p (by omega) (by omega)]
structure SeK (key:Nat→Int) (f:Nat→Nat) (s0 r0 q s r:Nat):Prop where
 s1:s0≤s
 sr:s≤r
 r1:r≤r0
 lo:s=s0 ∨ key (f (s - 1))≤key (f (q - (s - 1)))
 hi:r=r0 ∨ key (f (q - r)) < key (f r)
theorem SeK.up {s0 r0 q r:Nat} (h:SeK key f s0 r0 q s r) (h1:s≤c) (h2:c < r) (hk:¬ key (f (q - c)) < key (f c)):SeK key f s0 r0 q (c + 1) r :=
 ⟨by have:=h.s1; omega,by omega,h.r1,.inr (by rw [show c + 1 - 1=c by omega]; omega),h.hi⟩
theorem SeK.down {s0 r0 q r:Nat} (h:SeK key f s0 r0 q s r) (h1:s≤c) (h2:c < r) (hk:key (f (q - c)) < key (f c)):SeK key f s0 r0 q s c :=
 ⟨h.s1,h1,by have:=h.r1; omega,h.lo,.inr hk⟩
theorem SeK.cut {mid q s0 r0:Nat} (hab:a < m∧m < b) (hmid:mid=(a + b) / 2) (hq:q + 1=mid + m) (h0:(mid < m∧s0=mid + m - b∧r0=mid) ∨ (m≤mid∧s0=a∧r0=m)) (h:SeK key f s0 r0 q s s) :
  CutK key f a m b s (mid + m - s)∧s≤mid∧s + (mid + m - s - m)=mid:=by
 obtain ⟨h1,_,h2,hlo,hhi⟩:=h
 have e1:q - (s - 1)=mid + m - s ∨ s=s0:=by
  by_cases c:s=s0
  ·exact .inr c
  ·exact .inl (by omega)
 refine ⟨⟨by omega,by omega,by omega,by omega,?_,?_⟩,by omega,by omega⟩
 ·rcases hlo with x | x
  ·rcases h0 with y | y
   ·exact .inr (.inl (by omega))
   ·exact .inl (by omega)
  ·by_cases c:s=s0
   ·rcases h0 with y | y
    ·exact .inr (.inl (by omega))
    ·exact .inl (by omega)
   ·rw [show q - (s - 1)=mid + m - s by omega] at x
    exact .inr (.inr ⟨by omega,by omega,x⟩)
 ·rcases hhi with x | x
  ·rcases h0 with y | y
   ·exact .inr (.inl (by omega))
   ·exact .inl (by omega)
  ·by_cases c:s=r0
   ·rcases h0 with y | y
    ·exact .inr (.inl (by omega))
    ·exact .inl (by omega)
   ·rw [show q - s=mid + m - s - 1 by omega] at x
    exact .inr (.inr ⟨by omega,by omega,x⟩)
def BlK (key:Nat→Int) (f:Nat→Nat) (n B k:Nat):Prop:=∀ x,x < k→SdK key f (x * B) (min (x * B + B) n)
theorem sym_fin {g g1 g2:Nat→Nat} {mid:Nat} (hc:CutK key f a m b s e) (hl:SdK key f a m) (hr:SdK key f m b) (ht:StK key f a b) (hg:g=roK f s m e) (hmid:s + (e - m)=mid) (h1:MgK key g g1 a mid) (h2:MgK key g1 g2 mid b):MgK key f g2 a b:=by
 have hrot:=hc.rot hl hr ht
 rw [← hg,hmid] at hrot
 obtain ⟨_,_,_,_,r5,r6⟩:=hrot
 have ha:=hc.s1
 have hm:=hc.sm
 have he:=hc.me
 have hb:=hc.eb
 have hx:=merged (key:=key) (f:=g) (f2:=g2) (a:=a) (b:=b) (c:=mid) (by omega) (by omega) (h2.beside h1.sd (.inl (Nat.le_refl _))) h2.sd (h1.st.congr fun p p1 p2 => h2.im.1 p (.inl p2)) h2.st r5 r6 (fun p p1 p2 => by
  obtain ⟨q,q1,q2,e1⟩:=h1.im.2 p p1 p2
  exact ⟨q,q1,q2,(h2.im.1 p (.inl p2)).trans e1⟩) (fun p p1 p2 => by
  obtain ⟨q,q1,q2,e1⟩:=h2.im.2 p p1 p2
  exact ⟨q,q1,q2,e1.trans (h1.im.1 q (.inr q1))⟩)
 refine ⟨?_,hx.1,hx.2⟩
 have hi:ImK f g a b:=by rw [hg]; exact roK_im ha hm he hb
 exact hi.trans ((h1.im.mono (Nat.le_refl _) (by omega)).trans (h2.im.mono (by omega) (Nat.le_refl _)))
theorem sym_pre {g:Nat→Nat} {mid:Nat} (hc:CutK key f a m b s e) (hl:SdK key f a m) (hr:SdK key f m b) (ht:StK key f a b) (hg:g=roK f s m e) (hmid:s + (e - m)=mid):SdK key g a s∧SdK key g s mid∧SdK key g mid e∧SdK key g e b∧StK key g a b:=by
 have hrot:=hc.rot hl hr ht
 rw [← hg,hmid] at hrot
 exact ⟨hrot.1,hrot.2.1,hrot.2.2.1,hrot.2.2.2.1,hrot.2.2.2.2.1⟩
theorem MgK.same (h:SdK key f a b) (ht:StK key f a b):MgK key f f a b:=⟨ImK.refl _ _ _,h,ht⟩
theorem BlK.step {B k:Nat} (h:BlK key f n B k) (hm:MgK key f f' (k * B) (min (k * B + B) n)):BlK key f' n B (k + 1):=fun x hx => by
 rcases Nat.lt_or_ge x k with c | c
 ·have h1:x * B + B≤k * B:=by
   have h2:=Nat.mul_le_mul_right B (show x + 1≤k by omega)
   rw [Nat.add_mul,Nat.one_mul] at h2
   exact h2
  exact hm.beside (h x c) (.inl (by omega))
 ·rw [show x=k by omega]
  exact hm.sd
theorem BlK.rest {B k:Nat} {kk:Nat} (h:BlK key f n B kk) (hm:MgK key f f' (k * (2 * B)) b) {x:Nat} (hx:x < kk) (h2:2 * k + 2≤x) (hb:b≤k * (2 * B) + 2 * B):SdK key f' (x * B) (min (x * B + B) n):=by
 refine hm.beside (h x hx) (.inr ?_)
 have h3:=Nat.mul_le_mul_right B h2
 rw [Nat.add_mul,Nat.mul_comm 2 k,Nat.mul_assoc] at h3
 omega
end
end
section
open Go.RowKit
theorem cmp_isNaN (x:Int) (w:World):Calls Tryz.prog 63 #[.int .i64 x] w (Says (.bool false) w):=by
 go_enter Tryz.func63,Tryz.ntmps63
 go_wp2
 go_ret
 exact ⟨by simp,Below.refl _ _⟩
def cmpN (x y:Int):Int:=if x < y then -1 else if y < x then 1 else 0
theorem cmpN_neg (x y:Int):cmpN x y < 0 ↔ x < y:=by
 unfold cmpN
 split
 ·simp; assumption
 ·split <;> simp <;> omega
theorem cmp_Compare (x y:Int) (w:World):Calls Tryz.prog 36 #[.int .i64 x,.int .i64 y] w (Says (.int .i64 (cmpN x y)) w):=by
 have HN:=Lib.hid fun x w => cmp_isNaN x w
 have HB:Hid (Below w.heap.size w w):=Below.refl _ _
 obtain ⟨c,hc⟩:∃ c,c=cmpN x y:=⟨_,rfl⟩
 rw [← hc]
 unfold cmpN at hc
 have d:(decide (x < y)=true∧c=-1) ∨ (decide (x < y)=false∧decide (x > y)=true∧c=1) ∨ (decide (x < y)=false∧decide (x > y)=false∧c=0):=by
  rcases Int.lt_trichotomy x y with h | h | h
  ·exact .inl ⟨decide_eq_true h,by rw [hc,if_pos h]⟩
  ·exact .inr (.inr ⟨decide_eq_false (by omega),decide_eq_false (by omega),by rw [hc,if_neg (by omega),if_neg (by omega)]⟩)
  ·exact .inr (.inl ⟨decide_eq_false (by omega),decide_eq_true (by omega),by rw [hc,if_neg (by omega),if_pos h]⟩)
 clear hc
 rcases d with ⟨d1,rfl⟩ | ⟨d1,d2,rfl⟩ | ⟨d1,d2,rfl⟩
 all_goals
  go_enter Tryz.func36,Tryz.ntmps36
  go_wp2_with (first
   | (go_at_call 63; (with_reducible refine Calls.mono (HN.out _ _) ?_); rintro e w1 ⟨rfl,hb1⟩; (have HB:=Lib.hid (HB.out.trans (hb1.mono HB.out.size))); clear hb1)
   | fail)
  go_ret
  exact ⟨by first | rfl | (simp; done),HB.out⟩
structure MkAt (w:World) (pb lb N:Nat) (key:Nat→Int):Prop where
 lt:lb < w.heap.size
 ne:lb ≠ pb
 row:∃ A c,w.cell? ⟨lb,0,none⟩=some (.slice A N c)∧(0 < N→∃ b off,A=some ⟨b,off,none⟩∧b < w.heap.size∧b ≠ pb∧∀ i,i < N→w.cell? ⟨b,off + i * 19 + 2,none⟩=some (.int .i64 (key i)))
theorem MkAt.but {w w':World} {pb lb N:Nat} {key:Nat→Int} (h:MkAt w pb lb N key) (hb:But pb w w'):MkAt w' pb lb N key:=by
 obtain ⟨h1,h6,A,c,h2,h3⟩:=h
 refine ⟨Nat.lt_of_lt_of_le h1 hb.below.size,h6,A,c,(hb.cell h1 h6).trans h2,fun hn => ?_⟩
 obtain ⟨b,off,e,h4,h7,h5⟩:=h3 hn
 exact ⟨b,off,e,Nat.lt_of_lt_of_le h4 hb.below.size,h7,fun i hi => (hb.cell (p:=⟨b,off + i * 19 + 2,none⟩) h4 h7).trans (h5 i hi)⟩
set_option maxRecDepth 20000 in
set_option maxHeartbeats 1600000 in
theorem hist_Order1 {w:World} {pb lb N:Nat} {key:Nat→Int} (h:MkAt w pb lb N key) (x y:Nat) (hx:x < N) (hy:y < N):Calls Tryz.prog 35 #[.int .i64 (x:Nat),.int .i64 (y:Nat),.pointer (some ⟨lb,0,none⟩)] w (Says (.int .i64 (cmpN (key x) (key y))) w):=by
 have HC:=Lib.hid fun w' => cmp_Compare (key x) (key y) w'
 obtain ⟨h1,_,A,c,h2,h3⟩:=h
 obtain ⟨b,off,rfl,h4,_,h5⟩:=h3 (by omega)
 have k1:=h5 x hx
 have k2:=h5 y hy
 have g1:(0:Int)≤(x:Int):=Int.natCast_nonneg _
 have g2:(x:Int) < (N:Int):=by omega
 have g3:(0:Int)≤(y:Int):=Int.natCast_nonneg _
 have g4:(y:Int) < (N:Int):=by omega
 have HLT:=Lib.hid (And.intro h1 h4)
 clear h3 h5
 go_enter Tryz.func35,Tryz.ntmps35
 go_wp2_with fail
 refine wp_region_held_drew (S:=fun w' => w'.cell? ⟨lb,0,none⟩=some (.slice (some ⟨b,off,none⟩) N c)∧w'.cell? ⟨b,off + x * 19 + 2,none⟩=some (.int .i64 (key x))∧w'.cell? ⟨b,off + y * 19 + 2,none⟩=some (.int .i64 (key y))) (by kernel_rfl) ?_ (fun hHeld => ?_)
 ·exact ⟨h2,k1,k2⟩
 obtain ⟨v0,hv0⟩:∃ w',w'=w.drew:=⟨_,rfl⟩
 have hvb:Below w.heap.size w v0:=by rw [hv0]; exact (Below.refl _ _).drew
 rw [← hv0] at hHeld ⊢
 clear hv0
 refine tkR 0 rfl ?_
 refine tkR 1 rfl ?_
 refine tkR 2 rfl ?_
 refine tkR 3 rfl ?_
 refine tkR 4 rfl ?_
 refine tkR 5 rfl ?_
 refine tkR 6 rfl ?_
 refine tkR 7 rfl ?_
 refine tkR 8 rfl ?_
 refine tkR 9 rfl ?_
 refine clR 10 rfl fun K hK => ?_
 go_simp
 refine Calls.mono (HC.out _) ?_
 rintro e w1 ⟨rfl,hb1⟩
 have HB:=Lib.hid (hvb.trans (hb1.mono hvb.size))
 clear hb1
 refine hK.out _ _ ?_ (fun hHeld => ?_)
 ·(try dsimp only)
  exact ⟨(HB.out.cell (p:=⟨lb,0,none⟩) HLT.out.1).trans h2,(HB.out.cell (p:=⟨b,off + x * 19 + 2,none⟩) HLT.out.2).trans k1,(HB.out.cell (p:=⟨b,off + y * 19 + 2,none⟩) HLT.out.2).trans k2⟩
 clear hK K
 refine tkR 11 rfl ?_
 refine wpAnyH_done (by kernel_rfl) ?_ _
 go_wp2
 go_ret
 exact ⟨by first | rfl | (simp; done),HB.out⟩
end
section
open Go.RowKit
theorem kv_length9 (κ:IntKind) (l:List Int):(kv κ l).length=l.length:=by simp [kv]
theorem kv_getElem9 (κ:IntKind) (l:List Int) (k:Nat) (h:k < l.length):(kv κ l)[k]?=some (.int κ (l.getD k 0)):=by
 simp [kv,List.getD_eq_getElem?_getD,List.getElem?_eq_getElem h]
set_option maxHeartbeats 800000 in
theorem law3_IntsEq9 {l:List Int} {n:Nat} {u v:Value} {w:World} {B B':Nat} (hu:Sl w B 1 u n (kv .i64 l)) (hv:Sl w B' 1 v n (kv .i64 l)) :
  Calls Tryz.prog 13 #[u,v] w (fun e w' => e=.returned (.bool true)∧∃ n,w'=w.drewN n):=by
 have hlen:l.length=n:=by have:=hu.len; rw [kv_length9] at this; omega
 obtain ⟨_,A,cap,rfl,hA1,hA2,hA⟩:=hu
 obtain ⟨_,A',cap',rfl,hA1',hA2',hA'⟩:=hv
 unfold maxLen at hA2 hA2'
 have hne:((n:Int) != (n:Int))=false:=by simp
 have HL:=Lib.hid hlen
 have HA:=Lib.hid hA
 have HA':=Lib.hid hA'
 clear hlen hA hA'
 go_enter Tryz.func13,Tryz.ntmps13
 go_wp2
 go_loopw [5] (fun i wr => ∃ k:Nat,k≤n∧i=.int .i64 k∧∃ m,wr=w.drewN m) (fun i _ => n - (intOf i).toNat)
 case atStart => exact ⟨0,by omega,rfl,0,rfl⟩
 case round =>
  obtain ⟨k,hk,rfl,m,rfl⟩:=hrel
  by_cases hlt:k < n
  ·obtain ⟨b,off,rfl,_,hc⟩:=HA.out (by omega)
   obtain ⟨b',off',rfl,_,hc'⟩:=HA'.out (by omega)
   have hx:=kv_getElem9 .i64 l k (by have:=HL.out; omega)
   have hcell:=(hc k (by omega)).trans hx
   have hcell':=(hc' k (by omega)).trans hx
   clear hc hc' HA HA' hx
   have g0:(0:Int)≤(k:Int):=Int.natCast_nonneg _
   have g1:(k:Int) < (n:Int):=by omega
   generalize l.getD k 0=x at *
   go_wp2_with fail
   go_quiet (fail)
   go_wp2
   go_roundw
   case rel => exact ⟨k + 1,by omega,by go_num,_,(by first | rfl | exact World.drewN_drewN _ _ _)⟩
   case measure => simp [intOf]; omega
  ·have:k=n:=by omega
   subst this
   go_wp2
   go_ret
   exact ⟨rfl,_,rfl⟩
theorem below_drew9 {B:Nat} {a w:World} (h:Below B a w) (n:Nat):Below B a (w.drewN n):=⟨h.os,h.tape,h.output,h.size,h.block⟩
theorem ints_lit0 (w:World) (T:TypeId):Sl (w.alloc (.cells #[.int .i64 0] T)) (w.heap.size + 1) 1 (.slice (some ⟨w.heap.size,0,none⟩) 1 1) 1 (kv .i64 [0]):=Sl.lit w #[.int .i64 0] _ 1 rfl (by decide)
end
end Go.Proofs.YtfekhdgjgjodlaaGreat
