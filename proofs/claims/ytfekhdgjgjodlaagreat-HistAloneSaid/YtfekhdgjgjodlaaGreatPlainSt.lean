/-
  Words and contracts that a statement's proof rests on (PlainSt). No statement is proved here.
-/
import Derived.Test.YtfekhdgjgjodlaaGreatBase
set_option linter.unusedVariables false
set_option linter.unusedSimpArgs false
namespace Go.Proofs.YtfekhdgjgjodlaaGreat
def SdK (key:Nat→Int) (f:Nat→Nat) (a b:Nat):Prop:=∀ p q,a≤p→p < q→q < b→key (f p)≤key (f q)
def StK (key:Nat→Int) (f:Nat→Nat) (a b:Nat):Prop:=∀ p q,a≤p→p < q→q < b→key (f p)=key (f q)→f p < f q
def ImK (f f':Nat→Nat) (a b:Nat):Prop:=(∀ p,p < a ∨ b≤p→f' p=f p)∧∀ p,a≤p→p < b→∃ q,a≤q∧q < b∧f' p=f q
def swK (f:Nat→Nat) (i j p:Nat):Nat:=if p=i then f j else if p=j then f i else f p
section
variable {key:Nat→Int} {f f' f2:Nat→Nat} {a b a0 b0 i j m:Nat}
theorem ImK.refl (f:Nat→Nat) (a b:Nat):ImK f f a b:=⟨fun _ _ => rfl,fun p h1 h2 => ⟨p,h1,h2,rfl⟩⟩
theorem ImK.trans (h:ImK f f' a b) (k:ImK f' f2 a b):ImK f f2 a b :=
 ⟨fun p hp => (k.1 p hp).trans (h.1 p hp),fun p h1 h2 => by
  obtain ⟨q,q1,q2,e⟩:=k.2 p h1 h2
  obtain ⟨r,r1,r2,e2⟩:=h.2 q q1 q2
  exact ⟨r,r1,r2,e.trans e2⟩⟩
theorem ImK.mono (h:ImK f f' a b) (h1:a0≤a) (h2:b≤b0):ImK f f' a0 b0 :=
 ⟨fun p hp => h.1 p (by omega),fun p p1 p2 => by
  by_cases hp:a≤p∧p < b
  ·obtain ⟨q,q1,q2,e⟩:=h.2 p hp.1 hp.2
   exact ⟨q,by omega,by omega,e⟩
  ·exact ⟨p,p1,p2,h.1 p (by omega)⟩⟩
theorem swK_i (f:Nat→Nat) (i j:Nat):swK f i j i=f j:=if_pos rfl
theorem swK_j (f:Nat→Nat) (i j:Nat):swK f i j j=f i:=by
 unfold swK
 split
 ·rename_i h; rw [h]
 ·exact if_pos rfl
theorem swK_o {p:Nat} (h1:p ≠ i) (h2:p ≠ j):swK f i j p=f p:=by
 unfold swK
 rw [if_neg h1,if_neg h2]
theorem swK_im (h1:a≤i) (h2:i < b) (h3:a≤j) (h4:j < b):ImK f (swK f i j) a b :=
 ⟨fun p hp => swK_o (by omega) (by omega),fun p p1 p2 => by
  by_cases e:p=i
  ·subst e; exact ⟨j,h3,h4,swK_i _ _ _⟩
  ·by_cases e2:p=j
   ·subst e2; exact ⟨i,h1,h2,swK_j _ _ _⟩
   ·exact ⟨p,p1,p2,swK_o e e2⟩⟩
theorem StK.mono (h:StK key f a b) (h1:a≤a0) (h2:b0≤b):StK key f a0 b0:=fun p q p1 p2 p3 e => h p q (by omega) p2 (by omega) e
theorem SdK.mono (h:SdK key f a b) (h1:a≤a0) (h2:b0≤b):SdK key f a0 b0:=fun p q p1 p2 p3 => h p q (by omega) p2 (by omega)
theorem StK.congr (h:StK key f a b) (e:∀ p,a≤p→p < b→f' p=f p):StK key f' a b:=fun p q p1 p2 p3 h0 => by
 rw [e p p1 (by omega),e q (by omega) p3] at h0 ⊢
 exact h p q p1 p2 p3 h0
theorem SdK.congr (h:SdK key f a b) (e:∀ p,a≤p→p < b→f' p=f p):SdK key f' a b:=fun p q p1 p2 p3 => by
 rw [e p p1 (by omega),e q (by omega) p3]
 exact h p q p1 p2 p3
theorem StK.swap (h:StK key f a b) (h1:a < j) (h2:j < b) (hlt:key (f j) < key (f (j - 1))):StK key (swK f j (j - 1)) a b:=fun p q p1 p2 p3 e => by
 have hp:∀ x,x ≠ j→x ≠ j - 1→swK f j (j - 1) x=f x:=fun x => swK_o
 by_cases ep:p=j - 1
 ·subst ep
  rw [swK_j] at e ⊢
  by_cases eq:q=j
  ·subst eq
   rw [swK_i] at e
   omega
  ·rw [hp q eq (by omega)] at e ⊢
   exact h j q (by omega) (by omega) p3 e
 ·by_cases ep2:p=j
  ·subst ep2
   rw [swK_i] at e ⊢
   rw [hp q (by omega) (by omega)] at e ⊢
   exact h (p - 1) q (by omega) (by omega) p3 e
  ·rw [hp p ep2 ep] at e ⊢
   by_cases eq:q=j
   ·subst eq
    rw [swK_i] at e ⊢
    exact h p (q - 1) p1 (by omega) (by omega) e
   ·by_cases eq2:q=j - 1
    ·subst eq2
     rw [swK_j] at e ⊢
     exact h p j p1 (by omega) h2 e
    ·rw [hp q eq eq2] at e ⊢
     exact h p q p1 p2 p3 e
def InK (key:Nat→Int) (f:Nat→Nat) (a i j:Nat):Prop:=∀ p q,a≤p→p < q→q≤i→q ≠ j→key (f p)≤key (f q)
theorem InK.start (h:SdK key f a i) (hi:a≤i):InK key f a i i:=fun p q p1 p2 p3 p4 => h p q p1 p2 (by omega)
theorem InK.swap (h:InK key f a i j) (h1:a < j) (h2:j≤i) (hlt:key (f j) < key (f (j - 1))):InK key (swK f j (j - 1)) a i (j - 1):=fun p q p1 p2 p3 p4 => by
 have hp:∀ x,x ≠ j→x ≠ j - 1→swK f j (j - 1) x=f x:=fun x => swK_o
 by_cases eq:q=j
 ·subst eq
  rw [swK_i]
  by_cases ep:p=q - 1
  ·subst ep
   rw [swK_j]
   omega
  ·rw [hp p (by omega) ep]
   exact h p (q - 1) p1 (by omega) (by omega) (by omega)
 ·rw [hp q eq p4]
  by_cases ep:p=j
  ·subst ep
   rw [swK_i]
   exact h (p - 1) q (by omega) (by omega) p3 (by omega)
  ·by_cases ep2:p=j - 1
   ·subst ep2
    rw [swK_j]
    exact h j q (by omega) (by omega) p3 (by omega)
   ·rw [hp p ep ep2]
    exact h p q p1 p2 p3 eq
theorem InK.end (h:InK key f a i j) (h1:a≤j) (h2:j≤i) (hge:j=a ∨ key (f (j - 1))≤key (f j)):SdK key f a (i + 1):=fun p q p1 p2 p3 => by
 by_cases eq:q=j
 ·subst eq
  rcases hge with e | e
  ·omega
  ·by_cases ep:p=q - 1
   ·rw [ep]; exact e
   ·exact Int.le_trans (h p (q - 1) p1 (by omega) (by omega) (by omega)) e
 ·exact h p q p1 p2 (by omega) eq
def srK (f:Nat→Nat) (a b n p:Nat):Nat:=if a≤p∧p < a + n then f (p - a + b) else if b≤p∧p < b + n then f (p - b + a) else f p
theorem srK_0 (f:Nat→Nat) (a b:Nat):srK f a b 0=f:=funext fun p => by
 unfold srK
 rw [if_neg (by omega),if_neg (by omega)]
theorem srK_succ {n:Nat} (h:a + n < b):swK (srK f a b n) (a + n) (b + n)=srK f a b (n + 1):=funext fun p => by
 unfold swK
 by_cases e1:p=a + n
 ·subst e1
  rw [if_pos rfl]
  unfold srK
  rw [if_neg (by omega),if_neg (by omega),if_pos (by omega)]
  congr 1; omega
 ·rw [if_neg e1]
  by_cases e2:p=b + n
  ·subst e2
   rw [if_pos rfl]
   unfold srK
   rw [if_neg (by omega),if_neg (by omega),if_neg (by omega),if_pos (by omega)]
   congr 1; omega
  ·rw [if_neg e2]
   unfold srK
   by_cases c1:a≤p∧p < a + n
   ·rw [if_pos c1,if_pos (by omega)]
   ·by_cases c2:b≤p∧p < b + n
    ·rw [if_neg c1,if_pos c2,if_neg (by omega),if_pos (by omega)]
    ·rw [if_neg c1,if_neg c2,if_neg (by omega),if_neg (by omega)]
def roK (f:Nat→Nat) (a m b p:Nat):Nat:=if a≤p∧p < a + (b - m) then f (p + (m - a)) else if a + (b - m)≤p∧p < b then f (p - (b - m)) else f p
structure RoI (f g:Nat→Nat) (m i j:Nat):Prop where
 im:i≤m
 out:∀ p,p < m - i ∨ m + j≤p→f p=g p
 fst:∀ p,m - i≤p→p < m - i + j→f (p + i)=g p
 snd:∀ p,m - i + j≤p→p < m + j→f (p - j)=g p
theorem RoI.start (h1:a≤m) (h2:m≤b):RoI f (roK f a m b) m (m - a) (b - m):=by
 refine ⟨by omega,fun p hp => ?_,fun p p1 p2 => ?_,fun p p1 p2 => ?_⟩
 ·unfold roK
  rw [if_neg (by omega),if_neg (by omega)]
 ·unfold roK
  rw [if_pos (by omega)]
 ·unfold roK
  rw [if_neg (by omega),if_pos (by omega)]
theorem RoI.more {g:Nat→Nat} (h:RoI f g m i j) (hij:j < i):RoI (srK f (m - i) m j) g m (i - j) j:=by
 have hi:=h.im
 have q1:∀ p,m - i≤p→p < m - i + j→srK f (m - i) m j p=f (p + i):=fun p p1 p2 => by
  unfold srK
  rw [if_pos (by omega)]; congr 1; omega
 have q2:∀ p,m≤p→p < m + j→srK f (m - i) m j p=f (p - i):=fun p p1 p2 => by
  unfold srK
  rw [if_neg (by omega),if_pos (by omega)]; congr 1; omega
 have q3:∀ p,p < m - i ∨ (m - i + j≤p∧p < m) ∨ m + j≤p→srK f (m - i) m j p=f p:=fun p p1 => by
  unfold srK
  rw [if_neg (by omega),if_neg (by omega)]
 refine ⟨by omega,fun p hp => ?_,fun p p1 p2 => ?_,fun p p1 p2 => ?_⟩
 ·by_cases c:p < m - i
  ·rw [q3 p (by omega)]; exact h.out p (by omega)
  ·by_cases c2:m + j≤p
   ·rw [q3 p (by omega)]; exact h.out p (by omega)
   ·rw [q1 p (by omega) (by omega)]; exact h.fst p (by omega) (by omega)
 ·rw [q2 (p + (i - j)) (by omega) (by omega),show p + (i - j) - i=p - j by omega]
  exact h.snd p (by omega) (by omega)
 ·rw [q3 (p - j) (by omega)]
  exact h.snd p (by omega) (by omega)
theorem RoI.less {g:Nat→Nat} (h:RoI f g m i j) (hij:i < j):RoI (srK f (m - i) (m + j - i) i) g m i (j - i):=by
 have hi:=h.im
 have q1:∀ p,m - i≤p→p < m→srK f (m - i) (m + j - i) i p=f (p + j):=fun p p1 p2 => by
  unfold srK
  rw [if_pos (by omega)]; congr 1; omega
 have q2:∀ p,m + j - i≤p→p < m + j→srK f (m - i) (m + j - i) i p=f (p - j):=fun p p1 p2 => by
  unfold srK
  rw [if_neg (by omega),if_pos (by omega)]; congr 1; omega
 have q3:∀ p,p < m - i ∨ (m≤p∧p < m + j - i) ∨ m + j≤p→srK f (m - i) (m + j - i) i p=f p:=fun p p1 => by
  unfold srK
  rw [if_neg (by omega),if_neg (by omega)]
 refine ⟨by omega,fun p hp => ?_,fun p p1 p2 => ?_,fun p p1 p2 => ?_⟩
 ·by_cases c:p < m - i
  ·rw [q3 p (by omega)]; exact h.out p (by omega)
  ·by_cases c2:m + j≤p
   ·rw [q3 p (by omega)]; exact h.out p (by omega)
   ·rw [q2 p (by omega) (by omega)]; exact h.snd p (by omega) (by omega)
 ·rw [q3 (p + i) (by omega)]
  exact h.fst p (by omega) (by omega)
 ·rw [q1 (p - (j - i)) (by omega) (by omega),show p - (j - i) + j=p + i by omega]
  exact h.fst p (by omega) (by omega)
theorem RoI.end {g:Nat→Nat} (h:RoI f g m i i):srK f (m - i) m i=g:=funext fun p => by
 have hi:=h.im
 unfold srK
 by_cases c1:m - i≤p∧p < m - i + i
 ·rw [if_pos c1,← h.fst p (by omega) (by omega)]; congr 1; omega
 ·by_cases c2:m≤p∧p < m + i
  ·rw [if_neg c1,if_pos c2,← h.snd p (by omega) (by omega)]; congr 1; omega
  ·rw [if_neg c1,if_neg c2]; exact h.out p (by omega)
theorem roK_im (h1:a0≤a) (h2:a≤m) (h3:m≤b) (h4:b≤b0):ImK f (roK f a m b) a0 b0 :=
 ⟨fun p hp => by unfold roK; rw [if_neg (by omega),if_neg (by omega)],fun p p1 p2 => by
  unfold roK
  split
  ·exact ⟨p + (m - a),by omega,by omega,rfl⟩
  ·split
   ·exact ⟨p - (b - m),by omega,by omega,rfl⟩
   ·exact ⟨p,p1,p2,rfl⟩⟩
structure CutK (key:Nat→Int) (f:Nat→Nat) (a m b s e:Nat):Prop where
 s1:a≤s
 sm:s≤m
 me:m≤e
 eb:e≤b
 lo:s=a ∨ e=b ∨ a < s∧e < b∧key (f (s - 1))≤key (f e)
 hi:s=m ∨ e=m ∨ s < m∧m < e∧key (f (e - 1)) < key (f s)
theorem CutK.rot {s e:Nat} (h:CutK key f a m b s e) (hl:SdK key f a m) (hr:SdK key f m b) (ht:StK key f a b) :
  SdK key (roK f s m e) a s∧SdK key (roK f s m e) s (s + (e - m))∧SdK key (roK f s m e) (s + (e - m)) e∧SdK key (roK f s m e) e b∧StK key (roK f s m e) a b∧∀ p q,a≤p→p < s + (e - m)→s + (e - m)≤q→q < b→key (roK f s m e p)≤key (roK f s m e q):=by
 obtain ⟨h1,h2,h3,h4,hlo,hhi⟩:=h
 have o1:∀ p,p < s→roK f s m e p=f p:=fun p hp => by unfold roK; rw [if_neg (by omega),if_neg (by omega)]
 have o2:∀ p,e≤p→roK f s m e p=f p:=fun p hp => by unfold roK; rw [if_neg (by omega),if_neg (by omega)]
 have o3:∀ p,s≤p→p < s + (e - m)→roK f s m e p=f (p + (m - s)):=fun p p1 p2 => by unfold roK; rw [if_pos ⟨p1,p2⟩]
 have o4:∀ p,s + (e - m)≤p→p < e→roK f s m e p=f (p - (e - m)):=fun p p1 p2 => by unfold roK; rw [if_neg (by omega),if_pos ⟨p1,p2⟩]
 -- of the blocks' keys
 have gt:∀ p q,s≤p→p < m→m≤q→q < e→key (f q) < key (f p):=fun p q p1 p2 q1 q2 => by
  rcases hhi with x | x | ⟨_,_,x⟩
  ·omega
  ·omega
  ·have y1:key (f s)≤key (f p):=by
    rcases Nat.lt_or_ge s p with c | c
    ·exact hl s p h1 c p2
    ·rw [show p=s by omega]; exact Int.le_refl _
   have y2:key (f q)≤key (f (e - 1)):=by
    rcases Nat.lt_or_ge q (e - 1) with c | c
    ·exact hr q (e - 1) q1 c (by omega)
    ·rw [show q=e - 1 by omega]; exact Int.le_refl _
   omega
 have le1:∀ p q,a≤p→p < s→e≤q→q < b→key (f p)≤key (f q):=fun p q p1 p2 q1 q2 => by
  rcases hlo with x | x | ⟨_,_,x⟩
  ·omega
  ·omega
  ·have y1:key (f p)≤key (f (s - 1)):=by
    rcases Nat.lt_or_ge p (s - 1) with c | c
    ·exact hl p (s - 1) p1 c (by omega)
    ·rw [show p=s - 1 by omega]; exact Int.le_refl _
   have y2:key (f e)≤key (f q):=by
    rcases Nat.lt_or_ge e q with c | c
    ·exact hr e q h3 c q2
    ·rw [show q=e by omega]; exact Int.le_refl _
   omega
 refine ⟨fun p q p1 p2 p3 => ?_,fun p q p1 p2 p3 => ?_,fun p q p1 p2 p3 => ?_,fun p q p1 p2 p3 => ?_,fun p q p1 p2 p3 x => ?_,fun p q p1 p2 q1 q2 => ?_⟩
 ·rw [o1 p (by omega),o1 q (by omega)]; exact hl p q p1 p2 (by omega)
 ·rw [o3 p p1 (by omega),o3 q (by omega) p3]; exact hr _ _ (by omega) (by omega) (by omega)
 ·rw [o4 p p1 (by omega),o4 q (by omega) p3]; exact hl _ _ (by omega) (by omega) (by omega)
 ·rw [o2 p (by omega),o2 q (by omega)]; exact hr p q (by omega) p2 p3
 ·rcases Nat.lt_or_ge p s with c1 | c1
  ·rw [o1 p c1] at x ⊢
   rcases Nat.lt_or_ge q s with d1 | d1
   ·rw [o1 q d1] at x ⊢; exact ht p q p1 p2 p3 x
   ·rcases Nat.lt_or_ge q (s + (e - m)) with d2 | d2
    ·rw [o3 q d1 d2] at x ⊢; exact ht p _ p1 (by omega) (by omega) x
    ·rcases Nat.lt_or_ge q e with d3 | d3
     ·rw [o4 q d2 d3] at x ⊢; exact ht p _ p1 (by omega) (by omega) x
     ·rw [o2 q d3] at x ⊢; exact ht p q p1 p2 p3 x
  ·rcases Nat.lt_or_ge p (s + (e - m)) with c2 | c2
   ·rw [o3 p c1 c2] at x ⊢
    rcases Nat.lt_or_ge q (s + (e - m)) with d2 | d2
    ·rw [o3 q (by omega) d2] at x ⊢; exact ht _ _ (by omega) (by omega) (by omega) x
    ·rcases Nat.lt_or_ge q e with d3 | d3
     ·rw [o4 q d2 d3] at x ⊢
      have:=gt (q - (e - m)) (p + (m - s)) (by omega) (by omega) (by omega) (by omega)
      omega
     ·rw [o2 q d3] at x ⊢; exact ht _ q (by omega) (by omega) p3 x
   ·rcases Nat.lt_or_ge p e with c3 | c3
    ·rw [o4 p c2 c3] at x ⊢
     rcases Nat.lt_or_ge q e with d3 | d3
     ·rw [o4 q (by omega) d3] at x ⊢; exact ht _ _ (by omega) (by omega) (by omega) x
     ·rw [o2 q d3] at x ⊢; exact ht _ q (by omega) (by omega) p3 x
    ·rw [o2 p c3,o2 q (by omega)] at x ⊢; exact ht p q p1 p2 p3 x
 ·rcases Nat.lt_or_ge p s with c1 | c1
  ·rw [o1 p c1]
   rcases Nat.lt_or_ge q e with d3 | d3
   ·rw [o4 q q1 d3]; exact hl p _ p1 (by omega) (by omega)
   ·rw [o2 q d3]; exact le1 p q p1 c1 d3 q2
  ·rw [o3 p c1 p2]
   rcases Nat.lt_or_ge q e with d3 | d3
   ·rw [o4 q q1 d3]
    exact Int.le_of_lt (gt (q - (e - m)) (p + (m - s)) (by omega) (by omega) (by omega) (by omega))
   ·rw [o2 q d3]; exact hr _ q (by omega) (by omega) q2
theorem merged {c:Nat} (hc1:a≤c) (hc2:c≤b) (hL:SdK key f2 a c) (hR:SdK key f2 c b) (hTL:StK key f2 a c) (hTR:StK key f2 c b) (ht:StK key f a b) (hx:∀ p q,a≤p→p < c→c≤q→q < b→key (f p)≤key (f q)) (h1:∀ p,a≤p→p < c→∃ q,a≤q∧q < c∧f2 p=f q) (h2:∀ p,c≤p→p < b→∃ q,c≤q∧q < b∧f2 p=f q):SdK key f2 a b∧StK key f2 a b:=by
 refine ⟨fun p q p1 p2 p3 => ?_,fun p q p1 p2 p3 x => ?_⟩
 ·rcases Nat.lt_or_ge q c with d | d
  ·exact hL p q p1 p2 d
  ·rcases Nat.lt_or_ge p c with d2 | d2
   ·obtain ⟨u,u1,u2,e1⟩:=h1 p p1 d2
    obtain ⟨v,v1,v2,e2⟩:=h2 q d p3
    rw [e1,e2]
    exact hx u v u1 u2 v1 v2
   ·exact hR p q d2 p2 p3
 ·rcases Nat.lt_or_ge q c with d | d
  ·exact hTL p q p1 p2 d x
  ·rcases Nat.lt_or_ge p c with d2 | d2
   ·obtain ⟨u,u1,u2,e1⟩:=h1 p p1 d2
    obtain ⟨v,v1,v2,e2⟩:=h2 q d p3
    rw [e1,e2] at x ⊢
    exact ht u v u1 (by omega) v2 x
   ·exact hTR p q d2 p2 p3 x
end
end Go.Proofs.YtfekhdgjgjodlaaGreat
