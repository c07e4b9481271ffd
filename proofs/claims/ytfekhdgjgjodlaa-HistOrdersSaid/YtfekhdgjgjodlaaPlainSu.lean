/-
  Words and contracts that a statement's proof rests on (PlainSu). No statement is proved here.
-/
import Derived.Test.YtfekhdgjgjodlaaPlainSt
set_option linter.unusedVariables false
set_option linter.unusedSimpArgs false
namespace Go.Proofs.Ytfekhdgjgjodlaa
structure MgK (key:Nat→Int) (f f':Nat→Nat) (a b:Nat):Prop where
 im:ImK f f' a b
 sd:SdK key f' a b
 st:StK key f' a b
section
variable {key:Nat→Int} {f f' f2:Nat→Nat} {a b a0 b0 i j m n s e c:Nat}
theorem roK_id (h:a=m ∨ m=b) (h1:a≤m) (h2:m≤b):roK f a m b=f:=funext fun p => by
 unfold roK
 rcases h with rfl | rfl
 ·split
  ·congr 1; omega
  ·split
   ·omega
   ·rfl
 ·split
  ·omega
  ·split
   ·congr 1; omega
   ·rfl
theorem MgK.whole (h:MgK key f f' a b) (ht:StK key f a0 b0) (h1:a0≤a) (h2:b≤b0):StK key f' a0 b0:=fun p q p1 p2 p3 x => by
 by_cases cp:a≤p∧p < b
 ·by_cases cq:q < b
  ·exact h.st p q cp.1 p2 cq x
  ·obtain ⟨u,u1,u2,e1⟩:=h.im.2 p cp.1 cp.2
   rw [e1,h.im.1 q (by omega)] at x ⊢
   exact ht u q (by omega) (by omega) p3 x
 ·rw [h.im.1 p (by omega)] at x ⊢
  by_cases cq:a≤q∧q < b
  ·obtain ⟨v,v1,v2,e2⟩:=h.im.2 q cq.1 cq.2
   rw [e2] at x ⊢
   exact ht p v p1 (by omega) (by omega) x
  ·rw [h.im.1 q (by omega)] at x ⊢
   exact ht p q p1 p2 p3 x
theorem MgK.beside (h:MgK key f f' a b) (hs:SdK key f a0 b0) (h1:b0≤a ∨ b≤a0):SdK key f' a0 b0:=hs.congr fun p p1 p2 => h.im.1 p (by omega)
theorem MgK.trans (h:ImK f f' a b) (k:MgK key f' f2 a b):MgK key f f2 a b:=⟨h.trans k.im,k.sd,k.st⟩
theorem ins_left (hm:m=a + 1) (h1:m≤i) (h2:i≤b) (hr:SdK key f m b) (ht:StK key f a b) (hlo:∀ h,m≤h→h < i→key (f h) < key (f a)) (hhi:∀ h,i≤h→h < b→key (f a)≤key (f h)):MgK key f (roK f a m i) a b:=by
 subst hm
 have o1:∀ p,a≤p→p < i - 1→roK f a (a + 1) i p=f (p + 1):=fun p p1 p2 => by
  unfold roK; rw [if_pos (by omega)]; congr 1; omega
 have o2:roK f a (a + 1) i (i - 1)=f a:=by
  unfold roK; rw [if_neg (by omega),if_pos (by omega)]; congr 1; omega
 have o3:∀ p,i≤p→roK f a (a + 1) i p=f p:=fun p hp => by
  unfold roK; rw [if_neg (by omega),if_neg (by omega)]
 refine ⟨roK_im (Nat.le_refl _) (by omega) (by omega) h2,fun p q p1 p2 p3 => ?_,fun p q p1 p2 p3 x => ?_⟩
 ·rcases Nat.lt_trichotomy p (i - 1) with c1 | c1 | c1
  ·rw [o1 p p1 c1]
   rcases Nat.lt_trichotomy q (i - 1) with d | d | d
   ·rw [o1 q (by omega) d]; exact hr _ _ (by omega) (by omega) (by omega)
   ·rw [d,o2]; exact Int.le_of_lt (hlo _ (by omega) (by omega))
   ·rw [o3 q (by omega)]; exact hr _ q (by omega) (by omega) p3
  ·rw [c1,o2,o3 q (by omega)]; exact hhi q (by omega) p3
  ·rw [o3 p (by omega),o3 q (by omega)]; exact hr p q (by omega) p2 p3
 ·rcases Nat.lt_trichotomy p (i - 1) with c1 | c1 | c1
  ·rw [o1 p p1 c1] at x ⊢
   rcases Nat.lt_trichotomy q (i - 1) with d | d | d
   ·rw [o1 q (by omega) d] at x ⊢; exact ht _ _ (by omega) (by omega) (by omega) x
   ·rw [d,o2] at x ⊢
    have:=hlo (p + 1) (by omega) (by omega)
    omega
   ·rw [o3 q (by omega)] at x ⊢; exact ht _ q (by omega) (by omega) p3 x
  ·rw [c1,o2,o3 q (by omega)] at x ⊢; exact ht a q (by omega) (by omega) p3 x
  ·rw [o3 p (by omega),o3 q (by omega)] at x ⊢; exact ht p q p1 p2 p3 x
theorem ins_right (hb:b=m + 1) (h1:a≤i) (h2:i≤m) (hl:SdK key f a m) (ht:StK key f a b) (hlo:∀ h,a≤h→h < i→key (f h)≤key (f m)) (hhi:∀ h,i≤h→h < m→key (f m) < key (f h)):MgK key f (roK f i m b) a b:=by
 subst hb
 have o1:∀ p,p < i→roK f i m (m + 1) p=f p:=fun p hp => by
  unfold roK; rw [if_neg (by omega),if_neg (by omega)]
 have o2:roK f i m (m + 1) i=f m:=by
  unfold roK; rw [if_pos (by omega)]; congr 1; omega
 have o3:∀ p,i < p→p≤m→roK f i m (m + 1) p=f (p - 1):=fun p p1 p2 => by
  unfold roK; rw [if_neg (by omega),if_pos (by omega)]; congr 1; omega
 refine ⟨roK_im h1 h2 (by omega) (Nat.le_refl _),fun p q p1 p2 p3 => ?_,fun p q p1 p2 p3 x => ?_⟩
 ·rcases Nat.lt_trichotomy q i with c1 | c1 | c1
  ·rw [o1 p (by omega),o1 q c1]; exact hl p q p1 p2 (by omega)
  ·rw [c1,o2,o1 p (by omega)]; exact hlo p p1 (by omega)
  ·rw [o3 q c1 (by omega)]
   rcases Nat.lt_trichotomy p i with d | d | d
   ·rw [o1 p d]; exact hl p _ p1 (by omega) (by omega)
   ·rw [d,o2]; exact Int.le_of_lt (hhi _ (by omega) (by omega))
   ·rw [o3 p d (by omega)]; exact hl _ _ (by omega) (by omega) (by omega)
 ·rcases Nat.lt_trichotomy q i with c1 | c1 | c1
  ·rw [o1 p (by omega),o1 q c1] at x ⊢; exact ht p q p1 p2 (by omega) x
  ·rw [c1,o2,o1 p (by omega)] at x ⊢; exact ht p m p1 (by omega) (by omega) x
  ·rw [o3 q c1 (by omega)] at x ⊢
   rcases Nat.lt_trichotomy p i with d | d | d
   ·rw [o1 p d] at x ⊢; exact ht p _ p1 (by omega) (by omega) x
   ·rw [d,o2] at x ⊢
    have:=hhi (q - 1) (by omega) (by omega)
    omega
   ·rw [o3 p d (by omega)] at x ⊢; exact ht _ _ (by omega) (by omega) (by omega) x
theorem roK_up (h:a≤c):swK (roK f a (a + 1) (c + 1)) c (c + 1)=roK f a (a + 1) (c + 2):=funext fun p => by
 have o1:∀ k p,a≤p→p < k→roK f a (a + 1) (k + 1) p=f (p + 1):=fun k p p1 p2 => by
  unfold roK; rw [if_pos (by omega)]; congr 1; omega
 have o2:∀ k,a≤k→roK f a (a + 1) (k + 1) k=f a:=fun k hk => by
  unfold roK; rw [if_neg (by omega),if_pos (by omega)]; congr 1; omega
 have o3:∀ k p,a≤k→(k < p ∨ p < a)→roK f a (a + 1) (k + 1) p=f p:=fun k p hk hp => by
  unfold roK; rw [if_neg (by omega),if_neg (by omega)]
 by_cases e1:p=c
 ·subst e1; rw [swK_i,o3 p (p + 1) h (by omega),o1 (p + 1) p h (by omega)]
 ·by_cases e2:p=c + 1
  ·subst e2; rw [swK_j,o2 c h,o2 (c + 1) (by omega)]
  ·rw [swK_o e1 e2]
   by_cases c1:a≤p∧p < c
   ·rw [o1 c p c1.1 c1.2,o1 (c + 1) p c1.1 (by omega)]
   ·rw [o3 c p h (by omega),o3 (c + 1) p (by omega) (by omega)]
theorem roK_down (h:c≤m) (h0:0 < c):swK (roK f c m (m + 1)) c (c - 1)=roK f (c - 1) m (m + 1):=funext fun p => by
 have o1:∀ k p,k < p→p≤m→roK f k m (m + 1) p=f (p - 1):=fun k p p1 p2 => by
  unfold roK; rw [if_neg (by omega),if_pos (by omega)]; congr 1; omega
 have o2:∀ k,k≤m→roK f k m (m + 1) k=f m:=fun k hk => by
  unfold roK; rw [if_pos (by omega)]; congr 1; omega
 have o3:∀ k p,k≤m→(m < p ∨ p < k)→roK f k m (m + 1) p=f p:=fun k p hk hp => by
  unfold roK; rw [if_neg (by omega),if_neg (by omega)]
 by_cases e1:p=c
 ·subst e1; rw [swK_i,o3 p (p - 1) h (by omega),o1 (p - 1) p (by omega) h]
 ·by_cases e2:p=c - 1
  ·subst e2; rw [swK_j,o2 c h,o2 (c - 1) (by omega)]
  ·rw [swK_o e1 e2]
   by_cases c1:c < p∧p≤m
   ·rw [o1 c p c1.1 c1.2,o1 (c - 1) p (by omega) c1.2]
   ·rw [o3 c p h (by omega),o3 (c - 1) p (by omega) (by omega)]
structure SeK (key:Nat→Int) (f:Nat→Nat) (s0 r0 q s r:Nat):Prop where
 s1:s0≤s
 sr:s≤r
 r1:r≤r0
 lo:s=s0 ∨ key (f (s - 1))≤key (f (q - (s - 1)))
 hi:r=r0 ∨ key (f (q - r)) < key (f r)
theorem SeK.up {s0 r0 q r:Nat} (h:SeK key f s0 r0 q s r) (h1:s≤c) (h2:c < r) (hk:¬ key (f (q - c)) < key (f c)):SeK key f s0 r0 q (c + 1) r :=
 ⟨by have:=h.s1; omega,by omega,h.r1,.inr (by rw [show c + 1 - 1=c by omega]; omega),h.hi⟩
theorem SeK.down {s0 r0 q r:Nat} (h:SeK key f s0 r0 q s r) (h1:s≤c) (h2:c < r) (hk:key (f (q - c)) < key (f c)):SeK key f s0 r0 q s c :=
 ⟨h.s1,h1,by have:=h.r1; omega,h.lo,.inr hk⟩
theorem SeK.cut {mid q s0 r0:Nat} (hab:a < m∧m < b) (hmid:mid=(a + b) / 2) (hq:q + 1=mid + m) (h0:(mid < m∧s0=mid + m - b∧r0=mid) ∨ (m≤mid∧s0=a∧r0=m)) (h:SeK key f s0 r0 q s s) :
  CutK key f a m b s (mid + m - s)∧s≤mid∧s + (mid + m - s - m)=mid:=by
 obtain ⟨h1,_,h2,hlo,hhi⟩:=h
 have e1:q - (s - 1)=mid + m - s ∨ s=s0:=by
  by_cases c:s=s0
  ·exact .inr c
  ·exact .inl (by omega)
 refine ⟨⟨by omega,by omega,by omega,by omega,?_,?_⟩,by omega,by omega⟩
 ·rcases hlo with x | x
  ·rcases h0 with y | y
   ·exact .inr (.inl (by omega))
   ·exact .inl (by omega)
  ·by_cases c:s=s0
   ·rcases h0 with y | y
    ·exact .inr (.inl (by omega))
    ·exact .inl (by omega)
   ·rw [show q - (s - 1)=mid + m - s by omega] at x
    exact .inr (.inr ⟨by omega,by omega,x⟩)
 ·rcases hhi with x | x
  ·rcases h0 with y | y
   ·exact .inr (.inl (by omega))
   ·exact .inl (by omega)
  ·by_cases c:s=r0
   ·rcases h0 with y | y
    ·exact .inr (.inl (by omega))
    ·exact .inl (by omega)
   ·rw [show q - s=mid + m - s - 1 by omega] at x
    exact .inr (.inr ⟨by omega,by omega,x⟩)
def BlK (key:Nat→Int) (f:Nat→Nat) (n B k:Nat):Prop:=∀ x,x < k→SdK key f (x * B) (min (x * B + B) n)
theorem sym_fin {g g1 g2:Nat→Nat} {mid:Nat} (hc:CutK key f a m b s e) (hl:SdK key f a m) (hr:SdK key f m b) (ht:StK key f a b) (hg:g=roK f s m e) (hmid:s + (e - m)=mid) (h1:MgK key g g1 a mid) (h2:MgK key g1 g2 mid b):MgK key f g2 a b:=by
 have hrot:=hc.rot hl hr ht
 rw [← hg,hmid] at hrot
 obtain ⟨_,_,_,_,r5,r6⟩:=hrot
 have ha:=hc.s1
 have hm:=hc.sm
 have he:=hc.me
 have hb:=hc.eb
 have hx:=merged (key:=key) (f:=g) (f2:=g2) (a:=a) (b:=b) (c:=mid) (by omega) (by omega) (h2.beside h1.sd (.inl (Nat.le_refl _))) h2.sd (h1.st.congr fun p p1 p2 => h2.im.1 p (.inl p2)) h2.st r5 r6 (fun p p1 p2 => by
  obtain ⟨q,q1,q2,e1⟩:=h1.im.2 p p1 p2
  exact ⟨q,q1,q2,(h2.im.1 p (.inl p2)).trans e1⟩) (fun p p1 p2 => by
  obtain ⟨q,q1,q2,e1⟩:=h2.im.2 p p1 p2
  exact ⟨q,q1,q2,e1.trans (h1.im.1 q (.inr q1))⟩)
 refine ⟨?_,hx.1,hx.2⟩
 have hi:ImK f g a b:=by rw [hg]; exact roK_im ha hm he hb
 exact hi.trans ((h1.im.mono (Nat.le_refl _) (by omega)).trans (h2.im.mono (by omega) (Nat.le_refl _)))
theorem sym_pre {g:Nat→Nat} {mid:Nat} (hc:CutK key f a m b s e) (hl:SdK key f a m) (hr:SdK key f m b) (ht:StK key f a b) (hg:g=roK f s m e) (hmid:s + (e - m)=mid):SdK key g a s∧SdK key g s mid∧SdK key g mid e∧SdK key g e b∧StK key g a b:=by
 have hrot:=hc.rot hl hr ht
 rw [← hg,hmid] at hrot
 exact ⟨hrot.1,hrot.2.1,hrot.2.2.1,hrot.2.2.2.1,hrot.2.2.2.2.1⟩
theorem MgK.same (h:SdK key f a b) (ht:StK key f a b):MgK key f f a b:=⟨ImK.refl _ _ _,h,ht⟩
theorem BlK.step {B k:Nat} (h:BlK key f n B k) (hm:MgK key f f' (k * B) (min (k * B + B) n)):BlK key f' n B (k + 1):=fun x hx => by
 rcases Nat.lt_or_ge x k with c | c
 ·have h1:x * B + B≤k * B:=by
   have h2:=Nat.mul_le_mul_right B (show x + 1≤k by omega)
   rw [Nat.add_mul,Nat.one_mul] at h2
   exact h2
  exact hm.beside (h x c) (.inl (by omega))
 ·rw [show x=k by omega]
  exact hm.sd
theorem BlK.rest {B k:Nat} {kk:Nat} (h:BlK key f n B kk) (hm:MgK key f f' (k * (2 * B)) b) {x:Nat} (hx:x < kk) (h2:2 * k + 2≤x) (hb:b≤k * (2 * B) + 2 * B):SdK key f' (x * B) (min (x * B + B) n):=by
 refine hm.beside (h x hx) (.inr ?_)
 have h3:=Nat.mul_le_mul_right B h2
 rw [Nat.add_mul,Nat.mul_comm 2 k,Nat.mul_assoc] at h3
 omega
end
end Go.Proofs.Ytfekhdgjgjodlaa
