/-
  Words and contracts that a statement's proof rests on (FdR). No statement is proved here.
-/
import Derived.Test.YthloabdfkakehaaFdF
set_option linter.unusedVariables false
set_option linter.unusedSimpArgs false
namespace Go.Proofs.Ythloabdfkakehaa
open Go.RowKit
section
variable {w:World} {lo b fb L ab:Nat} {E:Nat→Prop} {F:FcS} {m:MemS} {a:FaS} {fv lv wv:Value}
def FRead (lo b fb L ab:Nat) (E:Nat→Prop) (F:FcS) (fv wv:Value) (m':MemS) (a':FaS) (w:World) (e:Ending) (w':World):Prop :=
 e=.returned (.tuple #[])∧FdbAt w' lo b fb F m'∧(∃ lv',FactIn w' L (growE E w w') fb ab F a' fv lv' wv)∧Tch (FdD lo E) w w'
set_option maxRecDepth 20000 in
set_option maxHeartbeats 6400000 in
theorem fact_read (hf:FdbAt w lo b fb F m) (ha:FactIn w L E fb ab F a fv lv wv) (h1:lo + 3≤L) (h2:fb < L) (hLw:L≤w.heap.size) (ht:0≤m.t∧m.t≤4611686018427387900) (hc:F.cell a.h0 + a.ld.length < m.C) (hln:a.ld.length≤100000) :
  Calls Try.prog 86 #[.pointer (some ⟨ab,0,none⟩)] w (FRead lo b fb L ab E F fv wv (tickS m) (rdA F m a) w):=by
 have hCb:=hf.fits.C
 have hs:=(Sl.of_own ha.ld).form
 obtain ⟨A,cap,rfl,hcap1,hcap2⟩:=hs
 unfold maxLen at hcap2
 obtain ⟨n,hn⟩:∃ n,n=a.ld.length:=⟨_,rfl⟩
 obtain ⟨C,hC⟩:∃ C,C=F.cell a.h0:=⟨_,rfl⟩
 obtain ⟨K,hK⟩:∃ K,K=C + n:=⟨_,rfl⟩
 obtain ⟨V,hV⟩:∃ V,V=m.c K:=⟨_,rfl⟩
 have hKc:K < m.C:=by rw [hK,hC,hn]; exact hc
 obtain ⟨hz,hz2⟩:=wrap_addF (k:=C) (l:=n) (by omega) (by omega)
 rw [← hK] at hz hz2
 rw [← hn] at ha
 have hrd:rdA F m a={ a with ld:=a.ld ++ [V] }:=by rw [hV,hK,hC,hn]; rfl
 rw [hrd]
 have HL:=Lib.hid fun W (h:FdbAt W lo b fb F m∧FactIn W L E fb ab F a fv (.slice A n cap) wv∧Tch (FdD lo E) w W) => by
  have:=mem_Load (K:Int) h.1.mem (by clear hz hz2; omega)
  rw [loadS_k hKc,peekS_k hKc,← hV] at this
  exact this
 have HAF:=Lib.hid fun W W' (h:FdbAt W lo b fb F m∧FactIn W L E fb ab F a fv (.slice A n cap) wv∧Tch (FdD lo E) w W) (hm:MemAt W' 82 lo b (tickS m)) (htt:Touch lo W W') => fd_step h h1 hm htt rfl rfl
 generalize tickS m=m' at *
 have HAPP:=Lib.hid fun W v2 w2 (h:FdbAt W lo b fb F m'∧FactIn W L E fb ab F a fv (.slice A n cap) wv∧Tch (FdD lo E) w W) (hown:w2.ownsRow L 44 1 v2 (n + 1) (kv .u64 a.ld ++ [.int .u64 V])) (hgr:W.grownBy w2 (Value.slice A n cap).ownBlock) hat =>
  fd_app (w2:=w2) (v2:=v2) (V:=V) h.1 h.2.1 h.2.2 h1 h2 hLw (by rw [← hn]; exact hown) hgr hat
 have HLZ:=Lib.hid fun W (h:FdbAt W lo b fb F m'∧FactIn W L E fb ab F a fv (.slice A n cap) wv∧Tch (FdD lo E) w W) => Nat.le_trans hLw h.2.2.size
 have HC:=Lib.hid hC
 have hrow:FactIn w L E fb ab F a fv (.slice A n cap) wv:=ha
 have HX0:=Lib.hid (fd_more ⟨hf,ha,Tch.refl _ w⟩ (Below.drew (Below.refl _ _)))
 have r0:w.cell? ⟨ab,0,none⟩=some (.pointer (some ⟨fb,0,none⟩)):=ha.at_ (i:=0) (by clear hz hz2; omega)
 have r5:w.cell? ⟨ab,5,none⟩=some (.int .i64 (C:Nat)):=by rw [hC]; exact ha.at_ (i:=5) (by clear hz hz2; omega)
 have s0:=hf.at_.1
 have hlnn:∀ W,FactIn W L E fb ab F a fv (.slice A n cap) wv→W.ownsRow L 44 1 (.slice A n cap) n (kv .u64 a.ld):=fun W h => by have:=h.ld; rw [← hn] at this; exact this
 have HOWN:=Lib.hid hlnn
 have hn9:n≤100000:=by clear hz hz2; omega
 clear hf ha hrow hlnn hrd hV hKc hc hln hn hC hK hCb ht hLw
 go_enter Try.func86,Try.ntmps86
 go_wp2_with fail
 refine wp_region_held_drew (S:=fun w' => w'.cell? ⟨ab,0,none⟩=some (.pointer (some ⟨fb,0,none⟩))∧w'.cell? ⟨fb,0,none⟩=some (.pointer (some ⟨b,0,none⟩))∧w'.cell? ⟨ab,5,none⟩=some (.int .i64 (C:Nat))) (by kernel_rfl) ?_ (fun hHeld => ?_)
 ·exact ⟨r0,s0,r5⟩
 obtain ⟨v0,hv0⟩:∃ w',w'=w.drew:=⟨_,rfl⟩
 rw [← hv0] at hHeld HX0 ⊢
 have HX:=HX0
 clear hv0 HX0
 have y9:(v0).cell? ⟨ab,9,none⟩=some (.slice A n cap):=by have h9:=HX.out.2.1.at_ (i:=9) (by omega); exact h9
 refine tkR 0 rfl ?_
 refine tkR 1 rfl ?_
 refine tkR 2 rfl ?_
 refine tkR 3 rfl ?_
 refine tkR 5 rfl ?_
 refine tkR 6 rfl ?_
 refine tkR 7 rfl ?_
 refine tkR 8 rfl ?_
 refine tkR 9 rfl ?_
 refine tkR 10 rfl ?_
 refine tkR 11 rfl ?_
 refine tkR 12 rfl ?_
 refine tkR 13 rfl ?_
 refine tkR 14 rfl ?_
 refine tkR 15 rfl ?_
 refine tkR 16 rfl ?_
 refine tkR 17 rfl ?_
 refine tkR 18 rfl ?_
 refine wpAnyH_ready (rs:=[4,19]) (by kernel_rfl) (by simp) ?_
 refine (acR rfl (fun K hK => ?_) (acR rfl (fun K hK => ?_) AllReadyH.nil))
 ·go_simp
  refine hK.out _ _ ?_ (fun hHeld => ?_)
  ·(try dsimp only)
   exact ⟨HX.out.2.1.at_ (i:=0) (by omega),HX.out.1.at_.1,by rw [HC.out]; exact HX.out.2.1.at_ (i:=5) (by omega)⟩
  clear hK K
  (try simp only [Act.put,sqA,sqB,sqC])
  refine wpAnyH_ready (rs:=[19]) (by kernel_rfl) (by simp) ?_
  refine (acR rfl (fun K hK => ?_) AllReadyH.nil)
  go_simp
  refine hK.out _ _ ?_ (fun hHeld => ?_)
  ·(try dsimp only)
   exact ⟨HX.out.2.1.at_ (i:=0) (by omega),HX.out.1.at_.1,by rw [HC.out]; exact HX.out.2.1.at_ (i:=5) (by omega)⟩
  clear hK K
  refine tkR 20 rfl ?_
  refine tkR 21 rfl ?_
  refine wpAnyH_ready (rs:=[22]) (by kernel_rfl) (by simp) ?_
  refine (acR rfl (fun K hK => ?_) AllReadyH.nil)
  go_simp
  refine Calls.mono (HL.out _ HX.out) ?_
  rintro e w1 ⟨rfl,hm,ht'⟩
  have HX:=Lib.hid (HAF.out _ _ HX.out hm ht')
  clear hm ht'
  refine hK.out _ _ ?_ (fun hHeld => ?_)
  ·(try dsimp only)
   exact ⟨HX.out.2.1.at_ (i:=0) (by omega),HX.out.1.at_.1,by rw [HC.out]; exact HX.out.2.1.at_ (i:=5) (by omega)⟩
  clear hK K
  (try simp only [Act.put,sqA,sqB,sqC])
  clear y9
  have y9:(w1).cell? ⟨ab,9,none⟩=some (.slice A n cap):=by have h9:=HX.out.2.1.at_ (i:=9) (by omega); exact h9
  refine wpAnyH_ready (rs:=[23]) (by kernel_rfl) (by simp) ?_
  refine (acR rfl (fun K hK => ?_) AllReadyH.nil)
  go_simp
  refine hK.out _ _ ?_ (fun hHeld => ?_)
  ·(try dsimp only)
   have HX:=Lib.hid (fd_more HX.out ((Below.refl _ _).alloc (Nat.le_refl _) (.cells #[.int .u64 V] 44)))
   exact ⟨HX.out.2.1.at_ (i:=0) (by omega),HX.out.1.at_.1,by rw [HC.out]; exact HX.out.2.1.at_ (i:=5) (by omega)⟩
  clear hK K
  (try simp only [Act.put,sqA,sqB,sqC])
  have HX:=Lib.hid (fd_more HX.out ((Below.refl _ _).alloc (Nat.le_refl _) (.cells #[.int .u64 V] 44)))
  clear y9
  have y9:(w1.alloc (.cells #[.int .u64 V] 44)).cell? ⟨ab,9,none⟩=some (.slice A n cap):=by have h9:=HX.out.2.1.at_ (i:=9) (by omega); exact h9
  refine wpAnyH_ready (rs:=[24]) (by kernel_rfl) (by simp) ?_
  refine (acR rfl (fun K hK => ?_) AllReadyH.nil)
  refine step_app _ (by rfl) stU64f _ _ (by rfl) L _ n _ (by rfl) (HOWN.out _ HX.out.2.1) (w1.heap.size + 1) _ 1 [.int .u64 V] (by rfl) (Sl.lit w1 #[.int .u64 V] _ 1 (by rfl) (by decide)) (by simp [Value.oneCell']) (by omega) (HLZ.out _ HX.out) ?_
  intro v2 w2 hown2 hgr2 hat2 hbel2
  obtain ⟨A2,cap2,hv2,_,_⟩:=(Sl.of_own hown2).form
  subst hv2
  have HY:=Lib.hid (HAPP.out _ _ _ HX.out hown2 hgr2 hat2)
  clear hown2 hgr2 hat2 hbel2
  refine hK.out _ _ ?_ (fun hHeld => ?_)
  ·(try dsimp only)
   exact ⟨HY.out.1.2.cell (i:=0) (by omega),HY.out.1.1.at_.1,by rw [HC.out]; exact HY.out.1.2.cell (i:=5) (by omega)⟩
  clear hK K
  (try simp only [Act.put,sqA,sqB,sqC])
  clear y9
  have y9:w2.cell? ⟨ab,9,none⟩=some (.slice A n cap):=by have h9:=HY.out.1.2.cell (i:=9) (by omega); exact h9
  have z9:=HY.out.1.2.frozen 9
  refine tkR 25 rfl ?_
  refine tkR 26 rfl ?_
  refine wpAnyH_ready (rs:=[27]) (by kernel_rfl) (by simp) ?_
  refine (acR rfl (fun K hK => ?_) AllReadyH.nil)
  go_simp
  refine hK.out _ _ ?_ (fun hHeld => ?_)
  ·(try dsimp only)
   exact ⟨HY.out.2.2.1.at_ (i:=0) (by omega),HY.out.2.1.at_.1,by rw [HC.out]; exact HY.out.2.2.1.at_ (i:=5) (by omega)⟩
  clear hK K
  (try simp only [Act.put,sqA,sqB,sqC])
  refine wpAnyH_done (by kernel_rfl) ?_ _
  go_wp2
  go_end0
  exact ⟨rfl,HY.out.2.1,⟨_,HY.out.2.2.1⟩,HY.out.2.2.2⟩
 ·go_simp
  refine hK.out _ _ ?_ (fun hHeld => ?_)
  ·(try dsimp only)
   exact ⟨HX.out.2.1.at_ (i:=0) (by omega),HX.out.1.at_.1,by rw [HC.out]; exact HX.out.2.1.at_ (i:=5) (by omega)⟩
  clear hK K
  refine tkR 20 rfl ?_
  refine tkR 21 rfl ?_
  refine wpAnyH_ready (rs:=[4,22]) (by kernel_rfl) (by simp) ?_
  refine (acR rfl (fun K hK => ?_) (acR rfl (fun K hK => ?_) AllReadyH.nil))
  ·go_simp
   refine hK.out _ _ ?_ (fun hHeld => ?_)
   ·(try dsimp only)
    exact ⟨HX.out.2.1.at_ (i:=0) (by omega),HX.out.1.at_.1,by rw [HC.out]; exact HX.out.2.1.at_ (i:=5) (by omega)⟩
   clear hK K
   (try simp only [Act.put,sqA,sqB,sqC])
   refine wpAnyH_ready (rs:=[22]) (by kernel_rfl) (by simp) ?_
   refine (acR rfl (fun K hK => ?_) AllReadyH.nil)
   go_simp
   refine Calls.mono (HL.out _ HX.out) ?_
   rintro e w1 ⟨rfl,hm,ht'⟩
   have HX:=Lib.hid (HAF.out _ _ HX.out hm ht')
   clear hm ht'
   refine hK.out _ _ ?_ (fun hHeld => ?_)
   ·(try dsimp only)
    exact ⟨HX.out.2.1.at_ (i:=0) (by omega),HX.out.1.at_.1,by rw [HC.out]; exact HX.out.2.1.at_ (i:=5) (by omega)⟩
   clear hK K
   (try simp only [Act.put,sqA,sqB,sqC])
   clear y9
   have y9:(w1).cell? ⟨ab,9,none⟩=some (.slice A n cap):=by have h9:=HX.out.2.1.at_ (i:=9) (by omega); exact h9
   refine wpAnyH_ready (rs:=[23]) (by kernel_rfl) (by simp) ?_
   refine (acR rfl (fun K hK => ?_) AllReadyH.nil)
   go_simp
   refine hK.out _ _ ?_ (fun hHeld => ?_)
   ·(try dsimp only)
    have HX:=Lib.hid (fd_more HX.out ((Below.refl _ _).alloc (Nat.le_refl _) (.cells #[.int .u64 V] 44)))
    exact ⟨HX.out.2.1.at_ (i:=0) (by omega),HX.out.1.at_.1,by rw [HC.out]; exact HX.out.2.1.at_ (i:=5) (by omega)⟩
   clear hK K
   (try simp only [Act.put,sqA,sqB,sqC])
   have HX:=Lib.hid (fd_more HX.out ((Below.refl _ _).alloc (Nat.le_refl _) (.cells #[.int .u64 V] 44)))
   clear y9
   have y9:(w1.alloc (.cells #[.int .u64 V] 44)).cell? ⟨ab,9,none⟩=some (.slice A n cap):=by have h9:=HX.out.2.1.at_ (i:=9) (by omega); exact h9
   refine wpAnyH_ready (rs:=[24]) (by kernel_rfl) (by simp) ?_
   refine (acR rfl (fun K hK => ?_) AllReadyH.nil)
   refine step_app _ (by rfl) stU64f _ _ (by rfl) L _ n _ (by rfl) (HOWN.out _ HX.out.2.1) (w1.heap.size + 1) _ 1 [.int .u64 V] (by rfl) (Sl.lit w1 #[.int .u64 V] _ 1 (by rfl) (by decide)) (by simp [Value.oneCell']) (by omega) (HLZ.out _ HX.out) ?_
   intro v2 w2 hown2 hgr2 hat2 hbel2
   obtain ⟨A2,cap2,hv2,_,_⟩:=(Sl.of_own hown2).form
   subst hv2
   have HY:=Lib.hid (HAPP.out _ _ _ HX.out hown2 hgr2 hat2)
   clear hown2 hgr2 hat2 hbel2
   refine hK.out _ _ ?_ (fun hHeld => ?_)
   ·(try dsimp only)
    exact ⟨HY.out.1.2.cell (i:=0) (by omega),HY.out.1.1.at_.1,by rw [HC.out]; exact HY.out.1.2.cell (i:=5) (by omega)⟩
   clear hK K
   (try simp only [Act.put,sqA,sqB,sqC])
   clear y9
   have y9:w2.cell? ⟨ab,9,none⟩=some (.slice A n cap):=by have h9:=HY.out.1.2.cell (i:=9) (by omega); exact h9
   have z9:=HY.out.1.2.frozen 9
   refine tkR 25 rfl ?_
   refine tkR 26 rfl ?_
   refine wpAnyH_ready (rs:=[27]) (by kernel_rfl) (by simp) ?_
   refine (acR rfl (fun K hK => ?_) AllReadyH.nil)
   go_simp
   refine hK.out _ _ ?_ (fun hHeld => ?_)
   ·(try dsimp only)
    exact ⟨HY.out.2.2.1.at_ (i:=0) (by omega),HY.out.2.1.at_.1,by rw [HC.out]; exact HY.out.2.2.1.at_ (i:=5) (by omega)⟩
   clear hK K
   (try simp only [Act.put,sqA,sqB,sqC])
   refine wpAnyH_done (by kernel_rfl) ?_ _
   go_wp2
   go_end0
   exact ⟨rfl,HY.out.2.1,⟨_,HY.out.2.2.1⟩,HY.out.2.2.2⟩
  ·go_simp
   refine Calls.mono (HL.out _ HX.out) ?_
   rintro e w1 ⟨rfl,hm,ht'⟩
   have HX:=Lib.hid (HAF.out _ _ HX.out hm ht')
   clear hm ht'
   refine hK.out _ _ ?_ (fun hHeld => ?_)
   ·(try dsimp only)
    exact ⟨HX.out.2.1.at_ (i:=0) (by omega),HX.out.1.at_.1,by rw [HC.out]; exact HX.out.2.1.at_ (i:=5) (by omega)⟩
   clear hK K
   (try simp only [Act.put,sqA,sqB,sqC])
   clear y9
   have y9:(w1).cell? ⟨ab,9,none⟩=some (.slice A n cap):=by have h9:=HX.out.2.1.at_ (i:=9) (by omega); exact h9
   refine wpAnyH_ready (rs:=[4,23]) (by kernel_rfl) (by simp) ?_
   refine (acR rfl (fun K hK => ?_) (acR rfl (fun K hK => ?_) AllReadyH.nil))
   ·go_simp
    refine hK.out _ _ ?_ (fun hHeld => ?_)
    ·(try dsimp only)
     exact ⟨HX.out.2.1.at_ (i:=0) (by omega),HX.out.1.at_.1,by rw [HC.out]; exact HX.out.2.1.at_ (i:=5) (by omega)⟩
    clear hK K
    (try simp only [Act.put,sqA,sqB,sqC])
    refine wpAnyH_ready (rs:=[23]) (by kernel_rfl) (by simp) ?_
    refine (acR rfl (fun K hK => ?_) AllReadyH.nil)
    go_simp
    refine hK.out _ _ ?_ (fun hHeld => ?_)
    ·(try dsimp only)
     have HX:=Lib.hid (fd_more HX.out ((Below.refl _ _).alloc (Nat.le_refl _) (.cells #[.int .u64 V] 44)))
     exact ⟨HX.out.2.1.at_ (i:=0) (by omega),HX.out.1.at_.1,by rw [HC.out]; exact HX.out.2.1.at_ (i:=5) (by omega)⟩
    clear hK K
    (try simp only [Act.put,sqA,sqB,sqC])
    have HX:=Lib.hid (fd_more HX.out ((Below.refl _ _).alloc (Nat.le_refl _) (.cells #[.int .u64 V] 44)))
    clear y9
    have y9:(w1.alloc (.cells #[.int .u64 V] 44)).cell? ⟨ab,9,none⟩=some (.slice A n cap):=by have h9:=HX.out.2.1.at_ (i:=9) (by omega); exact h9
    refine wpAnyH_ready (rs:=[24]) (by kernel_rfl) (by simp) ?_
    refine (acR rfl (fun K hK => ?_) AllReadyH.nil)
    refine step_app _ (by rfl) stU64f _ _ (by rfl) L _ n _ (by rfl) (HOWN.out _ HX.out.2.1) (w1.heap.size + 1) _ 1 [.int .u64 V] (by rfl) (Sl.lit w1 #[.int .u64 V] _ 1 (by rfl) (by decide)) (by simp [Value.oneCell']) (by omega) (HLZ.out _ HX.out) ?_
    intro v2 w2 hown2 hgr2 hat2 hbel2
    obtain ⟨A2,cap2,hv2,_,_⟩:=(Sl.of_own hown2).form
    subst hv2
    have HY:=Lib.hid (HAPP.out _ _ _ HX.out hown2 hgr2 hat2)
    clear hown2 hgr2 hat2 hbel2
    refine hK.out _ _ ?_ (fun hHeld => ?_)
    ·(try dsimp only)
     exact ⟨HY.out.1.2.cell (i:=0) (by omega),HY.out.1.1.at_.1,by rw [HC.out]; exact HY.out.1.2.cell (i:=5) (by omega)⟩
    clear hK K
    (try simp only [Act.put,sqA,sqB,sqC])
    clear y9
    have y9:w2.cell? ⟨ab,9,none⟩=some (.slice A n cap):=by have h9:=HY.out.1.2.cell (i:=9) (by omega); exact h9
    have z9:=HY.out.1.2.frozen 9
    refine tkR 25 rfl ?_
    refine tkR 26 rfl ?_
    refine wpAnyH_ready (rs:=[27]) (by kernel_rfl) (by simp) ?_
    refine (acR rfl (fun K hK => ?_) AllReadyH.nil)
    go_simp
    refine hK.out _ _ ?_ (fun hHeld => ?_)
    ·(try dsimp only)
     exact ⟨HY.out.2.2.1.at_ (i:=0) (by omega),HY.out.2.1.at_.1,by rw [HC.out]; exact HY.out.2.2.1.at_ (i:=5) (by omega)⟩
    clear hK K
    (try simp only [Act.put,sqA,sqB,sqC])
    refine wpAnyH_done (by kernel_rfl) ?_ _
    go_wp2
    go_end0
    exact ⟨rfl,HY.out.2.1,⟨_,HY.out.2.2.1⟩,HY.out.2.2.2⟩
   ·go_simp
    refine hK.out _ _ ?_ (fun hHeld => ?_)
    ·(try dsimp only)
     have HX:=Lib.hid (fd_more HX.out ((Below.refl _ _).alloc (Nat.le_refl _) (.cells #[.int .u64 V] 44)))
     exact ⟨HX.out.2.1.at_ (i:=0) (by omega),HX.out.1.at_.1,by rw [HC.out]; exact HX.out.2.1.at_ (i:=5) (by omega)⟩
    clear hK K
    (try simp only [Act.put,sqA,sqB,sqC])
    have HX:=Lib.hid (fd_more HX.out ((Below.refl _ _).alloc (Nat.le_refl _) (.cells #[.int .u64 V] 44)))
    clear y9
    have y9:(w1.alloc (.cells #[.int .u64 V] 44)).cell? ⟨ab,9,none⟩=some (.slice A n cap):=by have h9:=HX.out.2.1.at_ (i:=9) (by omega); exact h9
    refine wpAnyH_ready (rs:=[4]) (by kernel_rfl) (by simp) ?_
    refine (acR rfl (fun K hK => ?_) AllReadyH.nil)
    go_simp
    refine hK.out _ _ ?_ (fun hHeld => ?_)
    ·(try dsimp only)
     exact ⟨HX.out.2.1.at_ (i:=0) (by omega),HX.out.1.at_.1,by rw [HC.out]; exact HX.out.2.1.at_ (i:=5) (by omega)⟩
    clear hK K
    (try simp only [Act.put,sqA,sqB,sqC])
    refine wpAnyH_ready (rs:=[24]) (by kernel_rfl) (by simp) ?_
    refine (acR rfl (fun K hK => ?_) AllReadyH.nil)
    refine step_app _ (by rfl) stU64f _ _ (by rfl) L _ n _ (by rfl) (HOWN.out _ HX.out.2.1) (w1.heap.size + 1) _ 1 [.int .u64 V] (by rfl) (Sl.lit w1 #[.int .u64 V] _ 1 (by rfl) (by decide)) (by simp [Value.oneCell']) (by omega) (HLZ.out _ HX.out) ?_
    intro v2 w2 hown2 hgr2 hat2 hbel2
    obtain ⟨A2,cap2,hv2,_,_⟩:=(Sl.of_own hown2).form
    subst hv2
    have HY:=Lib.hid (HAPP.out _ _ _ HX.out hown2 hgr2 hat2)
    clear hown2 hgr2 hat2 hbel2
    refine hK.out _ _ ?_ (fun hHeld => ?_)
    ·(try dsimp only)
     exact ⟨HY.out.1.2.cell (i:=0) (by omega),HY.out.1.1.at_.1,by rw [HC.out]; exact HY.out.1.2.cell (i:=5) (by omega)⟩
    clear hK K
    (try simp only [Act.put,sqA,sqB,sqC])
    clear y9
    have y9:w2.cell? ⟨ab,9,none⟩=some (.slice A n cap):=by have h9:=HY.out.1.2.cell (i:=9) (by omega); exact h9
    have z9:=HY.out.1.2.frozen 9
    refine tkR 25 rfl ?_
    refine tkR 26 rfl ?_
    refine wpAnyH_ready (rs:=[27]) (by kernel_rfl) (by simp) ?_
    refine (acR rfl (fun K hK => ?_) AllReadyH.nil)
    go_simp
    refine hK.out _ _ ?_ (fun hHeld => ?_)
    ·(try dsimp only)
     exact ⟨HY.out.2.2.1.at_ (i:=0) (by omega),HY.out.2.1.at_.1,by rw [HC.out]; exact HY.out.2.2.1.at_ (i:=5) (by omega)⟩
    clear hK K
    (try simp only [Act.put,sqA,sqB,sqC])
    refine wpAnyH_done (by kernel_rfl) ?_ _
    go_wp2
    go_end0
    exact ⟨rfl,HY.out.2.1,⟨_,HY.out.2.2.1⟩,HY.out.2.2.2⟩
end
end Go.Proofs.Ythloabdfkakehaa
