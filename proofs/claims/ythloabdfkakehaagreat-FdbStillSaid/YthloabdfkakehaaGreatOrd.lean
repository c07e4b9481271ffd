/-
  Words and contracts that a statement's proof rests on (Ord). No statement is proved here.
-/
import Derived.Deep.QuietTactic
import Derived.Deep.RegionHeld3
import Derived.Laws.OwnMore
import Derived.Test.YthloabdfkakehaaGreatOpen
set_option linter.unusedVariables false
set_option linter.unusedSimpArgs false
namespace Go.Proofs.YthloabdfkakehaaGreat
open Go.RowKit
def Asc (m:Nat→Int) (R:List Nat):Prop:=List.Pairwise (fun a b => m a < m b) R
theorem Asc.ins {m:Nat→Int} {x:Nat} {A B:List Nat} (h:Asc m (A ++ B)) (hA:∀ a ∈ A,m a < m x) (hB:∀ b ∈ B,m x < m b):Asc m (A ++ x :: B):=by
 unfold Asc at *
 rw [List.pairwise_append] at h ⊢
 obtain ⟨h1,h2,h3⟩:=h
 refine ⟨h1,List.pairwise_cons.2 ⟨hB,h2⟩,fun a ha b hb => ?_⟩
 rcases List.mem_cons.1 hb with e | e
 ·rw [e]; exact hA a ha
 ·exact h3 a ha b e
theorem Asc.last {m:Nat→Int} {y:Nat} {A B:List Nat} (h:Asc m ((A ++ [y]) ++ B)) {t:Int} (hy:m y < t):∀ a ∈ A ++ [y],m a < t:=by
 unfold Asc at h
 rw [List.pairwise_append,List.pairwise_append] at h
 obtain ⟨⟨_,_,h3⟩,_,_⟩:=h
 intro a ha
 rcases List.mem_append.1 ha with e | e
 ·exact Int.lt_trans (h3 a e y (by simp)) hy
 ·rw [List.mem_singleton.1 e]; exact hy
theorem kvn_get {L:List Nat} {k x:Nat} (h:L[k]?=some x):(kv .i64 (L.map (fun (i:Nat) => (i:Int))))[k]?=some (.int .i64 (x:Int)):=by
 simp [kv,h]
theorem kvn_set (L:List Nat) (k x:Nat):(kv .i64 (L.map (fun (i:Nat) => (i:Int)))).set k (.int .i64 (x:Int))=kv .i64 ((L.set k x).map (fun (i:Nat) => (i:Int))):=by
 simp [kv,List.map_set]
theorem own_at {w:World} {B n:Nat} {v:Value} {L:List Nat} (h:w.ownsRow B 3 1 v n (kv .i64 (L.map (fun (i:Nat) => (i:Int))))) (hL:L.length=n) (h0:0 < n):∃ g cap,v=.slice (some ⟨g,0,none⟩) n cap∧n≤cap∧cap≤maxLen∧B≤g∧g < w.heap.size∧(∀ (k x:Nat),L[k]?=some x→w.cell? ⟨g,k,none⟩=some (.int .i64 (x:Int)))∧∀ k,w.frozen? ⟨g,k,none⟩=false:=by
 rcases h.2 with ⟨_,e⟩ | ⟨g,cap,cur,hv,hb,hg,hc,hm,_⟩
 ·omega
 ·subst hv
  have hl:=h.lt g rfl
  refine ⟨g,cap,rfl,hc,hm,hb,hl.2,fun k x hx => ?_,h.frozenAt⟩
  have hk:k < L.length:=(List.getElem?_eq_some_iff.1 hx).1
  exact (h.cellAt k (by omega)).trans (kvn_get hx)
theorem last_of {L:List Nat} {c:Nat} (h:L.length=c + 1):∃ A y,L=A ++ [y]∧A.length=c:=by
 refine ⟨L.dropLast,L.getLast (by intro e; rw [e] at h; simp at h),(List.dropLast_concat_getLast _).symm,by simp; omega⟩
set_option maxRecDepth 100000 in
set_option maxHeartbeats 6400000 in
theorem ref12_Order {w:World} {v:Value} {B:Nat} {mk:List Int} (hv:Sl w B 1 v mk.length (kv .i64 mk)) (hB:B≤w.heap.size) (hn:mk.length≤100000) (hd:∀ i j,i < mk.length→j < mk.length→0 < mk.getD i 0→mk.getD i 0=mk.getD j 0→i=j) :
  Calls Tryz.prog 40 #[v] w fun e w' => ∃ u R,e=.returned (.tuple #[u,.bool true])∧w'.ownsRow w.heap.size 3 1 u (R).length (kv .i64 ((R).map (fun (i:Nat) => (i:Int))))∧Asc (fun i => mk.getD i 0) R∧(∀ i,i ∈ R ↔ i < mk.length∧0 < mk.getD i 0)∧Below w.heap.size w w':=by
 obtain ⟨_,A,cap,rfl,hc1,hc2,hA⟩:=hv
 unfold maxLen at hc2
 have HA:Hid (∀ i,i < mk.length→∃ b off,A=some ⟨b,off,none⟩∧b < w.heap.size∧w.cell? ⟨b,off + i,none⟩=some (.int .i64 (mk.getD i 0))):=fun i hi => by
  obtain ⟨b,off,e,hb,hc⟩:=hA (by omega)
  exact ⟨b,off,e,by omega,(hc i (by omega)).trans (kv_getElem? .i64 mk i hi)⟩
 have HAll:Hid (∀ i j,i < mk.length→j < mk.length→∀ b off,A=some ⟨b,off,none⟩→w.cell? ⟨b,off + j,none⟩=some (.int .i64 (mk.getD j 0))):=fun i j hi hj b off e => by
  obtain ⟨b',off',e',_,hc⟩:=HA.out j hj
  rw [e] at e'
  injection e' with e'
  injection e' with e1 e2
  rw [e1,e2]; exact hc
 have HDT:=Lib.hid hd
 obtain ⟨m,hm⟩:∃ m:Nat→Int,m=fun i => mk.getD i 0:=⟨_,rfl⟩
 have hmi:∀ i,mk.getD i 0=m i:=fun i => by rw [hm]
 simp only [hmi] at HA HAll HDT ⊢
 obtain ⟨N,hN⟩:∃ N,N=mk.length:=⟨_,rfl⟩
 rw [← hN] at HA HAll HDT hn hc1 ⊢
 clear hA hd hm hmi hN
 go_enter Tryz.func40,Tryz.ntmps40
 go_wp2
 go_loopw [4,5] (fun out i wr => ∃ (k:Nat) (R:List Nat),k≤N∧i=.int .i64 k∧R.length≤k∧Hid (wr.ownsRow w.heap.size 3 1 out (R).length (kv .i64 ((R).map (fun (i:Nat) => (i:Int)))))∧Hid (Asc m R)∧Hid (∀ j,j ∈ R ↔ j < k∧0 < m j)∧Hid (Below w.heap.size w wr)) (fun _ i _ => N - (intOf i).toNat)
 case atStart => exact ⟨0,[],by omega,rfl,by simp,World.ownsRow_nil _ _ _ _,List.Pairwise.nil,fun j => by simp,Below.refl _ _⟩
 case round =>
  obtain ⟨k,R,hk,rfl,hRl,HO,HAS,HME,HB⟩:=hrel
  have g0:(0:Int)≤(k:Int):=Int.natCast_nonneg _
  by_cases hlt:k < N
  ·have g1:(k:Int) < (N:Int):=by omega
   have g2:(k:Int) < 100000:=by omega
   obtain ⟨b,off,rfl,hb,hck⟩:=HA.out k hlt
   have hck':=(HB.out.cell (p:=⟨b,off + k,none⟩) hb).trans hck
   by_cases hx:m k≤0
   ·go_wp2
    go_roundw
    case rel => exact ⟨k + 1,R,by omega,by go_num,by omega,HO.out,HAS.out,fun j => by
     rw [HME.out j]
     constructor
     ·rintro ⟨h1,h2⟩; exact ⟨by omega,h2⟩
     ·rintro ⟨h1,h2⟩
      refine ⟨?_,h2⟩
      rcases Nat.lt_or_ge j k with h3 | h3
      ·exact h3
      ·have:j=k:=by omega
       rw [this] at h2; omega,HB.out⟩
    case measure => simp [intOf]; omega
   ·have hsz:=HB.out.size
    have hRb:R.length≤100000:=by omega
    have HKV:Hid (kv .i64 ((R ++ [k]).map (fun (i:Nat) => (i:Int)))=kv .i64 (R.map (fun (i:Nat) => (i:Int))) ++ [.int .i64 (k:Int)]):=by show _=_; simp [kv]
    have HRL:Hid ((R ++ [k]).length=R.length + 1):=by show _=_; simp
    obtain ⟨A3,cq,hout,_,_⟩:=(Sl.of_own HO.out).form
    subst hout
    obtain ⟨r,hr⟩:∃ r,r=R.length:=⟨_,rfl⟩
    have hrb:r≤99999:=by omega
    have hrk:r≤k:=by omega
    rw [← hr] at HO HRL ⊢
    have HR:=Lib.hid hr
    clear hr hRl
    go_wp2_with (first
     | (at_builtin; refine wpList_apv _ rfl stInts _ _ rfl w.heap.size _ r _ rfl (HO.out.alloc _) _ _ 1 [.int .i64 (k:Int)] rfl (Sl.lit_at (by rfl) rfl (by decide)) (by simp [Value.oneCell']) (by omega) (by go_size) ?_; intro A4 c4 w9 hown9 hgr9 hat9 hbel9; clear hgr9 hat9))
    have HO9:Hid (w9.ownsRow w.heap.size 3 1 (.slice A4 (r + 1) c4) (R ++ [k]).length (kv .i64 ((R ++ [k]).map (fun (i:Nat) => (i:Int))))):=by rw [HKV.out,HRL.out]; exact hown9
    have HB9:Hid (Below w.heap.size w w9):=(HB.out.alloc hsz _).trans hbel9
    clear hown9 hbel9 HKV HO HB hck'
    have hl9:(R ++ [k]).length=r + 1:=HRL.out
    obtain ⟨g,c5,he,hg1,hg2,hg3,hg4,_,_⟩:=own_at (n:=r + 1) (by have:=HO9.out; rwa [hl9] at this) hl9 (by omega)
    injection he with e1 _ e2
    subst e1 e2
    unfold maxLen at hg2
    have HO9':Hid (w9.ownsRow w.heap.size 3 1 (.slice (some ⟨g,0,none⟩) (r + 1) c4) (r + 1) (kv .i64 ((R ++ [k]).map (fun (i:Nat) => (i:Int))))):=by have:=HO9.out; rwa [hl9] at this
    clear HO9 hl9
    go_wp2
    go_loopw [6] (fun kk wr => ∃ (c:Nat) (A0 Bx:List Nat),R=A0 ++ Bx∧kk=.int .i64 c∧A0.length=c∧Hid (wr.ownsRow w.heap.size 3 1 (.slice (some ⟨g,0,none⟩) (r + 1) c4) (r + 1) (kv .i64 ((A0 ++ k :: Bx).map (fun (i:Nat) => (i:Int)))))∧Hid (∀ b ∈ Bx,m k < m b)∧Hid (Below w.heap.size w wr)) (fun kk _ => (intOf kk).toNat)
    case atStart => exact ⟨r,R,[],by simp,rfl,HR.out.symm,HO9'.out,fun b hb => absurd hb (by simp),HB9.out⟩
    case round =>
     obtain ⟨c,A0,Bx,hR,rfl,hAl,HO,HBX,HB⟩:=hrel
     have c0:(0:Int)≤(c:Int):=Int.natCast_nonneg _
     have hAB:A0.length + Bx.length=r:=by have:=HR.out; rw [hR,List.length_append] at this; omega
     rcases Nat.eq_zero_or_pos c with hc0 | hc0
     ·subst hc0
      have hA0:A0=[]:=List.length_eq_zero_iff.1 hAl
      subst hA0
      have hR':R=Bx:=by simpa using hR
      go_wp2
      go_roundw
      case rel => exact ⟨k + 1,k :: Bx,by omega,by go_num,by have:=hAB; simp at this ⊢; omega,by have:=HO.out; simp only [List.nil_append] at this; rw [show (k :: Bx).length=r + 1 by simp at hAB ⊢; omega]; exact this,(by have:=HAS.out; rw [hR'] at this; exact Asc.ins (A:=[]) this (by simp) HBX.out),(fun j => by
       rw [List.mem_cons,← hR',HME.out j]
       constructor
       ·rintro (h1 | ⟨h1,h2⟩)
        ·rw [h1]; exact ⟨by omega,by omega⟩
        ·exact ⟨by omega,h2⟩
       ·rintro ⟨h1,h2⟩
        rcases (show j=k ∨ j < k by omega) with h3 | h3
        ·exact .inl h3
        ·exact .inr ⟨h3,h2⟩),HB.out⟩
      case measure => simp [intOf]; omega
     ·obtain ⟨c',rfl⟩:∃ c',c=c' + 1:=⟨c - 1,by omega⟩
      obtain ⟨A1,y,rfl,hA1⟩:=last_of hAl
      have hyR:y ∈ R:=by rw [hR]; simp
      obtain ⟨hy1,hy2⟩:=(HME.out y).1 hyR
      have hne:¬ m y=m k:=fun e => by have:=HDT.out y k (by omega) hlt hy2 e; omega
      have hcy:(wr.cell? ⟨b,off + y,none⟩)=some (.int .i64 (m y)):=(HB.out.cell (p:=⟨b,off + y,none⟩) hb).trans (HAll.out y y (by omega) (by omega) b off rfl)
      have hcx:(wr.cell? ⟨b,off + k,none⟩)=some (.int .i64 (m k)):=(HB.out.cell (p:=⟨b,off + k,none⟩) hb).trans hck
      have hll:((A1 ++ [y]) ++ k :: Bx).length=r + 1:=by simp at hAB ⊢; omega
      obtain ⟨g',c5',he,_,_,_,hgl,hat,hfr⟩:=own_at HO.out hll (by omega)
      injection he with e1 _ e2
      injection e1 with e1
      injection e1 with e1
      subst e1 e2
      have d0:=hat c' y (by rw [List.append_assoc,List.getElem?_append_right (by omega),hA1]; simp)
      have d1:=hat (c' + 1) k (by rw [List.append_assoc,List.getElem?_append_right (by omega),show c' + 1 - A1.length=1 by omega]; simp)
      have f0:=hfr c'
      have f1:=hfr (c' + 1)
      have hcr:c' + 1≤r:=by omega
      have x0:(0:Int)≤(c':Int):=Int.natCast_nonneg _
      have x1:(c':Int) < 100000:=by omega
      have x2:(c':Int) + 1 < (r:Int) + 1:=by omega
      have x2':(c':Int) < (r:Int) + 1:=by omega
      have y0:(0:Int)≤(y:Int):=Int.natCast_nonneg _
      have y1:(y:Int) < (N:Int):=by omega
      have q0:((m y:Int) == m k)=false:=by simpa using hne
      have q1:(0:Int) < (c':Int) + 1:=by omega
      clear hat hfr hck
      by_cases hlt2:m y < m k
      ·go_wp2_with fail
       go_quiet (fail)
       go_wp2_with fail
       go_quiet (fail)
       go_wp2
       go_roundw
       case rel => exact ⟨k + 1,(A1 ++ [y]) ++ k :: Bx,by omega,by go_num,by rw [hll]; omega,by rw [hll]; exact own_below HO.out (below_drewN (Below.refl _ _) _),(by have:=HAS.out; rw [hR] at this; exact Asc.ins this (Asc.last this hlt2) HBX.out),(fun j => by
        rw [List.mem_append,List.mem_cons]
        have h0:=HME.out j
        rw [hR,List.mem_append] at h0
        constructor
        ·rintro (h1 | h1 | h1)
         ·have:=h0.1 (.inl h1); exact ⟨by omega,this.2⟩
         ·rw [h1]; exact ⟨by omega,by omega⟩
         ·have:=h0.1 (.inr h1); exact ⟨by omega,this.2⟩
        ·rintro ⟨h1,h2⟩
         rcases (show j=k ∨ j < k by omega) with h3 | h3
         ·exact .inr (.inl h3)
         ·rcases h0.2 ⟨h3,h2⟩ with h4 | h4
          ·exact .inl h4
          ·exact .inr (.inr h4)),below_drewN HB.out _⟩
       case measure => simp [intOf]; omega
      ·have HSWW:Hid (∀ nq,(((wr.drewN nq).setCell ⟨g,c',none⟩ (.int .i64 (k:Int))).setCell ⟨g,c' + 1,none⟩ (.int .i64 (y:Int))).ownsRow w.heap.size 3 1 (.slice (some ⟨g,0,none⟩) (r + 1) c4) (r + 1) (kv .i64 ((A1 ++ k :: y :: Bx).map (fun (i:Nat) => (i:Int))))):=fun nq => by
        have h1:=((own_below HO.out (below_drewN (Below.refl wr.heap.size wr) nq)).stored c' (.int .i64 (k:Int))).1
        have h2:=(h1.stored (c' + 1) (.int .i64 (y:Int))).1
        rw [kvn_set,kvn_set] at h2
        have e:(((A1 ++ [y]) ++ k :: Bx).set c' k).set (c' + 1) y=A1 ++ k :: y :: Bx:=by
         rw [List.append_assoc,List.set_append_right _ _ (by omega),List.set_append_right _ _ (by omega),hA1,show c' + 1 - c'=1 by omega]
         simp
        rw [e] at h2
        exact h2
       have HBSWW:Hid (∀ nq,Below w.heap.size w (((wr.drewN nq).setCell ⟨g,c',none⟩ (.int .i64 (k:Int))).setCell ⟨g,c' + 1,none⟩ (.int .i64 (y:Int)))):=fun nq => ((below_drewN HB.out nq).setCell hg3 _).setCell hg3 _
       have HBX':Hid (∀ b ∈ y :: Bx,m k < m b):=fun b hb => by
        rcases List.mem_cons.1 hb with e | e
        ·rw [e]; omega
        ·exact HBX.out b e
       clear hne hyR hy1 hy2 c0 q1 hAB hx
       generalize m y=my at *
       generalize m k=mk0 at *
       have hl2:decide (my < mk0)=false:=decide_eq_false hlt2
       have HRX:=Lib.hid hR
       have HA1X:=Lib.hid hA1
       clear hlt2 hR hA1 hAl
       have x3:(0:Int)≤(c':Int) + 1:=by omega
       have x4:IntKind.i64.wrap (c':Int)=(c':Int):=IntWalk.i64_in _ (by omega)
       have x5:wrap64 (c':Int)=(c':Int):=IntWalk.wrap64_in _ (by omega)
       go_wp2_with fail
       go_quiet (fail)
       go_wp2_with fail
       go_quiet (fail)
       go_wp2_with fail
       refine wp_region_held_drew (S:=fun _ => True) (by kernel_rfl) ?_ (fun hHeld => ?_)
       ·trivial
       refine tkR 0 rfl ?_
       refine tkR 1 rfl ?_
       refine tkR 2 rfl ?_
       refine tkR 3 rfl ?_
       refine tkR 4 rfl ?_
       refine tkR 5 rfl ?_
       refine tkR 6 rfl ?_
       refine tkR 7 rfl ?_
       refine tkR 9 rfl ?_
       refine tkR 10 rfl ?_
       refine tkR 11 rfl ?_
       refine tkR 12 rfl ?_
       refine wpAnyH_ready (rs:=[8,13]) (by kernel_rfl) (by simp) ?_
       refine (acR rfl (fun K hK => ?_) (acR rfl (fun K hK => ?_) AllReadyH.nil))
       ·go_simp
        refine hK.out _ _ ?_ (fun hHeld => ?_)
        ·(try dsimp only)
         all_goals trivial
        clear hK K
        (try simp only [Act.put,sqA,sqB,sqC])
        refine wpAnyH_ready (rs:=[13]) (by kernel_rfl) (by simp) ?_
        refine (acR rfl (fun K hK => ?_) AllReadyH.nil)
        go_simp
        refine hK.out _ _ ?_ (fun hHeld => ?_)
        ·(try dsimp only)
         all_goals trivial
        clear hK K
        refine tkR 14 rfl ?_
        refine wpAnyH_ready (rs:=[15]) (by kernel_rfl) (by simp) ?_
        refine (acR rfl (fun K hK => ?_) AllReadyH.nil)
        go_simp
        refine hK.out _ _ ?_ (fun hHeld => ?_)
        ·(try dsimp only)
         all_goals trivial
        clear hK K
        refine tkR 16 rfl ?_
        refine wpAnyH_ready (rs:=[17]) (by kernel_rfl) (by simp) ?_
        refine (acR rfl (fun K hK => ?_) AllReadyH.nil)
        go_simp
        refine hK.out _ _ ?_ (fun hHeld => ?_)
        ·(try dsimp only)
         all_goals trivial
        clear hK K
        (try simp only [Act.put,sqA,sqB,sqC])
        refine wpAnyH_done (by kernel_rfl) ?_ _
        go_wp2
        go_roundw
        case rel => exact ⟨c',A1,y :: Bx,(HRX.out.trans (List.append_assoc _ _ _)),by go_num,HA1X.out,HSWW.out _,HBX'.out,HBSWW.out _⟩
        case measure => simp [intOf]
       ·go_simp
        refine hK.out _ _ ?_ (fun hHeld => ?_)
        ·(try dsimp only)
         all_goals trivial
        clear hK K
        (try simp only [Act.put,sqA,sqB,sqC])
        refine wpAnyH_ready (rs:=[8]) (by kernel_rfl) (by simp) ?_
        refine (acR rfl (fun K hK => ?_) AllReadyH.nil)
        go_simp
        refine hK.out _ _ ?_ (fun hHeld => ?_)
        ·(try dsimp only)
         all_goals trivial
        clear hK K
        refine tkR 14 rfl ?_
        refine wpAnyH_ready (rs:=[15]) (by kernel_rfl) (by simp) ?_
        refine (acR rfl (fun K hK => ?_) AllReadyH.nil)
        go_simp
        refine hK.out _ _ ?_ (fun hHeld => ?_)
        ·(try dsimp only)
         all_goals trivial
        clear hK K
        refine tkR 16 rfl ?_
        refine wpAnyH_ready (rs:=[17]) (by kernel_rfl) (by simp) ?_
        refine (acR rfl (fun K hK => ?_) AllReadyH.nil)
        go_simp
        refine hK.out _ _ ?_ (fun hHeld => ?_)
        ·(try dsimp only)
         all_goals trivial
        clear hK K
        (try simp only [Act.put,sqA,sqB,sqC])
        refine wpAnyH_done (by kernel_rfl) ?_ _
        go_wp2
        go_roundw
        case rel => exact ⟨c',A1,y :: Bx,(HRX.out.trans (List.append_assoc _ _ _)),by go_num,HA1X.out,HSWW.out _,HBX'.out,HBSWW.out _⟩
        case measure => simp [intOf]
  ·have hkN:N=k:=by omega
   subst hkN
   go_wp2
   go_ret2
   exact ⟨_,R,rfl,HO.out,HAS.out,HME.out,HB.out⟩
end Go.Proofs.YthloabdfkakehaaGreat
