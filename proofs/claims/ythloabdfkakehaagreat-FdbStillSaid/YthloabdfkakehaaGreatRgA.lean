/-
  Words and contracts that a statement's proof rests on (RgA, FgA, BuN). No statement is proved here.
-/
import Derived.Test.YthloabdfkakehaaGreatMemB
import Derived.Test.YthloabdfkakehaaGreatBuC
import Derived.Test.YthloabdfkakehaaGreatKeyR
import Derived.Test.YthloabdfkakehaaGreatSlotC
set_option linter.unusedVariables false
set_option linter.unusedSimpArgs false
namespace Go.Proofs.YthloabdfkakehaaGreat
section
open Go.RowKit
structure Tch (D:Nat→Prop) (w w':World):Prop where
 os:w'.os=w.os
 tape:w'.tape=w.tape
 output:w'.output=w.output
 size:w.heap.size≤w'.heap.size
 block:∀ k,k < w.heap.size→¬ D k→w'.heap[k]?=w.heap[k]?
theorem Tch.refl (D:Nat→Prop) (w:World):Tch D w w:=⟨rfl,rfl,rfl,Nat.le_refl _,fun _ _ _ => rfl⟩
theorem Tch.trans {D:Nat→Prop} {a b c:World} (h:Tch D a b) (k:Tch D b c):Tch D a c :=
 ⟨k.os.trans h.os,k.tape.trans h.tape,k.output.trans h.output,Nat.le_trans h.size k.size,fun i hi hn => (k.block i (Nat.lt_of_lt_of_le hi h.size) hn).trans (h.block i hi hn)⟩
theorem Tch.mono {D E:Nat→Prop} {a b:World} (h:Tch D a b) (hd:∀ k,k < a.heap.size→D k→E k):Tch E a b :=
 ⟨h.os,h.tape,h.output,h.size,fun i hi hn => h.block i hi fun hk => hn (hd i hi hk)⟩
theorem Tch.of_below {D:Nat→Prop} {w w':World} (h:Below w.heap.size w w'):Tch D w w':=⟨h.os,h.tape,h.output,h.size,fun k hk _ => h.block k hk⟩
theorem Tch.of_touch {D:Nat→Prop} {lo:Nat} {w w':World} (h:Touch lo w w') (hd:∀ k,lo≤k→k < lo + 3→D k):Tch D w w' :=
 ⟨h.os,h.tape,h.output,h.size,fun k hk hn => h.block k hk (by
  rcases Nat.lt_or_ge k lo with h1 | h1
  ·exact .inl h1
  ·rcases Nat.lt_or_ge k (lo + 3) with h2 | h2
   ·exact absurd (hd k h1 h2) hn
   ·exact .inr h2)⟩
theorem Tch.setCell {D:Nat→Prop} {a w:World} (h:Tch D a w) {p:Addr} (hp:D p.block) (u:Value):Tch D a (w.setCell p u) :=
 h.trans ⟨rfl,rfl,rfl,by simp [World.setCell],fun k hk hn => Below.heap_setCell _ _ _ _ (by intro e; exact hn (by rw [e]; exact hp))⟩
theorem Tch.alloc {D:Nat→Prop} {a w:World} (h:Tch D a w) (o:Obj):Tch D a (w.alloc o):=h.trans (Tch.of_below ((Below.refl _ _).alloc (Nat.le_refl _) o))
theorem Tch.drewN {D:Nat→Prop} {a w:World} (h:Tch D a w) (n:Nat):Tch D a (w.drewN n):=h.trans (Tch.of_below (below_drewN (Below.refl _ _) n))
theorem Tch.below {D:Nat→Prop} {B:Nat} {W w w':World} (h:Tch D w w') (hb:Below B W w) (hB:∀ k,D k→B≤k) (hB2:B≤w.heap.size):Below B W w' :=
 hb.trans ⟨h.os,h.tape,h.output,h.size,fun k hk => h.block k (by omega) (fun hd => by have:=hB k hd; omega)⟩
theorem Tch.cell {D:Nat→Prop} {w w':World} (h:Tch D w w') {p:Addr} (hp:p.block < w.heap.size) (hd:¬ D p.block):w'.cell? p=w.cell? p :=
 World.cell?_of_block (w:=w) (h.block p.block hp hd)
theorem rowIs_tch {D:Nat→Prop} {w w':World} {g M:Nat} {T:TypeId} {f:Nat→Value} (h:w.rowIs g T M f) (ht:Tch D w w') (hd:¬ D g):w'.rowIs g T M f:=h.of_block (ht.block g h.lt hd)
theorem MemAt.tch {D:Nat→Prop} {w w':World} {T:TypeId} {lo b:Nat} {s:MemS} (h:MemAt w T lo b s) (ht:Tch D w w') (hd:∀ k,lo≤k→k < lo + 3→¬ D k):MemAt w' T lo b s:=by
 obtain ⟨bc,bl,h⟩:=h
 exact ⟨bc,bl,h.of_blocks fun k h1 h2 hk => ht.block k hk (hd k h1 h2)⟩
theorem own_tch {D:Nat→Prop} {w w':World} {B size n:Nat} {e:TypeId} {v:Value} {xs:List Value} (h:w.ownsRow B e size v n xs) (ht:Tch D w w') (hd:∀ k,v.ownBlock=some k→¬ D k):w'.ownsRow B e size v n xs:=by
 obtain ⟨h1,h2⟩:=h
 refine ⟨h1,?_⟩
 rcases h2 with h2 | ⟨g,cap,cur,hv,hb,hg,rest⟩
 ·exact .inl h2
 ·have hlt:g < w.heap.size:=by
   rcases Nat.lt_or_ge g w.heap.size with h | h
   ·exact h
   ·rw [Array.getElem?_eq_none h] at hg; simp at hg
  exact .inr ⟨g,cap,cur,hv,hb,(ht.block g hlt (hd g (by rw [hv]; rfl))).trans hg,rest⟩
theorem hasC_k {s:MemS} {k:Nat} (hk:k < s.C):hasC s (k:Int)=true:=hasC_iff.2 ⟨by omega,by omega⟩
theorem loadS_k {s:MemS} {k:Nat} (hk:k < s.C):loadS s (k:Int)=tickS s:=by unfold loadS; rw [if_pos (hasC_k hk)]
theorem peekS_k {s:MemS} {k:Nat} (hk:k < s.C):peekS s (k:Int)=s.c k:=by unfold peekS; rw [if_pos (hasC_k hk),Int.toNat_natCast]
theorem storeS_k {s:MemS} {k:Nat} (hk:k < s.C) (v:Int):storeS s (k:Int) v=putC (tickS s) k v:=by unfold storeS; rw [if_pos (hasC_k hk),Int.toNat_natCast]
end
section
open Go.RowKit
theorem Tch.ofGrown {w w':World} {D:Nat→Prop} {row:Option Nat} (h:w.grownBy w' row) (hd:∀ k,row=some k→D k):Tch D w w' :=
 ⟨h.os,h.tape,h.output,h.size,fun k hk hn => h.block k hk fun e => hn (hd k e.symm)⟩
structure RowV where
 T:TypeId
 z:Nat
 v:Value
 n:Nat
 l:List Value
structure RowsIn (w:World) (L:Nat) (K:Nat) (R:Nat→RowV):Prop where
 own:∀ k,k < K→w.ownsRow L (R k).T (R k).z (R k).v (R k).n (R k).l
 dis:∀ k j,k < K→j < K→k ≠ j→∀ x,(R k).v.ownBlock=some x→(R j).v.ownBlock ≠ some x
def updV (R:Nat→RowV) (k:Nat) (r:RowV) (j:Nat):RowV:=if j=k then r else R j
theorem updV_same (R:Nat→RowV) (k:Nat) (r:RowV):updV R k r k=r:=if_pos rfl
theorem updV_other (R:Nat→RowV) {k j:Nat} (r:RowV) (h:j ≠ k):updV R k r j=R j:=if_neg h
def RowD (K:Nat) (R:Nat→RowV) (x:Nat):Prop:=∃ k,k < K∧(R k).v.ownBlock=some x
section
variable {w w':World} {L K:Nat} {R:Nat→RowV}
theorem RowsIn.lt (h:RowsIn w L K R) {x:Nat} (hx:RowD K R x):L≤x∧x < w.heap.size:=by
 obtain ⟨k,hk,e⟩:=hx
 exact (h.own k hk).lt x e
theorem RowsIn.tch {D:Nat→Prop} (h:RowsIn w L K R) (ht:Tch D w w') (hd:∀ x,RowD K R x→¬ D x):RowsIn w' L K R :=
 ⟨fun k hk => own_tch (h.own k hk) ht fun x hx => hd x ⟨k,hk,hx⟩,h.dis⟩
theorem RowsIn.below (h:RowsIn w L K R) (hb:Below w.heap.size w w'):RowsIn w' L K R:=h.tch (D:=fun _ => False) (Tch.of_below hb) fun _ _ h => h
theorem RowsIn.congr {R':Nat→RowV} (h:RowsIn w L K R) (e:∀ k,k < K→R' k=R k):RowsIn w L K R' :=
 ⟨fun k hk => by rw [e k hk]; exact h.own k hk,fun k j hk hj hne x hx => by rw [e k hk] at hx; rw [e j hj]; exact h.dis k j hk hj hne x hx⟩
theorem RowsIn.set (h:RowsIn w L K R) {k:Nat} (hk:k < K) {T:TypeId} {z n g cap:Nat} {l:List Value} (hr:R k=⟨T,z,.slice (some ⟨g,0,none⟩) n cap,n,l⟩) (j:Nat) (u:Value) :
  RowsIn (w.setCell ⟨g,j,none⟩ u) L K (updV R k ⟨T,z,.slice (some ⟨g,0,none⟩) n cap,n,l.set j u⟩)∧Tch (RowD K R) w (w.setCell ⟨g,j,none⟩ u):=by
 have hown:=h.own k hk
 rw [hr] at hown
 have hg:(R k).v.ownBlock=some g:=by rw [hr]; rfl
 have ht:Tch (fun x => x=g) w (w.setCell ⟨g,j,none⟩ u):=Tch.setCell (D:=fun x => x=g) (Tch.refl _ w) (p:=⟨g,j,none⟩) rfl u
 refine ⟨⟨fun i hi => ?_,fun i i' hi hi' hne x hx => ?_⟩,ht.mono fun x _ hx => ⟨k,hk,by rw [hg,hx]⟩⟩
 ·by_cases e:i=k
  ·rw [e,updV_same]; exact (hown.stored j u).1
  ·rw [updV_other _ _ e]
   exact own_tch (h.own i hi) ht fun x hx e2 => h.dis i k hi hk e x hx (by rw [hg,e2])
 ·by_cases e:i=k
  ·rw [e,updV_same] at hx
   rw [updV_other _ _ (by omega)]
   exact h.dis k i' hk hi' (by omega) x (by rw [hg]; exact hx)
  ·rw [updV_other _ _ e] at hx
   by_cases e':i'=k
   ·rw [e',updV_same]
    intro e2
    exact h.dis i k hi hk e x hx (by rw [hg]; exact e2)
   ·rw [updV_other _ _ e']
    exact h.dis i i' hi hi' hne x hx
theorem RowsIn.app (h:RowsIn w L K R) {k:Nat} (hk:k < K) {T:TypeId} {z n n':Nat} {v v':Value} {l l':List Value} (hr:R k=⟨T,z,v,n,l⟩) {o:Obj} (how:w'.ownsRow L T z v' n' l') (hg:(w.alloc o).grownBy w' v.ownBlock) (hl:v'.ownBlock=v.ownBlock ∨ v'.ownBlock=some (w.alloc o).heap.size) :
  RowsIn w' L K (updV R k ⟨T,z,v',n',l'⟩)∧Tch (RowD K R) w w':=by
 have hv:(R k).v=v:=by rw [hr]
 have hT:Tch (fun y => v.ownBlock=some y) w w':=(Tch.of_below ((Below.refl _ _).alloc (Nat.le_refl _) o)).trans ((Tch.ofGrown hg fun j hj => hj).mono fun y _ hy => hy)
 have hkey:∀ i x,i < K→i ≠ k→(R i).v.ownBlock=some x→v'.ownBlock ≠ some x:=fun i x hi hne h1 e => by
  rcases hl with hl | hl
  ·exact h.dis i k hi hk hne x h1 (by rw [hv,← hl]; exact e)
  ·rw [hl] at e
   have:=((h.own i hi).lt x h1).2
   injection e with e
   have e3:=(World.size_alloc w o)
   omega
 refine ⟨⟨fun i hi => ?_,fun i i' hi hi' hne x hx => ?_⟩,hT.mono fun x _ hx => ⟨k,hk,by rw [hv]; exact hx⟩⟩
 ·by_cases e:i=k
  ·rw [e,updV_same]; exact how
  ·rw [updV_other _ _ e]
   exact own_tch (h.own i hi) hT fun x hx e2 => h.dis i k hi hk e x hx (by rw [hv]; exact e2)
 ·by_cases e:i=k
  ·rw [e,updV_same] at hx
   rw [updV_other _ _ (by omega)]
   exact fun e2 => hkey i' x hi' (by omega) e2 hx
  ·rw [updV_other _ _ e] at hx
   by_cases e':i'=k
   ·rw [e',updV_same]
    exact hkey i x hi e hx
   ·rw [updV_other _ _ e']
    exact h.dis i i' hi hi' hne x hx
end
end
section
open Go.RowKit
set_option maxHeartbeats 3200000 in
theorem law10_From {f:Nat→Pl} {n:Nat} {y:Value} {w:World} {B:Nat} (hn:n≤1000000) (hv:PlRow w B y n f) (hB:B≤w.heap.size) :
  Calls Tryz.prog 52 #[y] w (Gives 123 n f id w):=by
 obtain ⟨A,cap,rfl,h1,h2,h3⟩:=hv
 have HC:=Lib.hid h3
 have HCAP:=Lib.hid h1
 unfold maxLen at h2
 clear h3
 go_enter Tryz.func52,Tryz.ntmps52
 go_wp2
 go_loopw [3,4] (fun out i wr => ∃ k:Nat,k≤n∧i=.int .i64 k∧Hid (wr.ownsRow w.heap.size 123 6 out k (plc (listP f k)))∧Hid (Below w.heap.size w wr)) (fun _ i _ => n - (intOf i).toNat)
 case atStart => exact ⟨0,by omega,rfl,⟨by simp [plc,listP],.inl ⟨rfl,rfl⟩⟩,Below.refl _ _⟩
 case round =>
  obtain ⟨k,hk,rfl,HO,HB⟩:=hrel
  have hzw:=HB.out.size
  by_cases hlt:k < n
  ·obtain ⟨b,off,rfl,hb,hc⟩:=HC.out (by omega)
   have g0:(0:Int)≤(k:Int):=Int.natCast_nonneg _
   have g1:(k:Int) < (n:Int):=by omega
   have hcx:=(hc k hlt).keep (w':=wr) fun p hp => HB.out.cell (by rw [hp]; omega)
   have HX:Hid (∀ x,f k=x→plc (listP f (k + 1))=plc (listP f k) ++ x.cells):=fun x hx => by
    rw [listP_succ,plc_append,plc_one1,← hx]
   obtain ⟨x,hx⟩:∃ x,x=f k:=⟨_,rfl⟩
   rw [← hx] at hcx HX
   have HX:=Lib.hid (HX.out x rfl)
   clear hx
   obtain ⟨u,⟨a,q,p,st,s⟩⟩:=x
   obtain ⟨c0',c1',c2',c3',c4',c5'⟩:=hcx
   have c0:wr.cell? ⟨b,off + k * 6,none⟩=some (.bool u):=c0'
   have c1:wr.cell? ⟨b,off + k * 6 + 1,none⟩=some (.int .i64 a):=c1'
   have c2:wr.cell? ⟨b,off + k * 6 + 2,none⟩=some (.int .u64 (q:Int)):=c2'
   have c3:wr.cell? ⟨b,off + k * 6 + 3,none⟩=some (.int .i64 p):=c3'
   have c4:wr.cell? ⟨b,off + k * 6 + 4,none⟩=some (.bool st):=c4'
   have c5:wr.cell? ⟨b,off + k * 6 + 5,none⟩=some (.int .u32 (s:Int)):=c5'
   clear c0' c1' c2' c3' c4' c5'
   have hbr:b < wr.heap.size:=by omega
   have hbw:b < w.heap.size:=by omega
   have HTO:=Lib.hid fun W => law9_From a (q:Int) p st (s:Int) W
   clear hc HC
   go_wp2_with fail
   refine wp_region_held_drew (S:=fun w' => w'.cell? ⟨b,off + k * 6,none⟩=some (.bool u)∧w'.cell? ⟨b,off + k * 6 + 1,none⟩=some (.int .i64 a)∧w'.cell? ⟨b,off + k * 6 + 2,none⟩=some (.int .u64 (q:Int))∧w'.cell? ⟨b,off + k * 6 + 3,none⟩=some (.int .i64 p)∧w'.cell? ⟨b,off + k * 6 + 4,none⟩=some (.bool st)∧w'.cell? ⟨b,off + k * 6 + 5,none⟩=some (.int .u32 (s:Int))) (by kernel_rfl) ?_ (fun hHeld => ?_)
   ·exact ⟨c0,c1,c2,c3,c4,c5⟩
   refine tkR 0 rfl ?_
   refine tkR 1 rfl ?_
   refine tkR 2 rfl ?_
   refine tkR 3 rfl ?_
   refine tkR 4 rfl ?_
   refine tkR 5 rfl ?_
   refine tkR 6 rfl ?_
   refine tkR 7 rfl ?_
   refine tkR 8 rfl ?_
   refine tkR 9 rfl ?_
   refine tkR 10 rfl ?_
   refine clR 11 rfl fun K hK => ?_
   go_simp
   refine Calls.mono (HTO.out _) ?_
   rintro e w4 ⟨rfl,hb4⟩
   have hbd:Below wr.heap.size wr w4:=((Below.refl wr.heap.size wr).drew).trans hb4
   have HO4:=Lib.hid (own_below HO.out hbd)
   have HB4:=Lib.hid (HB.out.trans (hbd.mono hzw))
   have hz4:=hbd.size
   refine hK.out _ _ ?_ (fun hHeld => ?_)
   ·(try dsimp only)
    obtain ⟨c0,c1,c2,c3,c4,c5⟩:=hHeld
    obtain ⟨hcc,_⟩:=bcell hb4
    exact ⟨(hcc _ _ (by go_size)).trans c0,(hcc _ _ (by go_size)).trans c1,(hcc _ _ (by go_size)).trans c2,(hcc _ _ (by go_size)).trans c3,(hcc _ _ (by go_size)).trans c4,(hcc _ _ (by go_size)).trans c5⟩
   clear hK K
   refine tkR 12 rfl ?_
   refine clR 13 rfl fun K hK => ?_
   go_simp
   refine hK.out _ _ ?_ (fun hHeld => ?_)
   ·(try dsimp only)
    obtain ⟨c0,c1,c2,c3,c4,c5⟩:=hHeld
    exact ⟨(World.cell?_alloc_lt _ _ _ (by show b < _; omega)).trans c0,(World.cell?_alloc_lt _ _ _ (by show b < _; omega)).trans c1,(World.cell?_alloc_lt _ _ _ (by show b < _; omega)).trans c2,(World.cell?_alloc_lt _ _ _ (by show b < _; omega)).trans c3,(World.cell?_alloc_lt _ _ _ (by show b < _; omega)).trans c4,(World.cell?_alloc_lt _ _ _ (by show b < _; omega)).trans c5⟩
   clear hK K
   (try simp only [Act.put,sqA,sqB,sqC])
   refine clR 14 rfl fun K hK => ?_
   refine step_app _ (by rfl) stPlacesR _ _ (by rfl) w.heap.size _ k _ (by rfl) (own_below HO4.out ((Below.refl _ _).alloc (Nat.le_refl _) (.cells #[.bool u,.int .i64 a,.int .u64 (q:Int),.int .i64 p,.bool st,.int .u32 (s:Int)] 123))) (w4.heap.size + 1) _ 1 [.bool u,.int .i64 a,.int .u64 (q:Int),.int .i64 p,.bool st,.int .u32 (s:Int)] (by rfl) (litN6 w4 #[.bool u,.int .i64 a,.int .u64 (q:Int),.int .i64 p,.bool st,.int .u32 (s:Int)] _ rfl) (by simp [Value.oneCell']) (by omega) (by simp; omega) ?_
   intro v2 w2 hown2 hgr2 hat2 hbel2
   clear hgr2 hat2
   refine hK.out _ _ ?_ (fun hHeld => ?_)
   ·(try dsimp only)
    obtain ⟨c0,c1,c2,c3,c4,c5⟩:=hHeld
    obtain ⟨hcc,_⟩:=bcell hbel2
    exact ⟨(hcc _ _ (by omega)).trans c0,(hcc _ _ (by omega)).trans c1,(hcc _ _ (by omega)).trans c2,(hcc _ _ (by omega)).trans c3,(hcc _ _ (by omega)).trans c4,(hcc _ _ (by omega)).trans c5⟩
   clear hK K
   refine tkR 15 rfl ?_
   refine wpAnyH_done (by kernel_rfl) ?_ _
   have HO2:Hid (w2.ownsRow w.heap.size 123 6 v2 (k + 1) (plc (listP f (k + 1)))):=by
    rw [HX.out]; exact hown2
   have HB2:Hid (Below w.heap.size w w2):=(HB4.out.alloc (by omega) _).trans hbel2
   clear hown2 hbel2
   go_wp2
   go_roundw
   case rel => exact ⟨k + 1,by omega,by go_num,HO2.out,HB2.out⟩
   case measure => simp [intOf]; omega
  ·have:k=n:=by omega
   subst this
   go_wp2
   go_ret
   exact ⟨_,rfl,RowOf.of_own HO.out,HB.out⟩
set_option maxHeartbeats 3200000 in
theorem ref10_SameEq {f:Nat→Pl} {n:Nat} {y z:Value} {w:World} {B B2:Nat} (hy:PlRow w B y n f) (hz:PlRow w B2 z n f) :
  Calls Tryz.prog 51 #[y,z] w (Says (.bool true) w):=by
 obtain ⟨A,cap,rfl,h1,h2,h3⟩:=hy
 obtain ⟨A2,cap2,rfl,h4,h5,h6⟩:=hz
 have HC:=Lib.hid h3
 have HD:=Lib.hid h6
 unfold maxLen at h2 h5
 have hne:((n:Int) != (n:Int))=false:=by simp
 clear h3 h6
 go_enter Tryz.func51,Tryz.ntmps51
 go_wp2
 clear hne
 go_loopw [5] (fun i wr => ∃ k:Nat,k≤n∧i=.int .i64 k∧∃ m,wr=w.drewN m) (fun i _ => n - (intOf i).toNat)
 case atStart => exact ⟨0,by omega,rfl,0,rfl⟩
 case round =>
  obtain ⟨k,hk,rfl,m,rfl⟩:=hrel
  by_cases hlt:k < n
  ·obtain ⟨b,off,rfl,hb,hc⟩:=HC.out (by omega)
   obtain ⟨b2,off2,rfl,hb2,hc2⟩:=HD.out (by omega)
   have g0:(0:Int)≤(k:Int):=Int.natCast_nonneg _
   have g1:(k:Int) < (n:Int):=by omega
   have hcx:=hc k hlt
   have hdx:=hc2 k hlt
   obtain ⟨x,hx⟩:∃ x,x=f k:=⟨_,rfl⟩
   rw [← hx] at hcx hdx
   clear hx
   obtain ⟨u,⟨a,q,p,st,s⟩⟩:=x
   obtain ⟨c0',c1',c2',c3',c4',c5'⟩:=hcx
   have c0:(w.drewN m).cell? ⟨b,off + k * 6,none⟩=some (.bool u):=c0'
   have c1:(w.drewN m).cell? ⟨b,off + k * 6 + 1,none⟩=some (.int .i64 a):=c1'
   have c2:(w.drewN m).cell? ⟨b,off + k * 6 + 2,none⟩=some (.int .u64 (q:Int)):=c2'
   have c3:(w.drewN m).cell? ⟨b,off + k * 6 + 3,none⟩=some (.int .i64 p):=c3'
   have c4:(w.drewN m).cell? ⟨b,off + k * 6 + 4,none⟩=some (.bool st):=c4'
   have c5:(w.drewN m).cell? ⟨b,off + k * 6 + 5,none⟩=some (.int .u32 (s:Int)):=c5'
   clear c0' c1' c2' c3' c4' c5'
   obtain ⟨d0',d1',d2',d3',d4',d5'⟩:=hdx
   have d0:(w.drewN m).cell? ⟨b2,off2 + k * 6,none⟩=some (.bool u):=d0'
   have d1:(w.drewN m).cell? ⟨b2,off2 + k * 6 + 1,none⟩=some (.int .i64 a):=d1'
   have d2:(w.drewN m).cell? ⟨b2,off2 + k * 6 + 2,none⟩=some (.int .u64 (q:Int)):=d2'
   have d3:(w.drewN m).cell? ⟨b2,off2 + k * 6 + 3,none⟩=some (.int .i64 p):=d3'
   have d4:(w.drewN m).cell? ⟨b2,off2 + k * 6 + 4,none⟩=some (.bool st):=d4'
   have d5:(w.drewN m).cell? ⟨b2,off2 + k * 6 + 5,none⟩=some (.int .u32 (s:Int)):=d5'
   clear d0' d1' d2' d3' d4' d5'
   clear hc HC hc2 HD
   go_wp2_with fail
   refine wp_region_held_drew (S:=fun w' => w'.cell? ⟨b,off + k * 6,none⟩=some (.bool u)∧w'.cell? ⟨b,off + k * 6 + 1,none⟩=some (.int .i64 a)∧w'.cell? ⟨b,off + k * 6 + 2,none⟩=some (.int .u64 (q:Int))∧w'.cell? ⟨b,off + k * 6 + 3,none⟩=some (.int .i64 p)∧w'.cell? ⟨b,off + k * 6 + 4,none⟩=some (.bool st)∧w'.cell? ⟨b,off + k * 6 + 5,none⟩=some (.int .u32 (s:Int))∧w'.cell? ⟨b2,off2 + k * 6,none⟩=some (.bool u)∧w'.cell? ⟨b2,off2 + k * 6 + 1,none⟩=some (.int .i64 a)∧w'.cell? ⟨b2,off2 + k * 6 + 2,none⟩=some (.int .u64 (q:Int))∧w'.cell? ⟨b2,off2 + k * 6 + 3,none⟩=some (.int .i64 p)∧w'.cell? ⟨b2,off2 + k * 6 + 4,none⟩=some (.bool st)∧w'.cell? ⟨b2,off2 + k * 6 + 5,none⟩=some (.int .u32 (s:Int))) (by kernel_rfl) ?_ (fun hHeld => ?_)
   ·exact ⟨c0,c1,c2,c3,c4,c5,d0,d1,d2,d3,d4,d5⟩
   refine tkR 0 rfl ?_
   refine tkR 1 rfl ?_
   refine tkR 2 rfl ?_
   refine tkR 3 rfl ?_
   refine tkR 4 rfl ?_
   refine tkR 5 rfl ?_
   refine tkR 6 rfl ?_
   refine tkR 7 rfl ?_
   refine tkR 8 rfl ?_
   refine wpAnyH_done (by kernel_rfl) ?_ _
   go_wp2
   go_roundw
   case rel => exact ⟨k + 1,by omega,by go_num,_,rfl⟩
   case measure => simp [intOf]; omega
  ·have:k=n:=by omega
   subst this
   go_wp2
   go_ret
   exact ⟨rfl,below_drewN (Below.refl _ _) _⟩
end
end Go.Proofs.YthloabdfkakehaaGreat
