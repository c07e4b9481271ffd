/-
  Words and contracts that a statement's proof rests on (FgA, FeB, FeC, FeD). No statement is proved here.
-/
import Derived.Test.YthloabdfkakehaaPlainRg
import Derived.Test.YthloabdfkakehaaFeA
set_option linter.unusedVariables false
set_option linter.unusedSimpArgs false
namespace Go.Proofs.Ythloabdfkakehaa
section
open Go.RowKit
theorem Tch.ofGrown {w w':World} {D:Nat→Prop} {row:Option Nat} (h:w.grownBy w' row) (hd:∀ k,row=some k→D k):Tch D w w' :=
 ⟨h.os,h.tape,h.output,h.size,fun k hk hn => h.block k hk fun e => hn (hd k e.symm)⟩
structure RowV where
 T:TypeId
 z:Nat
 v:Value
 n:Nat
 l:List Value
structure RowsIn (w:World) (L:Nat) (K:Nat) (R:Nat→RowV):Prop where
 own:∀ k,k < K→w.ownsRow L (R k).T (R k).z (R k).v (R k).n (R k).l
 dis:∀ k j,k < K→j < K→k ≠ j→∀ x,(R k).v.ownBlock=some x→(R j).v.ownBlock ≠ some x
def updV (R:Nat→RowV) (k:Nat) (r:RowV) (j:Nat):RowV:=if j=k then r else R j
theorem updV_same (R:Nat→RowV) (k:Nat) (r:RowV):updV R k r k=r:=if_pos rfl
theorem updV_other (R:Nat→RowV) {k j:Nat} (r:RowV) (h:j ≠ k):updV R k r j=R j:=if_neg h
def RowD (K:Nat) (R:Nat→RowV) (x:Nat):Prop:=∃ k,k < K∧(R k).v.ownBlock=some x
section
variable {w w':World} {L K:Nat} {R:Nat→RowV}
theorem RowsIn.lt (h:RowsIn w L K R) {x:Nat} (hx:RowD K R x):L≤x∧x < w.heap.size:=by
 obtain ⟨k,hk,e⟩:=hx
 exact (h.own k hk).lt x e
theorem RowsIn.tch {D:Nat→Prop} (h:RowsIn w L K R) (ht:Tch D w w') (hd:∀ x,RowD K R x→¬ D x):RowsIn w' L K R :=
 ⟨fun k hk => own_tch (h.own k hk) ht fun x hx => hd x ⟨k,hk,hx⟩,h.dis⟩
theorem RowsIn.below (h:RowsIn w L K R) (hb:Below w.heap.size w w'):RowsIn w' L K R:=h.tch (D:=fun _ => False) (Tch.of_below hb) fun _ _ h => h
theorem RowsIn.congr {R':Nat→RowV} (h:RowsIn w L K R) (e:∀ k,k < K→R' k=R k):RowsIn w L K R' :=
 ⟨fun k hk => by rw [e k hk]; exact h.own k hk,fun k j hk hj hne x hx => by rw [e k hk] at hx; rw [e j hj]; exact h.dis k j hk hj hne x hx⟩
theorem RowsIn.set (h:RowsIn w L K R) {k:Nat} (hk:k < K) {T:TypeId} {z n g cap:Nat} {l:List Value} (hr:R k=⟨T,z,.slice (some ⟨g,0,none⟩) n cap,n,l⟩) (j:Nat) (u:Value) :
  RowsIn (w.setCell ⟨g,j,none⟩ u) L K (updV R k ⟨T,z,.slice (some ⟨g,0,none⟩) n cap,n,l.set j u⟩)∧Tch (RowD K R) w (w.setCell ⟨g,j,none⟩ u):=by
 have hown:=h.own k hk
 rw [hr] at hown
 have hg:(R k).v.ownBlock=some g:=by rw [hr]; rfl
 have ht:Tch (fun x => x=g) w (w.setCell ⟨g,j,none⟩ u):=Tch.setCell (D:=fun x => x=g) (Tch.refl _ w) (p:=⟨g,j,none⟩) rfl u
 refine ⟨⟨fun i hi => ?_,fun i i' hi hi' hne x hx => ?_⟩,ht.mono fun x _ hx => ⟨k,hk,by rw [hg,hx]⟩⟩
 ·by_cases e:i=k
  ·rw [e,updV_same]; exact (hown.stored j u).1
  ·rw [updV_other _ _ e]
   exact own_tch (h.own i hi) ht fun x hx e2 => h.dis i k hi hk e x hx (by rw [hg,e2])
 ·by_cases e:i=k
  ·rw [e,updV_same] at hx
   rw [updV_other _ _ (by omega)]
   exact h.dis k i' hk hi' (by omega) x (by rw [hg]; exact hx)
  ·rw [updV_other _ _ e] at hx
   by_cases e':i'=k
   ·rw [e',updV_same]
    intro e2
    exact h.dis i k hi hk e x hx (by rw [hg]; exact e2)
   ·rw [updV_other _ _ e']
    exact h.dis i i' hi hi' hne x hx
theorem RowsIn.app (h:RowsIn w L K R) {k:Nat} (hk:k < K) {T:TypeId} {z n n':Nat} {v v':Value} {l l':List Value} (hr:R k=⟨T,z,v,n,l⟩) {o:Obj} (how:w'.ownsRow L T z v' n' l') (hg:(w.alloc o).grownBy w' v.ownBlock) (hl:v'.ownBlock=v.ownBlock ∨ v'.ownBlock=some (w.alloc o).heap.size) :
  RowsIn w' L K (updV R k ⟨T,z,v',n',l'⟩)∧Tch (RowD K R) w w':=by
 have hv:(R k).v=v:=by rw [hr]
 have hT:Tch (fun y => v.ownBlock=some y) w w':=(Tch.of_below ((Below.refl _ _).alloc (Nat.le_refl _) o)).trans ((Tch.ofGrown hg fun j hj => hj).mono fun y _ hy => hy)
 have hkey:∀ i x,i < K→i ≠ k→(R i).v.ownBlock=some x→v'.ownBlock ≠ some x:=fun i x hi hne h1 e => by
  rcases hl with hl | hl
  ·exact h.dis i k hi hk hne x h1 (by rw [hv,← hl]; exact e)
  ·rw [hl] at e
   have:=((h.own i hi).lt x h1).2
   injection e with e
   have e3:=(World.size_alloc w o)
   omega
 refine ⟨⟨fun i hi => ?_,fun i i' hi hi' hne x hx => ?_⟩,hT.mono fun x _ hx => ⟨k,hk,by rw [hv]; exact hx⟩⟩
 ·by_cases e:i=k
  ·rw [e,updV_same]; exact how
  ·rw [updV_other _ _ e]
   exact own_tch (h.own i hi) hT fun x hx e2 => h.dis i k hi hk e x hx (by rw [hv]; exact e2)
 ·by_cases e:i=k
  ·rw [e,updV_same] at hx
   rw [updV_other _ _ (by omega)]
   exact fun e2 => hkey i' x hi' (by omega) e2 hx
  ·rw [updV_other _ _ e] at hx
   by_cases e':i'=k
   ·rw [e',updV_same]
    exact hkey i x hi e hx
   ·rw [updV_other _ _ e']
    exact h.dis i i' hi hi' hne x hx
end
end
section
open Go.RowKit
section
variable {w:World} {lo b fb L:Nat} {E:Nat→Prop} {F:FcS} {m:MemS}
theorem fdb_rightPort (p:Int) (w:World):Calls Try.prog 61 #[.int .i64 p] w (Says (.bool (decide (0≤p) && decide (p < 64))) w):=by
 by_cases h1:0≤p
 ·by_cases h2:p < 64
  ·go_enter Try.func61,Try.ntmps61
   go_wp2
   go_ret
   exact ⟨ret_bool (by simp [h1,h2]),by first | exact Below.refl _ _ | exact below_drewN (Below.refl _ _) _⟩
  ·go_enter Try.func61,Try.ntmps61
   go_wp2
   go_ret
   exact ⟨ret_bool (by simp [h1,h2] <;> (intros; omega)),by first | exact Below.refl _ _ | exact below_drewN (Below.refl _ _) _⟩
 ·go_enter Try.func61,Try.ntmps61
  go_wp2
  go_ret
  exact ⟨ret_bool (by simp [h1] <;> (intros; omega)),by first | exact Below.refl _ _ | exact below_drewN (Below.refl _ _) _⟩
theorem key_vars {v:Int} {mc:Nat} {p:Int} {now:Nat} {t t2 t3:TypeId} {w1:World} (hb:Below (((w.alloc (.cells #[.int .i64 v,.int .u64 (mc:Int)] t)).alloc (.cells #[.int .i64 p] t2)).alloc (.cells #[.int .u32 (now:Int)] t3)).heap.size (((w.alloc (.cells #[.int .i64 v,.int .u64 (mc:Int)] t)).alloc (.cells #[.int .i64 p] t2)).alloc (.cells #[.int .u32 (now:Int)] t3)) w1) :
  Below w.heap.size w w1∧w.heap.size + 3≤w1.heap.size∧VarIs w1 (fun j => w.heap.size≤j∧j < w.heap.size + 3) w.heap.size [.int .i64 v,.int .u64 (mc:Int)]∧VarIs w1 (fun j => w.heap.size≤j∧j < w.heap.size + 3) (w.heap.size + 1) [.int .i64 p]∧VarIs w1 (fun j => w.heap.size≤j∧j < w.heap.size + 3) (w.heap.size + 1 + 1) [.int .u32 (now:Int)]:=by
 have hz:=hb.size
 have hz3:(((w.alloc (.cells #[.int .i64 v,.int .u64 (mc:Int)] t)).alloc (.cells #[.int .i64 p] t2)).alloc (.cells #[.int .u32 (now:Int)] t3)).heap.size=w.heap.size + 3:=by simp
 rw [hz3] at hz
 have b1:Below w.heap.size w (w.alloc (.cells #[.int .i64 v,.int .u64 (mc:Int)] t)):=(Below.refl _ _).alloc (Nat.le_refl _) _
 have b2:=b1.alloc b1.size (.cells #[.int .i64 p] t2)
 have b3:=b2.alloc b2.size (.cells #[.int .u32 (now:Int)] t3)
 have c1:∀ i,w1.cell? ⟨w.heap.size,i,none⟩=(w.alloc (.cells #[.int .i64 v,.int .u64 (mc:Int)] t)).cell? ⟨w.heap.size,i,none⟩:=fun i =>
  (hb.cell (p:=⟨w.heap.size,i,none⟩) (by show w.heap.size < _; omega)).trans ((World.cell?_alloc_lt _ _ ⟨w.heap.size,i,none⟩ (by simp <;> omega)).trans (World.cell?_alloc_lt _ _ ⟨w.heap.size,i,none⟩ (by simp <;> omega)))
 have c2:∀ i,w1.cell? ⟨w.heap.size + 1,i,none⟩=((w.alloc (.cells #[.int .i64 v,.int .u64 (mc:Int)] t)).alloc (.cells #[.int .i64 p] t2)).cell? ⟨w.heap.size + 1,i,none⟩:=fun i =>
  (hb.cell (p:=⟨w.heap.size + 1,i,none⟩) (by show w.heap.size + 1 < _; omega)).trans (World.cell?_alloc_lt _ _ ⟨w.heap.size + 1,i,none⟩ (by simp <;> omega))
 have c3:∀ i,w1.cell? ⟨w.heap.size + 1 + 1,i,none⟩=(((w.alloc (.cells #[.int .i64 v,.int .u64 (mc:Int)] t)).alloc (.cells #[.int .i64 p] t2)).alloc (.cells #[.int .u32 (now:Int)] t3)).cell? ⟨w.heap.size + 1 + 1,i,none⟩:=fun i =>
  hb.cell (p:=⟨w.heap.size + 1 + 1,i,none⟩) (by show w.heap.size + 1 + 1 < _; omega)
 refine ⟨b3.trans (hb.mono b3.size),hz,⟨⟨by omega,by omega⟩,fun i x hx => ?_⟩,⟨⟨by omega,by omega⟩,fun i x hx => ?_⟩,⟨⟨by omega,by omega⟩,fun i x hx => ?_⟩⟩
 ·rw [c1]
  match i with
  | 0 => injection hx with hx; subst hx; simp [go_sem]
  | 1 => injection hx with hx; subst hx; simp [go_sem]
  | _ + 2 => cases hx
 ·rw [c2]
  match i with
  | 0 => injection hx with hx; subst hx; simp [go_sem]
  | _ + 1 => cases hx
 ·rw [c3]
  match i with
  | 0 => injection hx with hx; subst hx; simp [go_sem]
  | _ + 1 => cases hx
set_option maxRecDepth 20000 in
set_option maxHeartbeats 1600000 in
theorem fdb_LearnY (hf:FdbAt w lo b fb F m) (who:Int) (hw:0≤who) (v:Int) (mc:Nat) (hmc:mc < 18446744073709551616) (hr:rightK v mc=true) (p:Int) (hp:0≤p∧p < 64) (now:Nat) (hLw:L≤w.heap.size) :
  Calls Try.prog 25 #[.pointer (some ⟨fb,0,none⟩),.int .i64 who,.agg #[.int .i64 v,.int .u64 (mc:Int)],.int .i64 p,.int .u32 (now:Int)] w (Began lo b fb L noE F m (newA who (.learn v mc p now) (F.lk + shN F v mc) 1 (shN F v mc * F.B + buN F v mc) 1 2) w):=by
 have HRP:=Lib.hid fun W => fdb_rightPort p W
 rw [show (decide (0≤p) && decide (p < 64))=true by simp [hp]] at HRP
 have HO:=Lib.hid fun W (hb:Below w.heap.size w W) (hz:w.heap.size + 3≤W.heap.size) (hk:WkAt W (fun j => w.heap.size≤j∧j < w.heap.size + 3) (.learn v mc p now) (.func (.func 62) #[] #[.pointer (some ⟨w.heap.size,0,none⟩),.pointer (some ⟨w.heap.size + 1,0,none⟩),.pointer (some ⟨w.heap.size + 1 + 1,0,none⟩)])) => show Calls Try.prog 49 #[.pointer (some ⟨fb,0,none⟩),.int .i64 who,.agg #[.int .i64 v,.int .u64 (mc:Int)],.func (.func 62) #[] #[.pointer (some ⟨w.heap.size,0,none⟩),.pointer (some ⟨w.heap.size + 1,0,none⟩),.pointer (some ⟨w.heap.size + 1 + 1,0,none⟩)]] W (Began lo b fb L noE F m (newA who (.learn v mc p now) (F.lk + shN F v mc) 1 (shN F v mc * F.B + buN F v mc) 1 2) w) from
  (fdb_ofY (hf.below hb) who hw v mc hmc hr hk (fun j hj => ⟨by omega,by omega⟩) (Nat.le_trans hLw hb.size)).mono fun e w2 h => h.from hb (fun j hj => ⟨hj.1,by omega⟩) hLw
 clear hf hr hLw hp
 go_enter Try.func25,Try.ntmps25
 go_wp2_with fail
 refine (HRP.out _).mono ?_
 rintro e w1 ⟨rfl,hb1⟩
 obtain ⟨hB,hz,k1,k2,k3⟩:=key_vars hb1
 have HO2:=Lib.hid fun q => HO.out (w1.drewN q) (below_drewN hB q) hz (.learn v mc p now _ _ _ k1 k2 k3)
 have HO1:=Lib.hid (HO.out w1 hB hz (.learn v mc p now _ _ _ k1 k2 k3))
 have c0:w1.cell? ⟨w.heap.size,0,none⟩=some (.int .i64 v):=k1.at_ (i:=0) rfl
 have c1:w1.cell? ⟨w.heap.size,1,none⟩=some (.int .u64 (mc:Int)):=k1.at_ (i:=1) rfl
 clear hb1 hB hz k1 k2 k3 HO
 go_wp2_with fail
 refine (HO1.out).mono ?_
 rintro e w2 ⟨ab,rfl,hz,hb3,hact⟩
 go_wp2
 go_ret
 exact ⟨ab,rfl,hz,hb3,hact⟩
set_option maxRecDepth 20000 in
set_option maxHeartbeats 1600000 in
theorem fdb_OrderY (hf:FdbAt w lo b fb F m) (who:Int) (hw:0≤who) (v:Int) (mc:Nat) (hmc:mc < 18446744073709551616) (hr:rightK v mc=true) (p:Int) (hp:0≤p∧p < 64) (now:Nat) (hLw:L≤w.heap.size) :
  Calls Try.prog 26 #[.pointer (some ⟨fb,0,none⟩),.int .i64 who,.agg #[.int .i64 v,.int .u64 (mc:Int)],.int .i64 p,.int .u32 (now:Int)] w (Began lo b fb L noE F m (newA who (.order v mc p now) (F.lk + shN F v mc) 1 (shN F v mc * F.B + buN F v mc) 1 2) w):=by
 have HRP:=Lib.hid fun W => fdb_rightPort p W
 rw [show (decide (0≤p) && decide (p < 64))=true by simp [hp]] at HRP
 have HO:=Lib.hid fun W (hb:Below w.heap.size w W) (hz:w.heap.size + 3≤W.heap.size) (hk:WkAt W (fun j => w.heap.size≤j∧j < w.heap.size + 3) (.order v mc p now) (.func (.func 64) #[] #[.pointer (some ⟨w.heap.size,0,none⟩),.pointer (some ⟨w.heap.size + 1,0,none⟩),.pointer (some ⟨w.heap.size + 1 + 1,0,none⟩)])) => show Calls Try.prog 49 #[.pointer (some ⟨fb,0,none⟩),.int .i64 who,.agg #[.int .i64 v,.int .u64 (mc:Int)],.func (.func 64) #[] #[.pointer (some ⟨w.heap.size,0,none⟩),.pointer (some ⟨w.heap.size + 1,0,none⟩),.pointer (some ⟨w.heap.size + 1 + 1,0,none⟩)]] W (Began lo b fb L noE F m (newA who (.order v mc p now) (F.lk + shN F v mc) 1 (shN F v mc * F.B + buN F v mc) 1 2) w) from
  (fdb_ofY (hf.below hb) who hw v mc hmc hr hk (fun j hj => ⟨by omega,by omega⟩) (Nat.le_trans hLw hb.size)).mono fun e w2 h => h.from hb (fun j hj => ⟨hj.1,by omega⟩) hLw
 clear hf hr hLw hp
 go_enter Try.func26,Try.ntmps26
 go_wp2_with fail
 refine (HRP.out _).mono ?_
 rintro e w1 ⟨rfl,hb1⟩
 obtain ⟨hB,hz,k1,k2,k3⟩:=key_vars hb1
 have HO2:=Lib.hid fun q => HO.out (w1.drewN q) (below_drewN hB q) hz (.order v mc p now _ _ _ k1 k2 k3)
 have HO1:=Lib.hid (HO.out w1 hB hz (.order v mc p now _ _ _ k1 k2 k3))
 have c0:w1.cell? ⟨w.heap.size,0,none⟩=some (.int .i64 v):=k1.at_ (i:=0) rfl
 have c1:w1.cell? ⟨w.heap.size,1,none⟩=some (.int .u64 (mc:Int)):=k1.at_ (i:=1) rfl
 clear hb1 hB hz k1 k2 k3 HO
 go_wp2_with fail
 refine (HO1.out).mono ?_
 rintro e w2 ⟨ab,rfl,hz,hb3,hact⟩
 go_wp2
 go_ret
 exact ⟨ab,rfl,hz,hb3,hact⟩
end
end
section
open Go.RowKit
section
variable {w:World} {lo b fb L:Nat} {E:Nat→Prop} {F:FcS} {m:MemS}
end
end
section
open Go.RowKit
section
variable {w:World} {lo b fb L:Nat} {E:Nat→Prop} {F:FcS} {m:MemS}
theorem age_vars {now lim:Nat} {t t2:TypeId}:Below w.heap.size w ((w.alloc (.cells #[.int .u32 (now:Int)] t)).alloc (.cells #[.int .u32 (lim:Int)] t2))∧VarIs ((w.alloc (.cells #[.int .u32 (now:Int)] t)).alloc (.cells #[.int .u32 (lim:Int)] t2)) (fun j => w.heap.size≤j∧j < w.heap.size + 2) w.heap.size [.int .u32 (now:Int)]∧VarIs ((w.alloc (.cells #[.int .u32 (now:Int)] t)).alloc (.cells #[.int .u32 (lim:Int)] t2)) (fun j => w.heap.size≤j∧j < w.heap.size + 2) (w.heap.size + 1) [.int .u32 (lim:Int)]:=by
 have b1:Below w.heap.size w (w.alloc (.cells #[.int .u32 (now:Int)] t)):=(Below.refl _ _).alloc (Nat.le_refl _) _
 have b2:=b1.alloc b1.size (.cells #[.int .u32 (lim:Int)] t2)
 refine ⟨b2,⟨⟨by omega,by omega⟩,fun i x hx => ?_⟩,⟨⟨by omega,by omega⟩,fun i x hx => ?_⟩⟩
 ·rw [World.cell?_alloc_lt _ _ ⟨w.heap.size,i,none⟩ (by simp <;> omega)]
  match i with
  | 0 => injection hx with hx; subst hx; simp [go_sem]
  | _ + 1 => cases hx
 ·match i with
  | 0 => injection hx with hx; subst hx; simp [go_sem]
  | _ + 1 => cases hx
set_option maxRecDepth 20000 in
set_option maxHeartbeats 1600000 in
theorem fdb_AgeY (hf:FdbAt w lo b fb F m) (who:Int) (hw:0≤who) (s n:Nat) (hs:s < F.S) (hn:n < F.B) (now lim:Nat) (hLw:L≤w.heap.size) :
  Calls Try.prog 28 #[.pointer (some ⟨fb,0,none⟩),.int .i64 who,.int .i64 (s:Nat),.int .i64 (n:Nat),.int .u32 (now:Int),.int .u32 (lim:Int)] w (Began lo b fb L noE F m (newA who (.age now lim) (F.lk + s) 1 (s * F.B + n) 1 2) w):=by
 have HO:=Lib.hid fun (t t2:TypeId) => show Calls Try.prog 68 #[.pointer (some ⟨fb,0,none⟩),.int .i64 who,.int .i64 (s:Nat),.int .i64 (n:Nat),.func (.func 69) #[] #[.pointer (some ⟨w.heap.size,0,none⟩),.pointer (some ⟨w.heap.size + 1,0,none⟩)]] ((w.alloc (.cells #[.int .u32 (now:Int)] t)).alloc (.cells #[.int .u32 (lim:Int)] t2)) (Began lo b fb L noE F m (newA who (.age now lim) (F.lk + s) 1 (s * F.B + n) 1 2) w) from by
  obtain ⟨hb,k1,k2⟩:=age_vars (w:=w) (now:=now) (lim:=lim) (t:=t) (t2:=t2)
  have hz:((w.alloc (.cells #[.int .u32 (now:Int)] t)).alloc (.cells #[.int .u32 (lim:Int)] t2)).heap.size=w.heap.size + 2:=by simp
  exact (fdb_oneY (hf.below hb) who hw s n hs hn (.age now lim _ _ k1 k2) (fun j hj => ⟨by omega,by omega⟩) (Nat.le_trans hLw hb.size)).mono fun e w2 h => h.from hb (fun j hj => ⟨hj.1,by omega⟩) hLw
 clear hf hLw
 go_enter Try.func28,Try.ntmps28
 go_wp2_with fail
 refine (HO.out _ _).mono ?_
 rintro e w1 ⟨ab,rfl,hz,hb1,hact⟩
 go_wp2
 go_ret
 exact ⟨ab,rfl,hz,hb1,hact⟩
end
end
end Go.Proofs.Ythloabdfkakehaa
