/-
  Words and contracts that a statement's proof rests on (PlainFi, FeB, FeC, FeD). No statement is proved here.
-/
import Derived.Test.YthloabdfkakehaaGreatPlainFh
import Derived.Test.YthloabdfkakehaaGreatFeA
set_option linter.unusedVariables false
set_option linter.unusedSimpArgs false
namespace Go.Proofs.YthloabdfkakehaaGreat
section
def u64R (x:Int):Prop:=0≤x∧x < 18446744073709551616
theorem oddI_rng {x:Int} (h:u64R x):u64R (oddI x):=by
 obtain ⟨h1,h2⟩:=h
 have h3:x.toNat < 2 ^ 64:=by omega
 have h4:(x.toNat ||| 1) < 2 ^ 64:=Nat.or_lt_two_pow h3 (by decide)
 unfold oddI u64R
 constructor
 ·exact Int.natCast_nonneg _
 ·have h5:((x.toNat ||| 1:Nat):Int) < ((2 ^ 64:Nat):Int):=by exact_mod_cast h4
  exact h5
theorem evenI_rng (x:Int):u64R (evenI x):=by
 unfold evenI u64R
 omega
theorem getD_rng {l:List Int} (h:∀ x ∈ l,u64R x) (k:Nat):u64R (l.getD k 0):=by
 rw [List.getD_eq_getElem?_getD]
 rcases Nat.lt_or_ge k l.length with h9 | h9
 ·rw [List.getElem?_eq_getElem h9]; exact h _ (List.getElem_mem h9)
 ·rw [List.getElem?_eq_none h9]; exact ⟨by decide,by decide⟩
theorem seg_good {F:FcS} {l:List Int} (h:∀ x ∈ l,u64R x) (j i:Nat):goodP (segF F l j i):=dec_good (getD_rng h _).2
theorem chgL_rng2 (a0:Nat) (f:Nat→Pl) {g:Nat→Pl} (hg:∀ i,goodP (g i)):∀ n,∀ p ∈ chgL a0 f g n,u64R p.2
 | 0 => fun p hp => by cases hp
 | n + 1 => fun p hp => by
  rw [chgL,List.mem_append] at hp
  rcases hp with hp | hp
  ·exact chgL_rng2 a0 f hg n p hp
  ·have h9:=wAB_rng (hg n)
   split at hp
   ·cases hp
   ·simp only [List.mem_cons,List.not_mem_nil,or_false] at hp
    rcases hp with rfl | rfl
    ·exact h9.1
    ·exact h9.2
theorem wrL_rng {F:FcS} {k:Wk} {l:List Int} (hk:k.ok) (h:∀ x ∈ l,u64R x) (h0 n:Nat):∀ p ∈ wrL F k l h0 n,u64R p.2:=by
 have ho:∀ n,∀ p ∈ oddsL F k l h0 n,u64R p.2:=fun n => by
  induction n with
  | zero => intro p hp; cases hp
  | succ n ih =>
   intro p hp
   rw [oddsL,List.mem_append] at hp
   rcases hp with hp | hp
   ·exact ih p hp
   ·split at hp
    ·simp only [List.mem_cons,List.not_mem_nil,or_false] at hp
     subst hp
     exact oddI_rng (getD_rng h _)
    ·cases hp
 have he:∀ n,∀ p ∈ evensL F k l h0 n,u64R p.2:=fun n => by
  induction n with
  | zero => intro p hp; cases hp
  | succ n ih =>
   intro p hp
   rw [evensL,List.mem_append] at hp
   rcases hp with hp | hp
   ·exact ih p hp
   ·split at hp
    ·simp only [List.mem_cons,List.not_mem_nil,or_false] at hp
     subst hp
     exact evenI_rng _
    ·cases hp
 have hw:∀ n,∀ p ∈ wordsL F k l h0 n,u64R p.2:=fun n => by
  induction n with
  | zero => intro p hp; cases hp
  | succ n ih =>
   intro p hp
   rw [wordsL,List.mem_append] at hp
   rcases hp with hp | hp
   ·exact ih p hp
   ·split at hp
    ·exact chgL_rng2 _ _ (wk_good (f:=segF F l n) (fun i => seg_good h n i) F.n hk) F.n p hp
    ·cases hp
 intro p hp
 rw [wrL,List.mem_append,List.mem_append] at hp
 rcases hp with hp | hp | hp
 ·exact ho n p hp
 ·exact hw n p hp
 ·exact he n p hp
def MemR (m:MemS):Prop:=∀ x,u64R (m.c x)
structure ActR (a:FaS):Prop where
 ld:∀ x ∈ a.ld,u64R x
 wr:∀ p ∈ a.wr,u64R p.2
theorem rd_rng {F:FcS} {m:MemS} {a:FaS} (hm:MemR m) (ha:ActR a):ActR (rdA F m a) where
 ld:=fun x hx => by
  have hx:x ∈ a.ld ++ [m.c (F.cell a.h0 + a.ld.length)]:=hx
  rw [List.mem_append] at hx
  rcases hx with hx | hx
  ·exact ha.ld x hx
  ·simp only [List.mem_cons,List.not_mem_nil,or_false] at hx
   subst hx
   exact hm _
 wr:=ha.wr
theorem step_rng {F:FcS} {m:MemS} {a:FaS} (hk:a.wk.ok) (hm:MemR m) (ha:ActR a):MemR (stepF F m a).1∧ActR (stepF F m a).2:=by
 have no1:∀ x ∈ ([]:List Int),u64R x:=fun x hx => by cases hx
 have no2:∀ p ∈ ([]:List (Nat × Int)),u64R p.2:=fun x hx => by cases hx
 unfold stepF
 split
 ·unfold tryF
  split
  ·exact ⟨hm,rd_rng hm ha⟩
  ·split
   ·exact ⟨hm,no1,no2⟩
   ·exact ⟨hm,no1,ha.wr⟩
 split
 ·unfold takF
  split
  ·exact ⟨hm,ha.ld,ha.wr⟩
  ·exact ⟨hm,ha⟩
 split
 ·unfold loaF
  refine ⟨hm,?_⟩
  have hr:=rd_rng (F:=F) hm ha
  show ActR (if _ then _ else _)
  split
  ·exact hr
  ·exact ⟨hr.ld,wrL_rng hk hr.ld _ _⟩
 split
 ·unfold stoF
  refine ⟨fun x => ?_,ha.ld,ha.wr⟩
  show u64R (if x=(a.wr.getD a.wt (0,0)).1 then (a.wr.getD a.wt (0,0)).2 else m.c x)
  split
  ·rw [List.getD_eq_getElem?_getD]
   rcases Nat.lt_or_ge a.wt a.wr.length with h9 | h9
   ·rw [List.getElem?_eq_getElem h9]; exact ha.wr _ (List.getElem_mem h9)
   ·rw [List.getElem?_eq_none h9]; exact ⟨by decide,by decide⟩
  ·exact hm x
 split
 ·unfold freF
  refine ⟨?_,?_⟩
  ·show MemR (if _ then _ else _)
   split
   ·exact hm
   ·exact hm
  ·show ActR (if _ then _ else _)
   split
   ·exact ⟨no1,no2⟩
   ·exact ⟨ha.ld,ha.wr⟩
 ·exact ⟨hm,ha⟩
end
section
open Go.RowKit
section
variable {w:World} {lo b fb L:Nat} {E:Nat→Prop} {F:FcS} {m:MemS}
theorem fdb_rightPort (p:Int) (w:World):Calls Tryz.prog 90 #[.int .i64 p] w (Says (.bool (decide (0≤p) && decide (p < 64))) w):=by
 by_cases h1:0≤p
 ·by_cases h2:p < 64
  ·go_enter Tryz.func90,Tryz.ntmps90
   go_wp2
   go_ret
   exact ⟨ret_bool (by simp [h1,h2]),by first | exact Below.refl _ _ | exact below_drewN (Below.refl _ _) _⟩
  ·go_enter Tryz.func90,Tryz.ntmps90
   go_wp2
   go_ret
   exact ⟨ret_bool (by simp [h1,h2] <;> (intros; omega)),by first | exact Below.refl _ _ | exact below_drewN (Below.refl _ _) _⟩
 ·go_enter Tryz.func90,Tryz.ntmps90
  go_wp2
  go_ret
  exact ⟨ret_bool (by simp [h1] <;> (intros; omega)),by first | exact Below.refl _ _ | exact below_drewN (Below.refl _ _) _⟩
theorem key_vars {v:Int} {mc:Nat} {p:Int} {now:Nat} {t t2 t3:TypeId} {w1:World} (hb:Below (((w.alloc (.cells #[.int .i64 v,.int .u64 (mc:Int)] t)).alloc (.cells #[.int .i64 p] t2)).alloc (.cells #[.int .u32 (now:Int)] t3)).heap.size (((w.alloc (.cells #[.int .i64 v,.int .u64 (mc:Int)] t)).alloc (.cells #[.int .i64 p] t2)).alloc (.cells #[.int .u32 (now:Int)] t3)) w1) :
  Below w.heap.size w w1∧w.heap.size + 3≤w1.heap.size∧VarIs w1 (fun j => w.heap.size≤j∧j < w.heap.size + 3) w.heap.size [.int .i64 v,.int .u64 (mc:Int)]∧VarIs w1 (fun j => w.heap.size≤j∧j < w.heap.size + 3) (w.heap.size + 1) [.int .i64 p]∧VarIs w1 (fun j => w.heap.size≤j∧j < w.heap.size + 3) (w.heap.size + 1 + 1) [.int .u32 (now:Int)]:=by
 have hz:=hb.size
 have hz3:(((w.alloc (.cells #[.int .i64 v,.int .u64 (mc:Int)] t)).alloc (.cells #[.int .i64 p] t2)).alloc (.cells #[.int .u32 (now:Int)] t3)).heap.size=w.heap.size + 3:=by simp
 rw [hz3] at hz
 have b1:Below w.heap.size w (w.alloc (.cells #[.int .i64 v,.int .u64 (mc:Int)] t)):=(Below.refl _ _).alloc (Nat.le_refl _) _
 have b2:=b1.alloc b1.size (.cells #[.int .i64 p] t2)
 have b3:=b2.alloc b2.size (.cells #[.int .u32 (now:Int)] t3)
 have c1:∀ i,w1.cell? ⟨w.heap.size,i,none⟩=(w.alloc (.cells #[.int .i64 v,.int .u64 (mc:Int)] t)).cell? ⟨w.heap.size,i,none⟩:=fun i =>
  (hb.cell (p:=⟨w.heap.size,i,none⟩) (by show w.heap.size < _; omega)).trans ((World.cell?_alloc_lt _ _ ⟨w.heap.size,i,none⟩ (by simp <;> omega)).trans (World.cell?_alloc_lt _ _ ⟨w.heap.size,i,none⟩ (by simp <;> omega)))
 have c2:∀ i,w1.cell? ⟨w.heap.size + 1,i,none⟩=((w.alloc (.cells #[.int .i64 v,.int .u64 (mc:Int)] t)).alloc (.cells #[.int .i64 p] t2)).cell? ⟨w.heap.size + 1,i,none⟩:=fun i =>
  (hb.cell (p:=⟨w.heap.size + 1,i,none⟩) (by show w.heap.size + 1 < _; omega)).trans (World.cell?_alloc_lt _ _ ⟨w.heap.size + 1,i,none⟩ (by simp <;> omega))
 have c3:∀ i,w1.cell? ⟨w.heap.size + 1 + 1,i,none⟩=(((w.alloc (.cells #[.int .i64 v,.int .u64 (mc:Int)] t)).alloc (.cells #[.int .i64 p] t2)).alloc (.cells #[.int .u32 (now:Int)] t3)).cell? ⟨w.heap.size + 1 + 1,i,none⟩:=fun i =>
  hb.cell (p:=⟨w.heap.size + 1 + 1,i,none⟩) (by show w.heap.size + 1 + 1 < _; omega)
 refine ⟨b3.trans (hb.mono b3.size),hz,⟨⟨by omega,by omega⟩,fun i x hx => ?_⟩,⟨⟨by omega,by omega⟩,fun i x hx => ?_⟩,⟨⟨by omega,by omega⟩,fun i x hx => ?_⟩⟩
 ·rw [c1]
  match i with
  | 0 => injection hx with hx; subst hx; simp [go_sem]
  | 1 => injection hx with hx; subst hx; simp [go_sem]
  | _ + 2 => cases hx
 ·rw [c2]
  match i with
  | 0 => injection hx with hx; subst hx; simp [go_sem]
  | _ + 1 => cases hx
 ·rw [c3]
  match i with
  | 0 => injection hx with hx; subst hx; simp [go_sem]
  | _ + 1 => cases hx
set_option maxRecDepth 20000 in
set_option maxHeartbeats 1600000 in
theorem fdb_LearnY (hf:FdbAt w lo b fb F m) (who:Int) (hw:0≤who) (v:Int) (mc:Nat) (hmc:mc < 18446744073709551616) (hr:rightK v mc=true) (p:Int) (hp:0≤p∧p < 64) (now:Nat) (hLw:L≤w.heap.size) :
  Calls Tryz.prog 49 #[.pointer (some ⟨fb,0,none⟩),.int .i64 who,.agg #[.int .i64 v,.int .u64 (mc:Int)],.int .i64 p,.int .u32 (now:Int)] w (Began lo b fb L noE F m (newA who (.learn v mc p now) (F.lk + shN F v mc) 1 (shN F v mc * F.B + buN F v mc) 1 2) w):=by
 have HRP:=Lib.hid fun W => fdb_rightPort p W
 rw [show (decide (0≤p) && decide (p < 64))=true by simp [hp]] at HRP
 have HO:=Lib.hid fun W (hb:Below w.heap.size w W) (hz:w.heap.size + 3≤W.heap.size) (hk:WkAt W (fun j => w.heap.size≤j∧j < w.heap.size + 3) (.learn v mc p now) (.func (.func 91) #[] #[.pointer (some ⟨w.heap.size,0,none⟩),.pointer (some ⟨w.heap.size + 1,0,none⟩),.pointer (some ⟨w.heap.size + 1 + 1,0,none⟩)])) => show Calls Tryz.prog 58 #[.pointer (some ⟨fb,0,none⟩),.int .i64 who,.agg #[.int .i64 v,.int .u64 (mc:Int)],.func (.func 91) #[] #[.pointer (some ⟨w.heap.size,0,none⟩),.pointer (some ⟨w.heap.size + 1,0,none⟩),.pointer (some ⟨w.heap.size + 1 + 1,0,none⟩)]] W (Began lo b fb L noE F m (newA who (.learn v mc p now) (F.lk + shN F v mc) 1 (shN F v mc * F.B + buN F v mc) 1 2) w) from
  (fdb_ofY (hf.below hb) who hw v mc hmc hr hk (fun j hj => ⟨by omega,by omega⟩) (Nat.le_trans hLw hb.size)).mono fun e w2 h => h.from hb (fun j hj => ⟨hj.1,by omega⟩) hLw
 clear hf hr hLw hp
 go_enter Tryz.func49,Tryz.ntmps49
 go_wp2_with fail
 refine (HRP.out _).mono ?_
 rintro e w1 ⟨rfl,hb1⟩
 obtain ⟨hB,hz,k1,k2,k3⟩:=key_vars hb1
 have HO2:=Lib.hid fun q => HO.out (w1.drewN q) (below_drewN hB q) hz (.learn v mc p now _ _ _ k1 k2 k3)
 have HO1:=Lib.hid (HO.out w1 hB hz (.learn v mc p now _ _ _ k1 k2 k3))
 have c0:w1.cell? ⟨w.heap.size,0,none⟩=some (.int .i64 v):=k1.at_ (i:=0) rfl
 have c1:w1.cell? ⟨w.heap.size,1,none⟩=some (.int .u64 (mc:Int)):=k1.at_ (i:=1) rfl
 clear hb1 hB hz k1 k2 k3 HO
 go_wp2_with fail
 refine (HO1.out).mono ?_
 rintro e w2 ⟨ab,rfl,hz,hb3,hact⟩
 go_wp2
 go_ret
 exact ⟨ab,rfl,hz,hb3,hact⟩
set_option maxRecDepth 20000 in
set_option maxHeartbeats 1600000 in
theorem fdb_OrderY (hf:FdbAt w lo b fb F m) (who:Int) (hw:0≤who) (v:Int) (mc:Nat) (hmc:mc < 18446744073709551616) (hr:rightK v mc=true) (p:Int) (hp:0≤p∧p < 64) (now:Nat) (hLw:L≤w.heap.size) :
  Calls Tryz.prog 71 #[.pointer (some ⟨fb,0,none⟩),.int .i64 who,.agg #[.int .i64 v,.int .u64 (mc:Int)],.int .i64 p,.int .u32 (now:Int)] w (Began lo b fb L noE F m (newA who (.order v mc p now) (F.lk + shN F v mc) 1 (shN F v mc * F.B + buN F v mc) 1 2) w):=by
 have HRP:=Lib.hid fun W => fdb_rightPort p W
 rw [show (decide (0≤p) && decide (p < 64))=true by simp [hp]] at HRP
 have HO:=Lib.hid fun W (hb:Below w.heap.size w W) (hz:w.heap.size + 3≤W.heap.size) (hk:WkAt W (fun j => w.heap.size≤j∧j < w.heap.size + 3) (.order v mc p now) (.func (.func 110) #[] #[.pointer (some ⟨w.heap.size,0,none⟩),.pointer (some ⟨w.heap.size + 1,0,none⟩),.pointer (some ⟨w.heap.size + 1 + 1,0,none⟩)])) => show Calls Tryz.prog 58 #[.pointer (some ⟨fb,0,none⟩),.int .i64 who,.agg #[.int .i64 v,.int .u64 (mc:Int)],.func (.func 110) #[] #[.pointer (some ⟨w.heap.size,0,none⟩),.pointer (some ⟨w.heap.size + 1,0,none⟩),.pointer (some ⟨w.heap.size + 1 + 1,0,none⟩)]] W (Began lo b fb L noE F m (newA who (.order v mc p now) (F.lk + shN F v mc) 1 (shN F v mc * F.B + buN F v mc) 1 2) w) from
  (fdb_ofY (hf.below hb) who hw v mc hmc hr hk (fun j hj => ⟨by omega,by omega⟩) (Nat.le_trans hLw hb.size)).mono fun e w2 h => h.from hb (fun j hj => ⟨hj.1,by omega⟩) hLw
 clear hf hr hLw hp
 go_enter Tryz.func71,Tryz.ntmps71
 go_wp2_with fail
 refine (HRP.out _).mono ?_
 rintro e w1 ⟨rfl,hb1⟩
 obtain ⟨hB,hz,k1,k2,k3⟩:=key_vars hb1
 have HO2:=Lib.hid fun q => HO.out (w1.drewN q) (below_drewN hB q) hz (.order v mc p now _ _ _ k1 k2 k3)
 have HO1:=Lib.hid (HO.out w1 hB hz (.order v mc p now _ _ _ k1 k2 k3))
 have c0:w1.cell? ⟨w.heap.size,0,none⟩=some (.int .i64 v):=k1.at_ (i:=0) rfl
 have c1:w1.cell? ⟨w.heap.size,1,none⟩=some (.int .u64 (mc:Int)):=k1.at_ (i:=1) rfl
 clear hb1 hB hz k1 k2 k3 HO
 go_wp2_with fail
 refine (HO1.out).mono ?_
 rintro e w2 ⟨ab,rfl,hz,hb3,hact⟩
 go_wp2
 go_ret
 exact ⟨ab,rfl,hz,hb3,hact⟩
end
end
section
open Go.RowKit
section
variable {w:World} {lo b fb L:Nat} {E:Nat→Prop} {F:FcS} {m:MemS}
end
end
section
open Go.RowKit
section
variable {w:World} {lo b fb L:Nat} {E:Nat→Prop} {F:FcS} {m:MemS}
theorem age_vars {now lim:Nat} {t t2:TypeId}:Below w.heap.size w ((w.alloc (.cells #[.int .u32 (now:Int)] t)).alloc (.cells #[.int .u32 (lim:Int)] t2))∧VarIs ((w.alloc (.cells #[.int .u32 (now:Int)] t)).alloc (.cells #[.int .u32 (lim:Int)] t2)) (fun j => w.heap.size≤j∧j < w.heap.size + 2) w.heap.size [.int .u32 (now:Int)]∧VarIs ((w.alloc (.cells #[.int .u32 (now:Int)] t)).alloc (.cells #[.int .u32 (lim:Int)] t2)) (fun j => w.heap.size≤j∧j < w.heap.size + 2) (w.heap.size + 1) [.int .u32 (lim:Int)]:=by
 have b1:Below w.heap.size w (w.alloc (.cells #[.int .u32 (now:Int)] t)):=(Below.refl _ _).alloc (Nat.le_refl _) _
 have b2:=b1.alloc b1.size (.cells #[.int .u32 (lim:Int)] t2)
 refine ⟨b2,⟨⟨by omega,by omega⟩,fun i x hx => ?_⟩,⟨⟨by omega,by omega⟩,fun i x hx => ?_⟩⟩
 ·rw [World.cell?_alloc_lt _ _ ⟨w.heap.size,i,none⟩ (by simp <;> omega)]
  match i with
  | 0 => injection hx with hx; subst hx; simp [go_sem]
  | _ + 1 => cases hx
 ·match i with
  | 0 => injection hx with hx; subst hx; simp [go_sem]
  | _ + 1 => cases hx
set_option maxRecDepth 20000 in
set_option maxHeartbeats 1600000 in
theorem fdb_AgeY (hf:FdbAt w lo b fb F m) (who:Int) (hw:0≤who) (s n:Nat) (hs:s < F.S) (hn:n < F.B) (now lim:Nat) (hLw:L≤w.heap.size) :
  Calls Tryz.prog 73 #[.pointer (some ⟨fb,0,none⟩),.int .i64 who,.int .i64 (s:Nat),.int .i64 (n:Nat),.int .u32 (now:Int),.int .u32 (lim:Int)] w (Began lo b fb L noE F m (newA who (.age now lim) (F.lk + s) 1 (s * F.B + n) 1 2) w):=by
 have HO:=Lib.hid fun (t t2:TypeId) => show Calls Tryz.prog 100 #[.pointer (some ⟨fb,0,none⟩),.int .i64 who,.int .i64 (s:Nat),.int .i64 (n:Nat),.func (.func 114) #[] #[.pointer (some ⟨w.heap.size,0,none⟩),.pointer (some ⟨w.heap.size + 1,0,none⟩)]] ((w.alloc (.cells #[.int .u32 (now:Int)] t)).alloc (.cells #[.int .u32 (lim:Int)] t2)) (Began lo b fb L noE F m (newA who (.age now lim) (F.lk + s) 1 (s * F.B + n) 1 2) w) from by
  obtain ⟨hb,k1,k2⟩:=age_vars (w:=w) (now:=now) (lim:=lim) (t:=t) (t2:=t2)
  have hz:((w.alloc (.cells #[.int .u32 (now:Int)] t)).alloc (.cells #[.int .u32 (lim:Int)] t2)).heap.size=w.heap.size + 2:=by simp
  exact (fdb_oneY (hf.below hb) who hw s n hs hn (.age now lim _ _ k1 k2) (fun j hj => ⟨by omega,by omega⟩) (Nat.le_trans hLw hb.size)).mono fun e w2 h => h.from hb (fun j hj => ⟨hj.1,by omega⟩) hLw
 clear hf hLw
 go_enter Tryz.func73,Tryz.ntmps73
 go_wp2_with fail
 refine (HO.out _ _).mono ?_
 rintro e w1 ⟨ab,rfl,hz,hb1,hact⟩
 go_wp2
 go_ret
 exact ⟨ab,rfl,hz,hb1,hact⟩
end
end
end Go.Proofs.YthloabdfkakehaaGreat
