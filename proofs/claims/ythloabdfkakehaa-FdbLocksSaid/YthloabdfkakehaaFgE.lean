/-
  Words and contracts that a statement's proof rests on (FgC, FgE, FeI). No statement is proved here.
-/
import Derived.Test.YthloabdfkakehaaPlainFi
import Derived.Test.YthloabdfkakehaaFgB
import Derived.Test.YthloabdfkakehaaFeA
import Derived.Test.YthloabdfkakehaaFeK
set_option linter.unusedVariables false
set_option linter.unusedSimpArgs false
namespace Go.Proofs.Ythloabdfkakehaa
section
open Go.RowKit
section
variable {w w':World} {lo b fb L x:Nat} {F:FcS} {m:MemS} {N:Nat} {A:Nat→FaS} {ab:Nat→Nat} {Es:Nat→Nat→Prop} {g:Nat→Nat→Pl}
def newE (w w':World) (k:Nat):Prop:=noE k ∨ (w.heap.size≤k∧k < w'.heap.size)
theorem FactAt.below {E:Nat→Prop} {ab:Nat} {a:FaS} (h:FactAt w L E fb ab F a) (hb:Below w.heap.size w w'):FactAt w' L E fb ab F a:=by
 obtain ⟨fv,lv,wv,h⟩:=h
 exact ⟨fv,lv,wv,h.below hb⟩
theorem ActsAt.below (h:ActsAt w lo b fb L F m N A ab Es g) (hb:Below w.heap.size w w'):ActsAt w' lo b fb L F m N A ab Es g where
 fd:=h.fd.below hb
 act:=fun i hi => (h.act i hi).below hb
 apart:=h.apart
 inv:=h.inv
 rm:=h.rm
 ra:=h.ra
theorem ActsAt.more (h:ActsAt w lo b fb L F m N A ab Es g) (hb:Below w.heap.size w w') {a:FaS} (ha:FactAt w' L (newE w w') fb x F a) (hinv:FdbInv F m (N + 1) (updA A N a) g) (hr:ActR a) :
  ActsAt w' lo b fb L F m (N + 1) (updA A N a) (updN ab N x) (updE Es N (newE w w')) g where
 fd:=h.fd.below hb
 act:=fun j hj => by
  unfold updA updE updN
  by_cases e:j=N
  ·rw [if_pos e,if_pos e,if_pos e]; exact ha
  ·rw [if_neg e,if_neg e,if_neg e]
   exact (h.act j (by omega)).below hb
 apart:=fun j j' hj hj' hne k hk hk' => by
  have hlow:∀ j,j < N→∀ k,Es j k→k < w.heap.size:=fun j hj k hk => by
   obtain ⟨_,_,_,h9⟩:=h.act j hj
   exact (h9.low k hk).2
  unfold updE newE at hk hk'
  by_cases e:j=N
  ·rw [if_pos e] at hk
   rw [if_neg (by omega)] at hk'
   rcases hk with hk | hk
   ·exact hk
   ·have:=hlow j' (by omega) k hk'; omega
  ·rw [if_neg e] at hk
   by_cases e':j'=N
   ·rw [if_pos e'] at hk'
    rcases hk' with hk' | hk'
    ·exact hk'
    ·have:=hlow j (by omega) k hk; omega
   ·rw [if_neg e'] at hk'
    exact h.apart j j' (by omega) (by omega) hne k hk hk'
 inv:=hinv
 rm:=h.rm
 ra:=fun j hj => by
  unfold updA
  by_cases e:j=N
  ·rw [if_pos e]; exact hr
  ·rw [if_neg e]; exact h.ra j (by omega)
theorem ActsAt.none_ {C K:Nat} (hf:FdbAt w lo b fb F ⟨C,K,fun _ => 0,fun _ => -1,0⟩) (A:Nat→FaS) (ab:Nat→Nat) (Es:Nat→Nat→Prop):ActsAt w lo b fb L F ⟨C,K,fun _ => 0,fun _ => -1,0⟩ 0 A ab Es (fun _ _ => pl0) where
 fd:=hf
 act:=fun i hi => absurd hi (by omega)
 apart:=fun i j hi => absurd hi (by omega)
 inv:=FdbInv.start F C K A
 rm:=fun x => ⟨Int.le_refl 0,show (0:Int) < 18446744073709551616 by decide⟩
 ra:=fun i hi => absurd hi (by omega)
theorem begA_rng (F:FcS) (who:Int) (o:OpN):ActR (begA F who o):=by
 obtain ⟨e1,e2,e3,e4,e5,e6,e7,e8,e9,e10⟩:=beg_mark F who o
 exact ⟨fun x hx => (by rw [e5] at hx; cases hx),fun x hx => (by rw [e6] at hx; cases hx)⟩
end
def itF (F:FcS) (x:MemS × FaS):Nat→MemS × FaS
 | 0 => x
 | k + 1 => stepF F (itF F x k).1 (itF F x k).2
def smF:FcS:=⟨0,0,1,1,1,2⟩
def smM:MemS:=⟨16,1,fun _ => 0,fun _ => -1,0⟩
def smO:OpN:=⟨1,1,2,5,0,9,0⟩
def smP:OpN:=⟨0,1,2,0,0,0,0⟩
def smX (k:Nat):MemS × FaS:=itF smF (smM,begA smF 0 smO) k
def smY (k:Nat):MemS × FaS:=itF smF ((smX 9).1,begA smF 1 smP) k
theorem sm_fit:FFit smF 16 1:=⟨by decide,by decide,by decide,by decide,by decide,by decide,by decide,by decide⟩
theorem smX_on:∀ k,k < 9→(smX k).2.st ≠ 0:=by decide +kernel
theorem smX_t:∀ k,k < 10→(smX k).1.t=(k:Int):=by decide +kernel
theorem smX_end:(smX 9).2.st=0∧(smX 9).2.ans=3∧0 < (smX 9).2.mark∧(smX 9).2.mark≤9:=by decide +kernel
theorem smY_on:∀ k,k < 4→(smY k).2.st ≠ 0:=by decide +kernel
theorem smY_t:∀ k,k < 5→(smY k).1.t=9 + (k:Int):=by decide +kernel
theorem smY_end:(smY 4).2.st=0∧(smY 4).2.ans=5∧9 < (smY 4).2.mark:=by decide +kernel
theorem smO_ok:OpOk smF smO:=⟨by decide,by decide +kernel,by decide,fun _ _ => (by decide),fun h => (by cases h),by decide,by decide⟩
theorem smP_ok:OpOk smF smP:=⟨by decide,by decide +kernel,by decide,fun h => absurd h (by decide),fun h => (by cases h),by decide,by decide⟩
end
section
open Go.RowKit
theorem mem_lo {w:World} {T:TypeId} {lo b:Nat} {s:MemS} (h:MemAt w T lo b s):lo + 3≤w.heap.size:=by
 obtain ⟨bc,bl,h⟩:=h
 have:=h.own.lt
 have:=h.cells.lt
 have:=h.locks.lt
 have:=h.b1
 have:=h.b2
 have:=h.c1
 have:=h.c2
 have:=h.l1
 have:=h.l2
 have:=h.n1
 have:=h.n2
 have:=h.n3
 omega
theorem updA_twice (A:Nat→FaS) (i:Nat) (a b:FaS):updA (updA A i a) i b=updA A i b:=by
 funext j
 unfold updA
 split <;> rfl
section
variable {w w':World} {lo b fb L x:Nat} {F:FcS} {m:MemS} {N i:Nat} {A:Nat→FaS} {ab:Nat→Nat} {Es:Nat→Nat→Prop} {g:Nat→Nat→Pl} {a:FaS}
def FarD (lo L k:Nat):Prop:=(lo≤k∧k < lo + 3) ∨ L≤k
def OneAt (w:World) (lo b fb L:Nat) (F:FcS) (m:MemS) (N:Nat) (A:Nat→FaS) (ab:Nat→Nat) (i:Nat) (a:FaS):Prop:=∃ Es g,ActsAt w lo b fb L F m N (updA A i a) ab Es g
theorem OneAt.below (h:OneAt w lo b fb L F m N A ab i a) (hb:Below w.heap.size w w'):OneAt w' lo b fb L F m N A ab i a:=by
 obtain ⟨Es,g,h⟩:=h
 exact ⟨Es,g,h.below hb⟩
theorem one_Step (h:OneAt w lo b fb L F m N A ab i a) (hi:i < N) (h1:lo + 3≤L) (h2:fb < L) (hLw:L≤w.heap.size) (ht:0≤m.t∧m.t≤4611686018427387900) (hst:a.st ≠ 0) :
  Calls Try.prog 20 #[.pointer (some ⟨ab i,0,none⟩)] w fun e w' => e=.returned (.bool (decide ((stepF F m a).2.st=0)))∧Tch (FarD lo L) w w'∧OneAt w' lo b fb L F (stepF F m a).1 N A ab i (stepF F m a).2:=by
 obtain ⟨Es,g,h⟩:=h
 have e9:updA A i a i=a:=updA_same A i a
 have hh:=acts_Step h hi h1 h2 hLw ht (by rw [e9]; exact hst)
 obtain ⟨fv,lv,wv,hact⟩:=h.act i hi
 refine hh.mono fun e w' hd => ?_
 obtain ⟨d1,d2,d3,d4,g',d5,d6⟩:=hd
 rw [e9] at d1 d6
 rw [updA_twice] at d6
 refine ⟨d1,d2.mono fun k _ hk => ?_,_,g',d6⟩
 rcases hk with hk | hk
 ·exact .inl hk
 ·exact .inr (hact.low k hk).1
theorem acts_Mark (h:ActsAt w lo b fb L F m N A ab Es g) (hi:i < N) :
  Calls Try.prog 22 #[.pointer (some ⟨ab i,0,none⟩)] w fun e w' => e=.returned (.int .i64 (A i).mark)∧w=w':=by
 obtain ⟨fv,lv,wv,ha⟩:=h.act i hi
 exact fact_Mark ha
theorem acts_Answer (h:ActsAt w lo b fb L F m N A ab Es g) (hi:i < N) :
  Calls Try.prog 23 #[.pointer (some ⟨ab i,0,none⟩)] w fun e w' => e=.returned (.int .i64 (if (A i).st=0 then (A i).ans else 0))∧w=w':=by
 obtain ⟨fv,lv,wv,ha⟩:=h.act i hi
 exact fact_Answer ha
theorem acts_Tries (h:ActsAt w lo b fb L F m N A ab Es g) (hi:i < N) :
  Calls Try.prog 24 #[.pointer (some ⟨ab i,0,none⟩)] w fun e w' => e=.returned (.int .i64 ((A i).vain:Nat))∧w=w':=by
 obtain ⟨fv,lv,wv,ha⟩:=h.act i hi
 exact fact_Tries ha
end
end
section
open Go.RowKit
theorem FactIn.set_lc {w:World} {L:Nat} {E:Nat→Prop} {fb ab:Nat} {F:FcS} {a:FaS} {fv lv wv:Value} (h:FactIn w L E fb ab F a fv lv wv) (z:Nat):FactIn (w.setCell ⟨ab,4,none⟩ (.int .i64 (z:Nat))) L E fb ab F { a with lc:=z } fv lv wv where
 row:=(h.row.set 4 _).congr fun i hi => by
  match i,hi with
  | 0,_ => rfl
  | 1,_ => rfl
  | 2,_ => rfl
  | 3,_ => rfl
  | 4,_ => rfl
  | 5,_ => rfl
  | 6,_ => rfl
  | 7,_ => rfl
  | 8,_ => rfl
  | 9,_ => rfl
  | 10,_ => rfl
  | 11,_ => rfl
  | 12,_ => rfl
  | 13,_ => rfl
  | 14,_ => rfl
  | 15,_ => rfl
  | _ + 16,hh => exact absurd hh (by omega)
 own:=h.own
 wk:=(h.lift 4 _).1
 ld:=(h.lift 4 _).2.1
 wr:=(h.lift 4 _).2.2.1
 ldE:=h.ldE
 wrE:=h.wrE
 low:=(h.lift 4 (.int .i64 (z:Nat))).2.2.2
 tb:=h.tb
 an:=h.an
theorem FactIn.set_hc {w:World} {L:Nat} {E:Nat→Prop} {fb ab:Nat} {F:FcS} {a:FaS} {fv lv wv:Value} (h:FactIn w L E fb ab F a fv lv wv) (z:Nat):FactIn (w.setCell ⟨ab,6,none⟩ (.int .i64 ((z * F.W:Nat):Int))) L E fb ab F { a with hc:=z } fv lv wv where
 row:=(h.row.set 6 _).congr fun i hi => by
  match i,hi with
  | 0,_ => rfl
  | 1,_ => rfl
  | 2,_ => rfl
  | 3,_ => rfl
  | 4,_ => rfl
  | 5,_ => rfl
  | 6,_ => rfl
  | 7,_ => rfl
  | 8,_ => rfl
  | 9,_ => rfl
  | 10,_ => rfl
  | 11,_ => rfl
  | 12,_ => rfl
  | 13,_ => rfl
  | 14,_ => rfl
  | 15,_ => rfl
  | _ + 16,hh => exact absurd hh (by omega)
 own:=h.own
 wk:=(h.lift 6 _).1
 ld:=(h.lift 6 _).2.1
 wr:=(h.lift 6 _).2.2.1
 ldE:=h.ldE
 wrE:=h.wrE
 low:=(h.lift 6 (.int .i64 ((z * F.W:Nat):Int))).2.2.2
 tb:=h.tb
 an:=h.an
section
variable {w:World} {lo b fb L:Nat} {E:Nat→Prop} {F:FcS} {m:MemS}
theorem flush_var {p v:Int} {t:TypeId}:VarIs (w.alloc (.cells #[.int .i64 p,.int .i64 v] t)) (fun k => k=w.heap.size) w.heap.size [.int .i64 p,.int .i64 v] :=
 ⟨rfl,fun i x hx => by
  match i with
  | 0 => injection hx with hx; subst hx; simp [go_sem]
  | 1 => injection hx with hx; subst hx; simp [go_sem]
  | _ + 2 => cases hx⟩
set_option maxRecDepth 20000 in
set_option maxHeartbeats 1600000 in
theorem fdb_FlushY (hf:FdbAt w lo b fb F m) (who:Int) (hw:0≤who) (p v:Int) (hLw:L≤w.heap.size) :
  Calls Try.prog 29 #[.pointer (some ⟨fb,0,none⟩),.int .i64 who,.agg #[.int .i64 p,.int .i64 v]] w (Began lo b fb L noE F m (newA who (.flush p v) F.lk F.S 0 (F.S * F.B) 2) w):=by
 have hS:=hf.fits.S
 have hB:=hf.fits.B
 have hn:=hf.fits.n
 have hlo:=hf.out
 have hlt:=hf.lt
 have HO:=Lib.hid fun (t:TypeId) => show Calls Try.prog 68 #[.pointer (some ⟨fb,0,none⟩),.int .i64 who,.int .i64 0,.int .i64 0,.func (.func 71) #[] #[.pointer (some ⟨w.heap.size,0,none⟩)]] (w.alloc (.cells #[.int .i64 p,.int .i64 v] t)) (Began lo b fb L noE F m (newA who (.flush p v) (F.lk + 0) 1 (0 * F.B + 0) 1 2) w) from
  (fdb_oneY (hf.below ((Below.refl _ _).alloc (Nat.le_refl _) _)) who hw 0 0 (by omega) (by omega) (.flush p v _ flush_var) (fun j hj => by subst hj; exact ⟨hLw,by simp⟩) (Nat.le_trans hLw (by simp))).mono fun e w2 h => h.from ((Below.refl _ _).alloc (Nat.le_refl _) _) (fun j hj => by subst hj; exact ⟨Nat.le_refl _,by simp⟩) hLw
 rw [show newA who (.flush p v) (F.lk + 0) 1 (0 * F.B + 0) 1 2=newA who (.flush p v) F.lk 1 0 1 2 by rw [Nat.zero_mul]; rfl] at HO
 have HL9:=Lib.hid hLw
 have HLK:=Lib.hid fun W => fdb_LocksY F.S F.B F.n hS hB hn W
 have HCE:=Lib.hid fun W => fdb_CellsY F.S F.B F.n hS hB hn W
 have e9:F.S * F.B * (1 + 2 * F.n)=F.S * F.B * F.W:=rfl
 rw [e9] at HCE
 have HFB:=Lib.hid fun W (hb:Below w.heap.size w W) => hf.below hb
 have HSS:=Lib.hid fun W (hb:Below w.heap.size w W) => show W.cell? ⟨fb,3,none⟩=some (.int .i64 (F.S:Nat))∧W.cell? ⟨fb,4,none⟩=some (.int .i64 (F.B:Nat))∧W.cell? ⟨fb,5,none⟩=some (.int .i64 (F.n:Nat)) from ⟨(hf.below hb).at_.2.2.2.1,(hf.below hb).at_.2.2.2.2.1,(hf.below hb).at_.2.2.2.2.2.1⟩
 have HLO:Hid (lo + 3≤fb∧fb < w.heap.size):=⟨hlo,hlt⟩
 clear hf hS hB hn hlo hlt hLw e9
 go_enter Try.func29,Try.ntmps29
 go_wp2_with fail
 refine (HO.out _).mono ?_
 rintro e w1 ⟨ab,rfl,hz,hb1,fv,lv,wv,hact⟩
 obtain ⟨r3,r4,r5⟩:=HSS.out w1 hb1
 have HBW:=Lib.hid hb1
 have HA:=Lib.hid hact
 have HZ:Hid (w.heap.size≤ab∧lo + 3≤ab∧ab ≠ fb):=⟨hz,by have:=HLO.out; omega,by have:=HLO.out; omega⟩
 clear hact hb1 hz HO
 go_wp2_with fail
 refine wp_region_held_drew (S:=fun w' => w'.cell? ⟨fb,3,none⟩=some (.int .i64 (F.S:Nat))∧w'.cell? ⟨fb,4,none⟩=some (.int .i64 (F.B:Nat))∧w'.cell? ⟨fb,5,none⟩=some (.int .i64 (F.n:Nat))) (by kernel_rfl) ?_ (fun hHeld => ?_)
 ·exact ⟨r3,r4,r5⟩
 obtain ⟨v0,hv0⟩:∃ w',w'=w1.drew:=⟨_,rfl⟩
 have hvb:Below w1.heap.size w1 v0:=by rw [hv0]; exact (Below.refl _ _).drew
 rw [← hv0] at hHeld ⊢
 have HB0:=Lib.hid (HBW.out.trans (hvb.mono HBW.out.size))
 have HA0:=Lib.hid (HA.out.below hvb)
 have HZ0:=Lib.hid hvb.size
 clear hv0 hvb r3 r4 r5
 refine tkR 0 rfl ?_
 refine tkR 1 rfl ?_
 refine tkR 2 rfl ?_
 refine tkR 3 rfl ?_
 refine tkR 4 rfl ?_
 refine tkR 5 rfl ?_
 refine tkR 7 rfl ?_
 refine tkR 8 rfl ?_
 refine tkR 9 rfl ?_
 refine tkR 10 rfl ?_
 refine clR 6 rfl fun K hK => ?_
 go_simp
 refine Calls.mono (HLK.out _) ?_
 rintro e w2 ⟨rfl,hb2⟩
 have HB2:=Lib.hid (HB0.out.trans (hb2.mono HB0.out.size))
 have HA2:=Lib.hid (HA0.out.below hb2)
 have HZ2:=Lib.hid (Nat.le_trans HZ0.out hb2.size)
 clear hb2
 refine hK.out _ _ ?_ (fun hHeld => ?_)
 ·(try dsimp only)
  exact HSS.out _ HB2.out
 clear hK K
 (try simp only [Act.put,sqA,sqB,sqC])
 refine clR 11 rfl fun K hK => ?_
 go_simp
 refine Calls.mono (HCE.out _) ?_
 rintro e w3 ⟨rfl,hb3⟩
 have HB3:=Lib.hid (HB2.out.trans (hb3.mono HB2.out.size))
 have HA3:=Lib.hid (HA2.out.below hb3)
 have HZ3:=Lib.hid (Nat.le_trans HZ2.out hb3.size)
 have q4:w3.cell? ⟨ab,4,none⟩=some (.int .i64 1):=HA3.out.at_ (i:=4) (by omega)
 have q6:w3.cell? ⟨ab,6,none⟩=some (.int .i64 ((1 * F.W:Nat):Int)):=HA3.out.at_ (i:=6) (by omega)
 have f4:=HA3.out.fz 4
 have f6:=HA3.out.fz 6
 clear hb3
 refine hK.out _ _ ?_ (fun hHeld => ?_)
 ·(try dsimp only)
  exact HSS.out _ HB3.out
 clear hK K
 refine tkR 12 rfl ?_
 refine tkR 13 rfl ?_
 refine clR 14 rfl fun K hK => ?_
 go_simp
 refine hK.out _ _ ?_ (fun hHeld => ?_)
 ·(try dsimp only)
  exact HSS.out _ (HB3.out.setCell HZ.out.1 _)
 clear hK K
 refine tkR 15 rfl ?_
 refine tkR 16 rfl ?_
 refine clR 17 rfl fun K hK => ?_
 go_simp
 refine hK.out _ _ ?_ (fun hHeld => ?_)
 ·(try dsimp only)
  exact HSS.out _ ((HB3.out.setCell HZ.out.1 _).setCell HZ.out.1 _)
 clear hK K
 (try simp only [Act.put,sqA,sqB,sqC])
 refine wpAnyH_done (by kernel_rfl) ?_ _
 clear hHeld
 go_wp2
 go_ret
 have hset:Below w.heap.size w ((w3.setCell ⟨ab,4,none⟩ (.int .i64 (F.S:Nat))).setCell ⟨ab,6,none⟩ (.int .i64 ((F.S * F.B * F.W:Nat):Int))):=(HB3.out.setCell HZ.out.1 _).setCell HZ.out.1 _
 refine ⟨ab,rfl,HZ.out.1,hset,?_⟩
 show FactAt _ L (growE noE w ((w3.setCell ⟨ab,4,none⟩ (.int .i64 (F.S:Nat))).setCell ⟨ab,6,none⟩ (.int .i64 ((F.S * F.B * F.W:Nat):Int)))) fb ab F _
 rw [growE_set,growE_set]
 have h9:=(HA3.out.set_lc F.S).set_hc (F.S * F.B)
 refine ⟨fv,lv,wv,h9.grow (fun k hk => ?_) (fun k hk => ?_)⟩
 ·rcases hk with hk | hk
  ·exact .inl hk
  ·exact .inr ⟨hk.1,Nat.lt_of_lt_of_le hk.2 HZ3.out⟩
 ·have h8:=HL9.out
  rcases hk with hk | hk
  ·exact False.elim hk
  ·exact ⟨by omega,by simpa using hk.2⟩
end
end
end Go.Proofs.Ythloabdfkakehaa
