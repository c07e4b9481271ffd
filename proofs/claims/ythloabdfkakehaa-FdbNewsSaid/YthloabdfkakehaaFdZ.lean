/-
  Words and contracts that a statement's proof rests on (FdZ, FgB). No statement is proved here.
-/
import Derived.Test.YthloabdfkakehaaKeyD
import Derived.Test.YthloabdfkakehaaPlainFk
import Derived.Test.YthloabdfkakehaaFdX
set_option linter.unusedVariables false
set_option linter.unusedSimpArgs false
namespace Go.Proofs.Ythloabdfkakehaa
section
open Go.RowKit
section
variable {w:World} {lo b fb L:Nat} {E:Nat→Prop} {F:FcS} {m:MemS}
theorem Began.above {w1 w2:World} {a:FaS} {e:Ending} (hb:Below w.heap.size w w1) (h:Began lo b fb L E F m a w1 e w2) (hE:∀ k,E k→L≤k∧k < w.heap.size) (hL:L≤w.heap.size):Began lo b fb L E F m a w e w2:=by
 obtain ⟨ab,h1,h2,h3,fv,lv,wv,h4⟩:=h
 have hz:=hb.size
 have hz2:=h3.size
 exact ⟨ab,h1,by omega,hb.trans (h3.mono hz),fv,lv,wv,h4.grow (fun k hk => by
  rcases hk with hk | hk
  ·exact .inl hk
  ·exact .inr ⟨by omega,hk.2⟩) fun k hk => by
  rcases hk with hk | hk
  ·have:=hE k hk; omega
  ·omega⟩
def shN (F:FcS) (v:Int) (m:Nat):Nat:=(plS v m F.S F.B).toNat
def buN (F:FcS) (v:Int) (m:Nat):Nat:=(plB v m F.S F.B).toNat
set_option maxRecDepth 20000 in
set_option maxHeartbeats 1600000 in
theorem fdb_ofY (hf:FdbAt w lo b fb F m) (who:Int) (hw:0≤who) (v:Int) (mc:Nat) (hmc:mc < 18446744073709551616) (hr:rightK v mc=true) {k:Wk} {fn:Fn} {caps:Array Value} (hk:WkAt w E k (.func fn #[] caps)) (hE:∀ k,E k→L≤k∧k < w.heap.size) (hLw:L≤w.heap.size) :
  Calls Try.prog 49 #[.pointer (some ⟨fb,0,none⟩),.int .i64 who,.agg #[.int .i64 v,.int .u64 (mc:Int)],.func fn #[] caps] w (Began lo b fb L E F m (newA who k (F.lk + shN F v mc) 1 (shN F v mc * F.B + buN F v mc) 1 2) w):=by
 obtain ⟨s0,s1,s2,s3,s4,s5,s6⟩:=hf.at_
 have hS:=hf.fits.S
 have hB:=hf.fits.B
 have hp:=pl_bd v mc F.S F.B
 have HR:=Lib.hid fun W => key_Right v mc hmc W
 rw [hr] at HR
 have HP:=Lib.hid fun W => key_Place v mc hmc F.S F.B (by omega) (by omega) W
 have e1:plS v mc F.S F.B=(shN F v mc:Nat):=(Int.toNat_of_nonneg hp.1).symm
 have e2:plB v mc F.S F.B=(buN F v mc:Nat):=(Int.toNat_of_nonneg hp.2.2.1).symm
 have h3:shN F v mc < F.S:=by have:=hp.2.1 (by omega); omega
 have h4:buN F v mc < F.B:=by have:=hp.2.2.2 (by omega); omega
 rw [e1,e2] at HP
 generalize shN F v mc=s at *
 generalize buN F v mc=n at *
 have HO:=Lib.hid fun W (hb:Below w.heap.size w W) => show Calls Try.prog 68 #[.pointer (some ⟨fb,0,none⟩),.int .i64 who,.int .i64 (s:Nat),.int .i64 (n:Nat),.func fn #[] caps] W (Began lo b fb L E F m (newA who k (F.lk + s) 1 (s * F.B + n) 1 2) w) from
  (fdb_oneY (hf.below hb) who hw s n h3 h4 (hk.keep (fun _ h => h) fun j hj => hb.block j (hE j hj).2) (fun j hj => ⟨(hE j hj).1,Nat.lt_of_lt_of_le (hE j hj).2 hb.size⟩) (Nat.le_trans hLw hb.size)).mono fun e w2 h => h.above hb hE hLw
 have HS:=Lib.hid fun (W:World) (hB:Below w.heap.size w W) => show W.cell? ⟨fb,3,none⟩=some (.int .i64 (F.S:Nat))∧W.cell? ⟨fb,4,none⟩=some (.int .i64 (F.B:Nat)) from
  ⟨(hf.below hB).at_.2.2.2.1,(hf.below hB).at_.2.2.2.2.1⟩
 clear hf hS hB hp hr hk hE hLw e1 e2 h3 h4 s0 s1 s2 s3 s4 s5 s6
 go_enter Try.func49,Try.ntmps49
 go_wp2_with (first
  | go_big_skip
  | (go_at_call 81; (with_reducible refine Calls.mono (HR.out _) ?_); rintro e w1 ⟨rfl,hb1⟩; have HB1:=Lib.hid (((Below.refl w.heap.size w).alloc (Nat.le_refl _) _).trans (hb1.mono (by simp))); have c0:w1.cell? ⟨w.heap.size,0,none⟩=some (.int .i64 v):=(hb1.cell (p:=⟨w.heap.size,0,none⟩) (by simp)).trans (by simp [go_sem]); have c1:w1.cell? ⟨w.heap.size,1,none⟩=some (.int .u64 (mc:Int)):=(hb1.cell (p:=⟨w.heap.size,1,none⟩) (by simp)).trans (by simp [go_sem]); have hlt9:w.heap.size < w1.heap.size:=Nat.lt_of_lt_of_le (by simp) hb1.size; clear hb1)
  | fail)
 have r9:=HS.out w1 HB1.out
 have HC9:=Lib.hid fun W (hb:Below w1.heap.size w1.drew W) => show W.cell? ⟨w.heap.size,0,none⟩=some (.int .i64 v)∧W.cell? ⟨w.heap.size,1,none⟩=some (.int .u64 (mc:Int)) from ⟨(hb.cell (p:=⟨w.heap.size,0,none⟩) hlt9).trans c0,(hb.cell (p:=⟨w.heap.size,1,none⟩) hlt9).trans c1⟩
 go_region_held3 (fun w' => (w'.cell? ⟨fb,3,none⟩=some (.int .i64 (F.S:Nat))∧w'.cell? ⟨fb,4,none⟩=some (.int .i64 (F.B:Nat)))∧w'.cell? ⟨w.heap.size,0,none⟩=some (.int .i64 v)∧w'.cell? ⟨w.heap.size,1,none⟩=some (.int .u64 (mc:Int))) (first | exact ⟨HS.out _ HB2.out,HC2.out⟩ | exact ⟨r9,c0,c1⟩ | go_keep) (first
  | (go_at_call 82; (with_reducible refine Calls.mono (HP.out _) ?_); rintro e w2 ⟨rfl,hb2⟩; have HB2:=Lib.hid (Below.trans (Below.drew HB1.out) (hb2.mono HB1.out.size)); have HC2:=Lib.hid (HC9.out _ hb2); clear hb2))
 go_wp2_with fail
 refine (HO.out _ HB2.out).mono ?_
 rintro e w3 ⟨ab,rfl,hz,hb3,hact⟩
 go_wp2
 go_ret
 exact ⟨ab,rfl,hz,hb3,hact⟩
set_option maxRecDepth 20000 in
set_option maxHeartbeats 800000 in
theorem fdb_ofN (who:Int) (v:Int) (mc:Nat) (hmc:mc < 18446744073709551616) (hr:rightK v mc=false) (fv:Value) :
  Calls Try.prog 49 #[.pointer (some ⟨fb,0,none⟩),.int .i64 who,.agg #[.int .i64 v,.int .u64 (mc:Int)],fv] w (Says (.pointer none) w):=by
 have HR:=Lib.hid fun W => key_Right v mc hmc W
 rw [hr] at HR
 clear hr
 go_enter Try.func49,Try.ntmps49
 go_wp2_with (first
  | go_big_skip
  | (go_at_call 81; (with_reducible refine Calls.mono (HR.out _) ?_); rintro e w1 ⟨rfl,hb1⟩; have HB1:=Lib.hid (((Below.refl w.heap.size w).alloc (Nat.le_refl _) _).trans (hb1.mono (by simp))); clear hb1)
  | fail)
 go_wp2
 go_ret
 exact ⟨rfl,HB1.out⟩
end
end
section
open Go.RowKit
structure OpN where
 K:Nat
 v:Int
 mc:Nat
 port:Int
 vid:Int
 now:Nat
 old:Nat
structure OpOk (F:FcS) (o:OpN):Prop where
 K:o.K < 7
 key:rightK o.v o.mc=true
 mc:o.mc < 18446744073709551616
 port:1≤o.K→o.K≤3→0≤o.port∧o.port < 64
 age:o.K=5→(0≤o.port∧o.port < (F.S:Int))∧0≤o.vid∧o.vid < (F.B:Int)
 now:o.now < 4294967296
 old:o.old < 4294967296
def begA (F:FcS) (who:Int) (o:OpN):FaS :=
 if o.K=5 then newA who (wkO o.K o.v o.mc o.port o.vid o.now o.old) (F.lk + o.port.toNat) 1 (o.port.toNat * F.B + o.vid.toNat) 1 2
 else if o.K=6 then newA who (wkO o.K o.v o.mc o.port o.vid o.now o.old) F.lk F.S 0 (F.S * F.B) 2
 else newA who (wkO o.K o.v o.mc o.port o.vid o.now o.old) (F.lk + shN F o.v o.mc) 1 (shN F o.v o.mc * F.B + buN F o.v o.mc) 1 (if o.K=0 then 1 else 2)
theorem beg_mark (F:FcS) (who:Int) (o:OpN):(begA F who o).mark=0∧(begA F who o).held=0∧(begA F who o).who=who∧(begA F who o).wk=wkO o.K o.v o.mc o.port o.vid o.now o.old∧(begA F who o).ld=[]∧(begA F who o).wr=[]∧(begA F who o).ans=0∧(begA F who o).wt=0∧(begA F who o).vain=0∧((begA F who o).st=2 ∨ (o.K=0∧(begA F who o).st=1)):=by
 unfold begA newA
 by_cases h5:o.K=5
 ·rw [if_pos h5]
  exact ⟨rfl,rfl,rfl,rfl,rfl,rfl,rfl,rfl,rfl,.inl rfl⟩
 ·rw [if_neg h5]
  by_cases h6:o.K=6
  ·rw [if_pos h6]
   exact ⟨rfl,rfl,rfl,rfl,rfl,rfl,rfl,rfl,rfl,.inl rfl⟩
  ·rw [if_neg h6]
   refine ⟨rfl,rfl,rfl,rfl,rfl,rfl,rfl,rfl,rfl,?_⟩
   show (if o.K=0 then 1 else 2)=2 ∨ _
   by_cases h0:o.K=0
   ·rw [if_pos h0]; exact .inr ⟨h0,rfl⟩
   ·rw [if_neg h0]; exact .inl rfl
theorem div_row {s B n:Nat} (hn:n < B):(s * B + n) / B=s:=by
 rw [Nat.mul_comm,Nat.mul_add_div (by omega),Nat.div_eq_of_lt hn,Nat.add_zero]
theorem row_lt {s S B n:Nat} (hs:s < S) (hn:n < B):s * B + n < S * B:=by
 have h9:(s + 1) * B≤S * B:=Nat.mul_le_mul_right _ hs
 rw [Nat.add_mul,Nat.one_mul] at h9
 omega
theorem wkO_ok {K:Nat} (hK:K < 7) {v:Int} {mc:Nat} (hmc:mc < 18446744073709551616) (port vid:Int) {now:Nat} (hnow:now < 4294967296) (old:Nat):(wkO K v mc port vid now old).ok:=by
 rcases (show K=0 ∨ K=1 ∨ K=2 ∨ K=3 ∨ K=4 ∨ K=5 ∨ K=6 by omega) with rfl | rfl | rfl | rfl | rfl | rfl | rfl
 ·exact hmc
 ·exact ⟨hmc,hnow⟩
 ·exact ⟨hmc,hnow⟩
 ·exact ⟨hmc,hnow⟩
 ·exact hmc
 ·exact hnow
 ·exact trivial
section
variable {F:FcS} {C L:Nat}
theorem home_lt (hf:FFit F C L) (v:Int) (mc:Nat):shN F v mc < F.S∧buN F v mc < F.B:=by
 have hp:=pl_bd v mc F.S F.B
 have hS:=hf.S
 have hB:=hf.B
 have h3:=hp.2.1 (by omega)
 have h4:=hp.2.2.2 (by omega)
 unfold shN buN
 omega
theorem one_ok {who:Int} (hw:0≤who) {k:Wk} (hk:k.ok) {s n:Nat} (hs:s < F.S) (hn:n < F.B) (st:Nat):ActOk F (newA who k (F.lk + s) 1 (s * F.B + n) 1 st) where
 who:=hw
 wk:=hk
 hc:=Nat.le_refl 1
 hh:=by have:=row_lt hs hn; show s * F.B + n + 1≤_; omega
 lc:=Nat.le_refl 1
 l1:=Nat.le_add_right _ _
 l2:=by show F.lk + s + 1≤_; omega
 cov:=fun H hH => by
  have h1:s * F.B + n≤H:=hH.1
  have h2:H < s * F.B + n + 1:=hH.2
  have e:H=s * F.B + n:=by omega
  rw [e,div_row hn]
  show F.lk + s≤F.lk + s∧F.lk + s < F.lk + s + 1
  omega
theorem beg_ok (hf:FFit F C L) {who:Int} (hw:0≤who) {o:OpN} (ho:OpOk F o):ActOk F (begA F who o):=by
 have hk:=wkO_ok ho.K (v:=o.v) ho.mc o.port o.vid ho.now o.old
 obtain ⟨h1,h2⟩:=home_lt hf o.v o.mc
 have hS:=hf.S
 have hB:=hf.B
 unfold begA
 by_cases h5:o.K=5
 ·rw [if_pos h5]
  have:=ho.age h5
  exact one_ok hw hk (by omega) (by omega) 2
 ·rw [if_neg h5]
  by_cases h6:o.K=6
  ·rw [if_pos h6]
   exact {
    who:=hw
    wk:=hk
    hc:=hf.SB.1
    hh:=by show 0 + F.S * F.B≤_; omega
    lc:=hS.1
    l1:=Nat.le_refl _
    l2:=Nat.le_refl _
    cov:=fun H hH => by
     have hH2:H < 0 + F.S * F.B:=hH.2
     have h9:H < F.B * F.S:=by rw [Nat.mul_comm]; omega
     exact ⟨Nat.le_add_right _ _,Nat.add_lt_add_left (Nat.div_lt_of_lt_mul h9) _⟩ }
  ·rw [if_neg h6]
   exact one_ok hw hk h1 h2 _
theorem beg_stg (hf:FFit F C L) {who:Int} (hw:0≤who) {o:OpN} (ho:OpOk F o) (m:MemS) (g:Nat→Nat→Pl):StgOk F m g (begA F who o):=by
 obtain ⟨e1,e2,e3,e4,e5,e6,e7,e8,e9,e10⟩:=beg_mark F who o
 have hlc:=(beg_ok hf hw ho).lc
 rcases e10 with h | ⟨h0,h⟩
 ·exact .inr (.inr (.inl ⟨h,⟨by omega,e1,e8,e7,e5⟩⟩))
 ·have hc:(begA F who o).hc=1:=by
   unfold begA
   rw [if_neg (by omega),if_neg (by omega)]
   rfl
  refine .inr (.inl ⟨h,⟨hc,e2,⟨o.v,o.mc,by rw [e4,h0]; rfl⟩,e1,e8,e7,by rw [e5]; exact Nat.zero_le _,by rw [e9]; exact hf.tr.1,fun h9 => ?_⟩⟩)
  rw [e5] at h9
  exact absurd h9 (by decide)
end
structure RunS where
 m:MemS
 N:Nat
 A:Nat→FaS
 lg:List Nat
 fr:Nat→Int
 tt:Nat→Int
 at_:Nat→Nat
 nw:Nat→Int
 op:Nat→OpN
def sumN (f:Nat→Nat):Nat→Nat
 | 0 => 0
 | k + 1 => sumN f k + f k
def updN (f:Nat→Nat) (k v i:Nat):Nat:=if i=k then v else f i
structure RunK (F:FcS) (P:Nat) (ls:Nat→List OpN) (s:RunS) (g:Nat→Nat→Pl):Prop where
 run:RunP F s.m s.N s.A g s.lg s.fr s.tt
 at_:∀ p,p < P→s.at_ p≤(ls p).length
 nw:∀ p,p < P→s.nw p=-1 ∨ ∃ i:Nat,i < s.N∧s.nw p=(i:Int)∧(s.A i).st ≠ 0∧(s.A i).who=(p:Int)
 act:∀ i,i < s.N→(s.A i).st ≠ 0→∃ p,p < P∧(s.A i).who=(p:Int)∧s.nw p=(i:Int)
 N:s.N=sumN s.at_ P
 op:∀ i,i < s.N→OpOk F (s.op i)∧∃ who,Same (begA F who (s.op i)) (s.A i)
 mu:∀ i,i < s.N→muF F (s.A i)≤boundF F
 va:∀ i,i < s.N→(s.A i).vain≤F.tr
section
variable {F:FcS} {C L P:Nat} {ls:Nat→List OpN} {s:RunS} {g:Nat→Nat→Pl}
theorem RunK.start (F:FcS) (C L P:Nat) (ls:Nat→List OpN) (A:Nat→FaS) (fr tt:Nat→Int) (op:Nat→OpN):RunK F P ls ⟨⟨C,L,fun _ => 0,fun _ => -1,0⟩,0,A,[],fr,tt,fun _ => 0,fun _ => -1,op⟩ (fun _ _ => pl0) where
 run:=RunP.start F C L A fr tt
 at_:=fun p hp => Nat.zero_le _
 nw:=fun p hp => .inl rfl
 act:=fun i hi => absurd hi (by show ¬ i < 0; omega)
 N:=by
  show 0=sumN (fun _ => 0) P
  induction P with
  | zero => rfl
  | succ k ih => rw [sumN,← ih]
 op:=fun i hi => absurd hi (by show ¬ i < 0; omega)
 mu:=fun i hi => absurd hi (by show ¬ i < 0; omega)
 va:=fun i hi => absurd hi (by show ¬ i < 0; omega)
def muO (F:FcS) (ls:Nat→List OpN) (s:RunS) (p:Nat):Nat:=((ls p).length - s.at_ p) * boundF F + if s.nw p=-1 then 0 else muF F (s.A (s.nw p).toNat)
def muR (F:FcS) (P:Nat) (ls:Nat→List OpN) (Q:Nat→Bool) (s:RunS):Nat:=sumN (fun p => if Q p=true then muO F ls s p else 0) P
def leftO (ls:Nat→List OpN) (s:RunS) (p:Nat):Nat:=(ls p).length - s.at_ p + if s.nw p=-1 then 0 else 1
def leftR (P:Nat) (ls:Nat→List OpN) (s:RunS):Nat:=sumN (leftO ls s) P
theorem RunK.le (h:RunK F P ls s g) (Q:Nat→Bool):muR F P ls Q s≤leftR P ls s * boundF F:=by
 have key:∀ k,k≤P→sumN (fun p => if Q p=true then muO F ls s p else 0) k≤sumN (leftO ls s) k * boundF F:=fun k => by
  induction k with
  | zero => exact fun _ => Nat.zero_le _
  | succ k ih =>
   intro hk
   have h1:=ih (by omega)
   rw [sumN,sumN,Nat.add_mul]
   have h2:muO F ls s k≤leftO ls s k * boundF F:=by
    unfold muO leftO
    rw [Nat.add_mul]
    rcases h.nw k (by omega) with e | ⟨i,hi,e,_,_⟩
    ·rw [if_pos e,if_pos e,Nat.zero_mul]
     exact Nat.le_refl _
    ·rw [if_neg (by omega),if_neg (by omega),Nat.one_mul,e,Int.toNat_natCast]
     have:=h.mu i hi
     omega
   by_cases e:Q k=true
   ·rw [if_pos e]; omega
   ·rw [if_neg e]; omega
 exact key P (Nat.le_refl P)
end
end
end Go.Proofs.Ythloabdfkakehaa
