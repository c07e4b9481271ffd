/-
  Words and contracts that a statement's proof rests on (FgN). No statement is proved here.
-/
import Derived.WalkMore
import Derived.Test.YthloabdfkakehaaFgS
import Derived.Test.YthloabdfkakehaaFgM
import Derived.Test.YthloabdfkakehaaFgF
import Derived.Test.YthloabdfkakehaaFgG
import Derived.Test.YthloabdfkakehaaFeJ
import Derived.Test.YthloabdfkakehaaFeK
set_option linter.unusedVariables false
set_option linter.unusedSimpArgs false
namespace Go.Proofs.Ythloabdfkakehaa
open Go.RowKit
section
variable {w:World}
def BegunRun (w:World) (e:Ending) (w':World):Prop :=
 ∃ (C K9 lo b fb rb L:Nat) (F:FcS) (P:Nat) (ls:Nat→List OpN) (lv:Nat→Value),e=.returned (.pointer (some ⟨rb,0,none⟩))∧RunAt w' lo b fb rb L F P ls lv (run0 C K9)∧Below w.heap.size w w'∧w.heap.size≤lo∧w.heap.size≤rb∧w.heap.size≤L∧P≤6∧(∀ p,p < P→(ls p).length≤12∧∀ o ∈ ls p,OpOk F o)∧K9=F.S + 2∧F.lk=1
set_option maxRecDepth 20000 in
set_option maxHeartbeats 12800000 in
theorem law12_begin (a e c tr:Int) (v:Value) (hv:OpsRows w v):Calls Try.prog 31 #[.agg #[.int .i64 a,.int .i64 e,.int .i64 c],.int .i64 tr,v] w (BegunRun w):=by
 obtain ⟨S,hS1,hS2,hSw⟩:=fix_sizeK a 8 (by omega) (by omega)
 obtain ⟨B,hB1,hB2,hBw⟩:=fix_sizeK e 16 (by omega) (by omega)
 obtain ⟨n,hn1,hn2,hnw⟩:=fix_sizeK c 8 (by omega) (by omega)
 obtain ⟨T,hT1,hT2,hTw⟩:=fix_sizeK tr 8 (by omega) (by omega)
 have hTw8:wrap64 (1 + wrap64 ((IntKind.u64.wrap tr).tmod 8))=(T:Int):=hTw
 have HFX:=Lib.hid fun W => ref11_FixK a e c S B n hSw hBw hnw W
 have HRC:=Lib.hid fun W => ref12_CellsY S B n ⟨hS1,hS2⟩ ⟨hB1,hB2⟩ ⟨hn1,hn2⟩ W
 have HTO:=Lib.hid fun W => law11_To (S:Int) (B:Int) (n:Int) W
 obtain ⟨CE,hCE⟩:∃ CE,CE=S * B * (1 + 2 * n):=⟨_,rfl⟩
 have bCE:CE≤2176:=by rw [hCE]; exact Nat.mul_le_mul (Nat.mul_le_mul hS2 hB2:S * B≤128) (show 1 + 2 * n≤17 by omega)
 rw [← hCE] at HRC
 obtain ⟨C,hC⟩:∃ C,C=CE + 3:=⟨_,rfl⟩
 obtain ⟨K9,hK9⟩:∃ K9,K9=S + 2:=⟨_,rfl⟩
 have y1:=wr_ok (e:=(CE:Int) + 3) (k:=C) (by omega) (by omega)
 have y2:=wr_ok (e:=(S:Int) + 2) (k:=K9) (by omega) (by omega)
 have HMN:=Lib.hid fun W => show Calls Try.prog 6 #[.int .i64 (C:Int),.int .i64 (K9:Int)] W fun e w' => ∃ b,e=.returned (.tuple #[.pointer (some ⟨b,0,none⟩),.int .i64 0])∧MemAt w' 82 W.heap.size b ⟨C,K9,fun _ => 0,fun _ => -1,0⟩∧Below W.heap.size W w' from mem_New C K9 (by clear y1 y2; omega) (by clear y1 y2; omega) W
 have hfit:FFit ⟨2,1,S,B,n,T⟩ C K9:=⟨⟨hS1,hS2⟩,⟨hB1,hB2⟩,⟨hn1,hn2⟩,⟨hT1,hT2⟩,by show 2 + S * B * (1 + 2 * n)≤C; rw [← hCE]; clear y1 y2; omega,by show 1 + S≤K9; clear y1 y2; omega,by clear y1 y2; omega,by clear y1 y2; omega⟩
 have HNW:=Lib.hid fun W lo b (hlo:lo + 3≤W.heap.size) (hm:MemAt W 82 lo b ⟨C,K9,fun _ => 0,fun _ => -1,0⟩) => show Calls Try.prog 7 #[.pointer (some ⟨b,0,none⟩),.int .i64 2,.int .i64 1,.agg #[.int .i64 (S:Nat),.int .i64 (B:Nat),.int .i64 (n:Nat)],.int .i64 (T:Nat)] W fun e w' => ∃ fb,e=.returned (.tuple #[.pointer (some ⟨fb,0,none⟩),.int .i64 0])∧W.heap.size≤fb∧FdbAt w' lo b fb ⟨2,1,S,B,n,T⟩ ⟨C,K9,fun _ => 0,fun _ => -1,0⟩∧Below W.heap.size W w' from fdb_NewY hm ⟨2,1,S,B,n,T⟩ hfit hlo
 have HF:=Lib.hid hfit
 obtain ⟨A,nl,cap,rfl,hcap1,hcap2,harg⟩:=hv
 unfold maxLen at hcap2
 have HV:=Lib.hid harg
 have HKS:=Lib.hid hK9
 obtain ⟨y1,y3⟩:=y1
 obtain ⟨y2,y4⟩:=y2
 clear hSw hBw hnw hTw hCE bCE hC hK9 hfit harg hS1 hS2 hB1 hB2 hn1 hn2 hT1 hT2
 go_enter Try.func31,Try.ntmps31
 go_wp2_with fail
 refine (HFX.out _).mono ?_
 rintro e w1 ⟨rfl,hb⟩
 have t0:w1.cell? ⟨w.heap.size,0,none⟩=some (.int .i64 a):=(hb.cell (p:=⟨w.heap.size,0,none⟩) (by simp)).trans (by simp [go_sem])
 have t1:w1.cell? ⟨w.heap.size,1,none⟩=some (.int .i64 e):=(hb.cell (p:=⟨w.heap.size,1,none⟩) (by simp)).trans (by simp [go_sem])
 have t2:w1.cell? ⟨w.heap.size,2,none⟩=some (.int .i64 c):=(hb.cell (p:=⟨w.heap.size,2,none⟩) (by simp)).trans (by simp [go_sem])
 have f0:∀ o,w1.frozen? ⟨w.heap.size,o,none⟩=false:=fun o => (hb.frozen (p:=⟨w.heap.size,o,none⟩) (by simp)).trans (by simp [go_sem])
 have hsz:w.heap.size < w1.heap.size:=Nat.lt_of_lt_of_le (by simp) hb.size
 have HB:Hid (Below w.heap.size w w1):=((Below.refl w.heap.size w).alloc (Nat.le_refl _) _).trans (hb.mono (by simp))
 clear hb
 go_wp2_with fail
 obtain ⟨w2,hw2⟩:∃ w',w'=((w1.setCell ⟨w.heap.size,0,none⟩ (.int .i64 (S:Nat))).setCell ⟨w.heap.size,1,none⟩ (.int .i64 (B:Nat))).setCell ⟨w.heap.size,2,none⟩ (.int .i64 (n:Nat)):=⟨_,rfl⟩
 rw [← hw2]
 have s0:w2.cell? ⟨w.heap.size,0,none⟩=some (.int .i64 (S:Nat)):=by rw [hw2]; simp [go_sem,t0,t1,t2]
 have s1:w2.cell? ⟨w.heap.size,1,none⟩=some (.int .i64 (B:Nat)):=by rw [hw2]; simp [go_sem,t0,t1,t2]
 have s2:w2.cell? ⟨w.heap.size,2,none⟩=some (.int .i64 (n:Nat)):=by rw [hw2]; simp [go_sem,t0,t1,t2]
 have hsz:w.heap.size < w2.heap.size:=by rw [hw2]; simpa using hsz
 have HB:Hid (Below w.heap.size w w2):=by rw [hw2]; exact ((HB.out.setCell (Nat.le_refl _) _).setCell (Nat.le_refl _) _).setCell (Nat.le_refl _) _
 clear hw2 t0 t1 t2 f0
 refine wp_region_held_drew (S:=fun w' => w'.cell? ⟨w.heap.size,0,none⟩=some (.int .i64 (S:Nat))∧w'.cell? ⟨w.heap.size,1,none⟩=some (.int .i64 (B:Nat))∧w'.cell? ⟨w.heap.size,2,none⟩=some (.int .i64 (n:Nat))) (by kernel_rfl) ?_ (fun hHeld => ?_)
 ·exact ⟨s0,s1,s2⟩
 obtain ⟨v0,hv0⟩:∃ w',w'=w2.drew:=⟨_,rfl⟩
 have hb:Below w2.heap.size w2 v0:=by rw [hv0]; exact (Below.refl _ _).drew
 rw [← hv0] at hHeld ⊢
 have s0:=(hb.cell (p:=⟨w.heap.size,0,none⟩) hsz).trans s0
 have s1:=(hb.cell (p:=⟨w.heap.size,1,none⟩) hsz).trans s1
 have s2:=(hb.cell (p:=⟨w.heap.size,2,none⟩) hsz).trans s2
 have hsz:=Nat.lt_of_lt_of_le hsz hb.size
 have HB:=Lib.hid (HB.out.trans (hb.mono HB.out.size))
 clear hb hv0
 refine tkR 0 rfl ?_
 refine tkR 3 rfl ?_
 refine tkR 4 rfl ?_
 refine tkR 5 rfl ?_
 refine clR 1 rfl fun K hK => ?_
 go_simp
 refine (HRC.out _).mono ?_
 rintro e w3 ⟨rfl,hb⟩
 have s0:=(hb.cell (p:=⟨w.heap.size,0,none⟩) hsz).trans s0
 have s1:=(hb.cell (p:=⟨w.heap.size,1,none⟩) hsz).trans s1
 have s2:=(hb.cell (p:=⟨w.heap.size,2,none⟩) hsz).trans s2
 have hsz:=Nat.lt_of_lt_of_le hsz hb.size
 have HB:=Lib.hid (HB.out.trans (hb.mono HB.out.size))
 clear hb
 refine hK.out _ _ ?_ (fun hHeld => ?_)
 ·(try dsimp only)
  exact ⟨s0,s1,s2⟩
 clear hK K
 refine tkR 2 rfl ?_
 refine clR 6 rfl fun K hK => ?_
 go_simp
 refine (HMN.out _).mono ?_
 rintro e w4 ⟨b,rfl,hm,hb⟩
 have s0:=(hb.cell (p:=⟨w.heap.size,0,none⟩) hsz).trans s0
 have s1:=(hb.cell (p:=⟨w.heap.size,1,none⟩) hsz).trans s1
 have s2:=(hb.cell (p:=⟨w.heap.size,2,none⟩) hsz).trans s2
 have hsz3:=hsz
 have hsz:=Nat.lt_of_lt_of_le hsz hb.size
 have HB:=Lib.hid (HB.out.trans (hb.mono HB.out.size))
 obtain ⟨lo,hlo⟩:∃ lo,lo=w3.heap.size:=⟨_,rfl⟩
 rw [← hlo] at hm
 have HM:=Lib.hid hm
 have HLO:Hid (w.heap.size < lo∧lo + 3≤w4.heap.size):=⟨by rw [hlo]; exact hsz3,mem_lo hm⟩
 clear hm hlo
 clear hb
 refine hK.out _ _ ?_ (fun hHeld => ?_)
 ·(try dsimp only)
  exact ⟨s0,s1,s2⟩
 clear hK K
 refine tkR 7 rfl ?_
 refine tkR 8 rfl ?_
 refine tkR 9 rfl ?_
 refine tkR 10 rfl ?_
 refine tkR 11 rfl ?_
 refine wpAnyH_done (by kernel_rfl) ?_ _
 clear hHeld
 go_wp2_with fail
 refine (HTO.out _).mono ?_
 rintro e w5 ⟨rfl,hb⟩
 have s0:=(hb.cell (p:=⟨w.heap.size,0,none⟩) hsz).trans s0
 have s1:=(hb.cell (p:=⟨w.heap.size,1,none⟩) hsz).trans s1
 have s2:=(hb.cell (p:=⟨w.heap.size,2,none⟩) hsz).trans s2
 have hsz:=Nat.lt_of_lt_of_le hsz hb.size
 have HB:=Lib.hid (HB.out.trans (hb.mono HB.out.size))
 have HM:=Lib.hid (HM.out.below hb)
 have HLO:Hid (w.heap.size < lo∧lo + 3≤w5.heap.size):=⟨HLO.out.1,Nat.le_trans HLO.out.2 hb.size⟩
 clear hb
 go_wp2_with fail
 refine (HNW.out _ _ _ HLO.out.2 HM.out).mono ?_
 rintro e w6 ⟨fb,rfl,hfb,hfd,hb⟩
 have s0:=(hb.cell (p:=⟨w.heap.size,0,none⟩) hsz).trans s0
 have s1:=(hb.cell (p:=⟨w.heap.size,1,none⟩) hsz).trans s1
 have s2:=(hb.cell (p:=⟨w.heap.size,2,none⟩) hsz).trans s2
 have hsz:=Nat.lt_of_lt_of_le hsz hb.size
 have HB:=Lib.hid (HB.out.trans (hb.mono HB.out.size))
 have HFD:=Lib.hid hfd
 clear hfb hfd HM
 clear hb
 go_wp2_with fail
 obtain ⟨w7,hw7⟩:∃ w',w'=w6.alloc (.cells #[.pointer (some ⟨b,0,none⟩),.pointer (some ⟨fb,0,none⟩),.int .i64 (S:Nat),.int .i64 (B:Nat),.int .i64 (n:Nat),.int .i64 (T:Nat),.slice none 0 0,.slice none 0 0,.slice none 0 0,.slice none 0 0,.slice none 0 0,.slice none 0 0,.slice none 0 0,.bool false] 68):=⟨_,rfl⟩
 rw [← hw7]
 obtain ⟨rb,hrb⟩:∃ rb,rb=w6.heap.size:=⟨_,rfl⟩
 rw [← hrb]
 obtain ⟨F,hF⟩:∃ F:FcS,F=⟨2,1,S,B,n,T⟩:=⟨_,rfl⟩
 have HM0:Hid (RunM w7 lo b fb rb (rb + 1) F (run0 C K9).m 0 (run0 C K9).A (fun _ => 0) (fun _ _ => False) (fun _ _ => pl0) (7 + 0) (rowsS 0 (fun _ => []) (fun _ => .slice none 0 0) (fun _ => 0) (run0 C K9) nilV) nilV):=by
  rw [hw7,hrb,hF]
  exact RunM.start HFD.out _ _ _ _
 have HFXO:=Lib.hid fun W kd kv q hq po vi no ol h1 h2 => show Calls Try.prog 73 #[.agg #[.int .i64 kd,.int .i64 kv,.int .u64 (q:Nat),.int .i64 po,.int .i64 vi,.int .u32 (no:Nat),.int .u32 (ol:Nat)],.agg #[.int .i64 (S:Nat),.int .i64 (B:Nat),.int .i64 (n:Nat)]] W (FixedOp F W) from by
  rw [hF]
  exact law12_Fix HF.out kd kv q hq po vi no ol h1 h2
 have hb:Below w6.heap.size w6 w7:=by rw [hw7]; exact (Below.refl _ _).alloc (Nat.le_refl _) _
 have s0:=(hb.cell (p:=⟨w.heap.size,0,none⟩) hsz).trans s0
 have s1:=(hb.cell (p:=⟨w.heap.size,1,none⟩) hsz).trans s1
 have s2:=(hb.cell (p:=⟨w.heap.size,2,none⟩) hsz).trans s2
 have hsz:=Nat.lt_of_lt_of_le hsz hb.size
 have HB:=Lib.hid (HB.out.trans (hb.mono HB.out.size))
 have HLR:Hid (w.heap.size < lo∧lo < rb∧w.heap.size < w7.heap.size):=⟨HLO.out.1,by have:=HFD.out.out; have:=HFD.out.lt; omega,hsz⟩
 have HKP:=Lib.hid fun W (ht:Tch (RunD lo rb (rb + 1)) w7 W) (p:Addr) (hp:p.block≤w.heap.size) => show W.cell? p=w7.cell? p from ht.cell (by have:=HLR.out; omega) (fun hd => by have:=HLR.out; unfold RunD at hd; omega)
 have HSC:=Lib.hid fun W (ht:Tch (RunD lo rb (rb + 1)) w7 W) => show W.cell? ⟨w.heap.size,0,none⟩=some (.int .i64 (S:Nat))∧W.cell? ⟨w.heap.size,1,none⟩=some (.int .i64 (B:Nat))∧W.cell? ⟨w.heap.size,2,none⟩=some (.int .i64 (n:Nat)) from ⟨(HKP.out W ht _ (Nat.le_refl _)).trans s0,(HKP.out W ht _ (Nat.le_refl _)).trans s1,(HKP.out W ht _ (Nat.le_refl _)).trans s2⟩
 have HFK:Hid (K9=F.S + 2∧F.lk=1):=by rw [hF]; exact ⟨HKS.out,rfl⟩
 clear hw7 hrb hF hb s0 s1 s2 hsz HFD HLO HF HKS y1 y2 y3 y4 hTw8 HFX HRC HTO HMN HNW
 go_loopw [13,14,15] (fun i l j wr => ∃ (k:Nat) (ls:Nat→List OpN) (lv V:Nat→Value),k≤nl∧k≤6∧i=.int .i64 k∧Hid (RunM wr lo b fb rb (rb + 1) F (run0 C K9).m 0 (run0 C K9).A (fun _ => 0) (fun _ _ => False) (fun _ _ => pl0) (7 + k) (rowsS k ls lv (fun _ => 0) (run0 C K9) V) V)∧Hid (Tch (RunD lo rb (rb + 1)) w7 wr)∧Hid (∀ p,p < k→(ls p).length≤12∧∀ o ∈ ls p,OpOk F o)) (fun i l j _ => 6 - (intOf i).toNat)
 case atStart => exact ⟨0,fun _ => [],fun _ => .slice none 0 0,nilV,by omega,by omega,rfl,HM0,Tch.refl _ _,Lib.hid fun p hp => absurd hp (by omega)⟩
 case round =>
  obtain ⟨k,ls,lv,V,hk1,hk2,rfl,HM,HT,HG⟩:=hrel
  by_cases hlt:k < nl∧k < 6
  ·obtain ⟨h1,h2⟩:=hlt
   have g1:decide ((k:Int) < (nl:Int))=true:=decide_eq_true (by omega)
   have g2:decide ((k:Int) < 6)=true:=decide_eq_true (by omega)
   have g3:(0:Int)≤(k:Int):=Int.natCast_nonneg _
   have g4:(k:Int) < (nl:Int):=by omega
   have g5:(k:Int) < 6:=by omega
   obtain ⟨b0,off,rfl,hb0,hrow⟩:=HV.out (by omega)
   obtain ⟨u,hu,A1,m1,cap1,rfl,hm1,hm2,hops⟩:=hrow k h1
   unfold maxLen at hm2
   have HAR:=Lib.hid fun W (ht:Tch (RunD lo rb (rb + 1)) w7 W) => show W.cell? ⟨b0,off + k,none⟩=some (.slice A1 m1 cap1) from (HKP.out W ht ⟨b0,off + k,none⟩ (Nat.le_of_lt hb0)).trans ((HB.out.cell (p:=⟨b0,off + k,none⟩) hb0).trans hu)
   have HOP:=Lib.hid hops
   clear hrow hu hops
   go_wp2
   go_loopw [14,15] (fun l j wr => ∃ (jn:Nat) (A2:Option Addr) (c2:Nat) (lj:List OpN),jn≤m1∧jn≤12∧j=.int .i64 jn∧l=.slice A2 jn c2∧lj.length=jn∧Hid (∀ o ∈ lj,OpOk F o)∧Hid (RunM wr lo b fb rb (rb + 1) F (run0 C K9).m 0 (run0 C K9).A (fun _ => 0) (fun _ _ => False) (fun _ _ => pl0) (7 + k + 1) (updV (rowsS k ls lv (fun _ => 0) (run0 C K9) V) (7 + k) ⟨106,7,.slice A2 jn c2,jn,opc lj⟩) V)∧Hid (Tch (RunD lo rb (rb + 1)) w7 wr)) (fun l j _ => 12 - (intOf j).toNat)
   case atStart => exact ⟨0,none,0,[],by omega,by omega,rfl,rfl,rfl,Lib.hid (show ∀ o ∈ ([]:List OpN),OpOk F o from fun o ho => by cases ho),HM.out.addrow _ _,HT⟩
   case round =>
    obtain ⟨jn,A2,c2,lj,hj1,hj2,rfl,rfl,hlj,HOKl,HMi,HT⟩:=hrel
    have x0:=HAR.out _ HT.out
    by_cases hlt:jn < m1∧jn < 12
    ·obtain ⟨h3,h4⟩:=hlt
     have j1:decide ((jn:Int) < (m1:Int))=true:=decide_eq_true (by omega)
     have j2:decide ((jn:Int) < 12)=true:=decide_eq_true (by omega)
     have j3:(0:Int)≤(jn:Int):=Int.natCast_nonneg _
     have j4:(jn:Int) < (m1:Int):=by omega
     have j5:(jn:Int) < 12:=by omega
     have hb48:(jn + 1) * 48≤140737488355328:=by omega
     obtain ⟨b1,off1,rfl,hb1,hcell⟩:=HOP.out (by omega)
     obtain ⟨kd,kv,q,po,vi,no,ol,hq,hno,hol,d0,d1,d2,d3,d4,d5,d6⟩:=hcell jn h3
     have HS15:=Lib.hid fun W (ht9:Tch (RunD lo rb (rb + 1)) wr W) => show W.cell? ⟨b0,off + k,none⟩=some (.slice (some ⟨b1,off1,none⟩) m1 cap1)∧(W.cell? ⟨w.heap.size,0,none⟩=some (.int .i64 (S:Nat))∧W.cell? ⟨w.heap.size,1,none⟩=some (.int .i64 (B:Nat))∧W.cell? ⟨w.heap.size,2,none⟩=some (.int .i64 (n:Nat)))∧W.cell? ⟨b1,off1 + jn * 7,none⟩=some (.int .i64 kd)∧W.cell? ⟨b1,off1 + jn * 7 + 1,none⟩=some (.int .i64 kv)∧W.cell? ⟨b1,off1 + jn * 7 + 2,none⟩=some (.int .u64 (q:Nat))∧W.cell? ⟨b1,off1 + jn * 7 + 3,none⟩=some (.int .i64 po)∧W.cell? ⟨b1,off1 + jn * 7 + 4,none⟩=some (.int .i64 vi)∧W.cell? ⟨b1,off1 + jn * 7 + 5,none⟩=some (.int .u32 (no:Nat))∧W.cell? ⟨b1,off1 + jn * 7 + 6,none⟩=some (.int .u32 (ol:Nat)) from by
      have ht:=HT.out.trans ht9
      have hk9:∀ o,W.cell? ⟨b1,o,none⟩=w.cell? ⟨b1,o,none⟩:=fun o => (HKP.out W ht ⟨b1,o,none⟩ (Nat.le_of_lt hb1)).trans (HB.out.cell (p:=⟨b1,o,none⟩) hb1)
      exact ⟨HAR.out W ht,HSC.out W ht,(hk9 _).trans d0,(hk9 _).trans d1,(hk9 _).trans d2,(hk9 _).trans d3,(hk9 _).trans d4,(hk9 _).trans d5,(hk9 _).trans d6⟩
     clear d0 d1 d2 d3 d4 d5 d6 hcell
     go_wp2_with fail
     refine wp_region_held_drew (S:=fun w' => w'.cell? ⟨b0,off + k,none⟩=some (.slice (some ⟨b1,off1,none⟩) m1 cap1)∧(w'.cell? ⟨w.heap.size,0,none⟩=some (.int .i64 (S:Nat))∧w'.cell? ⟨w.heap.size,1,none⟩=some (.int .i64 (B:Nat))∧w'.cell? ⟨w.heap.size,2,none⟩=some (.int .i64 (n:Nat)))∧w'.cell? ⟨b1,off1 + jn * 7,none⟩=some (.int .i64 kd)∧w'.cell? ⟨b1,off1 + jn * 7 + 1,none⟩=some (.int .i64 kv)∧w'.cell? ⟨b1,off1 + jn * 7 + 2,none⟩=some (.int .u64 (q:Nat))∧w'.cell? ⟨b1,off1 + jn * 7 + 3,none⟩=some (.int .i64 po)∧w'.cell? ⟨b1,off1 + jn * 7 + 4,none⟩=some (.int .i64 vi)∧w'.cell? ⟨b1,off1 + jn * 7 + 5,none⟩=some (.int .u32 (no:Nat))∧w'.cell? ⟨b1,off1 + jn * 7 + 6,none⟩=some (.int .u32 (ol:Nat))) (by kernel_rfl) ?_ (fun hHeld => ?_)
     ·exact HS15.out _ (Tch.of_below ((Below.refl _ _).drew))
     obtain ⟨v0,hv0⟩:∃ w',w'=wr.drew:=⟨_,rfl⟩
     have hb:Below wr.heap.size wr v0:=by rw [hv0]; exact (Below.refl _ _).drew
     rw [← hv0] at hHeld ⊢
     have HMi:=Lib.hid (HMi.out.below hb)
     have HTi:=Lib.hid (Tch.of_below (D:=RunD lo rb (rb + 1)) hb)
     clear hb hv0
     refine tkR 0 rfl ?_
     refine tkR 1 rfl ?_
     refine tkR 2 rfl ?_
     refine tkR 3 rfl ?_
     refine tkR 4 rfl ?_
     refine tkR 5 rfl ?_
     refine tkR 6 rfl ?_
     refine tkR 7 rfl ?_
     refine tkR 8 rfl ?_
     refine clR 9 rfl fun K hK => ?_
     go_simp
     refine (HFXO.out _ kd kv q hq po vi no ol hno hol).mono ?_
     rintro e z1 ⟨o,rfl,hok,hb⟩
     unfold opV7
     have HMi:=Lib.hid (HMi.out.below hb)
     have HTi:=Lib.hid (HTi.out.trans (Tch.of_below hb))
     have HOKo:=Lib.hid hok
     clear hb hok
     refine hK.out _ _ ?_ (fun hHeld => ?_)
     ·(try dsimp only)
      exact HS15.out _ HTi.out
     clear hK K
     (try simp only [Act.put,sqA,sqB,sqC])
     refine clR 10 rfl fun K hK => ?_
     go_simp
     refine hK.out _ _ ?_ (fun hHeld => ?_)
     ·(try dsimp only)
      exact HS15.out _ (HTi.out.trans (Tch.of_below ((Below.refl _ _).alloc (Nat.le_refl _) _)))
     clear hK K
     (try simp only [Act.put,sqA,sqB,sqC])
     refine clR 11 rfl fun K hK => ?_
     have HLK:=Lib.hid (HMi.out.lit #[.int .i64 (o.K:Nat),.int .i64 o.v,.int .u64 (o.mc:Nat),.int .i64 o.port,.int .i64 o.vid,.int .u32 (o.now:Nat),.int .u32 (o.old:Nat)] 106 7 rfl)
     have HTi:=Lib.hid (HTi.out.trans (Tch.of_below (D:=RunD lo rb (rb + 1)) ((Below.refl z1.heap.size z1).alloc (Nat.le_refl _) (.cells #[.int .i64 (o.K:Nat),.int .i64 o.v,.int .u64 (o.mc:Nat),.int .i64 o.port,.int .i64 o.vid,.int .u32 (o.now:Nat),.int .u32 (o.old:Nat)] 106))))
     have HMi:=Lib.hid HLK.out.1
     have hown9:(z1.alloc (.cells #[.int .i64 (o.K:Nat),.int .i64 o.v,.int .u64 (o.mc:Nat),.int .i64 o.port,.int .i64 o.vid,.int .u32 (o.now:Nat),.int .u32 (o.old:Nat)] 106)).ownsRow (rb + 1) 106 7 (.slice A2 jn c2) jn (opc lj):=by have h9:=HMi.out.rows.own (7 + k) (by omega); rw [updV_same] at h9; exact h9
     refine step_app _ (by rfl) stOps7 _ _ (by rfl) (rb + 1) (.slice A2 jn c2) jn (opc lj) (by rfl) hown9 (z1.heap.size + 1) (.slice (some ⟨z1.heap.size,0,none⟩) 1 1) 1 (opC o) (by rfl) HLK.out.2.sl (by simp [Value.oneCell',opC]) hb48 HMi.out.ord.2.2 ?_
     intro v2 z2 hown2 hgr2 hat2 hbel2
     obtain ⟨B2,e9,hv2,_,_⟩:=(Sl.of_own hown2).form
     subst hv2
     have HAP:=Lib.hid (HMi.out.app' (k:=7 + k) (by omega) (updV_same _ _ _) hown2 hgr2 hat2)
     have HTi:=Lib.hid (HTi.out.trans (HAP.out.2.1.mono fun y hy e => .inr (.inr (HMi.out.rows.lt ⟨7 + k,by omega,by rw [updV_same]; exact e⟩).1)))
     have HMi:=Lib.hid HAP.out.1
     clear HAP HLK hown2 hgr2 hat2 hbel2
     refine hK.out _ _ ?_ (fun hHeld => ?_)
     ·(try dsimp only)
      exact HS15.out _ HTi.out
     clear hK K
     refine tkR 12 rfl ?_
     refine wpAnyH_done (by kernel_rfl) ?_ _
     clear hHeld
     go_wp2
     go_roundw
     case rel =>
      refine ⟨jn + 1,B2,e9,lj ++ [o],by omega,by omega,by go_num,rfl,by simp [hlj],fun x hx => ?_,?_,HT.out.trans HTi.out⟩
      ·rw [List.mem_append,List.mem_singleton] at hx
       rcases hx with hx | hx
       ·exact HOKl.out x hx
       ·rw [hx]; exact HOKo.out
      ·refine HMi.out.congr (fun i hi => ?_) (fun _ _ => rfl)
       rw [opc_append]
       unfold updV
       split
       ·simp [opc]
       ·rfl
     case measure => simp [intOf]; omega
    ·rcases (show ¬ jn < m1 ∨ (jn < m1∧¬ jn < 12) by omega) with h3 | ⟨h3,h4⟩
     ·have j1:decide ((jn:Int) < (m1:Int))=false:=decide_eq_false (by omega)
      have j9:¬ (jn:Int) < (m1:Int):=by omega
      have hn0:updV (rowsS k ls lv (fun _ => 0) (run0 C K9) V) (7 + k) ⟨106,7,.slice A2 jn c2,jn,opc lj⟩ 0=⟨66,1,V 0,k,(List.range k).map lv⟩:=(updV_other _ _ (by omega)).trans rfl
      have hn1:updV (rowsS k ls lv (fun _ => 0) (run0 C K9) V) (7 + k) ⟨106,7,.slice A2 jn c2,jn,opc lj⟩ 1=⟨3,1,V 1,k,kvI (fun _ => 0) k⟩:=(updV_other _ _ (by omega)).trans rfl
      have hn2:updV (rowsS k ls lv (fun _ => 0) (run0 C K9) V) (7 + k) ⟨106,7,.slice A2 jn c2,jn,opc lj⟩ 2=⟨3,1,V 2,k,kvI (fun _ => -1) k⟩:=(updV_other _ _ (by omega)).trans rfl
      obtain ⟨⟨X0,c0,e0,k0,m0⟩,_⟩:=HMi.out.slice (k:=0) (by omega) hn0
      obtain ⟨⟨X1,c1,e1,k1,m1'⟩,_⟩:=HMi.out.slice (k:=1) (by omega) hn1
      obtain ⟨⟨X2,c22,e2,k2,m2⟩,_⟩:=HMi.out.slice (k:=2) (by omega) hn2
      rw [e0] at hn0
      rw [e1] at hn1
      rw [e2] at hn2
      have hk24:(k + 1) * 24≤140737488355328:=by omega
      have hk8:(k + 1) * 8≤140737488355328:=by omega
      have x6:wr.cell? ⟨rb,6,none⟩=some (V 0):=HMi.out.cell (i:=6) (by omega)
      rw [e0] at x6
      have fr6:=HMi.out.row.frozen
      have ho0:=HMi.out.rows.own 0 (by omega)
      rw [hn0] at ho0
      have hsz0:rb + 1≤wr.heap.size:=HMi.out.ord.2.2
      have HN0:=Lib.hid hn0
      have HN1:=Lib.hid hn1
      have HN2:=Lib.hid hn2
      have HE:=Lib.hid (And.intro e1 e2)
      clear hn0 hn1 hn2 e0 e1 e2 m0 m1' m2 k0 k1 k2
      go_wp2_with (first
       | (at_builtin; refine wpList_apv _ rfl stLists _ _ rfl (rb + 1) (.slice X0 k c0) k ((List.range k).map lv) rfl (World.ownsRow.alloc ho0 _) (wr.heap.size + 1) (.slice (some ⟨wr.heap.size,0,none⟩) 1 1) 1 [.slice A2 jn c2] rfl (Sl.lit_at (by first | rfl | (simp [World.setCell]; done)) rfl (by decide)) (by simp [Value.oneCell']) hk24 (by rw [World.size_alloc]; exact Nat.le_succ_of_le HMi.out.ord.2.2) ?_; intro Y0 d0 y0 hown2 hgr2 hat2 hbel2; have HP0:=Lib.hid (HMi.out.push (k:=0) (by omega) (by omega) HN0.out hown2 hgr2 hat2); have x60:y0.cell? ⟨rb,6,none⟩=some (V 0):=(HP0.out.1.cell (i:=6) (by omega)); have x70:y0.cell? ⟨rb,7,none⟩=some (.slice X1 k c1):=(by rw [← HE.out.1]; exact HP0.out.1.cell (i:=7) (by omega)); have f60:=HP0.out.1.row.frozen; have HO1:Hid (((y0.setCell ⟨rb,6,none⟩ (.slice Y0 (k + 1) d0))).ownsRow (rb + 1) 3 1 (.slice X1 k c1) k (kvI (fun _ => 0) k)):=(by have h9:=HP0.out.2.1.rows.own 1 (by omega); rw [show updV (updV (rowsS k ls lv (fun _ => 0) (run0 C K9) V) (7 + k) ⟨106,7,.slice A2 jn c2,jn,opc lj⟩) 0 ⟨66,1,.slice Y0 (k + 1) d0,k + 1,(List.range k).map lv ++ [.slice A2 jn c2]⟩ 1=_ from HN1.out] at h9; exact h9); clear hown2 hgr2 hat2 hbel2)
       | (at_builtin; refine wpList_apv _ rfl stInts _ _ rfl (rb + 1) (.slice X1 k c1) k (kvI (fun _ => 0) k) rfl (World.ownsRow.alloc HO1.out _) (y0.heap.size + 1) (.slice (some ⟨y0.heap.size,0,none⟩) 1 1) 1 [.int .i64 0] rfl (Sl.lit_at (by first | rfl | (simp [World.setCell]; done)) rfl (by decide)) (by simp [Value.oneCell']) hk8 (by rw [World.size_alloc]; exact Nat.le_succ_of_le HP0.out.2.1.ord.2.2) ?_; intro Y1 d1 y1 hown2 hgr2 hat2 hbel2; have HP1:=Lib.hid (HP0.out.2.1.push (k:=1) (by omega) (by omega) HN1.out hown2 hgr2 hat2); have x61:y1.cell? ⟨rb,7,none⟩=some (V 1):=(HP1.out.1.cell (i:=7) (by omega)); have x81:y1.cell? ⟨rb,8,none⟩=some (.slice X2 k c22):=(by rw [← HE.out.2]; exact HP1.out.1.cell (i:=8) (by omega)); have f61:=HP1.out.1.row.frozen; have HO2:Hid (((y1.setCell ⟨rb,7,none⟩ (.slice Y1 (k + 1) d1))).ownsRow (rb + 1) 3 1 (.slice X2 k c22) k (kvI (fun _ => -1) k)):=(by have h9:=HP1.out.2.1.rows.own 2 (by omega); rw [show updV (updV (updV (rowsS k ls lv (fun _ => 0) (run0 C K9) V) (7 + k) ⟨106,7,.slice A2 jn c2,jn,opc lj⟩) 0 ⟨66,1,.slice Y0 (k + 1) d0,k + 1,(List.range k).map lv ++ [.slice A2 jn c2]⟩) 1 ⟨3,1,.slice Y1 (k + 1) d1,k + 1,kvI (fun _ => 0) k ++ [.int .i64 0]⟩ 2=_ from HN2.out] at h9; exact h9); clear hown2 hgr2 hat2 hbel2)
       | (at_builtin; refine wpList_apv _ rfl stInts _ _ rfl (rb + 1) (.slice X2 k c22) k (kvI (fun _ => -1) k) rfl (World.ownsRow.alloc HO2.out _) (y1.heap.size + 1) (.slice (some ⟨y1.heap.size,0,none⟩) 1 1) 1 [.int .i64 (-1)] rfl (Sl.lit_at (by first | rfl | (simp [World.setCell]; done)) rfl (by decide)) (by simp [Value.oneCell']) hk8 (by rw [World.size_alloc]; exact Nat.le_succ_of_le HP1.out.2.1.ord.2.2) ?_; intro Y2 d2 y2 hown2 hgr2 hat2 hbel2; have HP2:=Lib.hid (HP1.out.2.1.push (k:=2) (by omega) (by omega) HN2.out hown2 hgr2 hat2); have x62:y2.cell? ⟨rb,8,none⟩=some (V 2):=(HP2.out.1.cell (i:=8) (by omega)); have f62:=HP2.out.1.row.frozen; clear hown2 hgr2 hat2 hbel2)
       | fail)
      go_roundw
      case rel =>
       refine ⟨k + 1,fun p => if p=k then lj else ls p,fun p => if p=k then .slice A2 jn c2 else lv p,_,by omega,by omega,by go_num,HP2.out.2.1.congr (fun i hi => made_rows C K9 k jn lj hlj (.slice A2 jn c2) (.slice Y0 (k + 1) d0) (.slice Y1 (k + 1) d1) (.slice Y2 (k + 1) d2) i hi) (fun _ _ => rfl),((HT.out.trans HP0.out.2.2).trans HP1.out.2.2).trans HP2.out.2.2,fun p hp => ?_⟩
       show (if p=k then lj else ls p).length≤12∧∀ o ∈ (if p=k then lj else ls p),OpOk F o
       by_cases e:p=k
       ·rw [if_pos e]
        exact ⟨by omega,HOKl.out⟩
       ·rw [if_neg e]
        exact HG.out p (by omega)
      case measure => simp [intOf]; omega
     ·have j1:decide ((jn:Int) < (m1:Int))=true:=decide_eq_true (by omega)
      have j2:decide ((jn:Int) < 12)=false:=decide_eq_false (by omega)
      have j9:(jn:Int) < (m1:Int):=by omega
      have j8:¬ (jn:Int) < 12:=by omega
      have hn0:updV (rowsS k ls lv (fun _ => 0) (run0 C K9) V) (7 + k) ⟨106,7,.slice A2 jn c2,jn,opc lj⟩ 0=⟨66,1,V 0,k,(List.range k).map lv⟩:=(updV_other _ _ (by omega)).trans rfl
      have hn1:updV (rowsS k ls lv (fun _ => 0) (run0 C K9) V) (7 + k) ⟨106,7,.slice A2 jn c2,jn,opc lj⟩ 1=⟨3,1,V 1,k,kvI (fun _ => 0) k⟩:=(updV_other _ _ (by omega)).trans rfl
      have hn2:updV (rowsS k ls lv (fun _ => 0) (run0 C K9) V) (7 + k) ⟨106,7,.slice A2 jn c2,jn,opc lj⟩ 2=⟨3,1,V 2,k,kvI (fun _ => -1) k⟩:=(updV_other _ _ (by omega)).trans rfl
      obtain ⟨⟨X0,c0,e0,k0,m0⟩,_⟩:=HMi.out.slice (k:=0) (by omega) hn0
      obtain ⟨⟨X1,c1,e1,k1,m1'⟩,_⟩:=HMi.out.slice (k:=1) (by omega) hn1
      obtain ⟨⟨X2,c22,e2,k2,m2⟩,_⟩:=HMi.out.slice (k:=2) (by omega) hn2
      rw [e0] at hn0
      rw [e1] at hn1
      rw [e2] at hn2
      have hk24:(k + 1) * 24≤140737488355328:=by omega
      have hk8:(k + 1) * 8≤140737488355328:=by omega
      have x6:wr.cell? ⟨rb,6,none⟩=some (V 0):=HMi.out.cell (i:=6) (by omega)
      rw [e0] at x6
      have fr6:=HMi.out.row.frozen
      have ho0:=HMi.out.rows.own 0 (by omega)
      rw [hn0] at ho0
      have hsz0:rb + 1≤wr.heap.size:=HMi.out.ord.2.2
      have HN0:=Lib.hid hn0
      have HN1:=Lib.hid hn1
      have HN2:=Lib.hid hn2
      have HE:=Lib.hid (And.intro e1 e2)
      clear hn0 hn1 hn2 e0 e1 e2 m0 m1' m2 k0 k1 k2
      go_wp2_with (first
       | (at_builtin; refine wpList_apv _ rfl stLists _ _ rfl (rb + 1) (.slice X0 k c0) k ((List.range k).map lv) rfl (World.ownsRow.alloc ho0 _) (wr.heap.size + 1) (.slice (some ⟨wr.heap.size,0,none⟩) 1 1) 1 [.slice A2 jn c2] rfl (Sl.lit_at (by first | rfl | (simp [World.setCell]; done)) rfl (by decide)) (by simp [Value.oneCell']) hk24 (by rw [World.size_alloc]; exact Nat.le_succ_of_le HMi.out.ord.2.2) ?_; intro Y0 d0 y0 hown2 hgr2 hat2 hbel2; have HP0:=Lib.hid (HMi.out.push (k:=0) (by omega) (by omega) HN0.out hown2 hgr2 hat2); have x60:y0.cell? ⟨rb,6,none⟩=some (V 0):=(HP0.out.1.cell (i:=6) (by omega)); have x70:y0.cell? ⟨rb,7,none⟩=some (.slice X1 k c1):=(by rw [← HE.out.1]; exact HP0.out.1.cell (i:=7) (by omega)); have f60:=HP0.out.1.row.frozen; have HO1:Hid (((y0.setCell ⟨rb,6,none⟩ (.slice Y0 (k + 1) d0))).ownsRow (rb + 1) 3 1 (.slice X1 k c1) k (kvI (fun _ => 0) k)):=(by have h9:=HP0.out.2.1.rows.own 1 (by omega); rw [show updV (updV (rowsS k ls lv (fun _ => 0) (run0 C K9) V) (7 + k) ⟨106,7,.slice A2 jn c2,jn,opc lj⟩) 0 ⟨66,1,.slice Y0 (k + 1) d0,k + 1,(List.range k).map lv ++ [.slice A2 jn c2]⟩ 1=_ from HN1.out] at h9; exact h9); clear hown2 hgr2 hat2 hbel2)
       | (at_builtin; refine wpList_apv _ rfl stInts _ _ rfl (rb + 1) (.slice X1 k c1) k (kvI (fun _ => 0) k) rfl (World.ownsRow.alloc HO1.out _) (y0.heap.size + 1) (.slice (some ⟨y0.heap.size,0,none⟩) 1 1) 1 [.int .i64 0] rfl (Sl.lit_at (by first | rfl | (simp [World.setCell]; done)) rfl (by decide)) (by simp [Value.oneCell']) hk8 (by rw [World.size_alloc]; exact Nat.le_succ_of_le HP0.out.2.1.ord.2.2) ?_; intro Y1 d1 y1 hown2 hgr2 hat2 hbel2; have HP1:=Lib.hid (HP0.out.2.1.push (k:=1) (by omega) (by omega) HN1.out hown2 hgr2 hat2); have x61:y1.cell? ⟨rb,7,none⟩=some (V 1):=(HP1.out.1.cell (i:=7) (by omega)); have x81:y1.cell? ⟨rb,8,none⟩=some (.slice X2 k c22):=(by rw [← HE.out.2]; exact HP1.out.1.cell (i:=8) (by omega)); have f61:=HP1.out.1.row.frozen; have HO2:Hid (((y1.setCell ⟨rb,7,none⟩ (.slice Y1 (k + 1) d1))).ownsRow (rb + 1) 3 1 (.slice X2 k c22) k (kvI (fun _ => -1) k)):=(by have h9:=HP1.out.2.1.rows.own 2 (by omega); rw [show updV (updV (updV (rowsS k ls lv (fun _ => 0) (run0 C K9) V) (7 + k) ⟨106,7,.slice A2 jn c2,jn,opc lj⟩) 0 ⟨66,1,.slice Y0 (k + 1) d0,k + 1,(List.range k).map lv ++ [.slice A2 jn c2]⟩) 1 ⟨3,1,.slice Y1 (k + 1) d1,k + 1,kvI (fun _ => 0) k ++ [.int .i64 0]⟩ 2=_ from HN2.out] at h9; exact h9); clear hown2 hgr2 hat2 hbel2)
       | (at_builtin; refine wpList_apv _ rfl stInts _ _ rfl (rb + 1) (.slice X2 k c22) k (kvI (fun _ => -1) k) rfl (World.ownsRow.alloc HO2.out _) (y1.heap.size + 1) (.slice (some ⟨y1.heap.size,0,none⟩) 1 1) 1 [.int .i64 (-1)] rfl (Sl.lit_at (by first | rfl | (simp [World.setCell]; done)) rfl (by decide)) (by simp [Value.oneCell']) hk8 (by rw [World.size_alloc]; exact Nat.le_succ_of_le HP1.out.2.1.ord.2.2) ?_; intro Y2 d2 y2 hown2 hgr2 hat2 hbel2; have HP2:=Lib.hid (HP1.out.2.1.push (k:=2) (by omega) (by omega) HN2.out hown2 hgr2 hat2); have x62:y2.cell? ⟨rb,8,none⟩=some (V 2):=(HP2.out.1.cell (i:=8) (by omega)); have f62:=HP2.out.1.row.frozen; clear hown2 hgr2 hat2 hbel2)
       | fail)
      go_roundw
      case rel =>
       refine ⟨k + 1,fun p => if p=k then lj else ls p,fun p => if p=k then .slice A2 jn c2 else lv p,_,by omega,by omega,by go_num,HP2.out.2.1.congr (fun i hi => made_rows C K9 k jn lj hlj (.slice A2 jn c2) (.slice Y0 (k + 1) d0) (.slice Y1 (k + 1) d1) (.slice Y2 (k + 1) d2) i hi) (fun _ _ => rfl),((HT.out.trans HP0.out.2.2).trans HP1.out.2.2).trans HP2.out.2.2,fun p hp => ?_⟩
       show (if p=k then lj else ls p).length≤12∧∀ o ∈ (if p=k then lj else ls p),OpOk F o
       by_cases e:p=k
       ·rw [if_pos e]
        exact ⟨by omega,HOKl.out⟩
       ·rw [if_neg e]
        exact HG.out p (by omega)
      case measure => simp [intOf]; omega
  ·rcases (show ¬ k < nl ∨ (k < nl∧¬ k < 6) by omega) with h1 | ⟨h1,h2⟩
   ·have g1:decide ((k:Int) < (nl:Int))=false:=decide_eq_false (by omega)
    have g9:¬ (k:Int) < (nl:Int):=by omega
    go_wp2
    go_ret
    exact ⟨C,K9,lo,b,fb,rb,rb + 1,F,k,ls,lv,rfl,⟨_,_,_,V,HM.out,RunK.start F C K9 k ls _ _ _ _⟩,HT.out.below HB.out (fun y hy => by have:=HLR.out; unfold RunD at hy; omega) (by have:=HB.out.size; omega),by have:=HLR.out; omega,by have:=HLR.out; omega,by have:=HLR.out; omega,hk2,HG.out,HFK.out.1,HFK.out.2⟩
   ·have g1:decide ((k:Int) < (nl:Int))=true:=decide_eq_true (by omega)
    have g2:decide ((k:Int) < 6)=false:=decide_eq_false (by omega)
    have g9:(k:Int) < (nl:Int):=by omega
    have g8:¬ (k:Int) < 6:=by omega
    go_wp2
    go_ret
    exact ⟨C,K9,lo,b,fb,rb,rb + 1,F,k,ls,lv,rfl,⟨_,_,_,V,HM.out,RunK.start F C K9 k ls _ _ _ _⟩,HT.out.below HB.out (fun y hy => by have:=HLR.out; unfold RunD at hy; omega) (by have:=HB.out.size; omega),by have:=HLR.out; omega,by have:=HLR.out; omega,by have:=HLR.out; omega,hk2,HG.out,HFK.out.1,HFK.out.2⟩
end
end Go.Proofs.Ythloabdfkakehaa
