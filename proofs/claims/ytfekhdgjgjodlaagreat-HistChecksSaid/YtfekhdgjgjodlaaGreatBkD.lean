/-
  Words and contracts that a statement's proof rests on (BkD, MoA, MoB). No statement is proved here.
-/
import Derived.Lib.Hide
import Derived.Test.YtfekhdgjgjodlaaGreatVlanG
import Derived.Test.YtfekhdgjgjodlaaGreatBkC
import Derived.Test.YtfekhdgjgjodlaaGreatPtB
import Derived.Test.YtfekhdgjgjodlaaGreatPlainFx
set_option linter.unusedVariables false
set_option linter.unusedSimpArgs false
namespace Go.Proofs.YtfekhdgjgjodlaaGreat
section
open Go.RowKit
def inB (x y:Int):Bool:=decide (1<=x) && decide (x<=y)
def zct (a b c:Int):Bool:=(inB a 8 && inB b 16) && inB c 8
set_option maxHeartbeats 800000 in
theorem zd9 (x y:Int) (w:World) :
  Calls Tryz.prog 77 #[.int .i64 x,.int .i64 y] w (Says (.bool (inB x y)) w):=by
 unfold inB
 by_cases h:1<=x
 ·have d:decide (1<=x)=true:=by simpa using h
  rw [d]
  by_cases h2:x<=y
  ·have d2:decide (x<=y)=true:=by simpa using h2
   rw [d2];clear d d2
   go_enter Tryz.func77,Tryz.ntmps77
   go_wp2
   go_ret
   exact ⟨by simp,Below.refl _ _⟩
  ·have d2:decide (x<=y)=false:=by simpa using h2
   rw [d2];clear d d2
   go_enter Tryz.func77,Tryz.ntmps77
   go_wp2
   go_ret
   exact ⟨by simp,Below.refl _ _⟩
 ·have d:decide (1<=x)=false:=by simpa using h
  rw [d];clear d
  go_enter Tryz.func77,Tryz.ntmps77
  go_wp2
  go_ret
  exact ⟨by simp,Below.refl _ _⟩
set_option maxHeartbeats 3200000 in
theorem zha (a b c:Int) (w:World) :
  Calls Tryz.prog 53 #[.agg #[.int .i64 a,.int .i64 b,.int .i64 c]] w (Says (.bool (zct a b c)) w):=by
 have H1:=Lib.hid fun W=>zd9 a 8 W
 have H2:=Lib.hid fun W=>zd9 b 16 W
 have H3:=Lib.hid fun W=>zd9 c 8 W
 unfold zct
 generalize inB a 8=x at *
 generalize inB b 16=y at *
 generalize inB c 8=z at *
 cases x
 ·go_enter Tryz.func53,Tryz.ntmps53
  go_wp2_with fail
  refine (H1.out _).mono ?_
  rintro e w1 ⟨rfl,hb⟩
  have HB1:Hid (Below w.heap.size w w1):=Below.trans ((Below.refl _ _).alloc (Nat.le_refl _) _) (hb.mono (by simp))
  clear hb
  go_wp2
  go_ret
  exact ⟨by simp,HB1.out⟩
 ·cases y
  ·go_enter Tryz.func53,Tryz.ntmps53
   go_wp2_with fail
   refine (H1.out _).mono ?_
   rintro e w1 ⟨rfl,hb⟩
   have HB1:Hid (Below w.heap.size w w1):=Below.trans ((Below.refl _ _).alloc (Nat.le_refl _) _) (hb.mono (by simp))
   have k1:w1.cell? ⟨w.heap.size,1,none⟩=some (.int .i64 b):=by rw [(zao hb).1 _ _ (by simp)];simp [go_sem]
   clear hb
   go_wp2_with fail
   refine (H2.out _).mono ?_
   rintro e w2 ⟨rfl,hb⟩;have HB2:Hid (Below w.heap.size w w2):=HB1.out.trans (hb.mono HB1.out.size);clear hb
   go_wp2
   go_ret
   exact ⟨by simp,HB2.out⟩
  ·go_enter Tryz.func53,Tryz.ntmps53
   go_wp2_with fail
   refine (H1.out _).mono ?_
   rintro e w1 ⟨rfl,hb⟩
   have HB1:Hid (Below w.heap.size w w1):=Below.trans ((Below.refl _ _).alloc (Nat.le_refl _) _) (hb.mono (by simp))
   have k1:w1.cell? ⟨w.heap.size,1,none⟩=some (.int .i64 b):=by rw [(zao hb).1 _ _ (by simp)];simp [go_sem]
   have k2:w1.cell? ⟨w.heap.size,2,none⟩=some (.int .i64 c):=by rw [(zao hb).1 _ _ (by simp)];simp [go_sem]
   have hz:w.heap.size+1<=w1.heap.size:=by have:=hb.size;simpa using this
   clear hb
   go_wp2_with fail
   refine (H2.out _).mono ?_
   rintro e w2 ⟨rfl,hb⟩;have HB2:Hid (Below w.heap.size w w2):=HB1.out.trans (hb.mono HB1.out.size)
   have k2:=((zao hb).1 w.heap.size 2 (by omega)).trans k2
   clear hb
   go_wp2_with fail
   refine (H3.out _).mono ?_
   rintro e w3 ⟨rfl,hb⟩;have HB3:Hid (Below w.heap.size w w3):=HB2.out.trans (hb.mono HB2.out.size);clear hb
   go_wp2
   go_ret
   exact ⟨by simp,HB3.out⟩
end
section
open Go.RowKit
theorem ze8 (n most:Int) (w:World):Calls Tryz.prog 54 #[.int .i64 n,.int .i64 most] w (Says (.bool (zaq n most)) w):=by
 unfold zaq
 by_cases h1:1<=n
 ·have d1:decide (n≥1)=true:=by simp;omega
  have d2:decide (1<=n)=true:=by simp;omega
  go_enter Tryz.func54,Tryz.ntmps54
  go_wp2
  go_ret
  exact ⟨by first|rfl|(simp;done)|simp [d2],Below.refl _ _⟩
 ·have d1:decide (n≥1)=false:=by simp;omega
  have d2:decide (1<=n)=false:=by simp;omega
  go_enter Tryz.func54,Tryz.ntmps54
  go_wp2
  go_ret
  exact ⟨by first|rfl|(simp;done)|simp [d2],Below.refl _ _⟩
theorem zii (p a:Int) (w:World):Calls Tryz.prog 52 #[.agg #[.int .i64 p,.int .i64 a]] w (Says (.bool (!(zfv p a))) w):=by
 have HR:=Lib.hid fun W=>zm7 p a W
 obtain ⟨z,hz⟩:∃ z,z=zfv p a:=⟨_,rfl⟩;rw [<- hz] at HR |-;clear hz
 go_enter Tryz.func52,Tryz.ntmps52
 go_wp2_with fail
 refine (HR.out _).mono ?_
 rintro e w1 ⟨rfl,hb⟩
 go_wp2
 go_ret
 exact ⟨rfl,((Below.refl _ _).alloc (Nat.le_refl _) _).trans (hb.mono (by simp))⟩
set_option maxRecDepth 20000 in
set_option maxHeartbeats 1600000 in
theorem zj3 {w:World} {B n m:Nat} {v:Value} {l:List Rl} (hv:Sl w B 2 v n (rlc l)) (hB:B<=w.heap.size) (hf:zdh l n m) :
  Calls Tryz.prog 75 #[v,.func (.func 52) #[] #[]] w (Says (.int .i64 (if m<n then (m:Int) else -1)) w):=by
 obtain ⟨A,cap,rfl,hcap,hmx⟩:=hv.form;unfold maxLen at hmx;have HV:=Lib.hid hv;have HF:=Lib.hid hf
 obtain ⟨X,hX⟩:∃ X:Int,X=if m<n then (m:Int) else -1:=⟨_,rfl⟩
 rw [<- hX];have HX:=Lib.hid hX
 have HW:=Lib.hid fun p a W=>zii p a W
 have hmn:=hf.1;clear hv hf hX
 go_enter Tryz.func75,Tryz.ntmps75
 go_wp2
 go_loopw [8] (fun i wr=>∃ k:Nat,k<=m/\i=.int .i64 k/\Hid (Below w.heap.size w wr)) (fun i _=>n - (intOf i).toNat)
 case atStart=>exact ⟨0,by omega,rfl,Below.refl _ _⟩
 case round =>
  obtain ⟨k,hk,rfl,HB⟩:=hrel
  by_cases hlt:k<n
  ·obtain ⟨b,off,cap',e,hc1,hc2,hb,hlen,hcell⟩:=HV.out.rlAt (by omega)
   cases e
   obtain ⟨c0,c1⟩:=hcell k hlt
   have k0:=(HB.out.cell (p:=⟨b,off+k*2,none⟩) (by show b<_;omega)).trans c0
   have k1:=(HB.out.cell (p:=⟨b,off+k*2+1,none⟩) (by show b<_;omega)).trans c1
   have HK:=HW.out (l.getD k rl0).pv (l.getD k rl0).ac
   have hbad:(!(zfv (l.getD k rl0).pv (l.getD k rl0).ac))=badR l k:=rfl
   rw [hbad] at HK;clear hcell c0 c1 hbad
   generalize (l.getD k rl0).pv=P1 at *
   generalize (l.getD k rl0).ac=P2 at *
   by_cases hkm:k=m
   ·subst hkm
    rw [HF.out.2.2 hlt] at HK;have HK:=Lib.hid HK
    have hx:X=(k:Int):=by rw [HX.out,if_pos hlt]
    go_wp2_with fail
    refine (HK.out _).mono ?_
    rintro e w1 ⟨rfl,hb1⟩
    go_wp2
    go_ret
    exact ⟨by rw [hx];rfl,HB.out.trans (hb1.mono HB.out.size)⟩
   ·rw [HF.out.2.1 k (by omega)] at HK
    have HK:=Lib.hid HK
    go_wp2_with fail
    refine (HK.out _).mono ?_
    rintro e w1 ⟨rfl,hb1⟩;have HB1:=Lib.hid (HB.out.trans (hb1.mono HB.out.size));clear hb1
    go_wp2
    go_roundw
    case rel=>exact ⟨k+1,by omega,by go_num,HB1⟩
    case measure=>simp [intOf];omega
  ·have hkn:k=n:=by omega
   have hx:X=-1:=by rw [HX.out,if_neg (by omega)]
   go_wp2
   go_ret
   exact ⟨by rw [hx];rfl,HB.out⟩
theorem zgv {w:World} {B n m:Nat} {v:Value} {l:List Rl} (hv:Sl w B 2 v n (rlc l)) (hB:B<=w.heap.size) (hf:zdh l n m) :
  Calls Tryz.prog 51 #[v,.func (.func 52) #[] #[]] w (Says (.bool (decide (m<n))) w):=by
 have HI:=Lib.hid (zj3 hv hB hf);obtain ⟨A,cap,rfl,_,_⟩:=hv.form
 obtain ⟨X,hX⟩:∃ X:Int,X=if m<n then (m:Int) else -1:=⟨_,rfl⟩
 rw [<- hX] at HI
 have hd:decide (X≥0)=decide (m<n):=by
  by_cases h:m<n
  ·rw [hX,if_pos h];simp [h]
  ·rw [hX,if_neg h];simp [h]
 have hd':decide (0<=X)=decide (m<n):=hd
 generalize decide (m<n)=z at *
 clear hX hv hf
 go_enter Tryz.func51,Tryz.ntmps51
 go_wp2_with fail
 refine (HI.out).mono ?_
 rintro e w1 ⟨rfl,hb⟩
 go_wp2
 go_ret
 exact ⟨by first|rfl|(simp [hd'];done),hb⟩
end
section
open Go.RowKit
def zbb (P:Int) (vr vv:Value) (S B n t r nm sh:Int):Value:=.agg #[.int .i64 P,vr,vv,.int .i64 S,.int .i64 B,.int .i64 n,.int .i64 t,.int .i64 r,.int .u32 nm,.int .u32 sh]
def zgd (c:Nat) (same good size:Bool):Nat:=if c≠0 then c else if (same && good && size)=true then 0 else 1
theorem zpb {c:Nat} {x y z:Bool} (h:c≠0):zgd c x y z=c:=if_pos h
theorem zeb {x y z:Bool} (h:(x && y && z)=false):zgd 0 x y z=1:=by unfold zgd;rw [if_neg (by omega),h];rfl
set_option maxRecDepth 20000 in
set_option maxHeartbeats 1600000 in
theorem zgh {w:World} {Bo nr nv m:Nat} {vr vv:Value} {lr:List Rl} {lv:List Vl} (hr:Sl w Bo 2 vr nr (rlc lr)) (hv:Sl w Bo 3 vv nv (vlc lv)) (hok:∀ x∈lv,x.ok) (hB:Bo<=w.heap.size) (hf:zdh lr nr m) (P S B n t r nm sh:Int) :
  Calls Tryz.prog 25 #[zbb P vr vv S B n t r nm sh] w (Says (.int .i64 (zgd (zb4 lv P nv) (decide ((nr:Int)=P)) (!decide (m<nr)) (zct S B n && (zaq t 8 && zaq r 64)):Nat)) w):=by
 obtain ⟨Ar,cr,rfl,hcr,hcm⟩:=hr.form;unfold maxLen at hcm
 have HVC:=Lib.hid fun w' (hb:Below w.heap.size w w')=>zmh hok (hv.below (hb.mono hB)) (Nat.le_trans hB hb.size) P
 have HCR:=Lib.hid fun w' (hb:Below w.heap.size w w')=>zgv (hr.below (hb.mono hB)) (Nat.le_trans hB hb.size) hf
 have HBR:=Lib.hid fun W=>zha S B n W
 have HT:=Lib.hid fun W=>ze8 t 8 W
 have HR:=Lib.hid fun W=>ze8 r 64 W
 clear hr hv hok hf;obtain ⟨c,hc⟩:∃ c,c=zb4 lv P nv:=⟨_,rfl⟩;obtain ⟨zb,hzb⟩:∃ z,z=decide (m<nr):=⟨_,rfl⟩;obtain ⟨zs,hzs⟩:∃ z,z=zct S B n:=⟨_,rfl⟩;obtain ⟨zt,hzt⟩:∃ z,z=zaq t 8:=⟨_,rfl⟩;obtain ⟨zr,hzr⟩:∃ z,z=zaq r 64:=⟨_,rfl⟩;rw [<- hc] at HVC;rw [<- hzb] at HCR;rw [<- hzs] at HBR;rw [<- hzt] at HT;rw [<- hzr] at HR;rw [<- hc,<- hzb,<- hzs,<- hzt,<- hzr];clear hc hzb hzs hzt hzr;unfold zbb;obtain ⟨X,hX⟩:∃ X:Nat,X=zgd c (decide ((nr:Int)=P)) (!zb) (zs && (zt && zr)):=⟨_,rfl⟩;rw [<- hX];have HX:=Lib.hid hX;clear hX;obtain ⟨s,hs0⟩:∃ s,s=w.heap.size:=⟨_,rfl⟩
 have HBOX:Hid (∀ w',Below (w.heap.size+1) (w.alloc (.cells #[.int .i64 P,.slice Ar nr cr,vv,.int .i64 S,.int .i64 B,.int .i64 n,.int .i64 t,.int .i64 r,.int .u32 nm,.int .u32 sh] 41)) w'->w'.cell? ⟨w.heap.size,0,none⟩=some (.int .i64 P)/\w'.cell? ⟨w.heap.size,1,none⟩=some (.slice Ar nr cr)/\w'.cell? ⟨w.heap.size,2,none⟩=some vv/\w'.cell? ⟨w.heap.size,3,none⟩=some (.int .i64 S)/\w'.cell? ⟨w.heap.size,4,none⟩=some (.int .i64 B)/\w'.cell? ⟨w.heap.size,5,none⟩=some (.int .i64 n)/\w'.cell? ⟨w.heap.size,6,none⟩=some (.int .i64 t)/\w'.cell? ⟨w.heap.size,7,none⟩=some (.int .i64 r)):=fun w' hb=>by
  refine ⟨?_,?_,?_,?_,?_,?_,?_,?_⟩ <;>
  ·rw [hb.cell (by show w.heap.size<_;omega)]
   simp [go_sem]
 have HLOW:Hid (∀ w',Below (w.heap.size+1) (w.alloc (.cells #[.int .i64 P,.slice Ar nr cr,vv,.int .i64 S,.int .i64 B,.int .i64 n,.int .i64 t,.int .i64 r,.int .u32 nm,.int .u32 sh] 41)) w'->Below w.heap.size w w'):=fun w' hb=>((Below.refl w.heap.size w).alloc (Nat.le_refl _) _).trans (hb.mono (by omega))
 have HUP:Hid (∀ w' w'',Below (w.heap.size+1) (w.alloc (.cells #[.int .i64 P,.slice Ar nr cr,vv,.int .i64 S,.int .i64 B,.int .i64 n,.int .i64 t,.int .i64 r,.int .u32 nm,.int .u32 sh] 41)) w'->Below w'.heap.size w' w''->Below (w.heap.size+1) (w.alloc (.cells #[.int .i64 P,.slice Ar nr cr,vv,.int .i64 S,.int .i64 B,.int .i64 n,.int .i64 t,.int .i64 r,.int .u32 nm,.int .u32 sh] 41)) w''):=fun w' w'' h1 h2=>h1.trans (h2.mono (by have:=h1.size;simp at this;omega))
 have hq:Below (w.heap.size+1) (w.alloc (.cells #[.int .i64 P,.slice Ar nr cr,vv,.int .i64 S,.int .i64 B,.int .i64 n,.int .i64 t,.int .i64 r,.int .u32 nm,.int .u32 sh] 41)) (w.alloc (.cells #[.int .i64 P,.slice Ar nr cr,vv,.int .i64 S,.int .i64 B,.int .i64 n,.int .i64 t,.int .i64 r,.int .u32 nm,.int .u32 sh] 41)):=Below.refl _ _;clear hs0 s
 by_cases hc0:c=0
 ·subst hc0
  by_cases hs:(nr:Int)=P
  ·have d2:((nr:Int) != P)=false:=by simp [hs]
   have e2:decide ((nr:Int)=P)=true:=by simp [hs]
   rw [e2] at HX;clear hs e2
   cases zb <;> cases zs <;> cases zt <;> cases zr
   all_goals (
   go_enter Tryz.func25,Tryz.ntmps25
   go_wp2_with (first
    |(go_at_call 50;(with_reducible refine Calls.mono (HVC.out _ (HLOW.out _ hq)) ?_);rintro e wa ⟨rfl,hba⟩;(have hq:=HUP.out _ _ hq hba);(obtain ⟨q0,q1,q2,q3,q4,q5,q6,q7⟩:=HBOX.out _ hq);clear hba)
    |(go_at_call 51;(with_reducible refine Calls.mono (HCR.out _ (HLOW.out _ hq)) ?_);rintro e wa ⟨rfl,hba⟩;(have hq:=HUP.out _ _ hq hba);(obtain ⟨q0,q1,q2,q3,q4,q5,q6,q7⟩:=HBOX.out _ hq);clear hba)
    |(go_at_call 53;(with_reducible refine Calls.mono (HBR.out _) ?_);rintro e wa ⟨rfl,hba⟩;(have hq:=HUP.out _ _ hq hba);(obtain ⟨q0,q1,q2,q3,q4,q5,q6,q7⟩:=HBOX.out _ hq);clear hba)
    |(go_at_call 54;(with_reducible refine Calls.mono (HT.out _) ?_);rintro e wa ⟨rfl,hba⟩;(have hq:=HUP.out _ _ hq hba);(obtain ⟨q0,q1,q2,q3,q4,q5,q6,q7⟩:=HBOX.out _ hq);clear hba)
    |(go_at_call 54;(with_reducible refine Calls.mono (HR.out _) ?_);rintro e wa ⟨rfl,hba⟩;(have hq:=HUP.out _ _ hq hba);(obtain ⟨q0,q1,q2,q3,q4,q5,q6,q7⟩:=HBOX.out _ hq);clear hba)
    |fail)
   go_ret
   exact ⟨by rw [HX.out];rfl,HLOW.out _ hq⟩)
  ·have d2:((nr:Int) != P)=true:=by simp [hs]
   have e2:decide ((nr:Int)=P)=false:=by simp [hs]
   rw [e2] at HX;clear hs e2
   go_enter Tryz.func25,Tryz.ntmps25
   go_wp2_with (first
    |(go_at_call 50;(with_reducible refine Calls.mono (HVC.out _ (HLOW.out _ hq)) ?_);rintro e wa ⟨rfl,hba⟩;(have hq:=HUP.out _ _ hq hba);(obtain ⟨q0,q1,q2,q3,q4,q5,q6,q7⟩:=HBOX.out _ hq);clear hba)
    |(go_at_call 51;(with_reducible refine Calls.mono (HCR.out _ (HLOW.out _ hq)) ?_);rintro e wa ⟨rfl,hba⟩;(have hq:=HUP.out _ _ hq hba);(obtain ⟨q0,q1,q2,q3,q4,q5,q6,q7⟩:=HBOX.out _ hq);clear hba)
    |(go_at_call 53;(with_reducible refine Calls.mono (HBR.out _) ?_);rintro e wa ⟨rfl,hba⟩;(have hq:=HUP.out _ _ hq hba);(obtain ⟨q0,q1,q2,q3,q4,q5,q6,q7⟩:=HBOX.out _ hq);clear hba)
    |(go_at_call 54;(with_reducible refine Calls.mono (HT.out _) ?_);rintro e wa ⟨rfl,hba⟩;(have hq:=HUP.out _ _ hq hba);(obtain ⟨q0,q1,q2,q3,q4,q5,q6,q7⟩:=HBOX.out _ hq);clear hba)
    |(go_at_call 54;(with_reducible refine Calls.mono (HR.out _) ?_);rintro e wa ⟨rfl,hba⟩;(have hq:=HUP.out _ _ hq hba);(obtain ⟨q0,q1,q2,q3,q4,q5,q6,q7⟩:=HBOX.out _ hq);clear hba)
    |fail)
   go_ret
   exact ⟨by rw [HX.out,zeb (by simp)];rfl,HLOW.out _ hq⟩
 ·have d1:((c:Int) != 0)=true:=by simp;omega
  go_enter Tryz.func25,Tryz.ntmps25
  go_wp2_with (first
    |(go_at_call 50;(with_reducible refine Calls.mono (HVC.out _ (HLOW.out _ hq)) ?_);rintro e wa ⟨rfl,hba⟩;(have hq:=HUP.out _ _ hq hba);(obtain ⟨q0,q1,q2,q3,q4,q5,q6,q7⟩:=HBOX.out _ hq);clear hba)
    |(go_at_call 51;(with_reducible refine Calls.mono (HCR.out _ (HLOW.out _ hq)) ?_);rintro e wa ⟨rfl,hba⟩;(have hq:=HUP.out _ _ hq hba);(obtain ⟨q0,q1,q2,q3,q4,q5,q6,q7⟩:=HBOX.out _ hq);clear hba)
    |(go_at_call 53;(with_reducible refine Calls.mono (HBR.out _) ?_);rintro e wa ⟨rfl,hba⟩;(have hq:=HUP.out _ _ hq hba);(obtain ⟨q0,q1,q2,q3,q4,q5,q6,q7⟩:=HBOX.out _ hq);clear hba)
    |(go_at_call 54;(with_reducible refine Calls.mono (HT.out _) ?_);rintro e wa ⟨rfl,hba⟩;(have hq:=HUP.out _ _ hq hba);(obtain ⟨q0,q1,q2,q3,q4,q5,q6,q7⟩:=HBOX.out _ hq);clear hba)
    |(go_at_call 54;(with_reducible refine Calls.mono (HR.out _) ?_);rintro e wa ⟨rfl,hba⟩;(have hq:=HUP.out _ _ hq hba);(obtain ⟨q0,q1,q2,q3,q4,q5,q6,q7⟩:=HBOX.out _ hq);clear hba)
    |fail)
  go_ret
  exact ⟨by rw [HX.out,zpb hc0];rfl,HLOW.out _ hq⟩
end
end Go.Proofs.YtfekhdgjgjodlaaGreat
