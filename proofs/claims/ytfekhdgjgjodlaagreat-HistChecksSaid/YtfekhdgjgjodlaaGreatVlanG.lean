/-
  Words and contracts that a statement's proof rests on (VlanA, VlanD, VlanG). No statement is proved here.
-/
import Derived.Test.YtfekhdgjgjodlaaGreatProg
import Derived.Handy
import Derived.WalkLawsBesides
import Derived.Lib.Hide
import Derived.Laws.BitsAllLaws
import Derived.Deep.QuietTactic
import Derived.Test.YtfekhdgjgjodlaaGreatKit
import Derived.Test.YtfekhdgjgjodlaaGreatPlainFx
set_option linter.unusedVariables false
set_option linter.unusedSimpArgs false
namespace Go.Proofs.YtfekhdgjgjodlaaGreat
section
open Go.RowKit
theorem zlu {p:Nat} (hp:p<64):IntKind.u64.wrap (2 ^ p)=((2 ^ p:Nat):Int):=by
 have:=zel hp
 have h:((2:Int) ^ p)=((2 ^ p:Nat):Int):=by simp
 rw [h]
 generalize 2 ^ p=y at *
 exact IntWalk.u64_in _ (by omega)
set_option maxHeartbeats 400000 in
theorem ziy (p:Int) (hp:p<0\/64<=p) (w:World) :
  Calls Tryz.prog 134 #[.int .i64 p] w fun e w'=>e=.returned (.int .u64 0)/\w=w':=by
 go_enter Tryz.func134,Tryz.ntmps134
 by_cases h0:p<0
 ·go_wp2
  go_ret
  exact ⟨rfl,rfl⟩
 ·have h1:(64:Int)<=p:=by omega
  go_wp2
  go_ret
  exact ⟨rfl,rfl⟩
set_option maxHeartbeats 400000 in
theorem zk2 (p:Nat) (hp:p<64) (w:World) :
  Calls Tryz.prog 134 #[.int .i64 (p:Int)] w fun e w'=>e=.returned (.int .u64 ((2 ^ p:Nat):Int))/\w=w':=by
 have h0:¬ (p:Int)<0:=by omega
 have h1:¬ (64:Int)<=(p:Int):=by omega
 go_enter Tryz.func134,Tryz.ntmps134
 go_wp2
 go_ret
 exact ⟨by simp [zlu hp],rfl⟩
set_option maxHeartbeats 400000 in
theorem zlj (s:Nat) (hs:s<18446744073709551616) (p:Int) (w:World) :
  Calls Tryz.prog 117 #[.int .u64 (s:Int),.int .i64 p] w fun e w'=>e=.returned (.bool (hasB s p))/\w=w':=by
 by_cases hp:p<0\/64<=p
 ·have hq:bits .and .u64 (s:Int) 0=0:=by
   have:=u64_and_nat s 0 hs (by omega)
   rw [Nat.and_zero] at this
   exact this
  have hB:=Lib.hid fun W=>ziy p hp W
  go_enter Tryz.func117,Tryz.ntmps117
  go_wp2_with fail
  refine (hB.out _).mono ?_
  rintro e w1 ⟨rfl,rfl⟩
  go_wp2
  go_ret
  exact ⟨zai (by rw [zh2 s hp]),rfl⟩
 ·obtain ⟨k,rfl⟩:=Int.eq_ofNat_of_zero_le (show 0<=p by omega)
  have hk:k<64:=by omega
  obtain ⟨y,hy⟩:∃ y,y=2 ^ k:=⟨_,rfl⟩;have hB:=zk2 k hk;rw [<- hy] at hB;have HB:=Lib.hid hB;have hq:=u64_and_nat s (2 ^ k) hs (zel hk);rw [<- hy] at hq;have HY:=Lib.hid hy;clear hB hy
  go_enter Tryz.func117,Tryz.ntmps117
  go_wp2_with fail
  refine (HB.out _).mono ?_
  rintro e w1 ⟨rfl,rfl⟩
  go_wp2
  go_ret
  exact ⟨zai (by rw [zcn s hk,<- has_and,HY.out]),rfl⟩
set_option maxHeartbeats 400000 in
theorem zmd (p:Nat) (hp:p<64) (w:World) :
  Calls Tryz.prog 48 #[.int .i64 (p:Int)] w fun e w'=>e=.returned (.int .u64 ((2 ^ p:Nat):Int))/\w=w':=by
 obtain ⟨Y,hY⟩:∃ Y,Y=2 ^ p:=⟨_,rfl⟩;rw [<- hY];have HYY:=Lib.hid hY;clear hY
 go_enter Tryz.func48,Tryz.ntmps48
 go_wp2
 go_loop [3,4] (fun n i=>∃ k y:Nat,k<=p/\i=.int .i64 k/\n=.int .u64 (y:Nat)/\Hid (y=2 ^ k)) (fun _ i=>p - (intOf i).toNat)
 case atStart=>exact ⟨0,1,by omega,rfl,rfl,rfl⟩
 case round =>
  obtain ⟨k,y,hk,rfl,rfl,HY⟩:=hrel
  by_cases hlt:k<p
  ·have hy:y<=4611686018427387904:=by
    have:=Nat.pow_le_pow_right (n:=2) (by omega) (show k<=62 by omega)
    rw [HY.out]
    exact Nat.le_trans this (by decide)
   go_wp2
   go_round
   case rel=>exact ⟨k+1,y*2,by omega,by go_num,by go_num,by show y*2=2 ^ (k+1);rw [HY.out,Nat.pow_succ]⟩
   case measure=>simp [intOf];omega
  ·have:k=p:=by omega
   subst this
   go_wp2
   go_ret
   exact ⟨zcr (by rw [HYY.out,HY.out]),rfl⟩
set_option maxHeartbeats 400000 in
theorem zbo (s:Nat) (hs:s<18446744073709551616) (p:Int) (w:World) :
  Calls Tryz.prog 22 #[.int .u64 (s:Int),.int .i64 p] w fun e w'=>e=.returned (.bool (hasB s p))/\w=w':=by
 by_cases hp:p<0\/64<=p
 ·go_enter Tryz.func22,Tryz.ntmps22
  by_cases h0:p<0
  ·go_wp2
   go_ret
   exact ⟨zai (by rw [zh2 s hp]),rfl⟩
  ·have h1:(64:Int)<=p:=by omega
   go_wp2
   go_ret
   exact ⟨zai (by rw [zh2 s hp]),rfl⟩
 ·obtain ⟨k,rfl⟩:=Int.eq_ofNat_of_zero_le (show 0<=p by omega)
  have hk:k<64:=by omega
  obtain ⟨y,hy⟩:∃ y,y=2 ^ k:=⟨_,rfl⟩;have hB:=zmd k hk;have hpos:=Nat.two_pow_pos k;have hyl:=zel hk;rw [<- hy] at hB hpos hyl
  have hne:¬ (y:Int)=0:=by omega
  obtain ⟨q,hq⟩:∃ q,q=s / y:=⟨_,rfl⟩
  have hql:q<=s:=by rw [hq];exact Nat.div_le_self _ _
  have hqi:(s:Int) / (y:Int)=(q:Int):=by rw [hq];simp
  have hqw:IntKind.u64.wrap ((s:Int) / (y:Int))=(q:Int):=by rw [hqi];exact IntWalk.u64_in _ (by omega)
  have HB:=Lib.hid hB;have HY:=Lib.hid hy;have HQ:=Lib.hid hq;clear hB hy hp hq hqi hql
  have h0:(0:Int)<=(k:Int):=by omega
  have h1:(k:Int)<64:=by omega
  go_enter Tryz.func22,Tryz.ntmps22
  go_wp2_with fail
  refine (HB.out _).mono ?_
  rintro e w1 ⟨rfl,rfl⟩
  go_wp2
  go_ret
  refine ⟨zai ?_,rfl⟩
  rw [zcn s hk,Nat.testBit_eq_decide_div_mod_eq,<- HY.out,<- HQ.out,Bool.eq_iff_iff]
  simp
  omega
set_option maxHeartbeats 400000 in
theorem zdm (s:Nat) (hs:s<18446744073709551616) (p:Int) (w:World) :
  Calls Tryz.prog 23 #[.int .u64 (s:Int),.int .i64 p] w fun e w'=>e=.returned (.int .u64 (zgq s p:Nat))/\w=w':=by
 by_cases hp:p<0\/64<=p
 ·go_enter Tryz.func23,Tryz.ntmps23
  by_cases h0:p<0
  ·go_wp2
   go_ret
   exact ⟨by rw [zjf s hp];rfl,rfl⟩
  ·have h1:(63:Int)<p:=by omega
   go_wp2
   go_ret
   exact ⟨by rw [zjf s hp];rfl,rfl⟩
 ·have hH:=fun W=>zbo s hs p W
  obtain ⟨k,rfl⟩:=Int.eq_ofNat_of_zero_le (show 0<=p by omega)
  have hk:k<64:=by omega
  obtain ⟨y,hy⟩:∃ y,y=2 ^ k:=⟨_,rfl⟩;have hB:=zmd k hk;rw [<- hy] at hB;have HB:=Lib.hid hB;have HY:=Lib.hid hy;rw [zcn s hk] at hH
  have h0:¬ (k:Int)<0:=by omega
  have h1:¬ (63:Int)<(k:Int):=by omega
  clear hB hp
  cases hb:s.testBit k
  ·rw [hb] at hH
   have e:=zhu hs hk hb;have hl:=withN_lt hs (k:Int);rw [zdz s hk,e,<- hy] at hl;rw [<- hy] at e;have HH:=Lib.hid hH;have HE:=Lib.hid e;clear hH e hy hb
   go_enter Tryz.func23,Tryz.ntmps23
   go_wp2_with fail
   refine (HH.out _).mono ?_
   rintro e w1 ⟨rfl,rfl⟩
   go_wp2_with fail
   refine (HB.out _).mono ?_
   rintro e w1 ⟨rfl,rfl⟩
   have hw:IntKind.u64.wrap ((s:Int)+(y:Int))=(s:Int)+(y:Int):=IntWalk.u64_in _ (by omega)
   go_wp2
   go_ret
   exact ⟨zcr (by rw [zdz s hk,<- HY.out,HE.out];simp),rfl⟩
  ·rw [hb] at hH
   have e:=zkr hb;have HH:=Lib.hid hH;have HE:=Lib.hid e;clear hH e hy hb
   go_enter Tryz.func23,Tryz.ntmps23
   go_wp2_with fail
   refine (HH.out _).mono ?_
   rintro e w1 ⟨rfl,rfl⟩
   go_wp2
   go_ret
   exact ⟨zcr (by rw [zdz s hk,HE.out]),rfl⟩
end
section
open Go.RowKit
set_option maxHeartbeats 800000 in
theorem zev {l:List Vl} {n:Nat} {v:Value} {w:World} {B:Nat} (hv:Sl w B 3 v n (vlc l)) (hB:B<=w.heap.size) (vid:Int) :
  Calls Tryz.prog 105 #[v,.int .i64 vid] w (Says (.int .i64 (zax l vid n)) w):=by
 by_cases hn0:0<n
 ·obtain ⟨b,off,cap,rfl,hcap,hmx,hb,hlen,hcell⟩:=hv.vlAt hn0
  unfold maxLen at hmx;have HC:=Lib.hid hcell;have HV:=Lib.hid hv;clear hv hcell hlen
  go_enter Tryz.func105,Tryz.ntmps105
  go_wp2
  go_loopw [9] (fun i wr=>∃ k:Nat,k<=n/\i=.int .i64 k/\Hid (∀ i,i<k->zb7 l vid i=false)/\Hid (Below w.heap.size w wr)) (fun i _=>n - (intOf i).toNat)
  case atStart=>exact ⟨0,by omega,rfl,fun i hi=>by omega,Below.refl _ _⟩
  case round =>
   obtain ⟨k,hk,rfl,HF,HBW⟩:=hrel
   rename_i wr _
   by_cases hlt:k<n
   ·obtain ⟨c0,c1,c2⟩:=HC.out k hlt
    have hbw:=(zao HBW.out).1
    have e0:=(hbw b (off+k*3) (by omega)).trans c0
    have e1:=(hbw b (off+k*3+1) (by omega)).trans c1
    have e2:=(hbw b (off+k*3+2) (by omega)).trans c2
    obtain ⟨x,hx⟩:∃ x,x=l.getD k vl0:=⟨_,rfl⟩;rw [<- hx] at e0 e1 e2
    have hvid:zb7 l vid k=(x.vid == vid):=by unfold zb7;rw [<- hx]
    have HVID:=Lib.hid hvid;clear hbw c0 c1 c2 hx hvid HC
    cases hxv:x.vid == vid
    ·rw [hxv] at HVID
     have hne:¬ x.vid=vid:=by simpa using hxv
     clear hxv
     go_wp2
     go_roundw
     case rel=>exact ⟨k+1,by omega,by go_num,fun i hi=>by
       rcases Nat.lt_or_ge i k with h|h
       ·exact HF.out i h
       ·obtain rfl:i=k:=by omega
        exact HVID.out,HBW.out.alloc HBW.out.size _⟩
     case measure=>simp [intOf];omega
    ·rw [hxv] at HVID
     have heq:x.vid=vid:=by simpa using hxv
     clear hxv
     go_wp2
     go_ret
     exact ⟨za4 (by unfold zax;rw [zge _ k HF.out HVID.out n hlt]),HBW.out.alloc HBW.out.size _⟩
   ·have:k=n:=by omega
    subst this
    go_wp2
    go_ret
    exact ⟨za4 (by unfold zax;rw [zdc _ _ HF.out]),HBW.out⟩
 ·obtain rfl:n=0:=by omega
  obtain ⟨A,cap,rfl,hcap,hmx⟩:=hv.form;clear hv hn0
  go_enter Tryz.func105,Tryz.ntmps105
  go_wp2
  go_loopw [9] (fun i wr=>i=.int .i64 0/\wr=w) (fun _ _=>0)
  case atStart=>exact ⟨rfl,rfl⟩
  case round =>
   obtain ⟨rfl,rfl⟩:=hrel
   go_wp2
   go_ret
   exact ⟨rfl,Below.refl _ _⟩
set_option maxHeartbeats 800000 in
theorem zag {l:List Vl} {n:Nat} {v:Value} {w:World} {B:Nat} (hv:Sl w B 3 v n (vlc l)) (hB:B<=w.heap.size) (vid:Int) :
  Calls Tryz.prog 40 #[v,.int .i64 vid] w (Says (.int .i64 (zax l vid n)) w):=by
 by_cases hn0:0<n
 ·obtain ⟨b,off,cap,rfl,hcap,hmx,hb,hlen,hcell⟩:=hv.vlAt hn0
  unfold maxLen at hmx;have HC:=Lib.hid hcell;have HV:=Lib.hid hv;clear hv hcell hlen
  go_enter Tryz.func40,Tryz.ntmps40
  go_wp2
  go_loopw [5] (fun i wr=>∃ k:Nat,k<=n/\i=.int .i64 k/\Hid (∀ i,i<k->zb7 l vid i=false)/\Hid (Below w.heap.size w wr)) (fun i _=>n - (intOf i).toNat)
  case atStart=>exact ⟨0,by omega,rfl,fun i hi=>by omega,Below.refl _ _⟩
  case round =>
   obtain ⟨k,hk,rfl,HF,HBW⟩:=hrel
   rename_i wr _
   by_cases hlt:k<n
   ·obtain ⟨c0,c1,c2⟩:=HC.out k hlt
    have hbw:=(zao HBW.out).1
    have e0:=(hbw b (off+k*3) (by omega)).trans c0
    have e1:=(hbw b (off+k*3+1) (by omega)).trans c1
    have e2:=(hbw b (off+k*3+2) (by omega)).trans c2
    obtain ⟨x,hx⟩:∃ x,x=l.getD k vl0:=⟨_,rfl⟩;rw [<- hx] at e0 e1 e2
    have hvid:zb7 l vid k=(x.vid == vid):=by unfold zb7;rw [<- hx]
    have HVID:=Lib.hid hvid;clear hbw c0 c1 c2 hx hvid HC
    cases hxv:x.vid == vid
    ·rw [hxv] at HVID
     have hne:¬ x.vid=vid:=by simpa using hxv
     clear hxv
     go_wp2
     go_roundw
     case rel=>exact ⟨k+1,by omega,by go_num,fun i hi=>by
       rcases Nat.lt_or_ge i k with h|h
       ·exact HF.out i h
       ·obtain rfl:i=k:=by omega
        exact HVID.out,HBW.out⟩
     case measure=>simp [intOf];omega
    ·rw [hxv] at HVID
     have heq:x.vid=vid:=by simpa using hxv
     clear hxv
     go_wp2
     go_ret
     exact ⟨za4 (by unfold zax;rw [zge _ k HF.out HVID.out n hlt]),HBW.out⟩
   ·have:k=n:=by omega
    subst this
    go_wp2
    go_ret
    exact ⟨za4 (by unfold zax;rw [zdc _ _ HF.out]),HBW.out⟩
 ·obtain rfl:n=0:=by omega
  obtain ⟨A,cap,rfl,hcap,hmx⟩:=hv.form;clear hv hn0
  go_enter Tryz.func40,Tryz.ntmps40
  go_wp2
  go_loopw [5] (fun i wr=>i=.int .i64 0/\wr=w) (fun _ _=>0)
  case atStart=>exact ⟨rfl,rfl⟩
  case round =>
   obtain ⟨rfl,rfl⟩:=hrel
   go_wp2
   go_ret
   exact ⟨rfl,Below.refl _ _⟩
end
section
open Go.RowKit
set_option maxHeartbeats 400000 in
theorem zei (v:Int) (w:World) :
  Calls Tryz.prog 73 #[.int .i64 v] w fun e w'=>e=.returned (.bool (vidB v))/\w=w':=by
 unfold vidB
 by_cases h1:1<=v
 ·go_enter Tryz.func73,Tryz.ntmps73
  go_wp2
  go_ret
  exact ⟨zai (by simp [h1]),rfl⟩
 ·go_enter Tryz.func73,Tryz.ntmps73
  go_wp2
  go_ret
  exact ⟨zai (by simp;omega),rfl⟩
set_option maxHeartbeats 400000 in
theorem zm7 (p a:Int) (w:World) :
  Calls Tryz.prog 76 #[.agg #[.int .i64 p,.int .i64 a]] w (Says (.bool (zfv p a)) w):=by
 unfold zfv
 have hV:=fun W=>zei p W
 generalize vidB p=z at *
 have HV:=Lib.hid hV;clear hV
 cases z
 ·go_enter Tryz.func76,Tryz.ntmps76
  go_wp2_with fail
  refine (HV.out _).mono ?_
  rintro e w1 ⟨rfl,rfl⟩
  go_wp2
  go_ret
  exact ⟨zai (by simp),(Below.refl _ _).alloc (Nat.le_refl _) _⟩
 ·by_cases h1:0<=a
  ·go_enter Tryz.func76,Tryz.ntmps76
   go_wp2_with fail
   refine (HV.out _).mono ?_
   rintro e w1 ⟨rfl,rfl⟩
   go_wp2
   go_ret
   exact ⟨zai (by simp [h1]),(Below.refl _ _).alloc (Nat.le_refl _) _⟩
  ·go_enter Tryz.func76,Tryz.ntmps76
   go_wp2_with fail
   refine (HV.out _).mono ?_
   rintro e w1 ⟨rfl,rfl⟩
   go_wp2
   go_ret
   exact ⟨zai (by simp;omega),(Below.refl _ _).alloc (Nat.le_refl _) _⟩
set_option maxHeartbeats 400000 in
theorem zml (p a:Int) (w:World) :
  Calls Tryz.prog 61 #[.agg #[.int .i64 p,.int .i64 a]] w (Says (.bool (zfv p a)) w):=by
 unfold zfv vidB
 by_cases h1:1<=p
 ·by_cases h2:p<=4094
  ·by_cases h3:0<=a
   ·go_enter Tryz.func61,Tryz.ntmps61
    go_wp2
    go_ret
    exact ⟨zai (by simp [h1,h2,h3]),(Below.refl _ _).alloc (Nat.le_refl _) _⟩
   ·go_enter Tryz.func61,Tryz.ntmps61
    go_wp2
    go_ret
    exact ⟨zai (by simp;omega),(Below.refl _ _).alloc (Nat.le_refl _) _⟩
  ·go_enter Tryz.func61,Tryz.ntmps61
   go_wp2
   go_ret
   exact ⟨zai (by simp;omega),(Below.refl _ _).alloc (Nat.le_refl _) _⟩
 ·go_enter Tryz.func61,Tryz.ntmps61
  go_wp2
  go_ret
  exact ⟨zai (by simp;omega),(Below.refl _ _).alloc (Nat.le_refl _) _⟩
set_option maxHeartbeats 400000 in
theorem zlk (n:Int) (w:World) :
  Calls Tryz.prog 74 #[.int .i64 n] w fun e w'=>e=.returned (.int .u64 (allN n:Nat))/\w=w':=by
 unfold allN
 by_cases h:64<=n
 ·rw [if_pos h]
  go_enter Tryz.func74,Tryz.ntmps74
  go_wp2
  go_ret
  exact ⟨rfl,rfl⟩
 ·rw [if_neg h]
  by_cases h0:n<0
  ·have:n.toNat=0:=by omega
   rw [this]
   go_enter Tryz.func74,Tryz.ntmps74
   go_wp2
   all_goals go_ret
   all_goals exact ⟨zcr (by simp),rfl⟩
  ·obtain ⟨k,rfl⟩:=Int.eq_ofNat_of_zero_le (show 0<=n by omega)
   have hk:k<64:=by omega
   rw [Int.toNat_natCast];have hb:=zlu hk;have hl:=zel hk;have hp:=Nat.two_pow_pos k
   have hs:IntKind.u64.wrap (((2 ^ k:Nat):Int) - 1)=((2 ^ k - 1:Nat):Int):=by
    rw [IntWalk.u64_in _ (by omega)];omega
   have HB:=Lib.hid hb;have HS:=Lib.hid hs;clear hb hs hl hp
   go_enter Tryz.func74,Tryz.ntmps74
   go_wp2
   all_goals go_ret
   all_goals exact ⟨zcr (by rw [HB.out,HS.out]),rfl⟩
set_option maxHeartbeats 400000 in
theorem zih (n:Int) (w:World) :
  Calls Tryz.prog 21 #[.int .i64 n] w fun e w'=>e=.returned (.int .u64 (allN n:Nat))/\w=w':=by
 obtain ⟨m,hm⟩:∃ m:Nat,m=if 64<=n then 64 else n.toNat:=⟨_,rfl⟩
 have hm64:m<=64:=by rw [hm];split <;> omega
 have hstop:∀ k:Nat,k<m↔((k:Int)<n/\k<64):=fun k=>by rw [hm];split <;> omega
 have hval:allN n=2 ^ m - 1:=by unfold allN;rw [hm];split <;> rfl
 obtain ⟨A,hA⟩:∃ A,A=allN n:=⟨_,rfl⟩;rw [<- hA] at hval |-;have HV:=Lib.hid hval;have HS:=Lib.hid hstop;clear hm hA hval hstop
 go_enter Tryz.func21,Tryz.ntmps21
 go_wp2
 go_loop [3,4] (fun s i=>∃ k y:Nat,k<=m/\i=.int .i64 k/\s=.int .u64 (y:Nat)/\Hid (y=2 ^ k - 1)) (fun _ i=>m - (intOf i).toNat)
 case atStart=>exact ⟨0,0,by omega,rfl,rfl,rfl⟩
 case round =>
  obtain ⟨k,y,hk,rfl,rfl,HY⟩:=hrel
  by_cases hlt:k<m
  ·obtain ⟨h1,h2⟩:=(HS.out k).1 hlt
   have hyl:y<18446744073709551616:=by
    have:=zel h2
    rw [HY.out];omega
   have hW:=fun W=>zdm y hyl (k:Int) W
   have hw2:zgq y (k:Int)=2 ^ (k+1) - 1:=by rw [HY.out];exact zqp k h2
   obtain ⟨z,hz⟩:∃ z,z=zgq y (k:Int):=⟨_,rfl⟩;rw [<- hz] at hW hw2;have HW:=Lib.hid hW
   have HZ:Hid (z=2 ^ (k+1) - 1):=hw2
   have h2':(k:Int)<64:=by omega
   clear hW hw2 hz hyl
   go_wp2_with fail
   refine (HW.out _).mono ?_
   rintro e w1 ⟨rfl,rfl⟩
   go_wp2
   go_round
   case rel=>exact ⟨k+1,z,by omega,by go_num,rfl,HZ⟩
   case measure=>simp [intOf];omega
  ·have:k=m:=by omega
   subst this
   have hn:¬ ((k:Int)<n/\k<64):=fun h=>hlt ((HS.out k).2 h)
   by_cases h1:(k:Int)<n
   ·have h2:¬ (k:Int)<64:=by omega
    go_wp2
    go_ret
    exact ⟨zcr (by rw [HV.out,HY.out]),rfl⟩
   ·go_wp2
    go_ret
    exact ⟨zcr (by rw [HV.out,HY.out]),rfl⟩
set_option maxHeartbeats 800000 in
theorem zgg (a b:Nat) (ha:a<18446744073709551616) (hb:b<18446744073709551616) (w:World) :
  Calls Tryz.prog 95 #[.int .u64 (a:Int),.int .u64 (b:Int)] w fun e w'=>e=.returned (.bool (zaz a b))/\w=w':=by
 have HA:=Lib.hid fun (k:Nat) W=>zbo a ha (k:Int) W
 have HB:=Lib.hid fun (k:Nat) W=>zbo b hb (k:Int) W
 obtain ⟨z,hz⟩:∃ z,z=zaz a b:=⟨_,rfl⟩;rw [<- hz];have HZ:=Lib.hid hz;clear hz
 go_enter Tryz.func95,Tryz.ntmps95
 go_wp2
 go_loop [5] (fun i=>∃ k:Nat,k<=64/\i=.int .i64 k/\Hid (zb8 a b k=true)) (fun i=>64 - (intOf i).toNat)
 case atStart=>exact ⟨0,by omega,rfl,rfl⟩
 case round =>
  obtain ⟨k,hk,rfl,HK⟩:=hrel
  by_cases hlt:k<64
  ·have hA:=HA.out k
   have hB:=HB.out k;rw [zcn a hlt] at hA;rw [zcn b hlt] at hB
   have h64:(k:Int)<64:=by omega
   cases hta:a.testBit k
   ·rw [hta] at hA
    have KA:=Lib.hid hA
    have HN:Hid (zb8 a b (k+1)=true):=by show zb8 a b (k+1)=true;rw [zb8,HK.out,hta];rfl
    clear hA hB hta
    go_wp2_with fail
    refine (KA.out _).mono ?_
    rintro e w1 ⟨rfl,rfl⟩
    go_wp2
    go_round
    case rel=>exact ⟨k+1,by omega,by go_num,HN⟩
    case measure=>simp [intOf];omega
   ·rw [hta] at hA
    have KA:=Lib.hid hA
    cases htb:b.testBit k
    ·rw [htb] at hB
     have KB:=Lib.hid hB
     have HN:Hid (zaz a b=false):=zm9 hlt hta htb
     clear hA hB hta htb
     go_wp2_with fail
     refine (KA.out _).mono ?_
     rintro e w1 ⟨rfl,rfl⟩
     go_wp2_with fail
     refine (KB.out _).mono ?_
     rintro e w1 ⟨rfl,rfl⟩
     go_wp2
     go_ret
     exact ⟨zai (by rw [HZ.out,HN.out]),rfl⟩
    ·rw [htb] at hB
     have KB:=Lib.hid hB
     have HN:Hid (zb8 a b (k+1)=true):=by show zb8 a b (k+1)=true;rw [zb8,HK.out,hta,htb];rfl
     clear hA hB hta htb
     go_wp2_with fail
     refine (KA.out _).mono ?_
     rintro e w1 ⟨rfl,rfl⟩
     go_wp2_with fail
     refine (KB.out _).mono ?_
     rintro e w1 ⟨rfl,rfl⟩
     go_wp2
     go_round
     case rel=>exact ⟨k+1,by omega,by go_num,HN⟩
     case measure=>simp [intOf];omega
  ·have:k=64:=by omega
   subst this
   go_wp2
   go_ret
   exact ⟨zai (by rw [HZ.out];exact HK.out.symm),rfl⟩
def zcy (l:List Vl) (k:Nat):Int:=if k=0 then 0 else (l.getD (k - 1) vl0).vid
theorem zpt {l:List Vl} {ports:Int} {k:Nat} (h:vidB (l.getD k vl0).vid=false):zbt l ports k=6:=by unfold zbt;rw [if_pos (.inl h)]
theorem zpm {l:List Vl} {ports:Int} {k:Nat} (h:vidB (l.getD k vl0).vid=true) (h2:(l.getD k vl0).vid<=zcy l k):zbt l ports k=6:=by
 have h3:0<k/\(l.getD k vl0).vid<=(l.getD (k - 1) vl0).vid:=by
  unfold zcy at h2;unfold vidB at h
  simp only [Bool.and_eq_true,decide_eq_true_eq] at h
  split at h2
  ·omega
  ·exact ⟨by omega,h2⟩
 unfold zbt;rw [if_pos (.inr h3)]
theorem zod {l:List Vl} {k:Nat} (h:vidB (l.getD k vl0).vid=true) (h2:¬ (l.getD k vl0).vid<=zcy l k):¬ (vidB (l.getD k vl0).vid=false\/(0<k/\(l.getD k vl0).vid<=(l.getD (k - 1) vl0).vid)):=by
 rintro (h3|⟨h3,h4⟩)
 ·rw [h] at h3;cases h3
 ·apply h2
  unfold zcy
  rw [if_neg (by omega)]
  exact h4
theorem wrong5 {l:List Vl} {ports:Int} {k:Nat} (h:vidB (l.getD k vl0).vid=true) (h2:¬ (l.getD k vl0).vid<=zcy l k) (h3:zaz (l.getD k vl0).mem (allN ports)=false):zbt l ports k=5:=by
 unfold zbt;rw [if_neg (zod h h2),if_pos h3]
theorem wrong1 {l:List Vl} {ports:Int} {k:Nat} (h:vidB (l.getD k vl0).vid=true) (h2:¬ (l.getD k vl0).vid<=zcy l k) (h3:zaz (l.getD k vl0).mem (allN ports)=true) (h4:zaz (l.getD k vl0).unt (l.getD k vl0).mem=false):zbt l ports k=1:=by
 unfold zbt;rw [if_neg (zod h h2),if_neg (by rw [h3];simp),if_pos h4]
theorem wrong0 {l:List Vl} {ports:Int} {k:Nat} (h:vidB (l.getD k vl0).vid=true) (h2:¬ (l.getD k vl0).vid<=zcy l k) (h3:zaz (l.getD k vl0).mem (allN ports)=true) (h4:zaz (l.getD k vl0).unt (l.getD k vl0).mem=true):zbt l ports k=0:=by
 unfold zbt;rw [if_neg (zod h h2),if_neg (by rw [h3];simp),if_neg (by rw [h4];simp)]
theorem zh6 {f:Nat->Nat} {k:Nat} (h:∀ i,i<k->f i=0) (hk:f k=0):∀ i,i<k+1->f i=0:=by
 intro i hi
 rcases Nat.lt_or_ge i k with h1|h1
 ·exact h i h1
 ·obtain rfl:i=k:=by omega
  exact hk
end
end Go.Proofs.YtfekhdgjgjodlaaGreat
