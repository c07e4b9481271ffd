/-
  Words and contracts that a statement's proof rests on (Kit2, VlanH, Base2, PlainKy, Base3, Turn, But, MoN, PlainPt, PtA, PtB). No statement is proved here.
-/
import Derived.IntWalk
import Derived.Laws.Bits64
import Derived.Lib.Hide
import Derived.StillTailTactics
import Derived.Test.YtfekhdgjgjodlaaGreatKit
import Derived.Test.YtfekhdgjgjodlaaGreatVlanG
import Derived.Test.YtfekhdgjgjodlaaGreatPlainFx
set_option linter.unusedVariables false
set_option linter.unusedSimpArgs false
namespace Go.Proofs.YtfekhdgjgjodlaaGreat
section
open Go.RowKit
theorem zmb {P:Program} {f:FuncId} {args:Array Value} {v:Value} (h:∀ W,Calls P f args W fun e w'=>e=.returned v/\W=w') (w:World) (n:Nat) :
  Calls P f args (w.drewN n) fun e w'=>e=.returned v/\∃ m,w'=w.drewN m:=(h _).mono fun _ _ hh=>⟨hh.1,n,hh.2.symm⟩
theorem zce {P:Program} {f:FuncId} {args:Array Value} {v:Value} (h:∀ W,Calls P f args W fun e w'=>e=.returned v/\W=w') (w:World) (a n:Nat) :
  Calls P f args (w.drewN (a+n)) fun e w'=>e=.returned v/\∃ m,w'=w.drewN (a+m):=(h _).mono fun _ _ hh=>⟨hh.1,n,hh.2.symm⟩
end
section
open Go.RowKit
set_option maxHeartbeats 3200000 in
theorem zmh {l:List Vl} {n:Nat} {v:Value} {w:World} {B:Nat} (hok:∀ x∈l,x.ok) (hv:Sl w B 3 v n (vlc l)) (hB:B<=w.heap.size) (ports:Int) :
  Calls Tryz.prog 50 #[v,.int .i64 ports] w (Says (.int .i64 (zb4 l ports n:Nat)) w):=by
 obtain ⟨A,cap,rfl,hcap,hmx⟩:=hv.form;have hmx':=hmx;unfold maxLen at hmx'
 by_cases hp:ports<2\/64<ports
 ·rw [check5 hp]
  clear hv
  rcases hp with hp|hp
  ·go_enter Tryz.func50,Tryz.ntmps50
   go_wp2
   go_ret
   exact ⟨rfl,Below.refl _ _⟩
  ·have hp2:¬ ports<2:=by omega
   go_enter Tryz.func50,Tryz.ntmps50
   go_wp2
   go_ret
   exact ⟨rfl,Below.refl _ _⟩
 ·have hp1:¬ ports<2:=by omega
  have hp2:¬ 64<ports:=by omega
  by_cases h16:16<n
  ·rw [check8 hp h16]
   have h16':(16:Int)<(n:Int):=by omega
   clear hv hp
   go_enter Tryz.func50,Tryz.ntmps50
   go_wp2
   go_ret
   exact ⟨rfl,Below.refl _ _⟩
  ·have h16':¬ (16:Int)<(n:Int):=by omega
   obtain ⟨C,hC⟩:∃ C,C=zb4 l ports n:=⟨_,rfl⟩;rw [<- hC];have HC:=Lib.hid hC;have HP:=Lib.hid hp;have H16:=Lib.hid h16;have HV:=Lib.hid hv;have HOK:=Lib.hid hok;have hal:=zd8 ports
   have hAll:=fun W=>zlk ports W
   obtain ⟨al,hal0⟩:∃ al,al=allN ports:=⟨_,rfl⟩;rw [<- hal0] at hAll hal;have HALL:=Lib.hid hAll;have HAL:=Lib.hid hal0;clear hC hp h16 hv hok hAll hal0
   go_enter Tryz.func50,Tryz.ntmps50
   go_wp2
   go_loopw [5,19] (fun a i wr=>∃ k:Nat,k<=n/\i=.int .i64 k/\a=.int .i64 (zcy l k)/\Hid (∀ i,i<k->zbt l ports i=0)/\Hid (Below w.heap.size w wr)) (fun _ i _=>n - (intOf i).toNat)
   case atStart=>exact ⟨0,by omega,rfl,rfl,fun i hi=>by omega,Below.refl _ _⟩
   case round =>
    obtain ⟨k,hk,rfl,rfl,HF,HBW⟩:=hrel
    rename_i wr _
    by_cases hlt:k<n
    ·obtain ⟨b,off,cap',hvv,_,_,hb,hlen,hcell⟩:=HV.out.vlAt (show 0<n by omega)
     injection hvv with e1 _ e2
     subst e1 e2;obtain ⟨c0,c1,c2⟩:=hcell k hlt;have hbw:=(zao HBW.out).1
     have e0:=(hbw b (off+k*3) (by omega)).trans c0
     have e1:=(hbw b (off+k*3+1) (by omega)).trans c1
     have e2:=(hbw b (off+k*3+2) (by omega)).trans c2
     have hxok:=vl_ok HOK.out k
     have hnext:Hid (zcy l (k+1)=(l.getD k vl0).vid):=by show _=_;unfold zcy;rw [if_neg (by omega)];rfl
     obtain ⟨x,hx⟩:∃ x,x=l.getD k vl0:=⟨_,rfl⟩;obtain ⟨ah,hah⟩:∃ ah,ah=zcy l k:=⟨_,rfl⟩;have W6a:=Lib.hid (@zpt l ports k);have W6b:=Lib.hid (@zpm l ports k);have W5:=Lib.hid (@wrong5 l ports k);have W1:=Lib.hid (@wrong1 l ports k);have W0:=Lib.hid (@wrong0 l ports k);rw [<- hx,<- hah] at W6b W5 W1 W0;rw [<- hx] at W6a e0 e1 e2 hxok hnext;rw [<- HAL.out] at W5 W1 W0;rw [<- hah]
     have hV:=fun W=>zei x.vid W
     obtain ⟨vb,hvb⟩:∃ vb,vb=vidB x.vid:=⟨_,rfl⟩;rw [<- hvb] at hV W6a W6b W5 W1 W0;have HVV:=Lib.hid hV;have hq1:=u64_andNot_nat x.mem al hxok.2.1 hal;have hq2:=u64_andNot_nat x.unt x.mem hxok.2.2 hxok.2.1;have hn1:=zej hxok.2.1 hal;have hn2:=zej hxok.2.2 hxok.2.1
     generalize x.mem &&& (18446744073709551615 - al)=m1 at *
     generalize x.unt &&& (18446744073709551615 - x.mem)=m2 at *
     have hsz:=HBW.out.size;clear hbw c0 c1 c2 hx hah hvb hV hcell hlen hxok HV HOK HAL
     cases vb
     ·have HW:Hid (C=6):=by show C=6;rw [HC.out];exact zc0 HP.out H16.out HF.out hlt (W6a.out rfl) (by omega)
      clear W6a W6b W5 W1 W0 HF hn1 hn2 hq1 hq2
      go_wp2_with fail
      refine (HVV.out _).mono ?_
      rintro e w1 ⟨rfl,rfl⟩
      go_wp2
      go_ret
      exact ⟨za4 (by rw [HW.out];rfl),HBW.out.alloc hsz _⟩
     ·by_cases hle:x.vid<=ah
      ·have HW:Hid (C=6):=by show C=6;rw [HC.out];exact zc0 HP.out H16.out HF.out hlt (W6b.out rfl hle) (by omega)
       clear W6a W6b W5 W1 W0 HF hn1 hn2 hq1 hq2
       go_wp2_with fail
       refine (HVV.out _).mono ?_
       rintro e w1 ⟨rfl,rfl⟩
       go_wp2
       go_ret
       exact ⟨za4 (by rw [HW.out];rfl),HBW.out.alloc hsz _⟩
      ·cases hw1:zaz x.mem al
       ·have HW:Hid (C=5):=by show C=5;rw [HC.out];exact zc0 HP.out H16.out HF.out hlt (W5.out rfl hle hw1) (by omega)
        rw [hw1] at hn1;clear W6a W6b W5 W1 W0 HF hn2 hq2 hw1
        go_wp2_with fail
        refine (HVV.out _).mono ?_
        rintro e w1 ⟨rfl,rfl⟩
        go_wp2_with fail
        go_quiet ((go_at_call 74;exact zmb HALL.out _ _))
        go_wp2
        go_ret
        exact ⟨za4 (by rw [HW.out];rfl),zaa (HBW.out.alloc hsz _) _⟩
       ·cases hw2:zaz x.unt x.mem
        ·have HW:Hid (C=1):=by show C=1;rw [HC.out];exact zc0 HP.out H16.out HF.out hlt (W1.out rfl hle hw1 hw2) (by omega)
         rw [hw1] at hn1;rw [hw2] at hn2;clear W6a W6b W5 W1 W0 HF hw1 hw2
         go_wp2_with fail
         refine (HVV.out _).mono ?_
         rintro e w1 ⟨rfl,rfl⟩
         go_wp2_with fail
         go_quiet ((go_at_call 74;exact zmb HALL.out _ _))
         go_wp2
         go_ret
         exact ⟨za4 (by rw [HW.out];rfl),zaa (HBW.out.alloc hsz _) _⟩
        ·have HF2:=Lib.hid (zh6 HF.out (W0.out rfl hle hw1 hw2))
         rw [hw1] at hn1;rw [hw2] at hn2;clear W6a W6b W5 W1 W0 HF hw1 hw2
         go_wp2_with fail
         refine (HVV.out _).mono ?_
         rintro e w1 ⟨rfl,rfl⟩
         go_wp2_with fail
         go_quiet ((go_at_call 74;exact zmb HALL.out _ _))
         go_wp2
         go_roundw
         case rel=>exact ⟨k+1,by omega,by go_num,by rw [hnext.out],HF2.out,zaa (HBW.out.alloc hsz _) _⟩
         case measure=>simp [intOf];omega
    ·have:k=n:=by omega
     subst this
     go_wp2
     go_ret
     exact ⟨za4 (by rw [HC.out,zo1 HP.out H16.out HF.out];rfl),HBW.out⟩
end
section
open Go.RowKit
def mkC (z:Value) (size M:Nat):Array Value:=madeCells z.cells (M*size)
theorem zl9 (z:Value) (size M:Nat):(mkC z size M).size=M*size:=size_madeCells _ _
end
section
def zbn (v:Int) (m:Nat):Bool:=decide (1<=v/\v<=4094/\0<m/\m<281474976710656/\m / 1099511627776 % 2=0)
theorem zc8 {v:Int} {m:Nat}:zbn v m=true↔1<=v/\v<=4094/\0<m/\m<281474976710656/\m / 1099511627776 % 2=0:=by simp [zbn]
theorem zbz {v:Int} {m:Nat} (h:¬ (1<=v/\v<=4094/\0<m/\m<281474976710656/\m / 1099511627776 % 2=0)):zbn v m=false:=by
 unfold zbn;exact decide_eq_false h
theorem zef {m:Nat} (h:m<281474976710656):zfh m=0↔m / 1099511627776 % 2=0:=by
 unfold zfh;rw [Nat.mod_eq_of_lt h]
 split
 ·omega
 ·split <;> omega
def zd3 (v:Int) (m:Nat):Nat:=if zbn v m=true then 1152921504606846976+v.toNat*281474976710656+m else 0
theorem zfx {v:Int} {m:Nat} (h:zbn v m=true):zd3 v m=1152921504606846976+v.toNat*281474976710656+m:=if_pos h
theorem zij {v:Int} {m:Nat} (h:zbn v m=false):zd3 v m=0:=by unfold zd3;rw [h];rfl
theorem zlh (v:Int) (m:Nat):zd3 v m<18446744073709551616:=by
 cases h:zbn v m
 ·rw [zij h];omega
 ·rw [zfx h]
  have:=zc8.1 h
  omega
theorem or_48 (a b:Nat) (hb:b<281474976710656):(a*281474976710656) ||| b=a*281474976710656+b:=by
 have:=Nat.shiftLeft_add_eq_or_of_lt (i:=48) (b:=b) (by simpa using hb) a
 rw [Nat.shiftLeft_eq] at this
 simpa using this.symm
theorem zoy (v m:Nat) (hv:v<4096) (hm:m<281474976710656):(1152921504606846976 ||| v*281474976710656) ||| m=1152921504606846976+v*281474976710656+m:=by
 have e1:=or_48 4096 0 (by omega)
 have h1:(1152921504606846976 ||| v*281474976710656)=(4096+v)*281474976710656:=by
  have:=Nat.shiftLeft_add_eq_or_of_lt (i:=60) (b:=v*281474976710656) (by omega) 1
  rw [Nat.shiftLeft_eq] at this
  have e:(1*2 ^ 60:Nat)=1152921504606846976:=by decide
  rw [e] at this
  omega
 rw [h1,or_48 _ _ hm]
 omega
structure En where
 vid:Int
 mac:Nat
 port:Int
 st:Bool
 stamp:Nat
deriving DecidableEq
def en0:En:=⟨0,0,0,false,0⟩
def En.ok (e:En):Prop:=(-9223372036854775808<=e.vid/\e.vid<=9223372036854775807)/\e.mac<18446744073709551616/\(-9223372036854775808<=e.port/\e.port<=9223372036854775807)/\e.stamp<4294967296
def zc3 (e:En):Bool:=zbn e.vid e.mac && decide (0<=e.port/\e.port<64/\¬ (e.st=true/\e.stamp≠0))
end
section
open Go.RowKit
theorem zby {P:Program} (w:World) {t e:TypeId} {z:Value} {size bytes:Nat} (hT:ST P t e z size bytes) (k:Nat) (hk:bytes*k<=281474976710656) :
  (Instr.makeSlice t (.int .i64 (k:Int)) (.int .i64 (k:Int))).run P w=.ok (.slice (some ⟨w.heap.size,0,none⟩) k k) (w.alloc (.cells (mkC z size k) e)):=by
 obtain ⟨i,ht,hi,hz,hsz,hby,hzs,hs0,hb0⟩:=hT
 have h1:k<=bytes*k:=Nat.le_mul_of_pos_left _ hb0
 have h2:(i.bytes:Int)*(k:Int)<=281474976710656:=by
  have h3:((bytes*k:Nat):Int)<=281474976710656:=by omega
  rw [hby]
  rwa [Int.natCast_mul] at h3
 have:=run_make (P:=P) w t e i z ht hi hz .i64 .i64 (k:Int) (k:Int) (by omega) (Int.le_refl _) h2 (by omega)
 rw [hsz] at this
 exact this
theorem Sl.set {w:World} {B n b off cap i:Nat} {xs:List Value} (h:Sl w B 1 (.slice (some ⟨b,off,none⟩) n cap) n xs) (hi:i<n) (u:Value):Sl (w.setCell ⟨b,off+i,none⟩ u) B 1 (.slice (some ⟨b,off,none⟩) n cap) n (xs.set i u):=by
 obtain ⟨hl,A',cap',hv,h1,h2,h3⟩:=h
 injection hv with e1 _ e2
 subst e1 e2
 refine ⟨by rw [List.length_set];exact hl,_,cap,rfl,h1,h2,fun h0=>?_⟩
 obtain ⟨b',off',hA,hB,hc⟩:=h3 h0
 injection hA with hA
 injection hA with e3 e4
 subst e3 e4
 refine ⟨b,off,rfl,hB,fun j hj=>?_⟩
 by_cases hij:i=j
 ·subst hij
  have hx:=hc i hj
  have hsome:xs[i]?=some (xs[i]'(by omega)):=List.getElem?_eq_getElem _
  rw [World.cell?_setCell_same _ _ _ (hx.trans hsome),List.getElem?_set_self (by omega)]
 ·rw [World.cell?_setCell_other _ _ _ _ (by simp),hc j hj,List.getElem?_set_ne hij]
end
section
open Go.RowKit
def mixS (d c x:Int):Int:=IntKind.u64.wrap (bits .xor .u64 x (x / d)*c)
def mixZ (n:Int):Int:=mixS 134217728 10723151780598845931 (mixS 1073741824 13787848793156543929 (IntKind.u64.wrap (n+11400714819323198485)))
def mixI (n:Int):Int:=bits .xor .u64 (mixZ n) (mixZ n / 2147483648)
theorem zf3 (y:Int):0<=IntKind.u64.wrap y/\IntKind.u64.wrap y<18446744073709551616:=by
 rw [IntKind.wrap_u64];omega
theorem zid (y d:Int) (hd:0<d):IntKind.u64.wrap ((IntKind.u64.wrap y).tdiv d)=IntKind.u64.wrap y / d:=by
 obtain ⟨h0,h1⟩:=zf3 y
 generalize IntKind.u64.wrap y=x at *
 rw [Int.tdiv_eq_ediv_of_nonneg h0,IntKind.wrap_u64]
 have h2:0<=x / d:=Int.ediv_nonneg h0 (by omega)
 have h3:x / d<=x:=Int.ediv_le_self _ h0
 omega
theorem zof (n:Int):0<=mixI n/\mixI n<18446744073709551616:=by
 obtain ⟨h0,h1⟩:=zf3 (bits .xor .u64 (mixS 1073741824 13787848793156543929 (IntKind.u64.wrap (n+11400714819323198485))) (mixS 1073741824 13787848793156543929 (IntKind.u64.wrap (n+11400714819323198485)) / 134217728)*10723151780598845931)
 change 0<=mixZ n at h0
 change mixZ n<_ at h1
 unfold mixI
 generalize mixZ n=x at *
 obtain ⟨X,rfl⟩:=Int.eq_ofNat_of_zero_le h0
 have hX:X<18446744073709551616:=by omega
 have:=xorShift_u64 X 2147483648 hX
 rw [show ((2147483648:Nat):Int)=2147483648 from rfl] at this
 rw [this]
 have h2:X ^^^ X / 2147483648<2 ^ 64:=Nat.xor_lt_two_pow (by omega) (by omega)
 omega
theorem turn_Mix (n:Int) (hn:0<=n/\n<18446744073709551616) (w:World) :
  Calls Tryz.prog 138 #[.int .u64 n] w fun e w'=>e=.returned (.int .u64 (mixI n))/\w=w':=by
 clear hn
 go_enter Tryz.func138,Tryz.ntmps138
 go_wp2
 go_ret
 exact ⟨rfl,rfl⟩
theorem ref7_Mix (n:Int) (hn:0<=n/\n<18446744073709551616) (w:World) :
  Calls Tryz.prog 119 #[.int .u64 n] w fun e w'=>e=.returned (.int .u64 (mixI n))/\w=w':=by
 clear hn
 go_enter Tryz.func119,Tryz.ntmps119
 go_wp2
 go_ret
 refine ⟨zcr ?_,rfl⟩
 simp only [zid _ 1073741824 (by decide),zid _ 134217728 (by decide),zid _ 2147483648 (by decide)]
 rfl
end
section
open Go.RowKit
structure But (q:Nat) (w w':World):Prop where
 below:Below q w w'
 rest:∀ b,b<w.heap.size->b≠q->w'.heap[b]?=w.heap[b]?
theorem But.of {q:Nat} {w w':World} (h:Below w.heap.size w w') (hq:q<=w.heap.size):But q w w':=⟨h.mono hq,fun b hb _=>h.block b hb⟩
theorem But.trans {q:Nat} {a b c:World} (h:But q a b) (k:But q b c):But q a c :=
 ⟨h.below.trans k.below,fun x hx hne=>(k.rest x (Nat.lt_of_lt_of_le hx h.below.size) hne).trans (h.rest x hx hne)⟩
theorem But.cell {q:Nat} {w w':World} (h:But q w w') {p:Addr} (hp:p.block<w.heap.size) (hq:p.block≠q):w'.cell? p=w.cell? p :=
 World.cell?_of_block (w:=w) (h.rest p.block hp hq)
theorem But.frozen {q:Nat} {w w':World} (h:But q w w') {p:Addr} (hp:p.block<w.heap.size) (hq:p.block≠q):w'.frozen? p=w.frozen? p :=
 World.frozen?_of_block (w:=w) (h.rest p.block hp hq)
theorem But.set {q:Nat} {w:World} (o:Nat) (v:Value):But q w (w.setCell ⟨q,o,none⟩ v) :=
 ⟨(Below.refl q w).setCell (Nat.le_refl _) v,fun b _ hne=>Below.heap_setCell _ _ _ _ hne⟩
end
section
open Go.RowKit
def opV (kd po tt vi st kv:Int) (km:Int) (me un:Int) (nw li:Int) (sh bu id:Int):Value:=.agg #[.int .i64 kd,.int .i64 po,.int .i64 tt,.int .i64 vi,.int .i64 st,.int .i64 kv,.int .u64 km,.int .u64 me,.int .u64 un,.int .u32 nw,.int .u32 li,.int .i64 sh,.int .i64 bu,.int .i64 id]
end
section
def zau (s:Int):Bool:=decide (0<=s) && decide (s<=4)
theorem zd7 {s:Int}:zau s=true↔0<=s/\s<=4:=by simp [zau]
theorem zd1 {s:Int} (h:¬ (0<=s/\s<=4)):zau s=false:=by
 rw [Bool.eq_false_iff];exact fun e=>h (zd7.1 e)
end
section
open Go.RowKit
set_option maxHeartbeats 800000 in
theorem zmn (s:Int) (w:World):Calls Tryz.prog 133 #[.int .i64 s] w fun e w'=>e=.returned (.bool (zau s))/\w=w':=by
 by_cases h1:0<=s
 ·have d1:decide (s≥0)=true:=by simpa using h1
  have d1':decide (0<=s)=true:=by simpa using h1
  by_cases h2:s<=4
  ·have d2:decide (s<=4)=true:=by simpa using h2
   have hr:zau s=true:=zd7.2 ⟨h1,h2⟩
   rw [hr]
   go_enter Tryz.func133,Tryz.ntmps133
   go_wp2
   go_ret
   exact ⟨by first|rfl|(simp;done)|(simp [h1,h2];done),rfl⟩
  ·have d2:decide (s<=4)=false:=by simpa using h2
   have hr:zau s=false:=zd1 (by omega)
   rw [hr]
   go_enter Tryz.func133,Tryz.ntmps133
   go_wp2
   go_ret
   exact ⟨by first|rfl|(simp;done)|(simp [h1,h2];done),rfl⟩
 ·have d1:decide (s≥0)=false:=by simpa using h1
  have d1':decide (0<=s)=false:=by simpa using h1
  have hr:zau s=false:=zd1 (by omega)
  rw [hr]
  go_enter Tryz.func133,Tryz.ntmps133
  go_wp2
  go_ret
  exact ⟨by first|rfl|(simp;done)|(simp [h1];done),rfl⟩
set_option maxHeartbeats 800000 in
theorem zjz (s:Int) (w:World):Calls Tryz.prog 72 #[.int .i64 s] w fun e w'=>e=.returned (.bool (zau s))/\w=w':=by
 by_cases h1:0<=s
 ·have d1:decide (s≥0)=true:=by simpa using h1
  have d1':decide (0<=s)=true:=by simpa using h1
  by_cases h2:s<=4
  ·have d2:decide (s<=4)=true:=by simpa using h2
   have hr:zau s=true:=zd7.2 ⟨h1,h2⟩
   rw [hr]
   go_enter Tryz.func72,Tryz.ntmps72
   go_wp2
   go_ret
   exact ⟨by first|rfl|(simp;done)|(simp [h1,h2];done),rfl⟩
  ·have d2:decide (s<=4)=false:=by simpa using h2
   have hr:zau s=false:=zd1 (by omega)
   rw [hr]
   go_enter Tryz.func72,Tryz.ntmps72
   go_wp2
   go_ret
   exact ⟨by first|rfl|(simp;done)|(simp [h1,h2];done),rfl⟩
 ·have d1:decide (s≥0)=false:=by simpa using h1
  have d1':decide (0<=s)=false:=by simpa using h1
  have hr:zau s=false:=zd1 (by omega)
  rw [hr]
  go_enter Tryz.func72,Tryz.ntmps72
  go_wp2
  go_ret
  exact ⟨by first|rfl|(simp;done)|(simp [h1];done),rfl⟩
set_option maxHeartbeats 800000 in
theorem zia (s:Int) (w:World):Calls Tryz.prog 116 #[.int .i64 s] w fun e w'=>e=.returned (.bool (decide (s=4)))/\w=w':=by
 have hh:decide (s=4)=(s == 4):=by by_cases h4:s=4 <;> simp [h4]
 rw [hh]
 go_enter Tryz.func116,Tryz.ntmps116
 go_wp2
 go_ret
 exact ⟨by first|rfl|(simp;done),rfl⟩
end
section
open Go.RowKit
set_option maxHeartbeats 1600000 in
theorem zlc (s x:Int) (k:Nat) (w:World):Calls Tryz.prog 114 #[.agg #[.int .i64 s,.int .u32 (k:Int)],.int .i64 x] w (Says (if zau x=true then .tuple #[.agg #[.int .i64 x,.int .u32 (((k+1) % 4294967296:Nat):Int)],.int .i64 0] else .tuple #[.agg #[.int .i64 0,.int .u32 0],.int .i64 7]) w):=by
 have HR:=Lib.hid (fun W=>zmn x W)
 by_cases h:zau x=true
 ·rw [if_pos h]
  rw [h] at HR
  have hk:IntKind.u32.wrap ((k:Int)+1)=(((k+1) % 4294967296:Nat):Int):=by rw [IntKind.wrap_u32];omega
  generalize (((k+1) % 4294967296:Nat):Int)=K at *
  generalize (k:Int)=k at *
  clear h
  go_enter Tryz.func114,Tryz.ntmps114
  go_wp2_with fail
  refine (HR.out _).mono ?_
  rintro e w1 ⟨rfl,rfl⟩
  go_wp2
  exact bodyPost_ret (v:=.tuple #[.agg #[.int .i64 x,.int .u32 K],.int .i64 0]) (by first|(simp [results,Tryz.results114,go_sem];done)|(simp_all [results,Tryz.results114,go_sem];done)) rfl ⟨rfl,bq1⟩
 ·rw [if_neg h]
  have h:zau x=false:=by simpa using h
  rw [h] at HR;clear h
  go_enter Tryz.func114,Tryz.ntmps114
  go_wp2_with fail
  refine (HR.out _).mono ?_
  rintro e w1 ⟨rfl,rfl⟩
  go_wp2
  exact bodyPost_ret (v:=.tuple #[.agg #[.int .i64 0,.int .u32 0],.int .i64 7]) (by first|(simp [results,Tryz.results114,go_sem];done)|(simp_all [results,Tryz.results114,go_sem];done)) rfl ⟨rfl,bq1⟩
set_option maxHeartbeats 1600000 in
theorem zjc (s x:Int) (k:Nat) (w:World):Calls Tryz.prog 47 #[.agg #[.int .i64 s,.int .u32 (k:Int)],.int .i64 x] w (Says (if zau x=true then .tuple #[.agg #[.int .i64 x,.int .u32 (((k+1) % 4294967296:Nat):Int)],.bool true] else .tuple #[.agg #[.int .i64 0,.int .u32 0],.bool false]) w):=by
 have HR:=Lib.hid (fun W=>zjz x W)
 by_cases h:zau x=true
 ·rw [if_pos h]
  rw [h] at HR
  have hk:IntKind.u32.wrap ((k:Int)+1)=(((k+1) % 4294967296:Nat):Int):=by rw [IntKind.wrap_u32];omega
  generalize (((k+1) % 4294967296:Nat):Int)=K at *
  generalize (k:Int)=k at *
  clear h
  go_enter Tryz.func47,Tryz.ntmps47
  go_wp2_with fail
  refine (HR.out _).mono ?_
  rintro e w1 ⟨rfl,rfl⟩
  go_wp2
  exact bodyPost_ret (v:=.tuple #[.agg #[.int .i64 x,.int .u32 K],.bool true]) (by first|(simp [results,Tryz.results47,go_sem];done)|(simp_all [results,Tryz.results47,go_sem];done)) rfl ⟨rfl,bq1⟩
 ·rw [if_neg h]
  have h:zau x=false:=by simpa using h
  rw [h] at HR;clear h
  go_enter Tryz.func47,Tryz.ntmps47
  go_wp2_with fail
  refine (HR.out _).mono ?_
  rintro e w1 ⟨rfl,rfl⟩
  go_wp2
  exact bodyPost_ret (v:=.tuple #[.agg #[.int .i64 0,.int .u32 0],.bool false]) (by first|(simp [results,Tryz.results47,go_sem];done)|(simp_all [results,Tryz.results47,go_sem];done)) rfl ⟨rfl,bq1⟩
end
end Go.Proofs.YtfekhdgjgjodlaaGreat
