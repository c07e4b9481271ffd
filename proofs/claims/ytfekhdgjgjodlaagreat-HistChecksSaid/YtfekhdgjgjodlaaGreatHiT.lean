/-
  Words and contracts that a statement's proof rests on (HiT, MrK). No statement is proved here.
-/
import Derived.Test.YtfekhdgjgjodlaaGreatSrB
import Derived.Test.YtfekhdgjgjodlaaGreatSrG
import Derived.Test.YtfekhdgjgjodlaaGreatMoF
import Derived.Test.YtfekhdgjgjodlaaGreatHiE
import Derived.Test.YtfekhdgjgjodlaaGreatMoK
import Derived.Test.YtfekhdgjgjodlaaGreatMrD
set_option linter.unusedVariables false
set_option linter.unusedSimpArgs false
namespace Go.Proofs.YtfekhdgjgjodlaaGreat
section
open Go.RowKit
theorem t18_fix (W:World):Calls Tryz.prog 7 #[.agg #[.int .i64 0,.slice none 0 0,.slice none 0 0,.int .i64 0,.int .i64 0,.int .i64 0,.int .i64 0,.int .i64 0,.int .u32 0,.int .u32 0]] W fun e' w'=>∃ Ar cr Av cv,e'=.returned (.agg #[.int .i64 2,.slice Ar 2 cr,.slice Av 0 cv,.int .i64 1,.int .i64 1,.int .i64 1,.int .i64 1,.int .i64 1,.int .u32 0,.int .u32 0])/\Sl w' w'.heap.size 2 (.slice Ar 2 cr) 2 (rlc (zck [] 2))/\Sl w' w'.heap.size 3 (.slice Av 0 cv) 0 (vlc (zcj (allN 2) [] 0))/\Below W.heap.size W w':=by
 refine (ziz (told_nil W W.heap.size) (⟨rfl,none,0,rfl,Nat.le_refl _,Nat.zero_le _,fun h=>absurd h (by omega)⟩:Sl W W.heap.size 3 (.slice none 0 0) 0 (vlc [])) (by intro x hx;simp at hx) (Nat.le_refl _) 0 0 0 0 0 0 0 0 2 1 1 1 1 1 (by decide) (by decide) (by decide) (by decide) (by decide) (by decide)).mono ?_
 rintro e' w' ⟨ur,uv,rfl,h1,h2,hb⟩;obtain ⟨Ar,cr,rfl,_,_⟩:=(Sl.of_own h1).form;obtain ⟨Av,cv,rfl,_,_⟩:=(Sl.of_own h2).form
 exact ⟨Ar,cr,Av,cv,rfl,Sl.of_own h1,Sl.of_own h2,hb⟩
theorem t18_to (W:World) (B:Nat) (Ar:Option Addr) (cr:Nat) (Av:Option Addr) (cv:Nat) (h1:Sl W B 2 (.slice Ar 2 cr) 2 (rlc (zck [] 2))) (h2:Sl W B 3 (.slice Av 0 cv) 0 (vlc (zcj (allN 2) [] 0))) (hB:B<=W.heap.size) :
  Calls Tryz.prog 10 #[.agg #[.int .i64 2,.slice Ar 2 cr,.slice Av 0 cv,.int .i64 1,.int .i64 1,.int .i64 1,.int .i64 1,.int .i64 1,.int .u32 0,.int .u32 0]] W fun e w'=>∃ Ar cr Av cv,e=.returned (.agg #[.int .i64 2,.slice Ar 2 cr,.slice Av 0 cv,.int .i64 1,.int .i64 1,.int .i64 1,.int .i64 1,.int .i64 1,.int .u32 0,.int .u32 0])/\Sl w' w'.heap.size 2 (.slice Ar 2 cr) 2 (rlc (zck [] 2))/\Sl w' w'.heap.size 3 (.slice Av 0 cv) 0 (vlc (zcj (allN 2) [] 0))/\Below W.heap.size W w':=by
 refine (zlt h1 h2 hB (by omega) (by omega) 2 1 1 1 1 1 0 0).mono ?_
 rintro e w' ⟨ur,uv,rfl,h1,h2,hb⟩;obtain ⟨Ar',cr',rfl,_,_⟩:=(Sl.of_own h1).form;obtain ⟨Av',cv',rfl,_,_⟩:=(Sl.of_own h2).form
 exact ⟨Ar',cr',Av',cv',rfl,Sl.of_own h1,Sl.of_own h2,hb⟩
theorem t18_plan:PlanOk (zck [] 2) (zcj (allN 2) [] 0) 2 0 2 2 1 1 1 1 1 :=
 ⟨zlv _ _ (zd8 _) 0 (by omega),zfz [] 2,by omega,by omega,by omega,by omega,by omega,by omega,zl5 [] [] 0 0 0 0 0 0 2 1 1 1 1 1 0 (by decide) (by decide) (by decide) (by decide) (by decide) (by decide)⟩
def e18 (a:Int):Ent:=⟨0,0,1,2,⟨8,0,0,0,4,0,0,0,0,0,0,0,0,0⟩,a⟩
theorem e18_ok (a:Int):(e18 a).op.ok:=⟨⟨by show (-9223372036854775808:Int)<=0;decide,by show (0:Int)<=9223372036854775807;decide⟩,by show (0:Nat)<18446744073709551616;decide,by show (0:Nat)<18446744073709551616;decide,by show (0:Nat)<18446744073709551616;decide,by show (0:Nat)<4294967296;decide⟩
theorem zop (a:Int):OrdL 1 (fun _=>(e18 a).mar) [0]:=⟨List.pairwise_singleton _ _,fun i=>by
 have:(e18 a).mar=1:=rfl
 simp [this]⟩
theorem e18_A:doA 2 1 1 1 1 0 (ms0 (zcj (allN 2) [] 0)) (e18 0).op=1:=by
 rw [zjy rfl];unfold dA8
 rw [if_pos (by decide),if_pos (by decide)]
 rfl
theorem e18_op (a:Int):(e18 a).op=(e18 0).op:=rfl
theorem e18_chk (a:Int):chkH 2 1 1 1 1 0 (fun _=>e18 a) 1 [0] (ms0 (zcj (allN 2) [] 0))=if a=1 then (-1,0) else (0,7):=by
 have h1:zaw (fun _=>misT (e18 a)) 1=-1:=rfl
 have h2:zaw (busB fun _=>e18 a) 1=-1:=rfl
 unfold chkH
 rw [h1,h2,if_neg (fun h=>h rfl),if_neg (fun h=>h rfl)]
 simp only [rpl,e18_op a,e18_A]
 have h3:(e18 a).fin=2:=rfl
 have h4:(e18 a).ans=a:=rfl
 rw [h3,h4]
 by_cases e:a=1
 ·subst e;rfl
 ·simp [e]
set_option maxHeartbeats 1600000 in
theorem zi9 {W:World} {B Bl:Nat} {Ar Av:Option Addr} {cr cv g:Nat} (h1:Sl W B 2 (.slice Ar 2 cr) 2 (rlc (zck [] 2))) (h2:Sl W B 3 (.slice Av 0 cv) 0 (vlc (zcj (allN 2) [] 0))) (hB:B<=W.heap.size) {a:Int} (he:zaf W g 0 (e18 a)) (hg:g<W.heap.size) {x y:Int} (hxy:(if a=1 then ((-1,0):Int×Int) else (0,7))=(x,y)) :
  Calls Tryz.prog 9 #[.agg #[.int .i64 2,.slice Ar 2 cr,.slice Av 0 cv,.int .i64 1,.int .i64 1,.int .i64 1,.int .i64 1,.int .i64 1,.int .u32 0,.int .u32 0],.slice (some ⟨g,0,none⟩) 1 1] W (Says (.tuple #[.int .i64 x,.int .i64 y]) W):=by
 have hl:zbj W W.heap.size 1 (.slice (some ⟨g,0,none⟩) 1 1) (fun _=>e18 a):=⟨_,1,rfl,Nat.le_refl _,by decide,fun _=>⟨g,0,rfl,hg,fun i hi=>by
  have:i=0:=by omega
  subst this
  exact he⟩⟩
 have h9:=zhj (h1.mono hB) (h2.mono hB) (Nat.le_refl _) t18_plan (by omega) hl (fun _ _=>e18_ok a) (fun _ _=>⟨by show rngI 0;unfold rngI;omega,by show rngI 1;unfold rngI;omega⟩) 0 0 (zop a)
 rw [e18_chk,hxy] at h9
 exact h9
set_option maxHeartbeats 1600000 in
theorem zo2 {W:World} {g:Nat} {a:Int} (he:zaf W g 0 (e18 a)) (hg:g<W.heap.size) :
  Calls Tryz.prog 14 #[.slice (some ⟨g,0,none⟩) 1 1] W fun e w'=>∃ A c,e=.returned (.slice A 1 c)/\Sl w' w'.heap.size 1 (.slice A 1 c) 1 (kv .i64 [0])/\Below W.heap.size W w':=by
 have hl:zbj W W.heap.size 1 (.slice (some ⟨g,0,none⟩) 1 1) (fun _=>e18 a):=⟨_,1,rfl,Nat.le_refl _,by decide,fun _=>⟨g,0,rfl,hg,fun i hi=>by
  have:i=0:=by omega
  subst this
  exact he⟩⟩
 refine (ze4 (by omega) hl (Nat.le_refl _)).mono ?_
 rintro e w' ⟨A,c,o,rfl,ho,hs,hb,_⟩
 obtain rfl:o=[0]:=ho.uniq (zop a)
 exact ⟨A,c,rfl,hs,hb⟩
set_option maxRecDepth 20000 in
set_option maxHeartbeats 6400000 in
theorem zm1 (w:World):Calls Tryz.prog 12 #[] w (Says (.bool true) w):=by
 have HFX:=Lib.hid t18_fix;have HTO:=Lib.hid t18_to
 go_enter Tryz.func12,Tryz.ntmps12
 go_upto_region 2 with (first
  |(go_at_call 7;(with_reducible refine Calls.mono (HFX.out _) ?_);rintro e w1 ⟨Ax,cx,Ay,cy,rfl,h1,h2,hb⟩;(have H1:=Lib.hid h1);(have H2:=Lib.hid h2);(have HB1:=Lib.hid hb);clear h1 h2 hb)
  |(go_at_call 10;(with_reducible refine Calls.mono (HTO.out _ w1.heap.size _ _ _ _ H1.out H2.out (Nat.le_refl _)) ?_);rintro e w3 ⟨Ar,cr,Av,cv,rfl,h1,h2,hb⟩;(have H3:=Lib.hid h1);(have H4:=Lib.hid h2);(have HB3:Hid (Below w.heap.size w w3):=HB1.out.trans (hb.mono HB1.out.size));clear h1 h2 hb H1 H2 HB1)
  |(refine zak (by rfl) 41 _ _ (by rfl) w3.heap.size 0 #[.int .i64 2,.slice Ar 2 cr,.slice Av 0 cv,.int .i64 1,.int .i64 1,.int .i64 1,.int .i64 1,.int .i64 1,.int .u32 0,.int .u32 0] (by rfl) (by rfl) (zb6 (cs:=#[.int .i64 0,.slice none 0 0,.slice none 0 0,.int .i64 0,.int .i64 0,.int .i64 0,.int .i64 0,.int .i64 0,.int .u32 0,.int .u32 0]) (zbd _ _ _)) (by kernel_rfl) (by simp [Value.oneCell']) ?_;intro wz hst;(have HST:=Lib.hid hst);clear hst)
  |fail)
 have HBZ:Hid (Below w3.heap.size w3 wz/\wz.heap.size=w3.heap.size+1):=⟨((Below.refl _ _).alloc (Nat.le_refl _) _).trans (HST.out.below _ (Nat.le_refl _)),by rw [HST.out.size];simp⟩
 have HPL:Hid (∀ w',Below wz.heap.size wz w'->w'.rangeAt w3.heap.size 0 [.int .i64 2,.slice Ar 2 cr,.slice Av 0 cv,.int .i64 1,.int .i64 1,.int .i64 1,.int .i64 1,.int .i64 1,.int .u32 0,.int .u32 0]):=fun w' hb j v hv=>(hb.cell (p:=⟨w3.heap.size,0+j,none⟩) (by show w3.heap.size<_;have:=HBZ.out.2;omega)).trans (HST.out.cells j v hv)
 have HWB:Hid (Below w.heap.size w wz):=HB3.out.trans (HBZ.out.1.mono HB3.out.size);clear HST HFX HTO
 go_upto_region 3 with fail
 obtain ⟨w5,hw5⟩:∃ w5,w5=wz.alloc (.cells #[.int .i64 0,.int .i64 0,.int .i64 1,.int .i64 2,.int .i64 8,.int .i64 0,.int .i64 0,.int .i64 0,.int .i64 4,.int .i64 0,.int .u64 0,.int .u64 0,.int .u64 0,.int .u32 0,.int .u32 0,.int .i64 0,.int .i64 0,.int .i64 0,.int .i64 1] 68):=⟨_,rfl⟩
 have HE1:Hid (∀ w',Below w5.heap.size w5 w'->zaf w' wz.heap.size 0 (e18 1)):=fun w' hb=>zmk hw5 w' hb
 have HW5:=Lib.hid (zbk hw5)
 have HF5:Hid (∀ o,w5.frozen? ⟨wz.heap.size,o,none⟩=false):=fun o=>by rw [hw5];simp [go_sem]
 (try rw [<- hw5])
 clear hw5
 have HP5:Hid (∀ w',Below w5.heap.size w5 w'->w'.rangeAt w3.heap.size 0 [.int .i64 2,.slice Ar 2 cr,.slice Av 0 cv,.int .i64 1,.int .i64 1,.int .i64 1,.int .i64 1,.int .i64 1,.int .u32 0,.int .u32 0]):=fun w' hb=>HPL.out w' (HW5.out.1.trans (hb.mono HW5.out.1.size))
 have HB5:Hid (∀ w',Below w5.heap.size w5 w'->Below w3.heap.size w3 w'):=fun w' hb=>HBZ.out.1.trans ((HW5.out.1.trans (hb.mono HW5.out.1.size)).mono HBZ.out.1.size)
 have HC1:Hid (∀ w',Below w5.heap.size w5 w'->Calls Tryz.prog 9 #[.agg #[.int .i64 2,.slice Ar 2 cr,.slice Av 0 cv,.int .i64 1,.int .i64 1,.int .i64 1,.int .i64 1,.int .i64 1,.int .u32 0,.int .u32 0],.slice (some ⟨wz.heap.size,0,none⟩) 1 1] w' (Says (.tuple #[.int .i64 (-1),.int .i64 0]) w')):=fun w' hb=>zi9 (Bl:=0) (H3.out.below (HB5.out w' hb)) (H4.out.below (HB5.out w' hb)) (HB5.out w' hb).size (HE1.out w' hb) (by have:=hb.size;have:=HW5.out.2;omega) rfl
 have hq:Below w5.heap.size w5 w5:=Below.refl _ _
 go_upto_region 4 with (first
  |(refine wpList_load_mid (by rfl) 41 _ (by rfl) w3.heap.size 0 (by rfl) [.int .i64 2,.slice Ar 2 cr,.slice Av 0 cv,.int .i64 1,.int .i64 1,.int .i64 1,.int .i64 1,.int .i64 1,.int .u32 0,.int .u32 0] _ (HP5.out _ hq) Tryz.underlying41 (by rfl) (by kernel_rfl) ?_)
  |(go_at_call 9;(with_reducible refine Calls.mono (HC1.out _ hq) ?_);rintro e w6 ⟨rfl,hb6⟩;(have HQ6:=Lib.hid hb6);clear hb6 hq)
  |fail)
 clear HC1
 have HC18:Hid (w6.cell? ⟨wz.heap.size,18,none⟩=some (.int .i64 1)):=(HE1.out w6 HQ6.out).ans_
 have hc18:=HC18.out
 have hf18:w6.frozen? ⟨wz.heap.size,18,none⟩=false:=(HQ6.out.frozen (p:=⟨wz.heap.size,18,none⟩) (by show wz.heap.size<_;have:=HW5.out.2;omega)).trans (HF5.out 18)
 go_upto_region 5 with fail
 clear hc18 hf18;obtain ⟨w7,hw7⟩:∃ w7,w7=w6.setCell ⟨wz.heap.size,18,none⟩ (.int .i64 2):=⟨_,rfl⟩
 have HE2:Hid (∀ w',Below w7.heap.size w7 w'->zaf w' wz.heap.size 0 (e18 2)):=fun w' hb=>by
  have hlt:wz.heap.size<w7.heap.size:=by rw [hw7];have:=HW5.out.2;have:=HQ6.out.size;simp;omega
  refine zaf.keep ?_ (w:=w7) fun p hp=>hb.cell (by rw [hp];exact hlt)
  rw [hw7]
  exact (HE1.out w6 HQ6.out).set_ans 2
 have HB7:Hid (Below wz.heap.size wz w7/\wz.heap.size<w7.heap.size):=⟨by rw [hw7];exact (HW5.out.1.trans (HQ6.out.mono HW5.out.1.size)).setCell (Nat.le_refl _) _,by rw [hw7];have:=HW5.out.2;have:=HQ6.out.size;simp;omega⟩
 rw [<- hw7];clear hw7
 have HP7:Hid (∀ w',Below w7.heap.size w7 w'->w'.rangeAt w3.heap.size 0 [.int .i64 2,.slice Ar 2 cr,.slice Av 0 cv,.int .i64 1,.int .i64 1,.int .i64 1,.int .i64 1,.int .i64 1,.int .u32 0,.int .u32 0]):=fun w' hb=>HPL.out w' (HB7.out.1.trans (hb.mono HB7.out.1.size))
 have HB8:Hid (∀ w',Below w7.heap.size w7 w'->Below w3.heap.size w3 w'):=fun w' hb=>HBZ.out.1.trans ((HB7.out.1.trans (hb.mono HB7.out.1.size)).mono HBZ.out.1.size)
 have HC2:Hid (∀ w',Below w7.heap.size w7 w'->Calls Tryz.prog 9 #[.agg #[.int .i64 2,.slice Ar 2 cr,.slice Av 0 cv,.int .i64 1,.int .i64 1,.int .i64 1,.int .i64 1,.int .i64 1,.int .u32 0,.int .u32 0],.slice (some ⟨wz.heap.size,0,none⟩) 1 1] w' (Says (.tuple #[.int .i64 0,.int .i64 7]) w')):=fun w' hb=>zi9 (Bl:=0) (H3.out.below (HB8.out w' hb)) (H4.out.below (HB8.out w' hb)) (HB8.out w' hb).size (HE2.out w' hb) (by have:=hb.size;have:=HB7.out.2;omega) rfl
 have HOR:Hid (∀ w',Below w7.heap.size w7 w'->Calls Tryz.prog 14 #[.slice (some ⟨wz.heap.size,0,none⟩) 1 1] w' fun e w2=>∃ A c,e=.returned (.slice A 1 c)/\Sl w2 w2.heap.size 1 (.slice A 1 c) 1 (kv .i64 [0])/\Below w'.heap.size w' w2):=fun w' hb=>zo2 (HE2.out w' hb) (by have:=hb.size;have:=HB7.out.2;omega)
 have hq:Below w7.heap.size w7 w7:=Below.refl _ _;clear HQ6 HE1 HE2 HF5 HP5 HPL HC18 H3 H4
 go_wp2_with (first
  |go_big_skip
  |(refine wpList_load_mid (by rfl) 41 _ (by rfl) w3.heap.size 0 (by rfl) [.int .i64 2,.slice Ar 2 cr,.slice Av 0 cv,.int .i64 1,.int .i64 1,.int .i64 1,.int .i64 1,.int .i64 1,.int .u32 0,.int .u32 0] _ (HP7.out _ hq) Tryz.underlying41 (by rfl) (by kernel_rfl) ?_;clear HP7)
  |(go_at_call 9;(with_reducible refine Calls.mono (HC2.out _ hq) ?_);rintro e w8 ⟨rfl,hb8⟩;(have HQ8:=Lib.hid hb8);clear hb8 hq)
  |(go_at_call 14;(with_reducible refine Calls.mono (HOR.out _ HQ8.out) ?_);rintro e w9 ⟨A9,c9,rfl,hs9,hb9⟩;(have HS9:=Lib.hid hs9);(have HQ9:=Lib.hid (HQ8.out.trans (hb9.mono HQ8.out.size)));clear hs9 hb9)
  |(go_at_call 13;(with_reducible refine Calls.mono (zfa (HS9.out.below ((Below.refl _ _).alloc (Nat.le_refl _) _)) (zp8 w9 _)) ?_);rintro e w10 ⟨rfl,n10,hw10⟩;(have HQ10:Hid (Below w7.heap.size w7 w10):=Lib.hid (by rw [hw10];exact zf6 (HQ9.out.alloc HQ9.out.size _) n10));clear hw10)
  |fail)
 go_ret
 exact ⟨by first|rfl|(simp;done),HWB.out.trans ((HB7.out.1.trans (HQ10.out.mono HB7.out.1.size)).mono HWB.out.size)⟩
end
section
open Go.RowKit
set_option maxRecDepth 20000 in
set_option maxHeartbeats 6400000 in
theorem zj4 {E:Nat->Prop} {w:World} {L A S1 Q cQ:Nat} {X:Nat->Value} {bp bq P r S B n nv:Nat} {uv:Value} {lv:List Vl} {st:Nat->Int×Nat} {g:Nat->Nat->Pl} {G:Nat->Value} {R:Nat->Nat} {qv:Nat->Nat->Value} {qs:Nat->Nat->List Int} (h:RfAll E w L A S1 Q cQ X bp bq P r S B n nv uv lv st g G R qv qs) (vi:Int) (me:Nat) (un:Nat) (hneg:zax lv vi nv<0) (po tt sx kv km nw li sh bu id:Int):Calls Tryz.prog 19 #[.pointer (some ⟨A,0,none⟩),opV 9 po tt vi sx kv km ((me:Nat)) ((un:Nat)) nw li sh bu id] w (Says (.int .i64 0) w):=by
 have hm:zax lv vi nv=-1:=by have h1:=(zba (zb7 lv vi) nv).1;unfold zax at hneg |-;omega
 have hfd:=fun w' (hb:Below w.heap.size w w')=>zag (Sl.of_own (h.call hb).md.vlans) (Nat.le_refl _) vi
 rw [hm] at hfd;have HFD:=Lib.hid hfd;obtain ⟨w0,hw0⟩:∃ z,z=(w.alloc (.cells #[.int .i64 (9),.int .i64 (po),.int .i64 (tt),.int .i64 (vi),.int .i64 (sx),.int .i64 (kv),.int .u64 (km),.int .u64 ((me:Nat)),.int .u64 ((un:Nat)),.int .u32 (nw),.int .u32 (li),.int .i64 (sh),.int .i64 (bu),.int .i64 (id)] 55)):=⟨_,rfl⟩
 have HB0:Hid (Below w.heap.size w w0):=by rw [hw0];exact (Below.refl _ _).alloc (Nat.le_refl _) _
 have HBOX:=Lib.hid (zbp hw0)
 have hwz:w.heap.size<w0.heap.size:=by rw [hw0];simp
 have HH:=Lib.hid h;have hAz:A<w.heap.size:=h.md.cells.lt;clear h hfd;unfold opV
 go_enter Tryz.func19,Tryz.ntmps19
 go_wp2_with (first
  |fail)
 rw [<- hw0];clear hw0;obtain ⟨q0,q1,q2,q3,q4,q5,q6,q7,q8,q9,q10,q11,q12,q13⟩:=HBOX.out _ (Below.refl _ _)
 have c11:w0.cell? ⟨A,11,none⟩=some uv:=(HH.out.call HB0.out).md.cells.cell (by omega)
 refine wp_region_held_drew (S:=fun w'=>w'.cell? ⟨A,11,none⟩=some uv/\w'.cell? ⟨w.heap.size,3,none⟩=some (.int .i64 (vi))) (by kernel_rfl) ?_ (fun hHeld=>?_)
 ·exact ⟨c11,q3⟩
 obtain ⟨v0,hv0⟩:∃ w',w'=w0.drew:=⟨_,rfl⟩
 have hvb:Below w0.heap.size w0 v0:=by rw [hv0];exact (Below.refl _ _).drew
 have HVZ:Hid (v0.heap.size=w0.heap.size):=by show _=_;rw [hv0];rfl
 rw [<- hv0] at hHeld |-;clear hv0;refine tk 0 ?_;refine tk 1 ?_;refine tk 2 ?_;refine tk 3 ?_;refine tk 4 ?_;refine tk 5 ?_
 refine clR 6 rfl fun K hK=>?_
 go_simp
 refine Calls.mono (HFD.out _ (HB0.out.trans (hvb.mono HB0.out.size))) ?_
 rintro e w1 ⟨rfl,hb1⟩
 have HB1':Hid (Below w0.heap.size w0 w1):=hvb.trans (hb1.mono (by rw [HVZ.out];exact Nat.le_refl _))
 have hz1:w0.heap.size<=w1.heap.size:=HB1'.out.size
 refine hK.out _ _ ?_ (fun hHeld=>?_)
 ·(try dsimp only)
  obtain ⟨x0,x1⟩:=hHeld
  exact ⟨(hb1.cell (p:=⟨A,11,none⟩) (by show A<v0.heap.size;rw [HVZ.out];omega)).trans x0,(hb1.cell (p:=⟨w.heap.size,3,none⟩) (by show w.heap.size<v0.heap.size;rw [HVZ.out];omega)).trans x1⟩
 clear hK K;refine tk 7 ?_
 refine dnR ?_
 have HB1:Hid (Below w.heap.size w w1):=HB0.out.trans (HB1'.out.mono HB0.out.size);have HM:=Lib.hid (HH.out.call HB1.out);clear hHeld c11 q0 q1 q2 q3 q4 q5 q6 q7 q8 q9 q10 q11 q12 q13 hb1 hvb;obtain ⟨q0,q1,q2,q3,q4,q5,q6,q7,q8,q9,q10,q11,q12,q13⟩:=HBOX.out _ HB1'.out
 go_wp2
 go_ret
 exact ⟨by first|rfl|(simp;done),HB1.out⟩
set_option maxRecDepth 20000 in
set_option maxHeartbeats 6400000 in
theorem zpn {E:Nat->Prop} {w:World} {L A S1 Q cQ:Nat} {X:Nat->Value} {bp bq P r S B n nv:Nat} {uv:Value} {lv:List Vl} {st:Nat->Int×Nat} {g:Nat->Nat->Pl} {G:Nat->Value} {R:Nat->Nat} {qv:Nat->Nat->Value} {qs:Nat->Nat->List Int} (h:RfAll E w L A S1 Q cQ X bp bq P r S B n nv uv lv st g G R qv qs) (vi:Int) (me:Nat) (un:Nat) (hme:me<18446744073709551616) (hun:un<18446744073709551616) (j:Nat) (hj:zax lv vi nv=(j:Int)) (po tt sx kv km nw li sh bu id:Int):Calls Tryz.prog 19 #[.pointer (some ⟨A,0,none⟩),opV 9 po tt vi sx kv km ((me:Nat)) ((un:Nat)) nw li sh bu id] w fun e w'=>e=.returned (.int .i64 1)/\RfAll E w' L A S1 Q cQ X bp bq P r S B n nv uv (lv.set j ⟨vi,me &&& allN P,un &&& (me &&& allN P)⟩) st g G R qv qs/\MdFr E w w' L:=by
 have hjn:j<nv:=by have h1:=(zba (zb7 lv vi) nv).2;unfold zax at hj;omega
 have hsl:=Sl.of_own h.md.vlans
 obtain ⟨b0,off,cap,e,hc1,hc2,hb0,hlen,hcell⟩:=hsl.vlAt (by omega)
 obtain ⟨k0,k1,k2⟩:=hcell j hjn;obtain ⟨xv,hxv⟩:∃ x,x=lv.getD j vl0:=⟨_,rfl⟩;rw [<- hxv] at k1 k2;have hsl9:=hlen;subst e
 have HK:=Lib.hid fun w' (hb:Below w.heap.size w w')=>And.intro ((hb.cell (p:=⟨b0,off+j*3+1,none⟩) hb0).trans k1) ((hb.cell (p:=⟨b0,off+j*3+2,none⟩) hb0).trans k2)
 have d2:decide (j<nv)=true:=decide_eq_true hjn
 have g0:(0:Int)<=(j:Int):=Int.natCast_nonneg _
 have d3:decide ((j:Int)<0)=false:=by simp
 clear hcell k0 k1 k2 hlen hsl
 have hoff:off=0:=zlo h.md.vlans
 subst hoff
 have hlv:lv.length=nv:=hsl9
 clear hsl9
 have hxvid:xv.vid=vi:=by
  have h9:=zhi (zb7 lv vi) nv (by unfold zax at hj;omega)
  unfold zax at hj;rw [hj,Int.toNat_natCast] at h9;have h8:=h9.2;unfold zb7 at h8;rw [<- hxv] at h8
  simpa using h8
 obtain ⟨XX,hXX⟩:∃ x,x=me &&& allN (P:Int):=⟨_,rfl⟩;obtain ⟨YY,hYY⟩:∃ y,y=un &&& (me &&& allN (P:Int)):=⟨_,rfl⟩;rw [<- hYY,<- hXX];have hall:=zd8 (P:Int);have HXY:=Lib.hid (And.intro hXX hYY);have HXV:=Lib.hid (And.intro hxv (And.intro hxvid hlv))
 have HAL:=Lib.hid fun w=>zih (P:Int) w
 obtain ⟨all,hal⟩:∃ x,x=allN (P:Int):=⟨_,rfl⟩;rw [<- hal] at HAL hall;have HALL:=Lib.hid hal
 have hA0:Hid (∀ w',Below w.heap.size w w'->w'.cell? ⟨A,0,none⟩=some (.int .i64 (P:Nat))/\w'.cell? ⟨A,11,none⟩=some (.slice (some ⟨b0,0,none⟩) nv cap)):=fun w' hb=>by
  have hm:=(h.call hb).md
  exact ⟨(hm.cells.cell (by omega)).trans (congrArg some hm.x0),hm.cells.cell (by omega)⟩
 have hbA:b0≠A:=fun e=>zad h.md.cells h.md.vlans (by decide) (by rw [e];rfl)
 have HBA:=Lib.hid (And.intro hbA hb0);clear hxv hxvid hlv hXX hYY hal hbA
 have hfd:=fun w' (hb:Below w.heap.size w w')=>zag (Sl.of_own (h.call hb).md.vlans) (Nat.le_refl _) vi
 rw [hj] at hfd;have HFD:=Lib.hid hfd;obtain ⟨w0,hw0⟩:∃ z,z=(w.alloc (.cells #[.int .i64 (9),.int .i64 (po),.int .i64 (tt),.int .i64 (vi),.int .i64 (sx),.int .i64 (kv),.int .u64 (km),.int .u64 ((me:Nat)),.int .u64 ((un:Nat)),.int .u32 (nw),.int .u32 (li),.int .i64 (sh),.int .i64 (bu),.int .i64 (id)] 55)):=⟨_,rfl⟩
 have HB0:Hid (Below w.heap.size w w0):=by rw [hw0];exact (Below.refl _ _).alloc (Nat.le_refl _) _
 have HBOX:=Lib.hid (zbp hw0)
 have hwz:w.heap.size<w0.heap.size:=by rw [hw0];simp
 have HH:=Lib.hid h;have hAz:A<w.heap.size:=h.md.cells.lt;clear h hfd;unfold opV
 go_enter Tryz.func19,Tryz.ntmps19
 go_wp2_with (first
  |fail)
 rw [<- hw0];clear hw0;obtain ⟨q0,q1,q2,q3,q4,q5,q6,q7,q8,q9,q10,q11,q12,q13⟩:=HBOX.out _ (Below.refl _ _)
 have c11:w0.cell? ⟨A,11,none⟩=some (.slice (some ⟨b0,0,none⟩) nv cap):=(HH.out.call HB0.out).md.cells.cell (by omega)
 refine wp_region_held_drew (S:=fun w'=>w'.cell? ⟨A,11,none⟩=some (.slice (some ⟨b0,0,none⟩) nv cap)/\w'.cell? ⟨w.heap.size,3,none⟩=some (.int .i64 (vi))) (by kernel_rfl) ?_ (fun hHeld=>?_)
 ·exact ⟨c11,q3⟩
 obtain ⟨v0,hv0⟩:∃ w',w'=w0.drew:=⟨_,rfl⟩
 have hvb:Below w0.heap.size w0 v0:=by rw [hv0];exact (Below.refl _ _).drew
 have HVZ:Hid (v0.heap.size=w0.heap.size):=by show _=_;rw [hv0];rfl
 rw [<- hv0] at hHeld |-;clear hv0;refine tk 0 ?_;refine tk 1 ?_;refine tk 2 ?_;refine tk 3 ?_;refine tk 4 ?_;refine tk 5 ?_
 refine clR 6 rfl fun K hK=>?_
 go_simp
 refine Calls.mono (HFD.out _ (HB0.out.trans (hvb.mono HB0.out.size))) ?_
 rintro e w1 ⟨rfl,hb1⟩
 have HB1':Hid (Below w0.heap.size w0 w1):=hvb.trans (hb1.mono (by rw [HVZ.out];exact Nat.le_refl _))
 have hz1:w0.heap.size<=w1.heap.size:=HB1'.out.size
 refine hK.out _ _ ?_ (fun hHeld=>?_)
 ·(try dsimp only)
  obtain ⟨x0,x1⟩:=hHeld
  exact ⟨(hb1.cell (p:=⟨A,11,none⟩) (by show A<v0.heap.size;rw [HVZ.out];omega)).trans x0,(hb1.cell (p:=⟨w.heap.size,3,none⟩) (by show w.heap.size<v0.heap.size;rw [HVZ.out];omega)).trans x1⟩
 clear hK K;refine tk 7 ?_
 refine dnR ?_
 have HB1:Hid (Below w.heap.size w w1):=HB0.out.trans (HB1'.out.mono HB0.out.size);have HM:=Lib.hid (HH.out.call HB1.out);clear hHeld c11 q0 q1 q2 q3 q4 q5 q6 q7 q8 q9 q10 q11 q12 q13 hb1 hvb;obtain ⟨q0,q1,q2,q3,q4,q5,q6,q7,q8,q9,q10,q11,q12,q13⟩:=HBOX.out _ HB1'.out;obtain ⟨a0,a11⟩:=hA0.out _ HB1.out
 go_wp2_with (first
  |(go_at_call 21;(with_reducible refine Calls.mono (HAL.out _) ?_);rintro e _ ⟨rfl,rfl⟩)
  |fail)
 go_loopw [10,11,12] (fun xv' yv' pv wr=>∃ i:Nat,i<=64/\pv=.int .i64 i/\xv'=.int .u64 (lowB XX i:Nat)/\yv'=.int .u64 (lowB YY i:Nat)/\w1=wr) (fun _ _ pv _=>64 - (intOf pv).toNat)
 case atStart=>exact ⟨0,by omega,rfl,by rw [zep];rfl,by rw [zep];rfl,rfl⟩
 case round =>
  obtain ⟨i,hi,rfl,rfl,rfl,rfl⟩:=hrel
  by_cases hi64:i<64
  ·have h1:=fun W=>zbo me hme (i:Int) W
   have h2:=fun W=>zbo all hall (i:Int) W
   have h3:=fun W=>zbo un hun (i:Int) W
   have h4:=fun W=>zdm (lowB XX i) (zic XX hi) (i:Int) W
   have h5:=fun W=>zdm (lowB YY i) (zic YY hi) (i:Int) W
   have hbX:XX.testBit i=(me.testBit i && all.testBit i):=by rw [HXY.out.1,HALL.out,Nat.testBit_and]
   have hbY:YY.testBit i=(un.testBit i && (me.testBit i && all.testBit i)):=by rw [HXY.out.2,HALL.out,Nat.testBit_and,Nat.testBit_and]
   rw [zcn me hi64] at h1;rw [zcn all hi64] at h2;rw [zcn un hi64] at h3;rw [zdz _ hi64] at h4 h5
   generalize me.testBit i=tm at *
   generalize all.testBit i=ta at *
   generalize un.testBit i=tu at *
   have d1':decide ((i:Int)<64)=true:=by simp;omega
   have g0':(0:Int)<=(i:Int):=Int.natCast_nonneg _
   have g1':(i:Int)<64:=by omega
   have HI64:=Lib.hid (And.intro hi hi64);clear hi hi64
   cases tm
   ·rw [Bool.false_and] at hbX
    rw [Bool.false_and,Bool.and_false] at hbY;have HX1:=Lib.hid (zc1 hbX);have HY1:=Lib.hid (zc1 hbY);have H1:=Lib.hid h1;clear h1 h2 h3 h4 h5 hbX hbY
    go_wp2_with (first|(go_at_call 22;(with_reducible refine Calls.mono (H1.out _) ?_);rintro e wx ⟨rfl,rfl⟩)|fail)
    go_roundw
    case rel=>exact ⟨i+1,by have:=HI64.out.2;omega,by go_num,by rw [HX1.out],by rw [HY1.out],by first|trivial|rfl⟩
    case measure=>simp [intOf];have:=HI64.out.2;omega
   ·cases ta
    ·rw [Bool.and_false] at hbX
     rw [Bool.and_false,Bool.and_false] at hbY;have HX1:=Lib.hid (zc1 hbX);have HY1:=Lib.hid (zc1 hbY);have H1:=Lib.hid h1;have H2:=Lib.hid h2;clear h1 h2 h3 h4 h5 hbX hbY
     go_wp2_with (first
      |(go_at_call 22;(with_reducible refine Calls.mono (H1.out _) ?_);rintro e wx ⟨rfl,rfl⟩)
      |(go_at_call 22;(with_reducible refine Calls.mono (H2.out _) ?_);rintro e wx ⟨rfl,rfl⟩)
      |fail)
     go_roundw
     case rel=>exact ⟨i+1,by have:=HI64.out.2;omega,by go_num,by rw [HX1.out],by rw [HY1.out],by first|trivial|rfl⟩
     case measure=>simp [intOf];have:=HI64.out.2;omega
    ·rw [Bool.and_true] at hbX
     rw [Bool.and_true,Bool.and_true] at hbY;rw [zfn hbX] at h4;have H1:=Lib.hid h1;have H2:=Lib.hid h2;have H3:=Lib.hid h3;have H4:=Lib.hid h4;clear h1 h2 h3 h4 hbX
     cases tu
     ·have HY1:=Lib.hid (zc1 hbY)
      clear h5 hbY
      go_wp2_with (first
       |(go_at_call 22;(with_reducible refine Calls.mono (H1.out _) ?_);rintro e wx ⟨rfl,rfl⟩)
       |(go_at_call 22;(with_reducible refine Calls.mono (H2.out _) ?_);rintro e wx ⟨rfl,rfl⟩)
       |(go_at_call 22;(with_reducible refine Calls.mono (H3.out _) ?_);rintro e wx ⟨rfl,rfl⟩)
       |(go_at_call 23;(with_reducible refine Calls.mono (H4.out _) ?_);rintro e wx ⟨rfl,rfl⟩)
       |fail)
      go_roundw
      case rel=>exact ⟨i+1,by have:=HI64.out.2;omega,by go_num,by first|rfl|trivial,by rw [HY1.out],by first|trivial|rfl⟩
      case measure=>simp [intOf];have:=HI64.out.2;omega
     ·rw [zfn hbY] at h5
      have H5:=Lib.hid h5;clear h5 hbY
      go_wp2_with (first
       |(go_at_call 22;(with_reducible refine Calls.mono (H1.out _) ?_);rintro e wx ⟨rfl,rfl⟩)
       |(go_at_call 22;(with_reducible refine Calls.mono (H2.out _) ?_);rintro e wx ⟨rfl,rfl⟩)
       |(go_at_call 22;(with_reducible refine Calls.mono (H3.out _) ?_);rintro e wx ⟨rfl,rfl⟩)
       |(go_at_call 23;(with_reducible refine Calls.mono (H4.out _) ?_);rintro e wx ⟨rfl,rfl⟩)
       |(go_at_call 23;(with_reducible refine Calls.mono (H5.out _) ?_);rintro e wx ⟨rfl,rfl⟩)
       |fail)
      go_roundw
      case rel=>exact ⟨i+1,by have:=HI64.out.2;omega,by go_num,by first|rfl|trivial,by first|rfl|trivial,by first|trivial|rfl⟩
      case measure=>simp [intOf];have:=HI64.out.2;omega
  ·obtain rfl:i=64:=by omega
   have hX:=zfp (s:=XX) (by rw [HXY.out.1];exact Nat.lt_of_le_of_lt Nat.and_le_left hme)
   have hY:=zfp (s:=YY) (by rw [HXY.out.2];exact Nat.lt_of_le_of_lt Nat.and_le_left hun)
   rw [hX,hY];clear hX hY
   go_wp2_with fail
   refine wp_region_held_drew (S:=fun w'=>w'.cell? ⟨A,11,none⟩=some (.slice (some ⟨b0,0,none⟩) nv cap)) (by kernel_rfl) ?_ (fun hHeld=>?_)
   ·exact a11
   obtain ⟨v3,hv0⟩:∃ w',w'=w1.drew:=⟨_,rfl⟩
   have HB3:Hid (Below w.heap.size w v3):=by rw [hv0];exact HB1.out.trans (Below.refl _ _).drew
   rw [<- hv0] at hHeld |-;clear hv0;have a11':=(hA0.out _ HB3.out).2
   have hA3:A<v3.heap.size:=by have:=HB3.out.size;omega
   have h3:=HH.out.call HB3.out;obtain ⟨r1,r2⟩:=HK.out _ HB3.out
   have f1:v3.frozen? ⟨b0,j*3+1,none⟩=false:=h3.md.vlans.frozenAt _
   have f2:v3.frozen? ⟨b0,j*3+2,none⟩=false:=h3.md.vlans.frozenAt _
   simp only [Nat.zero_add] at r1 r2
   have H3:=Lib.hid h3;clear h3 a0 a11;refine tk 0 ?_;refine tk 1 ?_;refine tk 2 ?_;refine tk 3 ?_;refine tk 4 ?_;refine tk 5 ?_;refine tk 6 ?_;refine tk 7 ?_;refine tk 8 ?_;refine tk 9 ?_;refine tk 10 ?_;refine tk 11 ?_;refine tk 12 ?_;refine tk 13 ?_
   refine clR 14 rfl fun K hK=>?_
   go_simp
   refine hK.out _ _ ?_ (fun hHeld=>?_)
   ·(try dsimp only)
    exact ((But.set _ _).cell (show A<v3.heap.size by omega) (Ne.symm HBA.out.1)).trans a11'
   clear hK K;refine tk 15 ?_;refine tk 16 ?_
   refine clR 17 rfl fun K hK=>?_
   go_simp
   refine hK.out _ _ ?_ (fun hHeld=>?_)
   ·(try dsimp only)
    exact (((But.set _ _).trans (But.set _ _)).cell (show A<v3.heap.size by omega) (Ne.symm HBA.out.1)).trans a11'
   clear hK K
   (try simp only [Act.put,sqA,sqB,sqC])
   refine dnR ?_
   obtain ⟨wl,hwl⟩:∃ z,z=(v3.setCell ⟨b0,j*3+1,none⟩ (.int .u64 (XX:Nat))).setCell ⟨b0,j*3+2,none⟩ (.int .u64 (YY:Nat)):=⟨_,rfl⟩
   have HBL:Hid (But b0 v3 wl):=by rw [hwl];exact (But.set _ _).trans (But.set _ _)
   have HML:Hid (RfAll E wl L A S1 Q cQ X bp bq P r S B n nv (.slice (some ⟨b0,0,none⟩) nv cap) (lv.set j ⟨vi,XX,YY⟩) st g G R qv qs/\MdFr E w wl L):=by
    have hm:RfAt wl L A S1 Q cQ X (.slice (some ⟨b0,0,none⟩) nv cap) (.pointer (some ⟨bp,0,none⟩)) P r nv (lv.set j ⟨vi,XX,YY⟩) st G:=by
     rw [hwl,show (⟨vi,XX,YY⟩:Vl)=⟨(lv.getD j vl0).vid,XX,YY⟩ by rw [<- HXV.out.1,HXV.out.2.1]]
     exact H3.out.md.setV j (by rw [HXV.out.2.2];exact hjn) XX YY
    exact ⟨H3.out.but hm HBL.out (.inr rfl),RfFr.of_but HH.out HB3.out HBL.out (.inl (.inl (.inr (.inr (.inr rfl))))) (HH.out.md.vlans.lt b0 rfl).1⟩
   rw [<- hwl];clear hwl hHeld r1 r2 f1 f2 a11'
   go_wp2
   go_ret
   exact ⟨by first|rfl|(simp;done),HML.out.1,HML.out.2⟩
end
end Go.Proofs.YtfekhdgjgjodlaaGreat
