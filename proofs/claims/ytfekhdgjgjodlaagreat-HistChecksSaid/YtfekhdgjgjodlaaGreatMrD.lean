/-
  Words and contracts that a statement's proof rests on (MoE, MrD). No statement is proved here.
-/
import Derived.Test.YtfekhdgjgjodlaaGreatMoG
import Derived.Test.YtfekhdgjgjodlaaGreatMrU
set_option linter.unusedVariables false
set_option linter.unusedSimpArgs false
namespace Go.Proofs.YtfekhdgjgjodlaaGreat
section
open Go.RowKit
set_option maxHeartbeats 800000 in
theorem zhd {w:World} {L A S1 Q bp:Nat} {uv:Value} {P r nv:Nat} {lv:List Vl} {st:Nat->Int×Nat} {G:Nat->Value} (h:MdAt w L A S1 Q uv (.pointer (some ⟨bp,0,none⟩)) P r nv lv st G) (po tt vi sx:Int) (kv km me un nw li sh bu id:Int):Calls Tryz.prog 81 #[.pointer (some ⟨A,0,none⟩),opV 0 po tt vi sx kv km me un nw li sh bu id] w (Says (.bool (zah P po)) w):=by
 have HH:=Lib.hid h
 have HP:=Lib.hid fun w' (hb:Below w.heap.size w w')=>zap (h.call hb) po
 clear h;unfold opV
 go_enter Tryz.func81,Tryz.ntmps81
 go_wp2_with fail
 refine (HP.out _ ((Below.refl _ _).alloc (Nat.le_refl _) _)).mono ?_
 rintro e w1 ⟨rfl,hb⟩
 go_wp2
 go_ret
 exact ⟨rfl,((Below.refl _ _).alloc (Nat.le_refl _) _).trans (hb.mono (by simp))⟩
set_option maxHeartbeats 800000 in
theorem zht {w:World} {L A S1 Q bp:Nat} {uv:Value} {P r nv:Nat} {lv:List Vl} {st:Nat->Int×Nat} {G:Nat->Value} (h:MdAt w L A S1 Q uv (.pointer (some ⟨bp,0,none⟩)) P r nv lv st G) (po tt vi sx:Int) (kv km me un nw li sh bu id:Int):Calls Tryz.prog 81 #[.pointer (some ⟨A,0,none⟩),opV 2 po tt vi sx kv km me un nw li sh bu id] w (Says (.bool (zah P po)) w):=by
 have HH:=Lib.hid h
 have HP:=Lib.hid fun w' (hb:Below w.heap.size w w')=>zap (h.call hb) po
 clear h;unfold opV
 go_enter Tryz.func81,Tryz.ntmps81
 go_wp2_with fail
 refine (HP.out _ ((Below.refl _ _).alloc (Nat.le_refl _) _)).mono ?_
 rintro e w1 ⟨rfl,hb⟩
 go_wp2
 go_ret
 exact ⟨rfl,((Below.refl _ _).alloc (Nat.le_refl _) _).trans (hb.mono (by simp))⟩
set_option maxHeartbeats 800000 in
theorem zhh {w:World} {L A S1 Q bp:Nat} {uv:Value} {P r nv:Nat} {lv:List Vl} {st:Nat->Int×Nat} {G:Nat->Value} (h:MdAt w L A S1 Q uv (.pointer (some ⟨bp,0,none⟩)) P r nv lv st G) (po tt vi sx:Int) (kv km me un nw li sh bu id:Int):Calls Tryz.prog 81 #[.pointer (some ⟨A,0,none⟩),opV 4 po tt vi sx kv km me un nw li sh bu id] w (Says (.bool (zah P po)) w):=by
 have HH:=Lib.hid h
 have HP:=Lib.hid fun w' (hb:Below w.heap.size w w')=>zap (h.call hb) po
 clear h;unfold opV
 go_enter Tryz.func81,Tryz.ntmps81
 go_wp2_with fail
 refine (HP.out _ ((Below.refl _ _).alloc (Nat.le_refl _) _)).mono ?_
 rintro e w1 ⟨rfl,hb⟩
 go_wp2
 go_ret
 exact ⟨rfl,((Below.refl _ _).alloc (Nat.le_refl _) _).trans (hb.mono (by simp))⟩
set_option maxHeartbeats 800000 in
theorem zmu {w:World} {L A S1 Q bp:Nat} {uv:Value} {P r nv:Nat} {lv:List Vl} {st:Nat->Int×Nat} {G:Nat->Value} (h:MdAt w L A S1 Q uv (.pointer (some ⟨bp,0,none⟩)) P r nv lv st G) (po tt vi sx:Int) (kv km me un nw li sh bu id:Int):Calls Tryz.prog 81 #[.pointer (some ⟨A,0,none⟩),opV 1 po tt vi sx kv km me un nw li sh bu id] w (Says (.bool true) w):=by
 clear h;unfold opV
 go_enter Tryz.func81,Tryz.ntmps81
 go_wp2_with fail
 go_ret
 exact ⟨rfl,(Below.refl _ _).alloc (Nat.le_refl _) _⟩
set_option maxHeartbeats 800000 in
theorem znf {w:World} {L A S1 Q bp:Nat} {uv:Value} {P r nv:Nat} {lv:List Vl} {st:Nat->Int×Nat} {G:Nat->Value} (h:MdAt w L A S1 Q uv (.pointer (some ⟨bp,0,none⟩)) P r nv lv st G) (po tt vi sx:Int) (kv km me un nw li sh bu id:Int):Calls Tryz.prog 81 #[.pointer (some ⟨A,0,none⟩),opV 3 po tt vi sx kv km me un nw li sh bu id] w (Says (.bool true) w):=by
 clear h;unfold opV
 go_enter Tryz.func81,Tryz.ntmps81
 go_wp2_with fail
 go_ret
 exact ⟨rfl,(Below.refl _ _).alloc (Nat.le_refl _) _⟩
set_option maxHeartbeats 800000 in
theorem znt {w:World} {L A S1 Q bp:Nat} {uv:Value} {P r nv:Nat} {lv:List Vl} {st:Nat->Int×Nat} {G:Nat->Value} (h:MdAt w L A S1 Q uv (.pointer (some ⟨bp,0,none⟩)) P r nv lv st G) (po tt vi sx:Int) (kv km me un nw li sh bu id:Int):Calls Tryz.prog 81 #[.pointer (some ⟨A,0,none⟩),opV 5 po tt vi sx kv km me un nw li sh bu id] w (Says (.bool true) w):=by
 clear h;unfold opV
 go_enter Tryz.func81,Tryz.ntmps81
 go_wp2_with fail
 go_ret
 exact ⟨rfl,(Below.refl _ _).alloc (Nat.le_refl _) _⟩
set_option maxHeartbeats 800000 in
theorem zhr {w:World} {L A S1 Q bp:Nat} {uv:Value} {P r nv:Nat} {lv:List Vl} {st:Nat->Int×Nat} {G:Nat->Value} (h:MdAt w L A S1 Q uv (.pointer (some ⟨bp,0,none⟩)) P r nv lv st G) (po tt vi sx:Int) (kv km me un nw li sh bu id:Int):Calls Tryz.prog 81 #[.pointer (some ⟨A,0,none⟩),opV 6 po tt vi sx kv km me un nw li sh bu id] w (Says (.bool true) w):=by
 clear h;unfold opV
 go_enter Tryz.func81,Tryz.ntmps81
 go_wp2_with fail
 go_ret
 exact ⟨rfl,(Below.refl _ _).alloc (Nat.le_refl _) _⟩
set_option maxHeartbeats 800000 in
theorem zmf {w:World} {L A S1 Q bp:Nat} {uv:Value} {P r nv:Nat} {lv:List Vl} {st:Nat->Int×Nat} {G:Nat->Value} (h:MdAt w L A S1 Q uv (.pointer (some ⟨bp,0,none⟩)) P r nv lv st G) (po tt vi sx:Int) (kv km me un nw li sh bu id:Int):Calls Tryz.prog 81 #[.pointer (some ⟨A,0,none⟩),opV 7 po tt vi sx kv km me un nw li sh bu id] w (Says (.bool true) w):=by
 clear h;unfold opV
 go_enter Tryz.func81,Tryz.ntmps81
 go_wp2_with fail
 go_ret
 exact ⟨rfl,(Below.refl _ _).alloc (Nat.le_refl _) _⟩
set_option maxHeartbeats 800000 in
theorem zg2 {w:World} {L A S1 Q bp:Nat} {uv:Value} {P r nv:Nat} {lv:List Vl} {st:Nat->Int×Nat} {G:Nat->Value} (h:MdAt w L A S1 Q uv (.pointer (some ⟨bp,0,none⟩)) P r nv lv st G) (po tt vi sx:Int) (kv km me un nw li sh bu id:Int):Calls Tryz.prog 81 #[.pointer (some ⟨A,0,none⟩),opV 9 po tt vi sx kv km me un nw li sh bu id] w (Says (.bool true) w):=by
 clear h;unfold opV
 go_enter Tryz.func81,Tryz.ntmps81
 go_wp2_with fail
 go_ret
 exact ⟨rfl,(Below.refl _ _).alloc (Nat.le_refl _) _⟩
set_option maxHeartbeats 1600000 in
theorem zgc {w:World} {L A S1 Q bp:Nat} {uv:Value} {P r nv:Nat} {lv:List Vl} {st:Nat->Int×Nat} {G:Nat->Value} (h:MdAt w L A S1 Q uv (.pointer (some ⟨bp,0,none⟩)) P r nv lv st G) (po tt vi sx:Int) (kv km me un nw li sh bu id:Int) (h1:zah P po=true) (h2:zah P tt=true):Calls Tryz.prog 81 #[.pointer (some ⟨A,0,none⟩),opV 10 po tt vi sx kv km me un nw li sh bu id] w (Says (.bool true) w):=by
 have hp1:=fun w' (hb:Below w.heap.size w w')=>zap (h.call hb) po
 have hp2:=fun w' (hb:Below w.heap.size w w')=>zap (h.call hb) tt
 rw [h1] at hp1;rw [h2] at hp2;have HP1:=Lib.hid hp1;have HP2:=Lib.hid hp2;clear h h1 h2 hp1 hp2;unfold opV
 go_enter Tryz.func81,Tryz.ntmps81
 go_wp2_with fail
 refine (HP1.out _ ((Below.refl _ _).alloc (Nat.le_refl _) _)).mono ?_
 rintro e w1 ⟨rfl,hb⟩
 have HB1:Hid (Below w.heap.size w w1):=((Below.refl _ _).alloc (Nat.le_refl _) _).trans (hb.mono (by simp))
 have c2:w1.cell? ⟨w.heap.size,2,none⟩=some (.int .i64 tt):=by
  rw [hb.cell (by show w.heap.size<_;simp)]
  simp [go_sem]
 clear hb
 go_wp2_with fail
 refine (HP2.out _ HB1.out).mono ?_
 rintro e w2 ⟨rfl,hb⟩;have HB2:Hid (Below w.heap.size w w2):=HB1.out.trans (hb.mono HB1.out.size);clear hb c2
 go_wp2
 go_ret
 exact ⟨by first|rfl|(simp;done),HB2.out⟩
set_option maxHeartbeats 1600000 in
theorem zf0 {w:World} {L A S1 Q bp:Nat} {uv:Value} {P r nv:Nat} {lv:List Vl} {st:Nat->Int×Nat} {G:Nat->Value} (h:MdAt w L A S1 Q uv (.pointer (some ⟨bp,0,none⟩)) P r nv lv st G) (po tt vi sx:Int) (kv km me un nw li sh bu id:Int) (h1:zah P po=true) (h2:zah P tt=true):Calls Tryz.prog 81 #[.pointer (some ⟨A,0,none⟩),opV 11 po tt vi sx kv km me un nw li sh bu id] w (Says (.bool true) w):=by
 have hp1:=fun w' (hb:Below w.heap.size w w')=>zap (h.call hb) po
 have hp2:=fun w' (hb:Below w.heap.size w w')=>zap (h.call hb) tt
 rw [h1] at hp1;rw [h2] at hp2;have HP1:=Lib.hid hp1;have HP2:=Lib.hid hp2;clear h h1 h2 hp1 hp2;unfold opV
 go_enter Tryz.func81,Tryz.ntmps81
 go_wp2_with fail
 refine (HP1.out _ ((Below.refl _ _).alloc (Nat.le_refl _) _)).mono ?_
 rintro e w1 ⟨rfl,hb⟩
 have HB1:Hid (Below w.heap.size w w1):=((Below.refl _ _).alloc (Nat.le_refl _) _).trans (hb.mono (by simp))
 have c2:w1.cell? ⟨w.heap.size,2,none⟩=some (.int .i64 tt):=by
  rw [hb.cell (by show w.heap.size<_;simp)]
  simp [go_sem]
 clear hb
 go_wp2_with fail
 refine (HP2.out _ HB1.out).mono ?_
 rintro e w2 ⟨rfl,hb⟩;have HB2:Hid (Below w.heap.size w w2):=HB1.out.trans (hb.mono HB1.out.size);clear hb c2
 go_wp2
 go_ret
 exact ⟨by first|rfl|(simp;done),HB2.out⟩
theorem zan {P p:Nat} (h:p<P):zah P (p:Int)=true:=by
 unfold zah
 simp
 omega
end
section
open Go.RowKit
set_option maxHeartbeats 1600000 in
theorem zal {E:Nat->Prop} {w:World} {L A S1 Q cQ:Nat} {X:Nat->Value} {bp bq P r S B n nv:Nat} {uv:Value} {lv:List Vl} {st:Nat->Int×Nat} {g:Nat->Nat->Pl} {G:Nat->Value} {R:Nat->Nat} {qv:Nat->Nat->Value} {qs:Nat->Nat->List Int} (h:RfAll E w L A S1 Q cQ X bp bq P r S B n nv uv lv st g G R qv qs) (p:Int):Calls Tryz.prog 39 #[.pointer (some ⟨A,0,none⟩),.int .i64 p] w fun e w'=>e=.returned (.bool (zah P p))/\w=w':=by
 have c0:w.cell? ⟨A,0,none⟩=some (.int .i64 (P:Nat)):=(h.md.cells.cell (by omega)).trans (congrArg some h.md.x0)
 clear h
 by_cases h1:0<=p
 ·have d1:decide (0<=p)=true:=decide_eq_true h1
  have d1':decide (p≥0)=true:=decide_eq_true h1
  obtain ⟨z,hz⟩:∃ z,z=decide (p<(P:Int)):=⟨_,rfl⟩
  have hpb:zah P p=z:=by unfold zah;rw [d1,Bool.true_and,hz]
  rw [hpb];have HZ:=Lib.hid hz;clear hpb hz
  go_enter Tryz.func39,Tryz.ntmps39
  go_wp2_with fail
  go_ret
  exact ⟨by rw [HZ.out] <;> first|rfl|(simp;done),rfl⟩
 ·have d1:decide (0<=p)=false:=decide_eq_false h1
  have d1':decide (p≥0)=false:=decide_eq_false h1
  have hpb:zah P p=false:=by unfold zah;rw [d1];rfl
  rw [hpb];clear hpb
  go_enter Tryz.func39,Tryz.ntmps39
  go_wp2_with fail
  go_ret
  exact ⟨by first|rfl|(simp;done),rfl⟩
set_option maxRecDepth 20000 in
set_option maxHeartbeats 6400000 in
theorem zo4 {E:Nat->Prop} {w:World} {L A S1 Q cQ:Nat} {X:Nat->Value} {bp bq P r S B n nv:Nat} {uv:Value} {lv:List Vl} {st:Nat->Int×Nat} {g:Nat->Nat->Pl} {G:Nat->Value} {R:Nat->Nat} {qv:Nat->Nat->Value} {qs:Nat->Nat->List Int} (h:RfAll E w L A S1 Q cQ X bp bq P r S B n nv uv lv st g G R qv qs) (p:Nat) (hp:p<P) (tt vi sx kv km me un nw li sh bu id:Int):Calls Tryz.prog 19 #[.pointer (some ⟨A,0,none⟩),opV 0 ((p:Nat)) tt vi sx kv km me un nw li sh bu id] w (Says (.int .i64 (st p).1) w):=by
 have d1:decide (p<P)=true:=decide_eq_true hp
 have hfd:=fun w' (hb:Below w.heap.size w w')=>zag (Sl.of_own (h.call hb).md.vlans) (Nat.le_refl _) vi
 have HFD:=Lib.hid hfd;obtain ⟨w0,hw0⟩:∃ z,z=(w.alloc (.cells #[.int .i64 (0),.int .i64 ((p:Nat)),.int .i64 (tt),.int .i64 (vi),.int .i64 (sx),.int .i64 (kv),.int .u64 (km),.int .u64 (me),.int .u64 (un),.int .u32 (nw),.int .u32 (li),.int .i64 (sh),.int .i64 (bu),.int .i64 (id)] 55)):=⟨_,rfl⟩
 have HB0:Hid (Below w.heap.size w w0):=by rw [hw0];exact (Below.refl _ _).alloc (Nat.le_refl _) _
 have HBOX:=Lib.hid (zbp hw0)
 have hwz:w.heap.size<w0.heap.size:=by rw [hw0];simp
 have hp0:=fun w' (hb:Below w.heap.size w w')=>zal (h.call hb) ((p:Nat))
 rw [zan hp] at hp0;have HP0:=Lib.hid hp0;clear hp0;have HH:=Lib.hid h;have hAz:A<w.heap.size:=h.md.cells.lt;clear h hfd;unfold opV
 go_enter Tryz.func19,Tryz.ntmps19
 go_wp2_with (first
  |(go_at_call 39;(with_reducible refine Calls.mono (HP0.out _ ((Below.refl _ _).alloc (Nat.le_refl _) _)) ?_);rintro e _ ⟨rfl,rfl⟩)
  |fail)
 rw [<- hw0];clear hw0;obtain ⟨q0,q1,q2,q3,q4,q5,q6,q7,q8,q9,q10,q11,q12,q13⟩:=HBOX.out _ (Below.refl _ _)
 have c11:w0.cell? ⟨A,11,none⟩=some uv:=(HH.out.call HB0.out).md.cells.cell (by omega)
 refine wp_region_held_drew (S:=fun w'=>w'.cell? ⟨A,11,none⟩=some uv/\w'.cell? ⟨w.heap.size,3,none⟩=some (.int .i64 (vi))) (by kernel_rfl) ?_ (fun hHeld=>?_)
 ·exact ⟨c11,q3⟩
 obtain ⟨v0,hv0⟩:∃ w',w'=w0.drew:=⟨_,rfl⟩
 have hvb:Below w0.heap.size w0 v0:=by rw [hv0];exact (Below.refl _ _).drew
 have HVZ:Hid (v0.heap.size=w0.heap.size):=by show _=_;rw [hv0];rfl
 rw [<- hv0] at hHeld |-;clear hv0;refine tk 0 ?_;refine tk 1 ?_;refine tk 2 ?_;refine tk 3 ?_;refine tk 4 ?_;refine tk 5 ?_
 refine clR 6 rfl fun K hK=>?_
 go_simp
 refine Calls.mono (HFD.out _ (HB0.out.trans (hvb.mono HB0.out.size))) ?_
 rintro e w1 ⟨rfl,hb1⟩
 have HB1':Hid (Below w0.heap.size w0 w1):=hvb.trans (hb1.mono (by rw [HVZ.out];exact Nat.le_refl _))
 have hz1:w0.heap.size<=w1.heap.size:=HB1'.out.size
 refine hK.out _ _ ?_ (fun hHeld=>?_)
 ·(try dsimp only)
  obtain ⟨x0,x1⟩:=hHeld
  exact ⟨(hb1.cell (p:=⟨A,11,none⟩) (by show A<v0.heap.size;rw [HVZ.out];omega)).trans x0,(hb1.cell (p:=⟨w.heap.size,3,none⟩) (by show w.heap.size<v0.heap.size;rw [HVZ.out];omega)).trans x1⟩
 clear hK K;refine tk 7 ?_
 refine dnR ?_
 have HB1:Hid (Below w.heap.size w w1):=HB0.out.trans (HB1'.out.mono HB0.out.size);have HM:=Lib.hid (HH.out.call HB1.out);clear hHeld c11 q0 q1 q2 q3 q4 q5 q6 q7 q8 q9 q10 q11 q12 q13 hb1 hvb;obtain ⟨q0,q1,q2,q3,q4,q5,q6,q7,q8,q9,q10,q11,q12,q13⟩:=HBOX.out _ HB1'.out
 have c10:w1.cell? ⟨A,10,none⟩=some (.slice (some ⟨S1,0,none⟩) P (capV (X 10))):=HM.out.md.cells.cell (by omega)
 have s0:w1.cell? ⟨S1,p*2,none⟩=some (.int .i64 (st p).1):=(HM.out.md.stands.cell (by omega)).trans (by rw [zeh])
 go_wp2_with fail
 refine wp_region_held_drew (S:=fun w'=>w'.cell? ⟨A,10,none⟩=some (.slice (some ⟨S1,0,none⟩) P (capV (X 10)))/\w'.cell? ⟨w.heap.size,1,none⟩=some (.int .i64 (p:Nat))/\w'.cell? ⟨S1,p*2,none⟩=some (.int .i64 (st p).1)) (by kernel_rfl) ?_ (fun hHeld=>?_)
 ·exact ⟨c10,q1,s0⟩
 obtain ⟨v1,hv0⟩:∃ w',w'=w1.drew:=⟨_,rfl⟩
 have hvb:Below w1.heap.size w1 v1:=by rw [hv0];exact (Below.refl _ _).drew
 have HVZ:Hid (v1.heap.size=w1.heap.size):=by show _=_;rw [hv0];rfl
 rw [<- hv0] at hHeld |-;clear hv0;refine tk 0 ?_;refine tk 1 ?_;refine tk 2 ?_;refine tk 3 ?_;refine tk 4 ?_;refine tk 5 ?_;refine tk 6 ?_;refine tk 7 ?_;refine tk 8 ?_;refine tk 9 ?_
 refine dnR ?_
 have HBV:Hid (Below w.heap.size w v1):=HB1.out.trans (hvb.mono HB1.out.size);clear hHeld c10 s0 q0 q1 q2 q3 q4 q5 q6 q7 q8 q9 q10 q11 q12 q13 hvb
 go_wp2
 go_ret
 exact ⟨by first|rfl|(simp;done),HBV.out⟩
end
end Go.Proofs.YtfekhdgjgjodlaaGreat
