/-
  Words and contracts that a statement's proof rests on (MoI). No statement is proved here.
-/
import Derived.Test.YtfekhdgjgjodlaaGreatMrD
set_option linter.unusedVariables false
set_option linter.unusedSimpArgs false
namespace Go.Proofs.YtfekhdgjgjodlaaGreat
open Go.RowKit
set_option maxHeartbeats 1600000 in
theorem zfi {w:World} {L A S1 Q bp:Nat} {uv:Value} {P r nv:Nat} {lv:List Vl} {st:Nat->Int×Nat} {G:Nat->Value} (h:MdAt w L A S1 Q uv (.pointer (some ⟨bp,0,none⟩)) P r nv lv st G) (p:Nat) (hp:p<P) (x:Int) (hx:zau x=false):Calls Tryz.prog 90 #[.pointer (some ⟨A,0,none⟩),.int .i64 (p:Nat),.int .i64 x] w (Says (.int .i64 (-1)) w):=by
 obtain ⟨s0,s1⟩:=zld h p hp
 have c1:w.cell? ⟨A,1,none⟩=some (.slice (some ⟨S1,0,none⟩) P (capV (G 100))):=h.cells.cell (by omega)
 have hS:=fun W=>zlc (st p).1 x (st p).2 W
 rw [if_neg (by rw [hx];simp)] at hS
 have HS:=Lib.hid hS
 have d1:decide (p<P)=true:=by simp;omega
 clear hS h hx
 generalize (st p).1=sx at *
 generalize (st p).2=sk at *
 go_enter Tryz.func90,Tryz.ntmps90
 go_wp2_with (first
  |(go_at_call 114;(with_reducible refine Calls.mono (HS.out _) ?_);rintro e w1 ⟨rfl,hb⟩;(have HB1:Hid (Below w.heap.size w w1):=hb);(have hz1:=hb.size);clear hb))
 go_ret
 exact ⟨by first|rfl|(simp;done),HB1.out.alloc hz1 _⟩
set_option maxHeartbeats 1600000 in
theorem zgp {w:World} {L A S1 Q bp:Nat} {uv:Value} {P r nv:Nat} {lv:List Vl} {st:Nat->Int×Nat} {G:Nat->Value} (h:MdAt w L A S1 Q uv (.pointer (some ⟨bp,0,none⟩)) P r nv lv st G) (po tt vi sx:Int) (kv km me un nw li sh bu id:Int) (h1:zah P po=false):Calls Tryz.prog 81 #[.pointer (some ⟨A,0,none⟩),opV 10 po tt vi sx kv km me un nw li sh bu id] w (Says (.bool false) w):=by
 have hp1:=fun w' (hb:Below w.heap.size w w')=>zap (h.call hb) po
 rw [h1] at hp1;have HP1:=Lib.hid hp1;clear h h1 hp1;unfold opV
 go_enter Tryz.func81,Tryz.ntmps81
 go_wp2_with fail
 refine (HP1.out _ ((Below.refl _ _).alloc (Nat.le_refl _) _)).mono ?_
 rintro e w1 ⟨rfl,hb⟩
 have HB1:Hid (Below w.heap.size w w1):=((Below.refl _ _).alloc (Nat.le_refl _) _).trans (hb.mono (by simp))
 clear hb
 go_wp2
 go_ret
 exact ⟨by first|rfl|(simp;done),HB1.out⟩
set_option maxHeartbeats 1600000 in
theorem zgx {w:World} {L A S1 Q bp:Nat} {uv:Value} {P r nv:Nat} {lv:List Vl} {st:Nat->Int×Nat} {G:Nat->Value} (h:MdAt w L A S1 Q uv (.pointer (some ⟨bp,0,none⟩)) P r nv lv st G) (po tt vi sx:Int) (kv km me un nw li sh bu id:Int) (h1:zah P po=true) (h2:zah P tt=false):Calls Tryz.prog 81 #[.pointer (some ⟨A,0,none⟩),opV 10 po tt vi sx kv km me un nw li sh bu id] w (Says (.bool false) w):=by
 have hp1:=fun w' (hb:Below w.heap.size w w')=>zap (h.call hb) po
 have hp2:=fun w' (hb:Below w.heap.size w w')=>zap (h.call hb) tt
 rw [h1] at hp1;rw [h2] at hp2;have HP1:=Lib.hid hp1;have HP2:=Lib.hid hp2;clear h h1 h2 hp1 hp2;unfold opV
 go_enter Tryz.func81,Tryz.ntmps81
 go_wp2_with fail
 refine (HP1.out _ ((Below.refl _ _).alloc (Nat.le_refl _) _)).mono ?_
 rintro e w1 ⟨rfl,hb⟩
 have HB1:Hid (Below w.heap.size w w1):=((Below.refl _ _).alloc (Nat.le_refl _) _).trans (hb.mono (by simp))
 have c2:w1.cell? ⟨w.heap.size,2,none⟩=some (.int .i64 tt):=by
  rw [hb.cell (by show w.heap.size<_;simp)]
  simp [go_sem]
 clear hb
 go_wp2_with fail
 refine (HP2.out _ HB1.out).mono ?_
 rintro e w2 ⟨rfl,hb⟩;have HB2:Hid (Below w.heap.size w w2):=HB1.out.trans (hb.mono HB1.out.size);clear hb c2
 go_wp2
 go_ret
 exact ⟨by first|rfl|(simp;done),HB2.out⟩
set_option maxHeartbeats 1600000 in
theorem zgz {w:World} {L A S1 Q bp:Nat} {uv:Value} {P r nv:Nat} {lv:List Vl} {st:Nat->Int×Nat} {G:Nat->Value} (h:MdAt w L A S1 Q uv (.pointer (some ⟨bp,0,none⟩)) P r nv lv st G) (po tt vi sx:Int) (kv km me un nw li sh bu id:Int) (h1:zah P po=false):Calls Tryz.prog 81 #[.pointer (some ⟨A,0,none⟩),opV 11 po tt vi sx kv km me un nw li sh bu id] w (Says (.bool false) w):=by
 have hp1:=fun w' (hb:Below w.heap.size w w')=>zap (h.call hb) po
 rw [h1] at hp1;have HP1:=Lib.hid hp1;clear h h1 hp1;unfold opV
 go_enter Tryz.func81,Tryz.ntmps81
 go_wp2_with fail
 refine (HP1.out _ ((Below.refl _ _).alloc (Nat.le_refl _) _)).mono ?_
 rintro e w1 ⟨rfl,hb⟩
 have HB1:Hid (Below w.heap.size w w1):=((Below.refl _ _).alloc (Nat.le_refl _) _).trans (hb.mono (by simp))
 clear hb
 go_wp2
 go_ret
 exact ⟨by first|rfl|(simp;done),HB1.out⟩
set_option maxHeartbeats 1600000 in
theorem zgu {w:World} {L A S1 Q bp:Nat} {uv:Value} {P r nv:Nat} {lv:List Vl} {st:Nat->Int×Nat} {G:Nat->Value} (h:MdAt w L A S1 Q uv (.pointer (some ⟨bp,0,none⟩)) P r nv lv st G) (po tt vi sx:Int) (kv km me un nw li sh bu id:Int) (h1:zah P po=true) (h2:zah P tt=false):Calls Tryz.prog 81 #[.pointer (some ⟨A,0,none⟩),opV 11 po tt vi sx kv km me un nw li sh bu id] w (Says (.bool false) w):=by
 have hp1:=fun w' (hb:Below w.heap.size w w')=>zap (h.call hb) po
 have hp2:=fun w' (hb:Below w.heap.size w w')=>zap (h.call hb) tt
 rw [h1] at hp1;rw [h2] at hp2;have HP1:=Lib.hid hp1;have HP2:=Lib.hid hp2;clear h h1 h2 hp1 hp2;unfold opV
 go_enter Tryz.func81,Tryz.ntmps81
 go_wp2_with fail
 refine (HP1.out _ ((Below.refl _ _).alloc (Nat.le_refl _) _)).mono ?_
 rintro e w1 ⟨rfl,hb⟩
 have HB1:Hid (Below w.heap.size w w1):=((Below.refl _ _).alloc (Nat.le_refl _) _).trans (hb.mono (by simp))
 have c2:w1.cell? ⟨w.heap.size,2,none⟩=some (.int .i64 tt):=by
  rw [hb.cell (by show w.heap.size<_;simp)]
  simp [go_sem]
 clear hb
 go_wp2_with fail
 refine (HP2.out _ HB1.out).mono ?_
 rintro e w2 ⟨rfl,hb⟩;have HB2:Hid (Below w.heap.size w w2):=HB1.out.trans (hb.mono HB1.out.size);clear hb c2
 go_wp2
 go_ret
 exact ⟨by first|rfl|(simp;done),HB2.out⟩
set_option maxHeartbeats 1600000 in
theorem zmg {w:World} {L A S1 Q bp:Nat} {uv:Value} {P r nv:Nat} {lv:List Vl} {st:Nat->Int×Nat} {G:Nat->Value} (h:MdAt w L A S1 Q uv (.pointer (some ⟨bp,0,none⟩)) P r nv lv st G) (kd:Int) (hk:kd<0\/12<kd) (po tt vi sx:Int) (kv km me un nw li sh bu id:Int):Calls Tryz.prog 81 #[.pointer (some ⟨A,0,none⟩),opV kd po tt vi sx kv km me un nw li sh bu id] w (Says (.bool true) w):=by
 clear h
 have e0:(kd == 0)=false:=by simp;omega
 have e2:(kd == 2)=false:=by simp;omega
 have e4:(kd == 4)=false:=by simp;omega
 have e8:(kd == 8)=false:=by simp;omega
 have e10:(kd == 10)=false:=by simp;omega
 have e11:(kd == 11)=false:=by simp;omega
 have e12:(kd == 12)=false:=by simp;omega
 clear hk;unfold opV
 go_enter Tryz.func81,Tryz.ntmps81
 go_wp2_with fail
 go_ret
 exact ⟨rfl,(Below.refl _ _).alloc (Nat.le_refl _) _⟩
set_option maxRecDepth 20000 in
set_option maxHeartbeats 3200000 in
theorem zjl {E:Nat->Prop} {w:World} {L A S1 Q bp bq P r S B n nv:Nat} {uv:Value} {lv:List Vl} {st:Nat->Int×Nat} {g:Nat->Nat->Pl} {G:Nat->Value} {R:Nat->Nat} {qv:Nat->Nat->Value} {qs:Nat->Nat->List Int} (h:MdAll E w L A S1 Q bp bq P r S B n nv uv lv st g G R qv qs) (po tt:Int) (hpo:zah P po=false)  (vi sx kv km me un nw li sh bu id:Int):Calls Tryz.prog 58 #[.pointer (some ⟨A,0,none⟩),opV 0 po tt vi sx kv km me un nw li sh bu id] w (Says (.int .i64 (-1)) w):=by
 have HN:=Lib.hid fun w' (hb:Below w.heap.size w w')=>zae (h.md.call hb)
 have hmay:=fun w' (hb:Below w.heap.size w w')=>zhd (h.md.call hb) po tt vi sx kv km me un nw li sh bu id
 rw [hpo] at hmay;have HMAY:=Lib.hid hmay;have HBOX:=Lib.hid (zbf w 66 (.int .i64 (0)) (.int .i64 (po)) (.int .i64 (tt)) (.int .i64 (vi)) (.int .i64 (sx)) (.int .i64 (kv)) (.int .u64 (km)) (.int .u64 (me)) (.int .u64 (un)) (.int .u32 (nw)) (.int .u32 (li)) (.int .i64 (sh)) (.int .i64 (bu)) (.int .i64 (id)));have HLOW:=Lib.hid (zcd HBOX.out);have HUP:=Lib.hid (up14 HBOX.out);have hq:=zbg HBOX.out;have HH:=Lib.hid h;clear h hmay;unfold opV at HMAY |-
 go_enter Tryz.func58,Tryz.ntmps58
 go_wp2_with (first
  |(go_at_call 80;(with_reducible refine Calls.mono (HN.out _ (HLOW.out _ hq)) ?_);rintro e wa ⟨rfl,hba⟩;(have hq:=HUP.out _ _ hq hba);(obtain ⟨q0,q1,q2,q3,q4,q5,q6,q7,q8,q9,q10,q11,q12,q13⟩:=HBOX.out _ hq);clear hba)
  |(go_at_call 81;(with_reducible refine Calls.mono (HMAY.out _ (HLOW.out _ hq)) ?_);rintro e wa ⟨rfl,hba⟩;(have hq:=HUP.out _ _ hq hba);(obtain ⟨q0,q1,q2,q3,q4,q5,q6,q7,q8,q9,q10,q11,q12,q13⟩:=HBOX.out _ hq);clear hba)
  |fail)
 go_ret
 exact ⟨by first|rfl|(simp;done),HLOW.out _ hq⟩
set_option maxRecDepth 20000 in
set_option maxHeartbeats 3200000 in
theorem zi2 {E:Nat->Prop} {w:World} {L A S1 Q bp bq P r S B n nv:Nat} {uv:Value} {lv:List Vl} {st:Nat->Int×Nat} {g:Nat->Nat->Pl} {G:Nat->Value} {R:Nat->Nat} {qv:Nat->Nat->Value} {qs:Nat->Nat->List Int} (h:MdAll E w L A S1 Q bp bq P r S B n nv uv lv st g G R qv qs) (po tt:Int) (hpo:zah P po=false)  (vi sx kv km me un nw li sh bu id:Int):Calls Tryz.prog 58 #[.pointer (some ⟨A,0,none⟩),opV 2 po tt vi sx kv km me un nw li sh bu id] w (Says (.int .i64 (-1)) w):=by
 have HN:=Lib.hid fun w' (hb:Below w.heap.size w w')=>zae (h.md.call hb)
 have hmay:=fun w' (hb:Below w.heap.size w w')=>zht (h.md.call hb) po tt vi sx kv km me un nw li sh bu id
 rw [hpo] at hmay;have HMAY:=Lib.hid hmay;have HBOX:=Lib.hid (zbf w 66 (.int .i64 (2)) (.int .i64 (po)) (.int .i64 (tt)) (.int .i64 (vi)) (.int .i64 (sx)) (.int .i64 (kv)) (.int .u64 (km)) (.int .u64 (me)) (.int .u64 (un)) (.int .u32 (nw)) (.int .u32 (li)) (.int .i64 (sh)) (.int .i64 (bu)) (.int .i64 (id)));have HLOW:=Lib.hid (zcd HBOX.out);have HUP:=Lib.hid (up14 HBOX.out);have hq:=zbg HBOX.out;have HH:=Lib.hid h;clear h hmay;unfold opV at HMAY |-
 go_enter Tryz.func58,Tryz.ntmps58
 go_wp2_with (first
  |(go_at_call 80;(with_reducible refine Calls.mono (HN.out _ (HLOW.out _ hq)) ?_);rintro e wa ⟨rfl,hba⟩;(have hq:=HUP.out _ _ hq hba);(obtain ⟨q0,q1,q2,q3,q4,q5,q6,q7,q8,q9,q10,q11,q12,q13⟩:=HBOX.out _ hq);clear hba)
  |(go_at_call 81;(with_reducible refine Calls.mono (HMAY.out _ (HLOW.out _ hq)) ?_);rintro e wa ⟨rfl,hba⟩;(have hq:=HUP.out _ _ hq hba);(obtain ⟨q0,q1,q2,q3,q4,q5,q6,q7,q8,q9,q10,q11,q12,q13⟩:=HBOX.out _ hq);clear hba)
  |fail)
 go_ret
 exact ⟨by first|rfl|(simp;done),HLOW.out _ hq⟩
set_option maxRecDepth 20000 in
set_option maxHeartbeats 3200000 in
theorem zjm {E:Nat->Prop} {w:World} {L A S1 Q bp bq P r S B n nv:Nat} {uv:Value} {lv:List Vl} {st:Nat->Int×Nat} {g:Nat->Nat->Pl} {G:Nat->Value} {R:Nat->Nat} {qv:Nat->Nat->Value} {qs:Nat->Nat->List Int} (h:MdAll E w L A S1 Q bp bq P r S B n nv uv lv st g G R qv qs) (po tt:Int) (hpo:zah P po=false)  (vi sx kv km me un nw li sh bu id:Int):Calls Tryz.prog 58 #[.pointer (some ⟨A,0,none⟩),opV 4 po tt vi sx kv km me un nw li sh bu id] w (Says (.int .i64 (-1)) w):=by
 have HN:=Lib.hid fun w' (hb:Below w.heap.size w w')=>zae (h.md.call hb)
 have hmay:=fun w' (hb:Below w.heap.size w w')=>zhh (h.md.call hb) po tt vi sx kv km me un nw li sh bu id
 rw [hpo] at hmay;have HMAY:=Lib.hid hmay;have HBOX:=Lib.hid (zbf w 66 (.int .i64 (4)) (.int .i64 (po)) (.int .i64 (tt)) (.int .i64 (vi)) (.int .i64 (sx)) (.int .i64 (kv)) (.int .u64 (km)) (.int .u64 (me)) (.int .u64 (un)) (.int .u32 (nw)) (.int .u32 (li)) (.int .i64 (sh)) (.int .i64 (bu)) (.int .i64 (id)));have HLOW:=Lib.hid (zcd HBOX.out);have HUP:=Lib.hid (up14 HBOX.out);have hq:=zbg HBOX.out;have HH:=Lib.hid h;clear h hmay;unfold opV at HMAY |-
 go_enter Tryz.func58,Tryz.ntmps58
 go_wp2_with (first
  |(go_at_call 80;(with_reducible refine Calls.mono (HN.out _ (HLOW.out _ hq)) ?_);rintro e wa ⟨rfl,hba⟩;(have hq:=HUP.out _ _ hq hba);(obtain ⟨q0,q1,q2,q3,q4,q5,q6,q7,q8,q9,q10,q11,q12,q13⟩:=HBOX.out _ hq);clear hba)
  |(go_at_call 81;(with_reducible refine Calls.mono (HMAY.out _ (HLOW.out _ hq)) ?_);rintro e wa ⟨rfl,hba⟩;(have hq:=HUP.out _ _ hq hba);(obtain ⟨q0,q1,q2,q3,q4,q5,q6,q7,q8,q9,q10,q11,q12,q13⟩:=HBOX.out _ hq);clear hba)
  |fail)
 go_ret
 exact ⟨by first|rfl|(simp;done),HLOW.out _ hq⟩
set_option maxRecDepth 20000 in
set_option maxHeartbeats 3200000 in
theorem zi4 {E:Nat->Prop} {w:World} {L A S1 Q bp bq P r S B n nv:Nat} {uv:Value} {lv:List Vl} {st:Nat->Int×Nat} {g:Nat->Nat->Pl} {G:Nat->Value} {R:Nat->Nat} {qv:Nat->Nat->Value} {qs:Nat->Nat->List Int} (h:MdAll E w L A S1 Q bp bq P r S B n nv uv lv st g G R qv qs) (po tt:Int) (hpo:zah P po=false)  (vi sx kv km me un nw li sh bu id:Int):Calls Tryz.prog 58 #[.pointer (some ⟨A,0,none⟩),opV 8 po tt vi sx kv km me un nw li sh bu id] w (Says (.int .i64 (-1)) w):=by
 have HN:=Lib.hid fun w' (hb:Below w.heap.size w w')=>zae (h.md.call hb)
 have hmay:=fun w' (hb:Below w.heap.size w w')=>ze3 (h.md.call hb) po tt vi sx kv km me un nw li sh bu id
 rw [hpo] at hmay;have HMAY:=Lib.hid hmay;have HBOX:=Lib.hid (zbf w 66 (.int .i64 (8)) (.int .i64 (po)) (.int .i64 (tt)) (.int .i64 (vi)) (.int .i64 (sx)) (.int .i64 (kv)) (.int .u64 (km)) (.int .u64 (me)) (.int .u64 (un)) (.int .u32 (nw)) (.int .u32 (li)) (.int .i64 (sh)) (.int .i64 (bu)) (.int .i64 (id)));have HLOW:=Lib.hid (zcd HBOX.out);have HUP:=Lib.hid (up14 HBOX.out);have hq:=zbg HBOX.out;have HH:=Lib.hid h;clear h hmay;unfold opV at HMAY |-
 go_enter Tryz.func58,Tryz.ntmps58
 go_wp2_with (first
  |(go_at_call 80;(with_reducible refine Calls.mono (HN.out _ (HLOW.out _ hq)) ?_);rintro e wa ⟨rfl,hba⟩;(have hq:=HUP.out _ _ hq hba);(obtain ⟨q0,q1,q2,q3,q4,q5,q6,q7,q8,q9,q10,q11,q12,q13⟩:=HBOX.out _ hq);clear hba)
  |(go_at_call 81;(with_reducible refine Calls.mono (HMAY.out _ (HLOW.out _ hq)) ?_);rintro e wa ⟨rfl,hba⟩;(have hq:=HUP.out _ _ hq hba);(obtain ⟨q0,q1,q2,q3,q4,q5,q6,q7,q8,q9,q10,q11,q12,q13⟩:=HBOX.out _ hq);clear hba)
  |fail)
 go_ret
 exact ⟨by first|rfl|(simp;done),HLOW.out _ hq⟩
set_option maxRecDepth 20000 in
set_option maxHeartbeats 3200000 in
theorem zik {E:Nat->Prop} {w:World} {L A S1 Q bp bq P r S B n nv:Nat} {uv:Value} {lv:List Vl} {st:Nat->Int×Nat} {g:Nat->Nat->Pl} {G:Nat->Value} {R:Nat->Nat} {qv:Nat->Nat->Value} {qs:Nat->Nat->List Int} (h:MdAll E w L A S1 Q bp bq P r S B n nv uv lv st g G R qv qs) (po tt:Int) (hpo:zah P tt=false)  (vi sx kv km me un nw li sh bu id:Int):Calls Tryz.prog 58 #[.pointer (some ⟨A,0,none⟩),opV 12 po tt vi sx kv km me un nw li sh bu id] w (Says (.int .i64 (-1)) w):=by
 have HN:=Lib.hid fun w' (hb:Below w.heap.size w w')=>zae (h.md.call hb)
 have hmay:=fun w' (hb:Below w.heap.size w w')=>zf1 (h.md.call hb) po tt vi sx kv km me un nw li sh bu id
 rw [hpo] at hmay;have HMAY:=Lib.hid hmay;have HBOX:=Lib.hid (zbf w 66 (.int .i64 (12)) (.int .i64 (po)) (.int .i64 (tt)) (.int .i64 (vi)) (.int .i64 (sx)) (.int .i64 (kv)) (.int .u64 (km)) (.int .u64 (me)) (.int .u64 (un)) (.int .u32 (nw)) (.int .u32 (li)) (.int .i64 (sh)) (.int .i64 (bu)) (.int .i64 (id)));have HLOW:=Lib.hid (zcd HBOX.out);have HUP:=Lib.hid (up14 HBOX.out);have hq:=zbg HBOX.out;have HH:=Lib.hid h;clear h hmay;unfold opV at HMAY |-
 go_enter Tryz.func58,Tryz.ntmps58
 go_wp2_with (first
  |(go_at_call 80;(with_reducible refine Calls.mono (HN.out _ (HLOW.out _ hq)) ?_);rintro e wa ⟨rfl,hba⟩;(have hq:=HUP.out _ _ hq hba);(obtain ⟨q0,q1,q2,q3,q4,q5,q6,q7,q8,q9,q10,q11,q12,q13⟩:=HBOX.out _ hq);clear hba)
  |(go_at_call 81;(with_reducible refine Calls.mono (HMAY.out _ (HLOW.out _ hq)) ?_);rintro e wa ⟨rfl,hba⟩;(have hq:=HUP.out _ _ hq hba);(obtain ⟨q0,q1,q2,q3,q4,q5,q6,q7,q8,q9,q10,q11,q12,q13⟩:=HBOX.out _ hq);clear hba)
  |fail)
 go_ret
 exact ⟨by first|rfl|(simp;done),HLOW.out _ hq⟩
set_option maxRecDepth 20000 in
set_option maxHeartbeats 3200000 in
theorem zgy {E:Nat->Prop} {w:World} {L A S1 Q bp bq P r S B n nv:Nat} {uv:Value} {lv:List Vl} {st:Nat->Int×Nat} {g:Nat->Nat->Pl} {G:Nat->Value} {R:Nat->Nat} {qv:Nat->Nat->Value} {qs:Nat->Nat->List Int} (h:MdAll E w L A S1 Q bp bq P r S B n nv uv lv st g G R qv qs) (po tt:Int) (h1:zah P po=false)  (vi sx kv km me un nw li sh bu id:Int):Calls Tryz.prog 58 #[.pointer (some ⟨A,0,none⟩),opV 10 po tt vi sx kv km me un nw li sh bu id] w (Says (.int .i64 (-1)) w):=by
 have HN:=Lib.hid fun w' (hb:Below w.heap.size w w')=>zae (h.md.call hb)
 have hmay:=fun w' (hb:Below w.heap.size w w')=>zgp (h.md.call hb) po tt vi sx kv km me un nw li sh bu id h1
 have HMAY:=Lib.hid hmay;have HBOX:=Lib.hid (zbf w 66 (.int .i64 (10)) (.int .i64 (po)) (.int .i64 (tt)) (.int .i64 (vi)) (.int .i64 (sx)) (.int .i64 (kv)) (.int .u64 (km)) (.int .u64 (me)) (.int .u64 (un)) (.int .u32 (nw)) (.int .u32 (li)) (.int .i64 (sh)) (.int .i64 (bu)) (.int .i64 (id)));have HLOW:=Lib.hid (zcd HBOX.out);have HUP:=Lib.hid (up14 HBOX.out);have hq:=zbg HBOX.out;have HH:=Lib.hid h;clear h hmay;unfold opV at HMAY |-
 go_enter Tryz.func58,Tryz.ntmps58
 go_wp2_with (first
  |(go_at_call 80;(with_reducible refine Calls.mono (HN.out _ (HLOW.out _ hq)) ?_);rintro e wa ⟨rfl,hba⟩;(have hq:=HUP.out _ _ hq hba);(obtain ⟨q0,q1,q2,q3,q4,q5,q6,q7,q8,q9,q10,q11,q12,q13⟩:=HBOX.out _ hq);clear hba)
  |(go_at_call 81;(with_reducible refine Calls.mono (HMAY.out _ (HLOW.out _ hq)) ?_);rintro e wa ⟨rfl,hba⟩;(have hq:=HUP.out _ _ hq hba);(obtain ⟨q0,q1,q2,q3,q4,q5,q6,q7,q8,q9,q10,q11,q12,q13⟩:=HBOX.out _ hq);clear hba)
  |fail)
 go_ret
 exact ⟨by first|rfl|(simp;done),HLOW.out _ hq⟩
set_option maxRecDepth 20000 in
set_option maxHeartbeats 3200000 in
theorem zgo {E:Nat->Prop} {w:World} {L A S1 Q bp bq P r S B n nv:Nat} {uv:Value} {lv:List Vl} {st:Nat->Int×Nat} {g:Nat->Nat->Pl} {G:Nat->Value} {R:Nat->Nat} {qv:Nat->Nat->Value} {qs:Nat->Nat->List Int} (h:MdAll E w L A S1 Q bp bq P r S B n nv uv lv st g G R qv qs) (po tt:Int) (h1:zah P po=true) (h2:zah P tt=false)  (vi sx kv km me un nw li sh bu id:Int):Calls Tryz.prog 58 #[.pointer (some ⟨A,0,none⟩),opV 10 po tt vi sx kv km me un nw li sh bu id] w (Says (.int .i64 (-1)) w):=by
 have HN:=Lib.hid fun w' (hb:Below w.heap.size w w')=>zae (h.md.call hb)
 have hmay:=fun w' (hb:Below w.heap.size w w')=>zgx (h.md.call hb) po tt vi sx kv km me un nw li sh bu id h1 h2
 have HMAY:=Lib.hid hmay;have HBOX:=Lib.hid (zbf w 66 (.int .i64 (10)) (.int .i64 (po)) (.int .i64 (tt)) (.int .i64 (vi)) (.int .i64 (sx)) (.int .i64 (kv)) (.int .u64 (km)) (.int .u64 (me)) (.int .u64 (un)) (.int .u32 (nw)) (.int .u32 (li)) (.int .i64 (sh)) (.int .i64 (bu)) (.int .i64 (id)));have HLOW:=Lib.hid (zcd HBOX.out);have HUP:=Lib.hid (up14 HBOX.out);have hq:=zbg HBOX.out;have HH:=Lib.hid h;clear h hmay;unfold opV at HMAY |-
 go_enter Tryz.func58,Tryz.ntmps58
 go_wp2_with (first
  |(go_at_call 80;(with_reducible refine Calls.mono (HN.out _ (HLOW.out _ hq)) ?_);rintro e wa ⟨rfl,hba⟩;(have hq:=HUP.out _ _ hq hba);(obtain ⟨q0,q1,q2,q3,q4,q5,q6,q7,q8,q9,q10,q11,q12,q13⟩:=HBOX.out _ hq);clear hba)
  |(go_at_call 81;(with_reducible refine Calls.mono (HMAY.out _ (HLOW.out _ hq)) ?_);rintro e wa ⟨rfl,hba⟩;(have hq:=HUP.out _ _ hq hba);(obtain ⟨q0,q1,q2,q3,q4,q5,q6,q7,q8,q9,q10,q11,q12,q13⟩:=HBOX.out _ hq);clear hba)
  |fail)
 go_ret
 exact ⟨by first|rfl|(simp;done),HLOW.out _ hq⟩
set_option maxRecDepth 20000 in
set_option maxHeartbeats 3200000 in
theorem zgw {E:Nat->Prop} {w:World} {L A S1 Q bp bq P r S B n nv:Nat} {uv:Value} {lv:List Vl} {st:Nat->Int×Nat} {g:Nat->Nat->Pl} {G:Nat->Value} {R:Nat->Nat} {qv:Nat->Nat->Value} {qs:Nat->Nat->List Int} (h:MdAll E w L A S1 Q bp bq P r S B n nv uv lv st g G R qv qs) (po tt:Int) (h1:zah P po=false)  (vi sx kv km me un nw li sh bu id:Int):Calls Tryz.prog 58 #[.pointer (some ⟨A,0,none⟩),opV 11 po tt vi sx kv km me un nw li sh bu id] w (Says (.int .i64 (-1)) w):=by
 have HN:=Lib.hid fun w' (hb:Below w.heap.size w w')=>zae (h.md.call hb)
 have hmay:=fun w' (hb:Below w.heap.size w w')=>zgz (h.md.call hb) po tt vi sx kv km me un nw li sh bu id h1
 have HMAY:=Lib.hid hmay;have HBOX:=Lib.hid (zbf w 66 (.int .i64 (11)) (.int .i64 (po)) (.int .i64 (tt)) (.int .i64 (vi)) (.int .i64 (sx)) (.int .i64 (kv)) (.int .u64 (km)) (.int .u64 (me)) (.int .u64 (un)) (.int .u32 (nw)) (.int .u32 (li)) (.int .i64 (sh)) (.int .i64 (bu)) (.int .i64 (id)));have HLOW:=Lib.hid (zcd HBOX.out);have HUP:=Lib.hid (up14 HBOX.out);have hq:=zbg HBOX.out;have HH:=Lib.hid h;clear h hmay;unfold opV at HMAY |-
 go_enter Tryz.func58,Tryz.ntmps58
 go_wp2_with (first
  |(go_at_call 80;(with_reducible refine Calls.mono (HN.out _ (HLOW.out _ hq)) ?_);rintro e wa ⟨rfl,hba⟩;(have hq:=HUP.out _ _ hq hba);(obtain ⟨q0,q1,q2,q3,q4,q5,q6,q7,q8,q9,q10,q11,q12,q13⟩:=HBOX.out _ hq);clear hba)
  |(go_at_call 81;(with_reducible refine Calls.mono (HMAY.out _ (HLOW.out _ hq)) ?_);rintro e wa ⟨rfl,hba⟩;(have hq:=HUP.out _ _ hq hba);(obtain ⟨q0,q1,q2,q3,q4,q5,q6,q7,q8,q9,q10,q11,q12,q13⟩:=HBOX.out _ hq);clear hba)
  |fail)
 go_ret
 exact ⟨by first|rfl|(simp;done),HLOW.out _ hq⟩
set_option maxRecDepth 20000 in
set_option maxHeartbeats 3200000 in
theorem zgr {E:Nat->Prop} {w:World} {L A S1 Q bp bq P r S B n nv:Nat} {uv:Value} {lv:List Vl} {st:Nat->Int×Nat} {g:Nat->Nat->Pl} {G:Nat->Value} {R:Nat->Nat} {qv:Nat->Nat->Value} {qs:Nat->Nat->List Int} (h:MdAll E w L A S1 Q bp bq P r S B n nv uv lv st g G R qv qs) (po tt:Int) (h1:zah P po=true) (h2:zah P tt=false)  (vi sx kv km me un nw li sh bu id:Int):Calls Tryz.prog 58 #[.pointer (some ⟨A,0,none⟩),opV 11 po tt vi sx kv km me un nw li sh bu id] w (Says (.int .i64 (-1)) w):=by
 have HN:=Lib.hid fun w' (hb:Below w.heap.size w w')=>zae (h.md.call hb)
 have hmay:=fun w' (hb:Below w.heap.size w w')=>zgu (h.md.call hb) po tt vi sx kv km me un nw li sh bu id h1 h2
 have HMAY:=Lib.hid hmay;have HBOX:=Lib.hid (zbf w 66 (.int .i64 (11)) (.int .i64 (po)) (.int .i64 (tt)) (.int .i64 (vi)) (.int .i64 (sx)) (.int .i64 (kv)) (.int .u64 (km)) (.int .u64 (me)) (.int .u64 (un)) (.int .u32 (nw)) (.int .u32 (li)) (.int .i64 (sh)) (.int .i64 (bu)) (.int .i64 (id)));have HLOW:=Lib.hid (zcd HBOX.out);have HUP:=Lib.hid (up14 HBOX.out);have hq:=zbg HBOX.out;have HH:=Lib.hid h;clear h hmay;unfold opV at HMAY |-
 go_enter Tryz.func58,Tryz.ntmps58
 go_wp2_with (first
  |(go_at_call 80;(with_reducible refine Calls.mono (HN.out _ (HLOW.out _ hq)) ?_);rintro e wa ⟨rfl,hba⟩;(have hq:=HUP.out _ _ hq hba);(obtain ⟨q0,q1,q2,q3,q4,q5,q6,q7,q8,q9,q10,q11,q12,q13⟩:=HBOX.out _ hq);clear hba)
  |(go_at_call 81;(with_reducible refine Calls.mono (HMAY.out _ (HLOW.out _ hq)) ?_);rintro e wa ⟨rfl,hba⟩;(have hq:=HUP.out _ _ hq hba);(obtain ⟨q0,q1,q2,q3,q4,q5,q6,q7,q8,q9,q10,q11,q12,q13⟩:=HBOX.out _ hq);clear hba)
  |fail)
 go_ret
 exact ⟨by first|rfl|(simp;done),HLOW.out _ hq⟩
set_option maxRecDepth 20000 in
set_option maxHeartbeats 3200000 in
theorem zkw {E:Nat->Prop} {w:World} {L A S1 Q bp bq P r S B n nv:Nat} {uv:Value} {lv:List Vl} {st:Nat->Int×Nat} {g:Nat->Nat->Pl} {G:Nat->Value} {R:Nat->Nat} {qv:Nat->Nat->Value} {qs:Nat->Nat->List Int} (h:MdAll E w L A S1 Q bp bq P r S B n nv uv lv st g G R qv qs) (p:Nat) (hp:p<P) (x:Int) (hx:zau x=false)  (tt vi kv km me un nw li sh bu id:Int):Calls Tryz.prog 58 #[.pointer (some ⟨A,0,none⟩),opV 8 ((p:Nat)) tt vi x kv km me un nw li sh bu id] w (Says (.int .i64 (-1)) w):=by
 have HN:=Lib.hid fun w' (hb:Below w.heap.size w w')=>zae (h.md.call hb)
 have hmay:=fun w' (hb:Below w.heap.size w w')=>ze3 (h.md.call hb) (p:Nat) tt vi x kv km me un nw li sh bu id
 have hpb:zah P (p:Int)=true:=zan hp
 rw [hpb] at hmay;clear hpb
 have HC:=Lib.hid fun w' (hb:Below w.heap.size w w')=>zfi (h.md.call hb) p hp x hx
 have HMAY:=Lib.hid hmay;have HBOX:=Lib.hid (zbf w 66 (.int .i64 (8)) (.int .i64 ((p:Nat))) (.int .i64 (tt)) (.int .i64 (vi)) (.int .i64 (x)) (.int .i64 (kv)) (.int .u64 (km)) (.int .u64 (me)) (.int .u64 (un)) (.int .u32 (nw)) (.int .u32 (li)) (.int .i64 (sh)) (.int .i64 (bu)) (.int .i64 (id)));have HLOW:=Lib.hid (zcd HBOX.out);have HUP:=Lib.hid (up14 HBOX.out);have hq:=zbg HBOX.out;have HH:=Lib.hid h;clear h hmay;unfold opV at HMAY |-
 go_enter Tryz.func58,Tryz.ntmps58
 go_wp2_with (first
  |(go_at_call 80;(with_reducible refine Calls.mono (HN.out _ (HLOW.out _ hq)) ?_);rintro e wa ⟨rfl,hba⟩;(have hq:=HUP.out _ _ hq hba);(obtain ⟨q0,q1,q2,q3,q4,q5,q6,q7,q8,q9,q10,q11,q12,q13⟩:=HBOX.out _ hq);clear hba)
  |(go_at_call 81;(with_reducible refine Calls.mono (HMAY.out _ (HLOW.out _ hq)) ?_);rintro e wa ⟨rfl,hba⟩;(have hq:=HUP.out _ _ hq hba);(obtain ⟨q0,q1,q2,q3,q4,q5,q6,q7,q8,q9,q10,q11,q12,q13⟩:=HBOX.out _ hq);clear hba)
  |(go_at_call 90;(with_reducible refine Calls.mono (HC.out _ (HLOW.out _ hq)) ?_);rintro e wz ⟨rfl,hbz⟩;(have HBZ:=Lib.hid (HLOW.out _ (HUP.out _ _ hq hbz)));clear hbz hq)
  |fail)
 go_ret
 exact ⟨by first|rfl|(simp;done),HBZ.out⟩
set_option maxRecDepth 20000 in
set_option maxHeartbeats 3200000 in
theorem zn3 {E:Nat->Prop} {w:World} {L A S1 Q bp bq P r S B n nv:Nat} {uv:Value} {lv:List Vl} {st:Nat->Int×Nat} {g:Nat->Nat->Pl} {G:Nat->Value} {R:Nat->Nat} {qv:Nat->Nat->Value} {qs:Nat->Nat->List Int} (h:MdAll E w L A S1 Q bp bq P r S B n nv uv lv st g G R qv qs) (kd:Int) (hk:kd<0\/12<kd)  (po tt vi sx kv km me un nw li sh bu id:Int):Calls Tryz.prog 58 #[.pointer (some ⟨A,0,none⟩),opV kd po tt vi sx kv km me un nw li sh bu id] w (Says (.int .i64 (-1)) w):=by
 have HN:=Lib.hid fun w' (hb:Below w.heap.size w w')=>zae (h.md.call hb)
 have hmay:=fun w' (hb:Below w.heap.size w w')=>zmg (h.md.call hb) kd hk po tt vi sx kv km me un nw li sh bu id
 have e0:(kd == 0)=false:=by simp;omega
 have e1:(kd == 1)=false:=by simp;omega
 have e2:(kd == 2)=false:=by simp;omega
 have e3:(kd == 3)=false:=by simp;omega
 have e4:(kd == 4)=false:=by simp;omega
 have e5:(kd == 5)=false:=by simp;omega
 have e6:(kd == 6)=false:=by simp;omega
 have e7:(kd == 7)=false:=by simp;omega
 have e8:(kd == 8)=false:=by simp;omega
 have e9:(kd == 9)=false:=by simp;omega
 have e10:(kd == 10)=false:=by simp;omega
 have e11:(kd == 11)=false:=by simp;omega
 have e12:(kd == 12)=false:=by simp;omega
 clear hk;have HMAY:=Lib.hid hmay;have HBOX:=Lib.hid (zbf w 66 (.int .i64 (kd)) (.int .i64 (po)) (.int .i64 (tt)) (.int .i64 (vi)) (.int .i64 (sx)) (.int .i64 (kv)) (.int .u64 (km)) (.int .u64 (me)) (.int .u64 (un)) (.int .u32 (nw)) (.int .u32 (li)) (.int .i64 (sh)) (.int .i64 (bu)) (.int .i64 (id)));have HLOW:=Lib.hid (zcd HBOX.out);have HUP:=Lib.hid (up14 HBOX.out);have hq:=zbg HBOX.out;have HH:=Lib.hid h;clear h hmay;unfold opV at HMAY |-
 go_enter Tryz.func58,Tryz.ntmps58
 go_wp2_with (first
  |(go_at_call 80;(with_reducible refine Calls.mono (HN.out _ (HLOW.out _ hq)) ?_);rintro e wa ⟨rfl,hba⟩;(have hq:=HUP.out _ _ hq hba);(obtain ⟨q0,q1,q2,q3,q4,q5,q6,q7,q8,q9,q10,q11,q12,q13⟩:=HBOX.out _ hq);clear hba)
  |(go_at_call 81;(with_reducible refine Calls.mono (HMAY.out _ (HLOW.out _ hq)) ?_);rintro e wa ⟨rfl,hba⟩;(have hq:=HUP.out _ _ hq hba);(obtain ⟨q0,q1,q2,q3,q4,q5,q6,q7,q8,q9,q10,q11,q12,q13⟩:=HBOX.out _ hq);clear hba)
  |fail)
 go_ret
 exact ⟨by first|rfl|(simp;done),HLOW.out _ hq⟩
end Go.Proofs.YtfekhdgjgjodlaaGreat
