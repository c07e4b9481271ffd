/-
  Words and contracts that a statement's proof rests on (MoH). No statement is proved here.
-/
import Derived.Test.YtfekhdgjgjodlaaGreatBkE
import Derived.Test.YtfekhdgjgjodlaaGreatBkI
import Derived.Test.YtfekhdgjgjodlaaGreatMrD
set_option linter.unusedVariables false
set_option linter.unusedSimpArgs false
namespace Go.Proofs.YtfekhdgjgjodlaaGreat
open Go.RowKit
set_option maxRecDepth 20000 in
set_option maxHeartbeats 3200000 in
theorem zpo {E:Nat->Prop} {w:World} {L A S1 Q bp bq P r S B n nv:Nat} {uv:Value} {lv:List Vl} {st:Nat->Int×Nat} {g:Nat->Nat->Pl} {G:Nat->Value} {R:Nat->Nat} {qv:Nat->Nat->Value} {qs:Nat->Nat->List Int} (h:MdAll E w L A S1 Q bp bq P r S B n nv uv lv st g G R qv qs)   (po tt vi sx kv km me un nw li sh bu id:Int):Calls Tryz.prog 58 #[.pointer (some ⟨A,0,none⟩),opV 1 po tt vi sx kv km me un nw li sh bu id] w (Says (.int .i64 (zer lv nv vi)) w):=by
 have HN:=Lib.hid fun w' (hb:Below w.heap.size w w')=>zae (h.md.call hb)
 have hmay:=fun w' (hb:Below w.heap.size w w')=>zmu (h.md.call hb) po tt vi sx kv km me un nw li sh bu id
 have HC:=Lib.hid fun w' (hb:Below w.heap.size w w')=>zh4 (h.md.call hb) vi
 have HMAY:=Lib.hid hmay;have HBOX:=Lib.hid (zbf w 66 (.int .i64 (1)) (.int .i64 (po)) (.int .i64 (tt)) (.int .i64 (vi)) (.int .i64 (sx)) (.int .i64 (kv)) (.int .u64 (km)) (.int .u64 (me)) (.int .u64 (un)) (.int .u32 (nw)) (.int .u32 (li)) (.int .i64 (sh)) (.int .i64 (bu)) (.int .i64 (id)));have HLOW:=Lib.hid (zcd HBOX.out);have HUP:=Lib.hid (up14 HBOX.out);have hq:=zbg HBOX.out;have HH:=Lib.hid h;clear h hmay;unfold opV at HMAY |-
 go_enter Tryz.func58,Tryz.ntmps58
 go_wp2_with (first
  |(go_at_call 80;(with_reducible refine Calls.mono (HN.out _ (HLOW.out _ hq)) ?_);rintro e wa ⟨rfl,hba⟩;(have hq:=HUP.out _ _ hq hba);(obtain ⟨q0,q1,q2,q3,q4,q5,q6,q7,q8,q9,q10,q11,q12,q13⟩:=HBOX.out _ hq);clear hba)
  |(go_at_call 81;(with_reducible refine Calls.mono (HMAY.out _ (HLOW.out _ hq)) ?_);rintro e wa ⟨rfl,hba⟩;(have hq:=HUP.out _ _ hq hba);(obtain ⟨q0,q1,q2,q3,q4,q5,q6,q7,q8,q9,q10,q11,q12,q13⟩:=HBOX.out _ hq);clear hba)
  |(go_at_call 82;(with_reducible refine Calls.mono (HC.out _ (HLOW.out _ hq)) ?_);rintro e wz ⟨rfl,hbz⟩;(have HBZ:=Lib.hid (HLOW.out _ (HUP.out _ _ hq hbz)));clear hbz hq)
  |fail)
 go_ret
 exact ⟨by first|rfl|(simp;done),HBZ.out⟩
set_option maxRecDepth 20000 in
set_option maxHeartbeats 3200000 in
theorem zjs {E:Nat->Prop} {w:World} {L A S1 Q bp bq P r S B n nv:Nat} {uv:Value} {lv:List Vl} {st:Nat->Int×Nat} {g:Nat->Nat->Pl} {G:Nat->Value} {R:Nat->Nat} {qv:Nat->Nat->Value} {qs:Nat->Nat->List Int} (h:MdAll E w L A S1 Q bp bq P r S B n nv uv lv st g G R qv qs) (vi:Int) (hneg:zax lv vi nv<0) (me un:Nat) (po tt sx kv km nw li sh bu id:Int):Calls Tryz.prog 58 #[.pointer (some ⟨A,0,none⟩),opV 9 po tt vi sx kv km ((me:Nat)) ((un:Nat)) nw li sh bu id] w (Says (.int .i64 0) w):=by
 have HN:=Lib.hid fun w' (hb:Below w.heap.size w w')=>zae (h.md.call hb)
 have hmay:=fun w' (hb:Below w.heap.size w w')=>zg2 (h.md.call hb) po tt vi sx kv km (me:Nat) (un:Nat) nw li sh bu id
 have HC:=Lib.hid fun w' (hb:Below w.heap.size w w')=>zf5 (h.md.call hb) vi me un hneg
 have HNU:=Lib.hid fun w=>zcf false w
 have HMAY:=Lib.hid hmay;have HBOX:=Lib.hid (zbf w 66 (.int .i64 (9)) (.int .i64 (po)) (.int .i64 (tt)) (.int .i64 (vi)) (.int .i64 (sx)) (.int .i64 (kv)) (.int .u64 (km)) (.int .u64 ((me:Nat))) (.int .u64 ((un:Nat))) (.int .u32 (nw)) (.int .u32 (li)) (.int .i64 (sh)) (.int .i64 (bu)) (.int .i64 (id)));have HLOW:=Lib.hid (zcd HBOX.out);have HUP:=Lib.hid (up14 HBOX.out);have hq:=zbg HBOX.out;have HH:=Lib.hid h;clear h hmay;unfold opV at HMAY |-
 go_enter Tryz.func58,Tryz.ntmps58
 go_wp2_with (first
  |(go_at_call 80;(with_reducible refine Calls.mono (HN.out _ (HLOW.out _ hq)) ?_);rintro e wa ⟨rfl,hba⟩;(have hq:=HUP.out _ _ hq hba);(obtain ⟨q0,q1,q2,q3,q4,q5,q6,q7,q8,q9,q10,q11,q12,q13⟩:=HBOX.out _ hq);clear hba)
  |(go_at_call 81;(with_reducible refine Calls.mono (HMAY.out _ (HLOW.out _ hq)) ?_);rintro e wa ⟨rfl,hba⟩;(have hq:=HUP.out _ _ hq hba);(obtain ⟨q0,q1,q2,q3,q4,q5,q6,q7,q8,q9,q10,q11,q12,q13⟩:=HBOX.out _ hq);clear hba)
  |(go_at_call 91;(with_reducible refine Calls.mono (HC.out _ (HLOW.out _ hq)) ?_);rintro e wz ⟨rfl,hbz⟩;(have HBZ:=Lib.hid (HLOW.out _ (HUP.out _ _ hq hbz)));clear hbz hq)
  |(go_at_call 86;(with_reducible refine Calls.mono (HNU.out _) ?_);rintro e wy ⟨rfl,hby⟩;(have HBY:=Lib.hid hby);clear hby)
  |fail)
 go_ret
 exact ⟨by first|rfl|(simp;done),HBZ.out.trans (HBY.out.mono HBZ.out.size)⟩
set_option maxRecDepth 20000 in
set_option maxHeartbeats 3200000 in
theorem zo6 {E:Nat->Prop} {w:World} {L A S1 Q bp bq P r S B n nv:Nat} {uv:Value} {lv:List Vl} {st:Nat->Int×Nat} {g:Nat->Nat->Pl} {G:Nat->Value} {R:Nat->Nat} {qv:Nat->Nat->Value} {qs:Nat->Nat->List Int} (h:MdAll E w L A S1 Q bp bq P r S B n nv uv lv st g G R qv qs) (vi:Int) (me un:Nat) (hme:me<18446744073709551616) (hun:un<18446744073709551616) (j:Nat) (hj:zax lv vi nv=(j:Int)) (po tt sx kv km nw li sh bu id:Int):Calls Tryz.prog 58 #[.pointer (some ⟨A,0,none⟩),opV 9 po tt vi sx kv km ((me:Nat)) ((un:Nat)) nw li sh bu id] w fun e w'=>e=.returned (.int .i64 1)/\MdAll E w' L A S1 Q bp bq P r S B n nv uv (lv.set j ⟨vi,me &&& allN P,un &&& (me &&& allN P)⟩) st g G R qv qs/\MdFr E w w' L:=by
 have HN:=Lib.hid fun w' (hb:Below w.heap.size w w')=>zae (h.md.call hb)
 have hmay:=fun w' (hb:Below w.heap.size w w')=>zg2 (h.md.call hb) po tt vi sx kv km (me:Nat) (un:Nat) nw li sh bu id
 have HC:=Lib.hid fun w' (hb:Below w.heap.size w w')=>zib (h.md.call hb) vi me un hme hun j hj
 have HNU:=Lib.hid fun w=>zcf true w
 have HMAY:=Lib.hid hmay;have HBOX:=Lib.hid (zbf w 66 (.int .i64 (9)) (.int .i64 (po)) (.int .i64 (tt)) (.int .i64 (vi)) (.int .i64 (sx)) (.int .i64 (kv)) (.int .u64 (km)) (.int .u64 ((me:Nat))) (.int .u64 ((un:Nat))) (.int .u32 (nw)) (.int .u32 (li)) (.int .i64 (sh)) (.int .i64 (bu)) (.int .i64 (id)));have HLOW:=Lib.hid (zcd HBOX.out);have HUP:=Lib.hid (up14 HBOX.out);have hq:=zbg HBOX.out;have HH:=Lib.hid h;clear h hmay;unfold opV at HMAY |-
 go_enter Tryz.func58,Tryz.ntmps58
 go_wp2_with (first
  |(go_at_call 80;(with_reducible refine Calls.mono (HN.out _ (HLOW.out _ hq)) ?_);rintro e wa ⟨rfl,hba⟩;(have hq:=HUP.out _ _ hq hba);(obtain ⟨q0,q1,q2,q3,q4,q5,q6,q7,q8,q9,q10,q11,q12,q13⟩:=HBOX.out _ hq);clear hba)
  |(go_at_call 81;(with_reducible refine Calls.mono (HMAY.out _ (HLOW.out _ hq)) ?_);rintro e wa ⟨rfl,hba⟩;(have hq:=HUP.out _ _ hq hba);(obtain ⟨q0,q1,q2,q3,q4,q5,q6,q7,q8,q9,q10,q11,q12,q13⟩:=HBOX.out _ hq);clear hba)
  |(go_at_call 91;(with_reducible refine Calls.mono (HC.out _ (HLOW.out _ hq)) ?_);rintro e wz ⟨rfl,hmd,vb,hvb,hbt⟩;(have HMD:Hid (MdAll E wz L A S1 Q bp bq P r S B n nv uv (lv.set j ⟨vi,me &&& allN P,un &&& (me &&& allN P)⟩) st g G R qv qs/\MdFr E w wz L):=⟨(HH.out.call (HLOW.out _ hq)).but hmd hbt (.inr hvb),MdFr.of_but HH.out (HLOW.out _ hq) hbt (.inl (.inl (.inr (.inr (.inr hvb))))) (HH.out.md.vlans.lt vb hvb).1⟩);clear hmd hbt hq)
  |(go_at_call 86;(with_reducible refine Calls.mono (HNU.out _) ?_);rintro e wy ⟨rfl,hby⟩;(have HBY:=Lib.hid hby);clear hby)
  |fail)
 go_ret
 exact ⟨by first|rfl|(simp;done),HMD.out.1.call HBY.out,MdFr.call HH.out HMD.out.2 HBY.out⟩
set_option maxRecDepth 20000 in
set_option maxHeartbeats 3200000 in
theorem zim {E:Nat->Prop} {w:World} {L A S1 Q bp bq P r S B n nv:Nat} {uv:Value} {lv:List Vl} {st:Nat->Int×Nat} {g:Nat->Nat->Pl} {G:Nat->Value} {R:Nat->Nat} {qv:Nat->Nat->Value} {qs:Nat->Nat->List Int} (h:MdAll E w L A S1 Q bp bq P r S B n nv uv lv st g G R qv qs) (i j:Nat) (hi:i<P) (hj:j<P) (hfull:r<=(qs i j).length)  (vi sx kv km me un nw li sh bu id:Int):Calls Tryz.prog 58 #[.pointer (some ⟨A,0,none⟩),opV 10 ((i:Nat)) ((j:Nat)) vi sx kv km me un nw li sh bu id] w (Says (.int .i64 0) w):=by
 have HN:=Lib.hid fun w' (hb:Below w.heap.size w w')=>zae (h.md.call hb)
 have hmay:=fun w' (hb:Below w.heap.size w w')=>zgc (h.md.call hb) (i:Nat) (j:Nat) vi sx kv km me un nw li sh bu id (zan hi) (zan hj)
 have HC:=Lib.hid fun w' (hb:Below w.heap.size w w')=>zk7 (h.md.call hb) (h.qu.call hb) i j hi hj id hfull
 have HNU:=Lib.hid fun w=>zcf false w
 have HMAY:=Lib.hid hmay;have HBOX:=Lib.hid (zbf w 66 (.int .i64 (10)) (.int .i64 ((i:Nat))) (.int .i64 ((j:Nat))) (.int .i64 (vi)) (.int .i64 (sx)) (.int .i64 (kv)) (.int .u64 (km)) (.int .u64 (me)) (.int .u64 (un)) (.int .u32 (nw)) (.int .u32 (li)) (.int .i64 (sh)) (.int .i64 (bu)) (.int .i64 (id)));have HLOW:=Lib.hid (zcd HBOX.out);have HUP:=Lib.hid (up14 HBOX.out);have hq:=zbg HBOX.out;have HH:=Lib.hid h;clear h hmay;unfold opV at HMAY |-
 go_enter Tryz.func58,Tryz.ntmps58
 go_wp2_with (first
  |(go_at_call 80;(with_reducible refine Calls.mono (HN.out _ (HLOW.out _ hq)) ?_);rintro e wa ⟨rfl,hba⟩;(have hq:=HUP.out _ _ hq hba);(obtain ⟨q0,q1,q2,q3,q4,q5,q6,q7,q8,q9,q10,q11,q12,q13⟩:=HBOX.out _ hq);clear hba)
  |(go_at_call 81;(with_reducible refine Calls.mono (HMAY.out _ (HLOW.out _ hq)) ?_);rintro e wa ⟨rfl,hba⟩;(have hq:=HUP.out _ _ hq hba);(obtain ⟨q0,q1,q2,q3,q4,q5,q6,q7,q8,q9,q10,q11,q12,q13⟩:=HBOX.out _ hq);clear hba)
  |(go_at_call 92;(with_reducible refine Calls.mono (HC.out _ (HLOW.out _ hq)) ?_);rintro e wz ⟨rfl,hbz⟩;(have HBZ:=Lib.hid (HLOW.out _ (HUP.out _ _ hq hbz)));clear hbz hq)
  |(go_at_call 86;(with_reducible refine Calls.mono (HNU.out _) ?_);rintro e wy ⟨rfl,hby⟩;(have HBY:=Lib.hid hby);clear hby)
  |fail)
 go_ret
 exact ⟨by first|rfl|(simp;done),HBZ.out.trans (HBY.out.mono HBZ.out.size)⟩
set_option maxRecDepth 20000 in
set_option maxHeartbeats 3200000 in
theorem zng {E:Nat->Prop} {w:World} {L A S1 Q bp bq P r S B n nv:Nat} {uv:Value} {lv:List Vl} {st:Nat->Int×Nat} {g:Nat->Nat->Pl} {G:Nat->Value} {R:Nat->Nat} {qv:Nat->Nat->Value} {qs:Nat->Nat->List Int} (h:MdAll E w L A S1 Q bp bq P r S B n nv uv lv st g G R qv qs) (i j:Nat) (hi:i<P) (hj:j<P) (hP:P<=64) (hr:r<=64) (hroom:(qs i j).length<r)  (vi sx kv km me un nw li sh bu id:Int):Calls Tryz.prog 58 #[.pointer (some ⟨A,0,none⟩),opV 10 ((i:Nat)) ((j:Nat)) vi sx kv km me un nw li sh bu id] w fun e w'=>e=.returned (.int .i64 1)/\(∃ qv',MdAll E w' L A S1 Q bp bq P r S B n nv uv lv st g G R qv' (upd2 qs i j (qs i j ++ [id])))/\MdFr E w w' L:=by
 have HN:=Lib.hid fun w' (hb:Below w.heap.size w w')=>zae (h.md.call hb)
 have hmay:=fun w' (hb:Below w.heap.size w w')=>zgc (h.md.call hb) (i:Nat) (j:Nat) vi sx kv km me un nw li sh bu id (zan hi) (zan hj)
 have HC:=Lib.hid fun w' (hb:Below w.heap.size w w')=>znx (h.md.call hb) (h.qu.call hb) hP i j hi hj id hr hroom
 have HNU:=Lib.hid fun w=>zcf true w
 have HMAY:=Lib.hid hmay;have HBOX:=Lib.hid (zbf w 66 (.int .i64 (10)) (.int .i64 ((i:Nat))) (.int .i64 ((j:Nat))) (.int .i64 (vi)) (.int .i64 (sx)) (.int .i64 (kv)) (.int .u64 (km)) (.int .u64 (me)) (.int .u64 (un)) (.int .u32 (nw)) (.int .u32 (li)) (.int .i64 (sh)) (.int .i64 (bu)) (.int .i64 (id)));have HLOW:=Lib.hid (zcd HBOX.out);have HUP:=Lib.hid (up14 HBOX.out);have hq:=zbg HBOX.out;have HH:=Lib.hid h;clear h hmay;unfold opV at HMAY |-
 go_enter Tryz.func58,Tryz.ntmps58
 go_wp2_with (first
  |(go_at_call 80;(with_reducible refine Calls.mono (HN.out _ (HLOW.out _ hq)) ?_);rintro e wa ⟨rfl,hba⟩;(have hq:=HUP.out _ _ hq hba);(obtain ⟨q0,q1,q2,q3,q4,q5,q6,q7,q8,q9,q10,q11,q12,q13⟩:=HBOX.out _ hq);clear hba)
  |(go_at_call 81;(with_reducible refine Calls.mono (HMAY.out _ (HLOW.out _ hq)) ?_);rintro e wa ⟨rfl,hba⟩;(have hq:=HUP.out _ _ hq hba);(obtain ⟨q0,q1,q2,q3,q4,q5,q6,q7,q8,q9,q10,q11,q12,q13⟩:=HBOX.out _ hq);clear hba)
  |(go_at_call 92;(with_reducible refine Calls.mono (HC.out _ (HLOW.out _ hq)) ?_);rintro e wz ⟨rfl,hmd,⟨v',hqu,hat⟩,hoth,hbl⟩;(have HMD:Hid ((∃ qv',MdAll E wz L A S1 Q bp bq P r S B n nv uv lv st g G R qv' (upd2 qs i j (qs i j ++ [id])))/\MdFr E w wz L):=⟨⟨_,(HH.out.call (HLOW.out _ hq)).queue hi hj hmd hqu hat hoth hbl⟩,MdFr.of_queue HH.out (HLOW.out _ hq) hi hj hoth hbl⟩);clear hmd hqu hat hoth hbl hq)
  |(go_at_call 86;(with_reducible refine Calls.mono (HNU.out _) ?_);rintro e wy ⟨rfl,hby⟩;(have HBY:=Lib.hid hby);clear hby)
  |fail)
 go_ret
 exact ⟨by first|rfl|(simp;done),⟨_,HMD.out.1.choose_spec.call HBY.out⟩,MdFr.call HH.out HMD.out.2 HBY.out⟩
set_option maxRecDepth 20000 in
set_option maxHeartbeats 3200000 in
theorem zjk {E:Nat->Prop} {w:World} {L A S1 Q bp bq P r S B n nv:Nat} {uv:Value} {lv:List Vl} {st:Nat->Int×Nat} {g:Nat->Nat->Pl} {G:Nat->Value} {R:Nat->Nat} {qv:Nat->Nat->Value} {qs:Nat->Nat->List Int} (h:MdAll E w L A S1 Q bp bq P r S B n nv uv lv st g G R qv qs) (i j:Nat) (hi:i<P) (hj:j<P) (hnone:qs i j=[])  (vi sx kv km me un nw li sh bu id:Int):Calls Tryz.prog 58 #[.pointer (some ⟨A,0,none⟩),opV 11 ((i:Nat)) ((j:Nat)) vi sx kv km me un nw li sh bu id] w (Says (.int .i64 (-1)) w):=by
 have HN:=Lib.hid fun w' (hb:Below w.heap.size w w')=>zae (h.md.call hb)
 have hmay:=fun w' (hb:Below w.heap.size w w')=>zf0 (h.md.call hb) (i:Nat) (j:Nat) vi sx kv km me un nw li sh bu id (zan hi) (zan hj)
 have HC:=Lib.hid fun w' (hb:Below w.heap.size w w')=>zju (h.md.call hb) (h.qu.call hb) i j hi hj hnone
 have HMAY:=Lib.hid hmay;have HBOX:=Lib.hid (zbf w 66 (.int .i64 (11)) (.int .i64 ((i:Nat))) (.int .i64 ((j:Nat))) (.int .i64 (vi)) (.int .i64 (sx)) (.int .i64 (kv)) (.int .u64 (km)) (.int .u64 (me)) (.int .u64 (un)) (.int .u32 (nw)) (.int .u32 (li)) (.int .i64 (sh)) (.int .i64 (bu)) (.int .i64 (id)));have HLOW:=Lib.hid (zcd HBOX.out);have HUP:=Lib.hid (up14 HBOX.out);have hq:=zbg HBOX.out;have HH:=Lib.hid h;clear h hmay;unfold opV at HMAY |-
 go_enter Tryz.func58,Tryz.ntmps58
 go_wp2_with (first
  |(go_at_call 80;(with_reducible refine Calls.mono (HN.out _ (HLOW.out _ hq)) ?_);rintro e wa ⟨rfl,hba⟩;(have hq:=HUP.out _ _ hq hba);(obtain ⟨q0,q1,q2,q3,q4,q5,q6,q7,q8,q9,q10,q11,q12,q13⟩:=HBOX.out _ hq);clear hba)
  |(go_at_call 81;(with_reducible refine Calls.mono (HMAY.out _ (HLOW.out _ hq)) ?_);rintro e wa ⟨rfl,hba⟩;(have hq:=HUP.out _ _ hq hba);(obtain ⟨q0,q1,q2,q3,q4,q5,q6,q7,q8,q9,q10,q11,q12,q13⟩:=HBOX.out _ hq);clear hba)
  |(go_at_call 93;(with_reducible refine Calls.mono (HC.out _ (HLOW.out _ hq)) ?_);rintro e wz ⟨rfl,hbz⟩;(have HBZ:=Lib.hid (HLOW.out _ (HUP.out _ _ hq hbz)));clear hbz hq)
  |fail)
 go_ret
 exact ⟨by first|rfl|(simp;done),HBZ.out⟩
set_option maxRecDepth 20000 in
set_option maxHeartbeats 3200000 in
theorem znc {E:Nat->Prop} {w:World} {L A S1 Q bp bq P r S B n nv:Nat} {uv:Value} {lv:List Vl} {st:Nat->Int×Nat} {g:Nat->Nat->Pl} {G:Nat->Value} {R:Nat->Nat} {qv:Nat->Nat->Value} {qs:Nat->Nat->List Int} (h:MdAll E w L A S1 Q bp bq P r S B n nv uv lv st g G R qv qs) (i j:Nat) (hi:i<P) (hj:j<P) (x:Int) (l:List Int) (hql:qs i j=x :: l)  (vi sx kv km me un nw li sh bu id:Int):Calls Tryz.prog 58 #[.pointer (some ⟨A,0,none⟩),opV 11 ((i:Nat)) ((j:Nat)) vi sx kv km me un nw li sh bu id] w fun e w'=>e=.returned (.int .i64 x)/\(∃ qv',MdAll E w' L A S1 Q bp bq P r S B n nv uv lv st g G R qv' (upd2 qs i j l))/\MdFr E w w' L:=by
 have HN:=Lib.hid fun w' (hb:Below w.heap.size w w')=>zae (h.md.call hb)
 have hmay:=fun w' (hb:Below w.heap.size w w')=>zf0 (h.md.call hb) (i:Nat) (j:Nat) vi sx kv km me un nw li sh bu id (zan hi) (zan hj)
 have HC:=Lib.hid fun w' (hb:Below w.heap.size w w')=>zok (h.md.call hb) (h.qu.call hb) i j hi hj x l hql
 have HMAY:=Lib.hid hmay;have HBOX:=Lib.hid (zbf w 66 (.int .i64 (11)) (.int .i64 ((i:Nat))) (.int .i64 ((j:Nat))) (.int .i64 (vi)) (.int .i64 (sx)) (.int .i64 (kv)) (.int .u64 (km)) (.int .u64 (me)) (.int .u64 (un)) (.int .u32 (nw)) (.int .u32 (li)) (.int .i64 (sh)) (.int .i64 (bu)) (.int .i64 (id)));have HLOW:=Lib.hid (zcd HBOX.out);have HUP:=Lib.hid (up14 HBOX.out);have hq:=zbg HBOX.out;have HH:=Lib.hid h;clear h hmay;unfold opV at HMAY |-
 go_enter Tryz.func58,Tryz.ntmps58
 go_wp2_with (first
  |(go_at_call 80;(with_reducible refine Calls.mono (HN.out _ (HLOW.out _ hq)) ?_);rintro e wa ⟨rfl,hba⟩;(have hq:=HUP.out _ _ hq hba);(obtain ⟨q0,q1,q2,q3,q4,q5,q6,q7,q8,q9,q10,q11,q12,q13⟩:=HBOX.out _ hq);clear hba)
  |(go_at_call 81;(with_reducible refine Calls.mono (HMAY.out _ (HLOW.out _ hq)) ?_);rintro e wa ⟨rfl,hba⟩;(have hq:=HUP.out _ _ hq hba);(obtain ⟨q0,q1,q2,q3,q4,q5,q6,q7,q8,q9,q10,q11,q12,q13⟩:=HBOX.out _ hq);clear hba)
  |(go_at_call 93;(with_reducible refine Calls.mono (HC.out _ (HLOW.out _ hq)) ?_);rintro e wz ⟨rfl,hmd,⟨v',hqu,hat⟩,hoth,hbl⟩;(have HMD:Hid ((∃ qv',MdAll E wz L A S1 Q bp bq P r S B n nv uv lv st g G R qv' (upd2 qs i j l))/\MdFr E w wz L):=⟨⟨_,(HH.out.call (HLOW.out _ hq)).queue hi hj hmd hqu hat hoth hbl⟩,MdFr.of_queue HH.out (HLOW.out _ hq) hi hj hoth hbl⟩);clear hmd hqu hat hoth hbl hq)
  |fail)
 go_ret
 exact ⟨by first|rfl|(simp;done),HMD.out.1,HMD.out.2⟩
set_option maxRecDepth 20000 in
set_option maxHeartbeats 3200000 in
theorem zh9 {E:Nat->Prop} {w:World} {L A S1 Q bp bq P r S B n nv:Nat} {uv:Value} {lv:List Vl} {st:Nat->Int×Nat} {g:Nat->Nat->Pl} {G:Nat->Value} {R:Nat->Nat} {qv:Nat->Nat->Value} {qs:Nat->Nat->List Int} (h:MdAll E w L A S1 Q bp bq P r S B n nv uv lv st g G R qv qs) (p:Nat) (hp:p<P)  (tt vi sx kv km me un nw li sh bu id:Int):Calls Tryz.prog 58 #[.pointer (some ⟨A,0,none⟩),opV 0 ((p:Nat)) tt vi sx kv km me un nw li sh bu id] w (Says (.int .i64 (st p).1) w):=by
 have HN:=Lib.hid fun w' (hb:Below w.heap.size w w')=>zae (h.md.call hb)
 have hmay:=fun w' (hb:Below w.heap.size w w')=>zhd (h.md.call hb) (p:Nat) tt vi sx kv km me un nw li sh bu id
 have hpb:zah P (p:Int)=true:=zan hp
 rw [hpb] at hmay;clear hpb
 have d1:decide (p<P)=true:=decide_eq_true hp
 have HMAY:=Lib.hid hmay;have HBOX:=Lib.hid (zbf w 66 (.int .i64 (0)) (.int .i64 ((p:Nat))) (.int .i64 (tt)) (.int .i64 (vi)) (.int .i64 (sx)) (.int .i64 (kv)) (.int .u64 (km)) (.int .u64 (me)) (.int .u64 (un)) (.int .u32 (nw)) (.int .u32 (li)) (.int .i64 (sh)) (.int .i64 (bu)) (.int .i64 (id)));have HLOW:=Lib.hid (zcd HBOX.out);have HUP:=Lib.hid (up14 HBOX.out);have hq:=zbg HBOX.out;have HH:=Lib.hid h;clear h hmay;unfold opV at HMAY |-
 go_enter Tryz.func58,Tryz.ntmps58
 go_wp2_with (first
  |(go_at_call 80;(with_reducible refine Calls.mono (HN.out _ (HLOW.out _ hq)) ?_);rintro e wa ⟨rfl,hba⟩;(have hq:=HUP.out _ _ hq hba);(obtain ⟨q0,q1,q2,q3,q4,q5,q6,q7,q8,q9,q10,q11,q12,q13⟩:=HBOX.out _ hq);clear hba)
  |(go_at_call 81;(with_reducible refine Calls.mono (HMAY.out _ (HLOW.out _ hq)) ?_);rintro e wa ⟨rfl,hba⟩;(have hq:=HUP.out _ _ hq hba);(obtain ⟨q0,q1,q2,q3,q4,q5,q6,q7,q8,q9,q10,q11,q12,q13⟩:=HBOX.out _ hq);clear hba)
  |fail)
 have HM:=Lib.hid (HH.out.call (HLOW.out _ hq)).md
 have c1:wa.cell? ⟨A,1,none⟩=some (.slice (some ⟨S1,0,none⟩) P (capV (G 100))):=HM.out.cells.cell (by omega)
 have s0:=(zld HM.out p hp).1
 refine wp_region_held_drew (S:=fun w'=>w'.cell? ⟨A,1,none⟩=some (.slice (some ⟨S1,0,none⟩) P (capV (G 100)))/\w'.cell? ⟨w.heap.size,1,none⟩=some (.int .i64 (p:Nat))/\w'.cell? ⟨S1,p*2,none⟩=some (.int .i64 (st p).1)) (by kernel_rfl) ?_ (fun hHeld=>?_)
 ·exact ⟨c1,q1,s0⟩
 refine tk 0 ?_;refine tk 1 ?_;refine tk 2 ?_;refine tk 3 ?_;refine tk 4 ?_;refine tk 5 ?_;refine tk 6 ?_;refine tk 7 ?_;refine tk 8 ?_;refine tk 9 ?_
 refine dnR ?_
 have HBZ:=Lib.hid (HLOW.out _ hq);clear hHeld c1 s0 q0 q1 q2 q3 q4 q5 q6 q7 q8 q9 q10 q11 q12 q13 hq
 go_wp2
 go_ret
 exact ⟨by first|rfl|(simp;done),HBZ.out.trans ((Below.refl _ _).drew)⟩
theorem MdAll.bookD {E:Nat->Prop} {w w':World} {L A S1 Q bp bq P r S B n nv:Nat} {uv:Value} {lv:List Vl} {st:Nat->Int×Nat} {g g':Nat->Nat->Pl} {G:Nat->Value} {R:Nat->Nat} {qv:Nat->Nat->Value} {qs:Nat->Nat->List Int} {D:Nat->Prop} (h:MdAll E w L A S1 Q bp bq P r S B n nv uv lv st g G R qv qs) (h2:∀ b,D b->b<w.heap.size) (h3:D bq) (h4:∀ b,zc9 A S1 Q P uv R qv b->D b/\b≠bp/\b≠bq) (h5:∀ b,E b->D b/\b≠bp/\b≠bq/\¬ zc9 A S1 Q P uv R qv b)
  (hk:BkAt w' D bp bq S B n g') (hb:But bq w w'):MdAll E w' L A S1 Q bp bq P r S B n nv uv lv st g' G R qv qs :=
 ⟨h.md.keep fun b hc=>hb.rest b (h.md.lt b hc) (h4 b (.inl hc)).2.2,h.qu.keep fun b hlt hc=>hb.rest b hlt (h4 b (.inr hc)).2.2,h.lbk,D,hk,fun b hd=>Nat.lt_of_lt_of_le (h2 b hd) hb.below.size,h3,h4,h5⟩
set_option maxRecDepth 20000 in
set_option maxHeartbeats 3200000 in
theorem zoh {E:Nat->Prop} {w:World} {L A S1 Q bp bq P r S B n nv:Nat} {uv:Value} {lv:List Vl} {st:Nat->Int×Nat} {g:Nat->Nat->Pl} {G:Nat->Value} {R:Nat->Nat} {qv:Nat->Nat->Value} {qs:Nat->Nat->List Int} (h:MdAll E w L A S1 Q bp bq P r S B n nv uv lv st g G R qv qs) (hS:1<=S/\S<=8) (hB:1<=B/\B<=16) (hn:1<=n/\n<=8) (kv:Int) (km:Nat) (hkm:km<18446744073709551616)  (po tt vi sx me un nw li sh bu id:Int):Calls Tryz.prog 58 #[.pointer (some ⟨A,0,none⟩),opV 3 po tt vi sx kv ((km:Nat)) me un nw li sh bu id] w (Says (.int .i64 (zd2 (g (zaj kv km S B)) kv km n)) w):=by
 have HN:=Lib.hid fun w' (hb:Below w.heap.size w w')=>zae (h.md.call hb)
 have hmay:=fun w' (hb:Below w.heap.size w w')=>znf (h.md.call hb) po tt vi sx kv (km:Nat) me un nw li sh bu id
 have HMAY:=Lib.hid hmay;have HBOX:=Lib.hid (zbf w 66 (.int .i64 (3)) (.int .i64 (po)) (.int .i64 (tt)) (.int .i64 (vi)) (.int .i64 (sx)) (.int .i64 (kv)) (.int .u64 ((km:Nat))) (.int .u64 (me)) (.int .u64 (un)) (.int .u32 (nw)) (.int .u32 (li)) (.int .i64 (sh)) (.int .i64 (bu)) (.int .i64 (id)));have HLOW:=Lib.hid (zcd HBOX.out);have HUP:=Lib.hid (up14 HBOX.out);have hq:=zbg HBOX.out;have HH:=Lib.hid h;clear h hmay;unfold opV at HMAY |-
 go_enter Tryz.func58,Tryz.ntmps58
 go_wp2_with (first
  |(go_at_call 80;(with_reducible refine Calls.mono (HN.out _ (HLOW.out _ hq)) ?_);rintro e wa ⟨rfl,hba⟩;(have hq:=HUP.out _ _ hq hba);(obtain ⟨q0,q1,q2,q3,q4,q5,q6,q7,q8,q9,q10,q11,q12,q13⟩:=HBOX.out _ hq);clear hba)
  |(go_at_call 81;(with_reducible refine Calls.mono (HMAY.out _ (HLOW.out _ hq)) ?_);rintro e wa ⟨rfl,hba⟩;(have hq:=HUP.out _ _ hq hba);(obtain ⟨q0,q1,q2,q3,q4,q5,q6,q7,q8,q9,q10,q11,q12,q13⟩:=HBOX.out _ hq);clear hba)
  |fail)
 have HM:=Lib.hid (HH.out.call (HLOW.out _ hq));have HLW:=Lib.hid (HLOW.out _ hq);obtain ⟨D,hd1,hd2,hd3,hd4,hd5⟩:=HM.out.bk;have HD:=Lib.hid (And.intro hd1 (And.intro hd2 (And.intro hd3 (And.intro hd4 hd5))));clear hd1 hd2 hd3 hd4 hd5
 have c3:wa.cell? ⟨A,3,none⟩=some (.pointer (some ⟨bp,0,none⟩)):=HM.out.md.cells.cell (by omega)
 have hAz:A<wa.heap.size:=HM.out.md.cells.lt
 have hWz:w.heap.size<wa.heap.size:=by have:=hq.size;simp at this;omega
 have hAq:A≠bq:=(HD.out.2.2.2.1 A (.inl (.inl rfl))).2.2
 refine wp_region_held_drew (S:=fun w'=>w'.cell? ⟨A,3,none⟩=some (.pointer (some ⟨bp,0,none⟩))/\w'.cell? ⟨w.heap.size,5,none⟩=some (.int .i64 (kv))/\w'.cell? ⟨w.heap.size,6,none⟩=some (.int .u64 ((km:Nat)))) (by kernel_rfl) ?_ (fun hHeld=>?_)
 ·exact ⟨c3,q5,q6⟩
 obtain ⟨v0,hv0⟩:∃ w',w'=wa.drew:=⟨_,rfl⟩
 have hvb:Below wa.heap.size wa v0:=by rw [hv0];exact (Below.refl _ _).drew
 have HVZ:Hid (v0.heap.size=wa.heap.size):=by show _=_;rw [hv0];rfl
 rw [<- hv0] at hHeld |-;clear hv0;have HK0:=Lib.hid (HD.out.1.call hvb)
 have HD0:Hid (∀ b,D b->b<v0.heap.size):=fun b hd=>by rw [HVZ.out];exact HD.out.2.1 b hd
 refine tk 0 ?_;refine tk 1 ?_;refine tk 2 ?_;refine tk 3 ?_;refine tk 4 ?_;refine tk 5 ?_
 refine clR 6 rfl fun K hK=>?_
 go_simp
 refine Calls.mono (zj5 HK0.out hS hB (by omega) kv km hkm) ?_
 rintro e w9 ⟨rfl,hb9⟩
 have HB9:Hid (Below wa.heap.size wa w9):=hvb.trans (hb9.mono (by rw [HVZ.out];exact Nat.le_refl _))
 clear hb9
 refine hK.out _ _ ?_ (fun hHeld=>?_)
 ·(try dsimp only)
  obtain ⟨x0,x1,x2⟩:=hHeld
  exact ⟨(HB9.out.cell (p:=⟨A,3,none⟩) (by show A<wa.heap.size;omega)).trans ((hvb.cell (p:=⟨A,3,none⟩) (by show A<wa.heap.size;omega)).symm.trans x0),(HB9.out.cell (p:=⟨w.heap.size,5,none⟩) (by show w.heap.size<wa.heap.size;omega)).trans ((hvb.cell (p:=⟨w.heap.size,5,none⟩) (by show w.heap.size<wa.heap.size;omega)).symm.trans x1),(HB9.out.cell (p:=⟨w.heap.size,6,none⟩) (by show w.heap.size<wa.heap.size;omega)).trans ((hvb.cell (p:=⟨w.heap.size,6,none⟩) (by show w.heap.size<wa.heap.size;omega)).symm.trans x2)⟩
 clear hK K;refine tk 7 ?_
 refine dnR ?_
 have HBZ:=Lib.hid (HLW.out.trans (HB9.out.mono HLW.out.size));clear hHeld c3 hq
 go_wp2
 go_ret
 exact ⟨by first|rfl|(simp;done),HBZ.out⟩
set_option maxRecDepth 20000 in
set_option maxHeartbeats 3200000 in
theorem zqj {E:Nat->Prop} {w:World} {L A S1 Q bp bq P r S B n nv:Nat} {uv:Value} {lv:List Vl} {st:Nat->Int×Nat} {g:Nat->Nat->Pl} {G:Nat->Value} {R:Nat->Nat} {qv:Nat->Nat->Value} {qs:Nat->Nat->List Int} (h:MdAll E w L A S1 Q bp bq P r S B n nv uv lv st g G R qv qs) (hS:1<=S/\S<=8) (hB:1<=B/\B<=16) (hn:1<=n/\n<=8) (hst:∀ i,i<S*B->∀ j,j<n->(g i j).e.stamp<4294967296) (p:Nat) (hp:p<P) (kv:Int) (km:Nat) (hkm:km<18446744073709551616) (nw:Nat) (hnw:nw<4294967296)  (tt vi sx me un li sh bu id:Int):Calls Tryz.prog 58 #[.pointer (some ⟨A,0,none⟩),opV 2 ((p:Nat)) tt vi sx kv ((km:Nat)) me un ((nw:Nat)) li sh bu id] w fun e w'=>e=.returned (.int .i64 ((putF (fun i=>ownP (g (zaj kv km S B) i)) ⟨kv,km,p,false,nw⟩ nw n).2:Nat))/\MdAll E w' L A S1 Q bp bq P r S B n nv uv lv st (updR g (zaj kv km S B) (putF (fun i=>ownP (g (zaj kv km S B) i)) ⟨kv,km,p,false,nw⟩ nw n).1) G R qv qs/\MdFr E w w' L:=by
 have HN:=Lib.hid fun w' (hb:Below w.heap.size w w')=>zae (h.md.call hb)
 have hmay:=fun w' (hb:Below w.heap.size w w')=>zht (h.md.call hb) (p:Nat) tt vi sx kv (km:Nat) me un (nw:Nat) li sh bu id
 have hpb:zah P (p:Int)=true:=zan hp
 rw [hpb] at hmay;clear hpb;have HMAY:=Lib.hid hmay;have HBOX:=Lib.hid (zbf w 66 (.int .i64 (2)) (.int .i64 ((p:Nat))) (.int .i64 (tt)) (.int .i64 (vi)) (.int .i64 (sx)) (.int .i64 (kv)) (.int .u64 ((km:Nat))) (.int .u64 (me)) (.int .u64 (un)) (.int .u32 ((nw:Nat))) (.int .u32 (li)) (.int .i64 (sh)) (.int .i64 (bu)) (.int .i64 (id)));have HLOW:=Lib.hid (zcd HBOX.out);have HUP:=Lib.hid (up14 HBOX.out);have hq:=zbg HBOX.out;have HH:=Lib.hid h;clear h hmay;unfold opV at HMAY |-
 go_enter Tryz.func58,Tryz.ntmps58
 go_wp2_with (first
  |(go_at_call 80;(with_reducible refine Calls.mono (HN.out _ (HLOW.out _ hq)) ?_);rintro e wa ⟨rfl,hba⟩;(have hq:=HUP.out _ _ hq hba);(obtain ⟨q0,q1,q2,q3,q4,q5,q6,q7,q8,q9,q10,q11,q12,q13⟩:=HBOX.out _ hq);clear hba)
  |(go_at_call 81;(with_reducible refine Calls.mono (HMAY.out _ (HLOW.out _ hq)) ?_);rintro e wa ⟨rfl,hba⟩;(have hq:=HUP.out _ _ hq hba);(obtain ⟨q0,q1,q2,q3,q4,q5,q6,q7,q8,q9,q10,q11,q12,q13⟩:=HBOX.out _ hq);clear hba)
  |fail)
 have HM:=Lib.hid (HH.out.call (HLOW.out _ hq));have HLW:=Lib.hid (HLOW.out _ hq);obtain ⟨D,hd1,hd2,hd3,hd4,hd5⟩:=HM.out.bk;have HD:=Lib.hid (And.intro hd1 (And.intro hd2 (And.intro hd3 (And.intro hd4 hd5))));clear hd1 hd2 hd3 hd4 hd5
 have c3:wa.cell? ⟨A,3,none⟩=some (.pointer (some ⟨bp,0,none⟩)):=HM.out.md.cells.cell (by omega)
 have hAz:A<wa.heap.size:=HM.out.md.cells.lt
 have hWz:w.heap.size<wa.heap.size:=by have:=hq.size;simp at this;omega
 have hAq:A≠bq:=(HD.out.2.2.2.1 A (.inl (.inl rfl))).2.2
 refine wp_region_held_drew (S:=fun w'=>w'.cell? ⟨A,3,none⟩=some (.pointer (some ⟨bp,0,none⟩))/\w'.cell? ⟨w.heap.size,1,none⟩=some (.int .i64 ((p:Nat)))/\w'.cell? ⟨w.heap.size,5,none⟩=some (.int .i64 (kv))/\w'.cell? ⟨w.heap.size,6,none⟩=some (.int .u64 ((km:Nat)))/\w'.cell? ⟨w.heap.size,9,none⟩=some (.int .u32 ((nw:Nat)))) (by kernel_rfl) ?_ (fun hHeld=>?_)
 ·exact ⟨c3,q1,q5,q6,q9⟩
 obtain ⟨v0,hv0⟩:∃ w',w'=wa.drew:=⟨_,rfl⟩
 have hvb:Below wa.heap.size wa v0:=by rw [hv0];exact (Below.refl _ _).drew
 have HVZ:Hid (v0.heap.size=wa.heap.size):=by show _=_;rw [hv0];rfl
 rw [<- hv0] at hHeld |-;clear hv0;have HK0:=Lib.hid (HD.out.1.call hvb)
 have HD0:Hid (∀ b,D b->b<v0.heap.size):=fun b hd=>by rw [HVZ.out];exact HD.out.2.1 b hd
 refine tk 0 ?_;refine tk 1 ?_;refine tk 2 ?_;refine tk 3 ?_;refine tk 4 ?_;refine tk 5 ?_;refine tk 6 ?_;refine tk 7 ?_;refine tk 8 ?_;refine tk 9 ?_
 refine clR 10 rfl fun K hK=>?_
 go_simp
 refine Calls.mono (znr HK0.out HD0.out HD.out.2.2.1 hS hB (by omega) hst kv km hkm p nw hnw) ?_
 rintro e w9 ⟨rfl,hk9,hb9⟩
 have HB9:Hid (But bq wa w9):=(But.of hvb (by have:=HD.out.2.1 bq HD.out.2.2.1;omega)).trans hb9
 have HK9:=Lib.hid hk9;clear hb9 hk9
 refine hK.out _ _ ?_ (fun hHeld=>?_)
 ·(try dsimp only)
  obtain ⟨x0,x1,x2,x3,x4⟩:=hHeld
  exact ⟨(HB9.out.cell (p:=⟨A,3,none⟩) (by show A<wa.heap.size;omega) (by show A≠bq;exact hAq)).trans ((hvb.cell (p:=⟨A,3,none⟩) (by show A<wa.heap.size;omega)).symm.trans x0),(HB9.out.cell (p:=⟨w.heap.size,1,none⟩) (by show w.heap.size<wa.heap.size;omega) (by show w.heap.size≠bq;have:=HH.out.bk.choose_spec.1.2.1;omega)).trans ((hvb.cell (p:=⟨w.heap.size,1,none⟩) (by show w.heap.size<wa.heap.size;omega)).symm.trans x1),(HB9.out.cell (p:=⟨w.heap.size,5,none⟩) (by show w.heap.size<wa.heap.size;omega) (by show w.heap.size≠bq;have:=HH.out.bk.choose_spec.1.2.1;omega)).trans ((hvb.cell (p:=⟨w.heap.size,5,none⟩) (by show w.heap.size<wa.heap.size;omega)).symm.trans x2),(HB9.out.cell (p:=⟨w.heap.size,6,none⟩) (by show w.heap.size<wa.heap.size;omega) (by show w.heap.size≠bq;have:=HH.out.bk.choose_spec.1.2.1;omega)).trans ((hvb.cell (p:=⟨w.heap.size,6,none⟩) (by show w.heap.size<wa.heap.size;omega)).symm.trans x3),(HB9.out.cell (p:=⟨w.heap.size,9,none⟩) (by show w.heap.size<wa.heap.size;omega) (by show w.heap.size≠bq;have:=HH.out.bk.choose_spec.1.2.1;omega)).trans ((hvb.cell (p:=⟨w.heap.size,9,none⟩) (by show w.heap.size<wa.heap.size;omega)).symm.trans x4)⟩
 clear hK K;refine tk 11 ?_
 refine dnR ?_
 have HMD:Hid (MdAll E w9 L A S1 Q bp bq P r S B n nv uv lv st (updR g (zaj kv km S B) (putF (fun i=>ownP (g (zaj kv km S B) i)) ⟨kv,km,p,false,nw⟩ nw n).1) G R qv qs/\MdFr E w w9 L):=⟨HM.out.bookD HD.out.2.1 HD.out.2.2.1 HD.out.2.2.2.1 HD.out.2.2.2.2 HK9.out HB9.out,MdFr.of_but HH.out HLW.out HB9.out (.inr rfl) HM.out.lbk⟩
 clear hHeld c3 hq
 go_wp2
 go_ret
 exact ⟨by first|rfl|(simp;done),HMD.out.1,HMD.out.2⟩
set_option maxRecDepth 20000 in
set_option maxHeartbeats 3200000 in
theorem zn2 {E:Nat->Prop} {w:World} {L A S1 Q bp bq P r S B n nv:Nat} {uv:Value} {lv:List Vl} {st:Nat->Int×Nat} {g:Nat->Nat->Pl} {G:Nat->Value} {R:Nat->Nat} {qv:Nat->Nat->Value} {qs:Nat->Nat->List Int} (h:MdAll E w L A S1 Q bp bq P r S B n nv uv lv st g G R qv qs) (hS:1<=S/\S<=8) (hB:1<=B/\B<=16) (hn:1<=n/\n<=8) (hst:∀ i,i<S*B->∀ j,j<n->(g i j).e.stamp<4294967296) (p:Nat) (hp:p<P) (kv:Int) (km:Nat) (hkm:km<18446744073709551616) (nw:Nat) (hnw:nw<4294967296)  (tt vi sx me un li sh bu id:Int):Calls Tryz.prog 58 #[.pointer (some ⟨A,0,none⟩),opV 4 ((p:Nat)) tt vi sx kv ((km:Nat)) me un ((nw:Nat)) li sh bu id] w fun e w'=>e=.returned (.int .i64 ((putF (fun i=>ownP (g (zaj kv km S B) i)) ⟨kv,km,p,true,0⟩ nw n).2:Nat))/\MdAll E w' L A S1 Q bp bq P r S B n nv uv lv st (updR g (zaj kv km S B) (putF (fun i=>ownP (g (zaj kv km S B) i)) ⟨kv,km,p,true,0⟩ nw n).1) G R qv qs/\MdFr E w w' L:=by
 have HN:=Lib.hid fun w' (hb:Below w.heap.size w w')=>zae (h.md.call hb)
 have hmay:=fun w' (hb:Below w.heap.size w w')=>zhh (h.md.call hb) (p:Nat) tt vi sx kv (km:Nat) me un (nw:Nat) li sh bu id
 have hpb:zah P (p:Int)=true:=zan hp
 rw [hpb] at hmay;clear hpb;have HMAY:=Lib.hid hmay;have HBOX:=Lib.hid (zbf w 66 (.int .i64 (4)) (.int .i64 ((p:Nat))) (.int .i64 (tt)) (.int .i64 (vi)) (.int .i64 (sx)) (.int .i64 (kv)) (.int .u64 ((km:Nat))) (.int .u64 (me)) (.int .u64 (un)) (.int .u32 ((nw:Nat))) (.int .u32 (li)) (.int .i64 (sh)) (.int .i64 (bu)) (.int .i64 (id)));have HLOW:=Lib.hid (zcd HBOX.out);have HUP:=Lib.hid (up14 HBOX.out);have hq:=zbg HBOX.out;have HH:=Lib.hid h;clear h hmay;unfold opV at HMAY |-
 go_enter Tryz.func58,Tryz.ntmps58
 go_wp2_with (first
  |(go_at_call 80;(with_reducible refine Calls.mono (HN.out _ (HLOW.out _ hq)) ?_);rintro e wa ⟨rfl,hba⟩;(have hq:=HUP.out _ _ hq hba);(obtain ⟨q0,q1,q2,q3,q4,q5,q6,q7,q8,q9,q10,q11,q12,q13⟩:=HBOX.out _ hq);clear hba)
  |(go_at_call 81;(with_reducible refine Calls.mono (HMAY.out _ (HLOW.out _ hq)) ?_);rintro e wa ⟨rfl,hba⟩;(have hq:=HUP.out _ _ hq hba);(obtain ⟨q0,q1,q2,q3,q4,q5,q6,q7,q8,q9,q10,q11,q12,q13⟩:=HBOX.out _ hq);clear hba)
  |fail)
 have HM:=Lib.hid (HH.out.call (HLOW.out _ hq));have HLW:=Lib.hid (HLOW.out _ hq);obtain ⟨D,hd1,hd2,hd3,hd4,hd5⟩:=HM.out.bk;have HD:=Lib.hid (And.intro hd1 (And.intro hd2 (And.intro hd3 (And.intro hd4 hd5))));clear hd1 hd2 hd3 hd4 hd5
 have c3:wa.cell? ⟨A,3,none⟩=some (.pointer (some ⟨bp,0,none⟩)):=HM.out.md.cells.cell (by omega)
 have hAz:A<wa.heap.size:=HM.out.md.cells.lt
 have hWz:w.heap.size<wa.heap.size:=by have:=hq.size;simp at this;omega
 have hAq:A≠bq:=(HD.out.2.2.2.1 A (.inl (.inl rfl))).2.2
 refine wp_region_held_drew (S:=fun w'=>w'.cell? ⟨A,3,none⟩=some (.pointer (some ⟨bp,0,none⟩))/\w'.cell? ⟨w.heap.size,1,none⟩=some (.int .i64 ((p:Nat)))/\w'.cell? ⟨w.heap.size,5,none⟩=some (.int .i64 (kv))/\w'.cell? ⟨w.heap.size,6,none⟩=some (.int .u64 ((km:Nat)))/\w'.cell? ⟨w.heap.size,9,none⟩=some (.int .u32 ((nw:Nat)))) (by kernel_rfl) ?_ (fun hHeld=>?_)
 ·exact ⟨c3,q1,q5,q6,q9⟩
 obtain ⟨v0,hv0⟩:∃ w',w'=wa.drew:=⟨_,rfl⟩
 have hvb:Below wa.heap.size wa v0:=by rw [hv0];exact (Below.refl _ _).drew
 have HVZ:Hid (v0.heap.size=wa.heap.size):=by show _=_;rw [hv0];rfl
 rw [<- hv0] at hHeld |-;clear hv0;have HK0:=Lib.hid (HD.out.1.call hvb)
 have HD0:Hid (∀ b,D b->b<v0.heap.size):=fun b hd=>by rw [HVZ.out];exact HD.out.2.1 b hd
 refine tk 0 ?_;refine tk 1 ?_;refine tk 2 ?_;refine tk 3 ?_;refine tk 4 ?_;refine tk 5 ?_;refine tk 6 ?_;refine tk 7 ?_;refine tk 8 ?_;refine tk 9 ?_
 refine clR 10 rfl fun K hK=>?_
 go_simp
 refine Calls.mono (zmm HK0.out HD0.out HD.out.2.2.1 hS hB (by omega) hst kv km hkm p nw hnw) ?_
 rintro e w9 ⟨rfl,hk9,hb9⟩
 have HB9:Hid (But bq wa w9):=(But.of hvb (by have:=HD.out.2.1 bq HD.out.2.2.1;omega)).trans hb9
 have HK9:=Lib.hid hk9;clear hb9 hk9
 refine hK.out _ _ ?_ (fun hHeld=>?_)
 ·(try dsimp only)
  obtain ⟨x0,x1,x2,x3,x4⟩:=hHeld
  exact ⟨(HB9.out.cell (p:=⟨A,3,none⟩) (by show A<wa.heap.size;omega) (by show A≠bq;exact hAq)).trans ((hvb.cell (p:=⟨A,3,none⟩) (by show A<wa.heap.size;omega)).symm.trans x0),(HB9.out.cell (p:=⟨w.heap.size,1,none⟩) (by show w.heap.size<wa.heap.size;omega) (by show w.heap.size≠bq;have:=HH.out.bk.choose_spec.1.2.1;omega)).trans ((hvb.cell (p:=⟨w.heap.size,1,none⟩) (by show w.heap.size<wa.heap.size;omega)).symm.trans x1),(HB9.out.cell (p:=⟨w.heap.size,5,none⟩) (by show w.heap.size<wa.heap.size;omega) (by show w.heap.size≠bq;have:=HH.out.bk.choose_spec.1.2.1;omega)).trans ((hvb.cell (p:=⟨w.heap.size,5,none⟩) (by show w.heap.size<wa.heap.size;omega)).symm.trans x2),(HB9.out.cell (p:=⟨w.heap.size,6,none⟩) (by show w.heap.size<wa.heap.size;omega) (by show w.heap.size≠bq;have:=HH.out.bk.choose_spec.1.2.1;omega)).trans ((hvb.cell (p:=⟨w.heap.size,6,none⟩) (by show w.heap.size<wa.heap.size;omega)).symm.trans x3),(HB9.out.cell (p:=⟨w.heap.size,9,none⟩) (by show w.heap.size<wa.heap.size;omega) (by show w.heap.size≠bq;have:=HH.out.bk.choose_spec.1.2.1;omega)).trans ((hvb.cell (p:=⟨w.heap.size,9,none⟩) (by show w.heap.size<wa.heap.size;omega)).symm.trans x4)⟩
 clear hK K;refine tk 11 ?_
 refine dnR ?_
 have HMD:Hid (MdAll E w9 L A S1 Q bp bq P r S B n nv uv lv st (updR g (zaj kv km S B) (putF (fun i=>ownP (g (zaj kv km S B) i)) ⟨kv,km,p,true,0⟩ nw n).1) G R qv qs/\MdFr E w w9 L):=⟨HM.out.bookD HD.out.2.1 HD.out.2.2.1 HD.out.2.2.2.1 HD.out.2.2.2.2 HK9.out HB9.out,MdFr.of_but HH.out HLW.out HB9.out (.inr rfl) HM.out.lbk⟩
 clear hHeld c3 hq
 go_wp2
 go_ret
 exact ⟨by first|rfl|(simp;done),HMD.out.1,HMD.out.2⟩
set_option maxRecDepth 20000 in
set_option maxHeartbeats 3200000 in
theorem zpz {E:Nat->Prop} {w:World} {L A S1 Q bp bq P r S B n nv:Nat} {uv:Value} {lv:List Vl} {st:Nat->Int×Nat} {g:Nat->Nat->Pl} {G:Nat->Value} {R:Nat->Nat} {qv:Nat->Nat->Value} {qs:Nat->Nat->List Int} (h:MdAll E w L A S1 Q bp bq P r S B n nv uv lv st g G R qv qs) (hS:1<=S/\S<=8) (hB:1<=B/\B<=16) (hn:1<=n/\n<=8)  (po tt vi sx kv km me un nw li sh bu id:Int):Calls Tryz.prog 58 #[.pointer (some ⟨A,0,none⟩),opV 7 po tt vi sx kv km me un nw li sh bu id] w fun e w'=>e=.returned (.int .i64 (flC po vi g n (S*B):Nat))/\MdAll E w' L A S1 Q bp bq P r S B n nv uv lv st (flG po vi g (S*B)) G R qv qs/\MdFr E w w' L:=by
 have HN:=Lib.hid fun w' (hb:Below w.heap.size w w')=>zae (h.md.call hb)
 have hmay:=fun w' (hb:Below w.heap.size w w')=>zmf (h.md.call hb) po tt vi sx kv km me un nw li sh bu id
 have HMAY:=Lib.hid hmay;have HBOX:=Lib.hid (zbf w 66 (.int .i64 (7)) (.int .i64 (po)) (.int .i64 (tt)) (.int .i64 (vi)) (.int .i64 (sx)) (.int .i64 (kv)) (.int .u64 (km)) (.int .u64 (me)) (.int .u64 (un)) (.int .u32 (nw)) (.int .u32 (li)) (.int .i64 (sh)) (.int .i64 (bu)) (.int .i64 (id)));have HLOW:=Lib.hid (zcd HBOX.out);have HUP:=Lib.hid (up14 HBOX.out);have hq:=zbg HBOX.out;have HH:=Lib.hid h;clear h hmay;unfold opV at HMAY |-
 go_enter Tryz.func58,Tryz.ntmps58
 go_wp2_with (first
  |(go_at_call 80;(with_reducible refine Calls.mono (HN.out _ (HLOW.out _ hq)) ?_);rintro e wa ⟨rfl,hba⟩;(have hq:=HUP.out _ _ hq hba);(obtain ⟨q0,q1,q2,q3,q4,q5,q6,q7,q8,q9,q10,q11,q12,q13⟩:=HBOX.out _ hq);clear hba)
  |(go_at_call 81;(with_reducible refine Calls.mono (HMAY.out _ (HLOW.out _ hq)) ?_);rintro e wa ⟨rfl,hba⟩;(have hq:=HUP.out _ _ hq hba);(obtain ⟨q0,q1,q2,q3,q4,q5,q6,q7,q8,q9,q10,q11,q12,q13⟩:=HBOX.out _ hq);clear hba)
  |fail)
 have HM:=Lib.hid (HH.out.call (HLOW.out _ hq));have HLW:=Lib.hid (HLOW.out _ hq);obtain ⟨D,hd1,hd2,hd3,hd4,hd5⟩:=HM.out.bk;have HD:=Lib.hid (And.intro hd1 (And.intro hd2 (And.intro hd3 (And.intro hd4 hd5))));clear hd1 hd2 hd3 hd4 hd5
 have c3:wa.cell? ⟨A,3,none⟩=some (.pointer (some ⟨bp,0,none⟩)):=HM.out.md.cells.cell (by omega)
 have hAz:A<wa.heap.size:=HM.out.md.cells.lt
 have hWz:w.heap.size<wa.heap.size:=by have:=hq.size;simp at this;omega
 have hAq:A≠bq:=(HD.out.2.2.2.1 A (.inl (.inl rfl))).2.2
 refine wp_region_held_drew (S:=fun w'=>w'.cell? ⟨A,3,none⟩=some (.pointer (some ⟨bp,0,none⟩))/\w'.cell? ⟨w.heap.size,1,none⟩=some (.int .i64 (po))/\w'.cell? ⟨w.heap.size,3,none⟩=some (.int .i64 (vi))) (by kernel_rfl) ?_ (fun hHeld=>?_)
 ·exact ⟨c3,q1,q3⟩
 obtain ⟨v0,hv0⟩:∃ w',w'=wa.drew:=⟨_,rfl⟩
 have hvb:Below wa.heap.size wa v0:=by rw [hv0];exact (Below.refl _ _).drew
 have HVZ:Hid (v0.heap.size=wa.heap.size):=by show _=_;rw [hv0];rfl
 rw [<- hv0] at hHeld |-;clear hv0;have HK0:=Lib.hid (HD.out.1.call hvb)
 have HD0:Hid (∀ b,D b->b<v0.heap.size):=fun b hd=>by rw [HVZ.out];exact HD.out.2.1 b hd
 refine tk 0 ?_;refine tk 1 ?_;refine tk 2 ?_;refine tk 3 ?_;refine tk 4 ?_;refine tk 5 ?_;refine tk 6 ?_;refine tk 7 ?_;refine tk 8 ?_
 refine clR 9 rfl fun K hK=>?_
 go_simp
 refine Calls.mono (zmt HK0.out HD0.out HD.out.2.2.1 hS hB (by omega) po vi) ?_
 rintro e w9 ⟨rfl,hk9,hb9⟩
 have HB9:Hid (But bq wa w9):=(But.of hvb (by have:=HD.out.2.1 bq HD.out.2.2.1;omega)).trans hb9
 have HK9:=Lib.hid hk9;clear hb9 hk9
 refine hK.out _ _ ?_ (fun hHeld=>?_)
 ·(try dsimp only)
  obtain ⟨x0,x1,x2⟩:=hHeld
  exact ⟨(HB9.out.cell (p:=⟨A,3,none⟩) (by show A<wa.heap.size;omega) (by show A≠bq;exact hAq)).trans ((hvb.cell (p:=⟨A,3,none⟩) (by show A<wa.heap.size;omega)).symm.trans x0),(HB9.out.cell (p:=⟨w.heap.size,1,none⟩) (by show w.heap.size<wa.heap.size;omega) (by show w.heap.size≠bq;have:=HH.out.bk.choose_spec.1.2.1;omega)).trans ((hvb.cell (p:=⟨w.heap.size,1,none⟩) (by show w.heap.size<wa.heap.size;omega)).symm.trans x1),(HB9.out.cell (p:=⟨w.heap.size,3,none⟩) (by show w.heap.size<wa.heap.size;omega) (by show w.heap.size≠bq;have:=HH.out.bk.choose_spec.1.2.1;omega)).trans ((hvb.cell (p:=⟨w.heap.size,3,none⟩) (by show w.heap.size<wa.heap.size;omega)).symm.trans x2)⟩
 clear hK K;refine tk 10 ?_
 refine dnR ?_
 have HMD:Hid (MdAll E w9 L A S1 Q bp bq P r S B n nv uv lv st (flG po vi g (S*B)) G R qv qs/\MdFr E w w9 L):=⟨HM.out.bookD HD.out.2.1 HD.out.2.2.1 HD.out.2.2.2.1 HD.out.2.2.2.2 HK9.out HB9.out,MdFr.of_but HH.out HLW.out HB9.out (.inr rfl) HM.out.lbk⟩;clear hHeld c3 hq
 go_wp2
 go_ret
 exact ⟨by first|rfl|(simp;done),HMD.out.1,HMD.out.2⟩
set_option maxRecDepth 20000 in
set_option maxHeartbeats 3200000 in
theorem zom {E:Nat->Prop} {w:World} {L A S1 Q bp bq P r S B n nv:Nat} {uv:Value} {lv:List Vl} {st:Nat->Int×Nat} {g:Nat->Nat->Pl} {G:Nat->Value} {R:Nat->Nat} {qv:Nat->Nat->Value} {qs:Nat->Nat->List Int} (h:MdAll E w L A S1 Q bp bq P r S B n nv uv lv st g G R qv qs) (hS:1<=S/\S<=8) (hB:1<=B/\B<=16) (hn:1<=n/\n<=8) (kv:Int) (km:Nat) (hkm:km<18446744073709551616)  (po tt vi sx me un nw li sh bu id:Int):Calls Tryz.prog 58 #[.pointer (some ⟨A,0,none⟩),opV 5 po tt vi sx kv ((km:Nat)) me un nw li sh bu id] w fun e w'=>e=.returned (.int .i64 (if (zbv (fun i=>ownP (g (zaj kv km S B) i)) kv km n).2=true then 1 else 0))/\MdAll E w' L A S1 Q bp bq P r S B n nv uv lv st (updR g (zaj kv km S B) (zbv (fun i=>ownP (g (zaj kv km S B) i)) kv km n).1) G R qv qs/\MdFr E w w' L:=by
 have HN:=Lib.hid fun w' (hb:Below w.heap.size w w')=>zae (h.md.call hb)
 have hmay:=fun w' (hb:Below w.heap.size w w')=>znt (h.md.call hb) po tt vi sx kv (km:Nat) me un nw li sh bu id
 obtain ⟨z,hz⟩:∃ z:Int,z=if (zbv (fun i=>ownP (g (zaj kv km S B) i)) kv km n).2=true then 1 else 0:=⟨_,rfl⟩
 have hnu:=fun w=>zcf (zbv (fun i=>ownP (g (zaj kv km S B) i)) kv km n).2 w
 rw [<- hz] at hnu;have HNU:=Lib.hid hnu;rw [<- hz];clear hnu hz;have HMAY:=Lib.hid hmay;have HBOX:=Lib.hid (zbf w 66 (.int .i64 (5)) (.int .i64 (po)) (.int .i64 (tt)) (.int .i64 (vi)) (.int .i64 (sx)) (.int .i64 (kv)) (.int .u64 ((km:Nat))) (.int .u64 (me)) (.int .u64 (un)) (.int .u32 (nw)) (.int .u32 (li)) (.int .i64 (sh)) (.int .i64 (bu)) (.int .i64 (id)));have HLOW:=Lib.hid (zcd HBOX.out);have HUP:=Lib.hid (up14 HBOX.out);have hq:=zbg HBOX.out;have HH:=Lib.hid h;clear h hmay;unfold opV at HMAY |-
 go_enter Tryz.func58,Tryz.ntmps58
 go_wp2_with (first
  |(go_at_call 80;(with_reducible refine Calls.mono (HN.out _ (HLOW.out _ hq)) ?_);rintro e wa ⟨rfl,hba⟩;(have hq:=HUP.out _ _ hq hba);(obtain ⟨q0,q1,q2,q3,q4,q5,q6,q7,q8,q9,q10,q11,q12,q13⟩:=HBOX.out _ hq);clear hba)
  |(go_at_call 81;(with_reducible refine Calls.mono (HMAY.out _ (HLOW.out _ hq)) ?_);rintro e wa ⟨rfl,hba⟩;(have hq:=HUP.out _ _ hq hba);(obtain ⟨q0,q1,q2,q3,q4,q5,q6,q7,q8,q9,q10,q11,q12,q13⟩:=HBOX.out _ hq);clear hba)
  |fail)
 have HM:=Lib.hid (HH.out.call (HLOW.out _ hq));have HLW:=Lib.hid (HLOW.out _ hq);obtain ⟨D,hd1,hd2,hd3,hd4,hd5⟩:=HM.out.bk;have HD:=Lib.hid (And.intro hd1 (And.intro hd2 (And.intro hd3 (And.intro hd4 hd5))));clear hd1 hd2 hd3 hd4 hd5
 have c3:wa.cell? ⟨A,3,none⟩=some (.pointer (some ⟨bp,0,none⟩)):=HM.out.md.cells.cell (by omega)
 have hAz:A<wa.heap.size:=HM.out.md.cells.lt
 have hWz:w.heap.size<wa.heap.size:=by have:=hq.size;simp at this;omega
 have hAq:A≠bq:=(HD.out.2.2.2.1 A (.inl (.inl rfl))).2.2
 refine wp_region_held_drew (S:=fun w'=>w'.cell? ⟨A,3,none⟩=some (.pointer (some ⟨bp,0,none⟩))/\w'.cell? ⟨w.heap.size,5,none⟩=some (.int .i64 (kv))/\w'.cell? ⟨w.heap.size,6,none⟩=some (.int .u64 ((km:Nat)))) (by kernel_rfl) ?_ (fun hHeld=>?_)
 ·exact ⟨c3,q5,q6⟩
 obtain ⟨v0,hv0⟩:∃ w',w'=wa.drew:=⟨_,rfl⟩
 have hvb:Below wa.heap.size wa v0:=by rw [hv0];exact (Below.refl _ _).drew
 have HVZ:Hid (v0.heap.size=wa.heap.size):=by show _=_;rw [hv0];rfl
 rw [<- hv0] at hHeld |-;clear hv0;have HK0:=Lib.hid (HD.out.1.call hvb)
 have HD0:Hid (∀ b,D b->b<v0.heap.size):=fun b hd=>by rw [HVZ.out];exact HD.out.2.1 b hd
 refine tk 0 ?_;refine tk 1 ?_;refine tk 2 ?_;refine tk 3 ?_;refine tk 4 ?_;refine tk 5 ?_
 refine clR 6 rfl fun K hK=>?_
 go_simp
 refine Calls.mono (zn0 HK0.out HD0.out HD.out.2.2.1 hS hB (by omega) kv km hkm) ?_
 rintro e w9 ⟨rfl,hk9,hb9⟩
 have HB9:Hid (But bq wa w9):=(But.of hvb (by have:=HD.out.2.1 bq HD.out.2.2.1;omega)).trans hb9
 have HK9:=Lib.hid hk9;clear hb9 hk9
 refine hK.out _ _ ?_ (fun hHeld=>?_)
 ·(try dsimp only)
  obtain ⟨x0,x1,x2⟩:=hHeld
  exact ⟨(HB9.out.cell (p:=⟨A,3,none⟩) (by show A<wa.heap.size;omega) (by show A≠bq;exact hAq)).trans ((hvb.cell (p:=⟨A,3,none⟩) (by show A<wa.heap.size;omega)).symm.trans x0),(HB9.out.cell (p:=⟨w.heap.size,5,none⟩) (by show w.heap.size<wa.heap.size;omega) (by show w.heap.size≠bq;have:=HH.out.bk.choose_spec.1.2.1;omega)).trans ((hvb.cell (p:=⟨w.heap.size,5,none⟩) (by show w.heap.size<wa.heap.size;omega)).symm.trans x1),(HB9.out.cell (p:=⟨w.heap.size,6,none⟩) (by show w.heap.size<wa.heap.size;omega) (by show w.heap.size≠bq;have:=HH.out.bk.choose_spec.1.2.1;omega)).trans ((hvb.cell (p:=⟨w.heap.size,6,none⟩) (by show w.heap.size<wa.heap.size;omega)).symm.trans x2)⟩
 clear hK K
 (try simp only [Act.put,sqA,sqB,sqC])
 refine clR 7 rfl fun K hK=>?_
 go_simp
 refine Calls.mono (HNU.out _) ?_
 rintro e wy ⟨rfl,hby⟩;have HBY:=Lib.hid hby;clear hby
 refine hK.out _ _ ?_ (fun hHeld=>?_)
 ·(try dsimp only)
  obtain ⟨x0,x1,x2⟩:=hHeld
  exact ⟨(HBY.out.cell (p:=⟨A,3,none⟩) (by show A<w9.heap.size;have:=HB9.out.below.size;omega)).trans x0,(HBY.out.cell (p:=⟨w.heap.size,5,none⟩) (by show w.heap.size<w9.heap.size;have:=HB9.out.below.size;omega)).trans x1,(HBY.out.cell (p:=⟨w.heap.size,6,none⟩) (by show w.heap.size<w9.heap.size;have:=HB9.out.below.size;omega)).trans x2⟩
 clear hK K;refine tk 8 ?_
 refine dnR ?_
 have HMD:Hid (MdAll E w9 L A S1 Q bp bq P r S B n nv uv lv st (updR g (zaj kv km S B) (zbv (fun i=>ownP (g (zaj kv km S B) i)) kv km n).1) G R qv qs/\MdFr E w w9 L):=⟨HM.out.bookD HD.out.2.1 HD.out.2.2.1 HD.out.2.2.2.1 HD.out.2.2.2.2 HK9.out HB9.out,MdFr.of_but HH.out HLW.out HB9.out (.inr rfl) HM.out.lbk⟩
 clear hHeld c3 hq
 go_wp2
 go_ret
 exact ⟨by first|rfl|(simp;done),HMD.out.1.call HBY.out,MdFr.call HH.out HMD.out.2 HBY.out⟩
set_option maxRecDepth 20000 in
set_option maxHeartbeats 3200000 in
theorem zob {E:Nat->Prop} {w:World} {L A S1 Q bp bq P r S B n nv:Nat} {uv:Value} {lv:List Vl} {st:Nat->Int×Nat} {g:Nat->Nat->Pl} {G:Nat->Value} {R:Nat->Nat} {qv:Nat->Nat->Value} {qs:Nat->Nat->List Int} (h:MdAll E w L A S1 Q bp bq P r S B n nv uv lv st g G R qv qs) (hS:1<=S/\S<=8) (hB:1<=B/\B<=16) (hn:1<=n/\n<=8) (hst:∀ i,i<S*B->∀ j,j<n->(g i j).e.stamp<4294967296) (nw:Nat) (hnw:nw<4294967296) (li:Nat) (sh bu:Int) (Hh:Nat) (hh2:Hh<S*B) (ha:atI S B sh bu=(Hh:Int))  (po tt vi sx kv km me un id:Int):Calls Tryz.prog 58 #[.pointer (some ⟨A,0,none⟩),opV 6 po tt vi sx kv km me un ((nw:Nat)) ((li:Nat)) sh bu id] w fun e w'=>e=.returned (.int .i64 (ageC g Hh nw li n:Nat))/\MdAll E w' L A S1 Q bp bq P r S B n nv uv lv st (updR g Hh (ageR g Hh nw li)) G R qv qs/\MdFr E w w' L:=by
 have HN:=Lib.hid fun w' (hb:Below w.heap.size w w')=>zae (h.md.call hb)
 have hmay:=fun w' (hb:Below w.heap.size w w')=>zhr (h.md.call hb) po tt vi sx kv km me un (nw:Nat) (li:Nat) sh bu id
 have HMAY:=Lib.hid hmay;have HBOX:=Lib.hid (zbf w 66 (.int .i64 (6)) (.int .i64 (po)) (.int .i64 (tt)) (.int .i64 (vi)) (.int .i64 (sx)) (.int .i64 (kv)) (.int .u64 (km)) (.int .u64 (me)) (.int .u64 (un)) (.int .u32 ((nw:Nat))) (.int .u32 ((li:Nat))) (.int .i64 (sh)) (.int .i64 (bu)) (.int .i64 (id)));have HLOW:=Lib.hid (zcd HBOX.out);have HUP:=Lib.hid (up14 HBOX.out);have hq:=zbg HBOX.out;have HH:=Lib.hid h;clear h hmay;unfold opV at HMAY |-
 go_enter Tryz.func58,Tryz.ntmps58
 go_wp2_with (first
  |(go_at_call 80;(with_reducible refine Calls.mono (HN.out _ (HLOW.out _ hq)) ?_);rintro e wa ⟨rfl,hba⟩;(have hq:=HUP.out _ _ hq hba);(obtain ⟨q0,q1,q2,q3,q4,q5,q6,q7,q8,q9,q10,q11,q12,q13⟩:=HBOX.out _ hq);clear hba)
  |(go_at_call 81;(with_reducible refine Calls.mono (HMAY.out _ (HLOW.out _ hq)) ?_);rintro e wa ⟨rfl,hba⟩;(have hq:=HUP.out _ _ hq hba);(obtain ⟨q0,q1,q2,q3,q4,q5,q6,q7,q8,q9,q10,q11,q12,q13⟩:=HBOX.out _ hq);clear hba)
  |fail)
 have HM:=Lib.hid (HH.out.call (HLOW.out _ hq));have HLW:=Lib.hid (HLOW.out _ hq);obtain ⟨D,hd1,hd2,hd3,hd4,hd5⟩:=HM.out.bk;have HD:=Lib.hid (And.intro hd1 (And.intro hd2 (And.intro hd3 (And.intro hd4 hd5))));clear hd1 hd2 hd3 hd4 hd5
 have c3:wa.cell? ⟨A,3,none⟩=some (.pointer (some ⟨bp,0,none⟩)):=HM.out.md.cells.cell (by omega)
 have hAz:A<wa.heap.size:=HM.out.md.cells.lt
 have hWz:w.heap.size<wa.heap.size:=by have:=hq.size;simp at this;omega
 have hAq:A≠bq:=(HD.out.2.2.2.1 A (.inl (.inl rfl))).2.2
 refine wp_region_held_drew (S:=fun w'=>w'.cell? ⟨A,3,none⟩=some (.pointer (some ⟨bp,0,none⟩))/\w'.cell? ⟨w.heap.size,9,none⟩=some (.int .u32 ((nw:Nat)))/\w'.cell? ⟨w.heap.size,10,none⟩=some (.int .u32 ((li:Nat)))/\w'.cell? ⟨w.heap.size,11,none⟩=some (.int .i64 (sh))/\w'.cell? ⟨w.heap.size,12,none⟩=some (.int .i64 (bu))) (by kernel_rfl) ?_ (fun hHeld=>?_)
 ·exact ⟨c3,q9,q10,q11,q12⟩
 obtain ⟨v0,hv0⟩:∃ w',w'=wa.drew:=⟨_,rfl⟩
 have hvb:Below wa.heap.size wa v0:=by rw [hv0];exact (Below.refl _ _).drew
 have HVZ:Hid (v0.heap.size=wa.heap.size):=by show _=_;rw [hv0];rfl
 rw [<- hv0] at hHeld |-;clear hv0;have HK0:=Lib.hid (HD.out.1.call hvb)
 have HD0:Hid (∀ b,D b->b<v0.heap.size):=fun b hd=>by rw [HVZ.out];exact HD.out.2.1 b hd
 refine tk 0 ?_;refine tk 1 ?_;refine tk 2 ?_;refine tk 3 ?_;refine tk 4 ?_;refine tk 5 ?_;refine tk 6 ?_;refine tk 7 ?_;refine tk 8 ?_;refine tk 9 ?_;refine tk 10 ?_;refine tk 11 ?_
 refine clR 12 rfl fun K hK=>?_
 go_simp
 refine Calls.mono (book_Age HK0.out HD0.out HD.out.2.2.1 hS hB (by omega) hst sh bu nw li hnw Hh hh2 ha) ?_
 rintro e w9 ⟨rfl,hk9,hb9⟩
 have HB9:Hid (But bq wa w9):=(But.of hvb (by have:=HD.out.2.1 bq HD.out.2.2.1;omega)).trans hb9
 have HK9:=Lib.hid hk9;clear hb9 hk9
 refine hK.out _ _ ?_ (fun hHeld=>?_)
 ·(try dsimp only)
  obtain ⟨x0,x1,x2,x3,x4⟩:=hHeld
  exact ⟨(HB9.out.cell (p:=⟨A,3,none⟩) (by show A<wa.heap.size;omega) (by show A≠bq;exact hAq)).trans ((hvb.cell (p:=⟨A,3,none⟩) (by show A<wa.heap.size;omega)).symm.trans x0),(HB9.out.cell (p:=⟨w.heap.size,9,none⟩) (by show w.heap.size<wa.heap.size;omega) (by show w.heap.size≠bq;have:=HH.out.bk.choose_spec.1.2.1;omega)).trans ((hvb.cell (p:=⟨w.heap.size,9,none⟩) (by show w.heap.size<wa.heap.size;omega)).symm.trans x1),(HB9.out.cell (p:=⟨w.heap.size,10,none⟩) (by show w.heap.size<wa.heap.size;omega) (by show w.heap.size≠bq;have:=HH.out.bk.choose_spec.1.2.1;omega)).trans ((hvb.cell (p:=⟨w.heap.size,10,none⟩) (by show w.heap.size<wa.heap.size;omega)).symm.trans x2),(HB9.out.cell (p:=⟨w.heap.size,11,none⟩) (by show w.heap.size<wa.heap.size;omega) (by show w.heap.size≠bq;have:=HH.out.bk.choose_spec.1.2.1;omega)).trans ((hvb.cell (p:=⟨w.heap.size,11,none⟩) (by show w.heap.size<wa.heap.size;omega)).symm.trans x3),(HB9.out.cell (p:=⟨w.heap.size,12,none⟩) (by show w.heap.size<wa.heap.size;omega) (by show w.heap.size≠bq;have:=HH.out.bk.choose_spec.1.2.1;omega)).trans ((hvb.cell (p:=⟨w.heap.size,12,none⟩) (by show w.heap.size<wa.heap.size;omega)).symm.trans x4)⟩
 clear hK K;refine tk 13 ?_
 refine dnR ?_
 have HMD:Hid (MdAll E w9 L A S1 Q bp bq P r S B n nv uv lv st (updR g Hh (ageR g Hh nw li)) G R qv qs/\MdFr E w w9 L):=⟨HM.out.bookD HD.out.2.1 HD.out.2.2.1 HD.out.2.2.2.1 HD.out.2.2.2.2 HK9.out HB9.out,MdFr.of_but HH.out HLW.out HB9.out (.inr rfl) HM.out.lbk⟩;clear hHeld c3 hq
 go_wp2
 go_ret
 exact ⟨by first|rfl|(simp;done),HMD.out.1,HMD.out.2⟩
set_option maxRecDepth 20000 in
set_option maxHeartbeats 3200000 in
theorem zkh {E:Nat->Prop} {w:World} {L A S1 Q bp bq P r S B n nv:Nat} {uv:Value} {lv:List Vl} {st:Nat->Int×Nat} {g:Nat->Nat->Pl} {G:Nat->Value} {R:Nat->Nat} {qv:Nat->Nat->Value} {qs:Nat->Nat->List Int} (h:MdAll E w L A S1 Q bp bq P r S B n nv uv lv st g G R qv qs) (hS:1<=S/\S<=8) (hB:1<=B/\B<=16) (hn:1<=n/\n<=8) (sh bu:Int) (ha:atI S B sh bu=-1)  (po tt vi sx kv km me un nw li id:Int):Calls Tryz.prog 58 #[.pointer (some ⟨A,0,none⟩),opV 6 po tt vi sx kv km me un nw li sh bu id] w (Says (.int .i64 0) w):=by
 have HN:=Lib.hid fun w' (hb:Below w.heap.size w w')=>zae (h.md.call hb)
 have hmay:=fun w' (hb:Below w.heap.size w w')=>zhr (h.md.call hb) po tt vi sx kv km me un nw li sh bu id
 have HMAY:=Lib.hid hmay;have HBOX:=Lib.hid (zbf w 66 (.int .i64 (6)) (.int .i64 (po)) (.int .i64 (tt)) (.int .i64 (vi)) (.int .i64 (sx)) (.int .i64 (kv)) (.int .u64 (km)) (.int .u64 (me)) (.int .u64 (un)) (.int .u32 (nw)) (.int .u32 (li)) (.int .i64 (sh)) (.int .i64 (bu)) (.int .i64 (id)));have HLOW:=Lib.hid (zcd HBOX.out);have HUP:=Lib.hid (up14 HBOX.out);have hq:=zbg HBOX.out;have HH:=Lib.hid h;clear h hmay;unfold opV at HMAY |-
 go_enter Tryz.func58,Tryz.ntmps58
 go_wp2_with (first
  |(go_at_call 80;(with_reducible refine Calls.mono (HN.out _ (HLOW.out _ hq)) ?_);rintro e wa ⟨rfl,hba⟩;(have hq:=HUP.out _ _ hq hba);(obtain ⟨q0,q1,q2,q3,q4,q5,q6,q7,q8,q9,q10,q11,q12,q13⟩:=HBOX.out _ hq);clear hba)
  |(go_at_call 81;(with_reducible refine Calls.mono (HMAY.out _ (HLOW.out _ hq)) ?_);rintro e wa ⟨rfl,hba⟩;(have hq:=HUP.out _ _ hq hba);(obtain ⟨q0,q1,q2,q3,q4,q5,q6,q7,q8,q9,q10,q11,q12,q13⟩:=HBOX.out _ hq);clear hba)
  |fail)
 have HM:=Lib.hid (HH.out.call (HLOW.out _ hq));have HLW:=Lib.hid (HLOW.out _ hq);obtain ⟨D,hd1,hd2,hd3,hd4,hd5⟩:=HM.out.bk;have HD:=Lib.hid (And.intro hd1 (And.intro hd2 (And.intro hd3 (And.intro hd4 hd5))));clear hd1 hd2 hd3 hd4 hd5
 have c3:wa.cell? ⟨A,3,none⟩=some (.pointer (some ⟨bp,0,none⟩)):=HM.out.md.cells.cell (by omega)
 have hAz:A<wa.heap.size:=HM.out.md.cells.lt
 have hWz:w.heap.size<wa.heap.size:=by have:=hq.size;simp at this;omega
 have hAq:A≠bq:=(HD.out.2.2.2.1 A (.inl (.inl rfl))).2.2
 refine wp_region_held_drew (S:=fun w'=>w'.cell? ⟨A,3,none⟩=some (.pointer (some ⟨bp,0,none⟩))/\w'.cell? ⟨w.heap.size,9,none⟩=some (.int .u32 (nw))/\w'.cell? ⟨w.heap.size,10,none⟩=some (.int .u32 (li))/\w'.cell? ⟨w.heap.size,11,none⟩=some (.int .i64 (sh))/\w'.cell? ⟨w.heap.size,12,none⟩=some (.int .i64 (bu))) (by kernel_rfl) ?_ (fun hHeld=>?_)
 ·exact ⟨c3,q9,q10,q11,q12⟩
 obtain ⟨v0,hv0⟩:∃ w',w'=wa.drew:=⟨_,rfl⟩
 have hvb:Below wa.heap.size wa v0:=by rw [hv0];exact (Below.refl _ _).drew
 have HVZ:Hid (v0.heap.size=wa.heap.size):=by show _=_;rw [hv0];rfl
 rw [<- hv0] at hHeld |-;clear hv0;have HK0:=Lib.hid (HD.out.1.call hvb)
 have HD0:Hid (∀ b,D b->b<v0.heap.size):=fun b hd=>by rw [HVZ.out];exact HD.out.2.1 b hd
 refine tk 0 ?_;refine tk 1 ?_;refine tk 2 ?_;refine tk 3 ?_;refine tk 4 ?_;refine tk 5 ?_;refine tk 6 ?_;refine tk 7 ?_;refine tk 8 ?_;refine tk 9 ?_;refine tk 10 ?_;refine tk 11 ?_
 refine clR 12 rfl fun K hK=>?_
 go_simp
 refine Calls.mono (znn HK0.out hS hB sh bu nw li ha) ?_
 rintro e w9 ⟨rfl,hb9⟩
 have HB9:Hid (Below wa.heap.size wa w9):=hvb.trans (hb9.mono (by rw [HVZ.out];exact Nat.le_refl _))
 clear hb9
 refine hK.out _ _ ?_ (fun hHeld=>?_)
 ·(try dsimp only)
  obtain ⟨x0,x1,x2,x3,x4⟩:=hHeld
  exact ⟨(HB9.out.cell (p:=⟨A,3,none⟩) (by show A<wa.heap.size;omega)).trans ((hvb.cell (p:=⟨A,3,none⟩) (by show A<wa.heap.size;omega)).symm.trans x0),(HB9.out.cell (p:=⟨w.heap.size,9,none⟩) (by show w.heap.size<wa.heap.size;omega)).trans ((hvb.cell (p:=⟨w.heap.size,9,none⟩) (by show w.heap.size<wa.heap.size;omega)).symm.trans x1),(HB9.out.cell (p:=⟨w.heap.size,10,none⟩) (by show w.heap.size<wa.heap.size;omega)).trans ((hvb.cell (p:=⟨w.heap.size,10,none⟩) (by show w.heap.size<wa.heap.size;omega)).symm.trans x2),(HB9.out.cell (p:=⟨w.heap.size,11,none⟩) (by show w.heap.size<wa.heap.size;omega)).trans ((hvb.cell (p:=⟨w.heap.size,11,none⟩) (by show w.heap.size<wa.heap.size;omega)).symm.trans x3),(HB9.out.cell (p:=⟨w.heap.size,12,none⟩) (by show w.heap.size<wa.heap.size;omega)).trans ((hvb.cell (p:=⟨w.heap.size,12,none⟩) (by show w.heap.size<wa.heap.size;omega)).symm.trans x4)⟩
 clear hK K;refine tk 13 ?_
 refine dnR ?_
 have HBZ:=Lib.hid (HLW.out.trans (HB9.out.mono HLW.out.size));clear hHeld c3 hq
 go_wp2
 go_ret
 exact ⟨by first|rfl|(simp;done),HBZ.out⟩
theorem zoz {E:Nat->Prop} {w:World} {L A S1 Q bp bq P r S B n nv:Nat} {uv:Value} {lv:List Vl} {st:Nat->Int×Nat} {g:Nat->Nat->Pl} {G:Nat->Value} {R:Nat->Nat} {qv:Nat->Nat->Value} {qs:Nat->Nat->List Int} (h:MdAll E w L A S1 Q bp bq P r S B n nv uv lv st g G R qv qs) (hP:P<=64) (p:Nat) (hp:p<P) (x:Int) (hx:zau x=true) (tt vi kv km me un nw li sh bu id:Int):Calls Tryz.prog 58 #[.pointer (some ⟨A,0,none⟩),opV 8 (p:Nat) tt vi x kv km me un nw li sh bu id] w fun e w'=>e=.returned (.int .i64 ((((st p).2+1) % 4294967296:Nat):Int))/\MdAll E w' L A S1 Q bp bq P r S B n nv uv lv (updS st p x (((st p).2+1) % 4294967296)) g G R qv qs/\MdFr E w w' L:=by
 refine (zla h.md hP p hp x hx tt vi kv km me un nw li sh bu id).mono ?_
 rintro e w' ⟨he,hm,hb⟩
 exact ⟨he,h.but hm hb (.inl rfl),MdFr.of_but h (Below.refl _ _) hb (.inl (.inl (.inr (.inl rfl)))) h.md.ls⟩
theorem zmv {E:Nat->Prop} {w:World} {L A S1 Q bp bq P r S B n nv:Nat} {uv:Value} {lv:List Vl} {st:Nat->Int×Nat} {g:Nat->Nat->Pl} {G:Nat->Value} {R:Nat->Nat} {qv:Nat->Nat->Value} {qs:Nat->Nat->List Int} (h:MdAll E w L A S1 Q bp bq P r S B n nv uv lv st g G R qv qs) (hok:∀ x∈lv,x.ok) (p:Nat) (hp:p<P) (po vi sx kv km me un nw li sh bu id:Int):Calls Tryz.prog 58 #[.pointer (some ⟨A,0,none⟩),opV 12 po (p:Nat) vi sx kv km me un nw li sh bu id] w (Says (.int .i64 (zff lv nv (st p).1 p vi:Nat)) w) :=
 zix h.md hok p hp po vi sx kv km me un nw li sh bu id
end Go.Proofs.YtfekhdgjgjodlaaGreat
