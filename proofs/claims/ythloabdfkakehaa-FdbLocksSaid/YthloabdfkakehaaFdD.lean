/-
  Words and contracts that a statement's proof rests on (FdC, FdD). No statement is proved here.
-/
import Derived.Test.YthloabdfkakehaaFdX
set_option linter.unusedVariables false
set_option linter.unusedSimpArgs false
namespace Go.Proofs.Ythloabdfkakehaa
section
open Go.RowKit
def FKeep (lo b fb L ab:Nat) (E:Nat→Prop) (F:FcS) (fv lv wv:Value) (m':MemS) (a':FaS) (w:World) (e:Ending) (w':World):Prop :=
 e=.returned (.tuple #[])∧FdbAt w' lo b fb F m'∧FactIn w' L E fb ab F a' fv lv wv∧Tch (FdD lo E) w w'
theorem beqN_no {a b:Nat} (h:a ≠ b):((a:Int) == (b:Int))=false:=by simp; omega
theorem beqN_yes {a b:Nat} (h:a=b):((a:Int) == (b:Int))=true:=by simp [h]
theorem wrap_succ {k:Nat} (h:k < 1000000):wrap64 ((k:Int) + 1)=((k + 1:Nat):Int)∧IntKind.i64.wrap ((k:Int) + 1)=((k + 1:Nat):Int):=by
 rw [IntWalk.wrap64_in _ (by omega),IntWalk.i64_in _ (by omega)]
 exact ⟨rfl,rfl⟩
theorem wrap_addF {k l:Nat} (h:k < 4000000) (h':l < 4000000):wrap64 ((k:Int) + (l:Int))=((k + l:Nat):Int)∧IntKind.i64.wrap ((k:Int) + (l:Int))=((k + l:Nat):Int):=by
 rw [IntWalk.wrap64_in _ (by omega),IntWalk.i64_in _ (by omega)]
 exact ⟨rfl,rfl⟩
section
variable {w:World} {lo b fb L ab:Nat} {E:Nat→Prop} {F:FcS} {m:MemS} {a:FaS} {fv lv wv:Value}
theorem okWho_k {s:MemS} {k:Nat} {who:Int} (hk:k < s.L) (hw:0≤who):okWho s (k:Int) who=true:=by
 unfold okWho hasL
 simp
 omega
theorem take_k {s:MemS} {k:Nat} {who:Int} (hk:k < s.L) (hw:0≤who):takeB s (k:Int) who=decide (s.h k=-1)∧takeS s (k:Int) who=if s.h k=-1 then putL (tickS s) k who else tickS s:=by
 have h1:=okWho_k hk hw
 unfold takeB takeS
 rw [h1,if_pos rfl,Int.toNat_natCast,Bool.true_and]
 exact ⟨rfl,rfl⟩
theorem free_k {s:MemS} {k:Nat} {who:Int} (hk:k < s.L) (hw:0≤who):freeS s (k:Int) who=if s.h k=who then putL (tickS s) k (-1) else tickS s:=by
 have h1:=okWho_k hk hw
 unfold freeS
 rw [h1,if_pos rfl,Int.toNat_natCast]
theorem fd_after (hf:FdbAt w lo b fb F m) (ha:FactIn w L E fb ab F a fv lv wv) (h1:lo + 3≤L) {u w':World} {m':MemS} (hu:Below w.heap.size w u) (hm:MemAt w' 82 lo b m') (ht:Touch lo u w') (hC:m'.C=m.C) (hL:m'.L=m.L) :
  FdbAt w' lo b fb F m'∧FactIn w' L E fb ab F a fv lv wv∧Tch (FdD lo E) w w' :=
 ⟨(hf.below hu).memory hm ht hC hL,(ha.below hu).touch ht h1,(Tch.of_below hu).trans (Tch.of_touch ht fun k h1 h2 => .inl ⟨h1,h2⟩)⟩
set_option maxRecDepth 20000 in
set_option maxHeartbeats 3200000 in
theorem fact_take (hf:FdbAt w lo b fb F m) (ha:FactIn w L E fb ab F a fv lv wv) (h1:lo + 3≤L) (h2:fb < L) (ht:0≤m.t∧m.t≤4611686018427387900) (hwho:0≤a.who) (hlk:a.l0 + a.held < m.L) (hst:a.st=2) (hlc:a.lc≤128) :
  Calls Try.prog 57 #[.pointer (some ⟨ab,0,none⟩)] w (FKeep lo b fb L ab E F fv lv wv (takF m a).1 (takF m a).2 w):=by
 have hLb:=hf.fits.L
 have hab:L≤ab:=(ha.low _ ha.own).1
 have r0:w.cell? ⟨ab,0,none⟩=some (.pointer (some ⟨fb,0,none⟩)):=ha.at_ (i:=0) (by omega)
 have r1:w.cell? ⟨ab,1,none⟩=some (.int .i64 a.who):=ha.at_ (i:=1) (by omega)
 have r3:w.cell? ⟨ab,3,none⟩=some (.int .i64 (a.l0:Nat)):=ha.at_ (i:=3) (by omega)
 have r8:w.cell? ⟨ab,8,none⟩=some (.int .i64 (a.held:Nat)):=ha.at_ (i:=8) (by omega)
 have s0:=hf.at_.1
 obtain ⟨tk1,tk2⟩:=take_k hlk hwho
 have hL:=fun u (hu:Below w.heap.size w u) => mem_Take ((a.l0 + a.held:Nat):Int) a.who (hf.below hu).mem (by omega)
 rw [tk1,tk2] at hL
 have hh9:a.held < 1000000:=by omega
 have hl9:a.l0 < 1000000:=by omega
 obtain ⟨hz,hz2⟩:=wrap_succ hh9
 obtain ⟨hb2,hb1⟩:=wrap_addF (k:=a.l0) (l:=a.held) (by clear hz hz2; omega) (by clear hz hz2; omega)
 obtain ⟨K,hK⟩:∃ K,K=a.l0 + a.held:=⟨_,rfl⟩
 obtain ⟨HH,hHH⟩:∃ HH,HH=a.held + 1:=⟨_,rfl⟩
 rw [← hK] at hb1 hb2 hL
 rw [← hHH] at hz hz2
 by_cases hfree:m.h (a.l0 + a.held)=-1
 ·have e1:takF m a=(putL (tickS m) (a.l0 + a.held) a.who,{ a with held:=a.held + 1,st:=if a.held + 1=a.lc then 3 else 2 }):=if_pos hfree
  rw [e1]
  rw [← hK] at hfree
  rw [← hK,← hHH]
  rw [decide_eq_true hfree,if_pos hfree] at hL
  have HL:=Lib.hid hL
  have HAF:=Lib.hid fun u (hu:Below w.heap.size w u) w' (hm:MemAt w' 82 lo b (putL (tickS m) K a.who)) (htt:Touch lo u w') => fd_after hf ha h1 hu hm htt rfl rfl
  generalize putL (tickS m) K a.who=m' at *
  have hab1:lo + 3≤ab:=by clear hz hz2 hb1 hb2; omega
  have hab2:ab ≠ fb:=by clear hz hz2 hb1 hb2; omega
  by_cases hlast:HH=a.lc
  ·rw [if_pos hlast]
   have he:=beqN_yes hlast
   clear hf ha hL tk1 tk2 e1 hfree hlk ht hLb hlast hwho hlc hh9 hl9 hst hK hHH
   go_enter Try.func57,Try.ntmps57
   go_wp2_with fail
   go_region_held3 (fun w' => w'.cell? ⟨ab,0,none⟩=some (.pointer (some ⟨fb,0,none⟩))∧w'.cell? ⟨fb,0,none⟩=some (.pointer (some ⟨b,0,none⟩))∧w'.cell? ⟨ab,3,none⟩=some (.int .i64 (a.l0:Nat))∧w'.cell? ⟨ab,8,none⟩=some (.int .i64 (a.held:Nat))∧w'.cell? ⟨ab,1,none⟩=some (.int .i64 a.who)) (first | exact ⟨HX.out.2.1.at_ (i:=0) (by omega),HX.out.1.at_.1,HX.out.2.1.at_ (i:=3) (by omega),HX.out.2.1.at_ (i:=8) (by omega),HX.out.2.1.at_ (i:=1) (by omega)⟩ | go_keep) (first
    | (go_at_call 91; (with_reducible refine Calls.mono (HL.out _ (Below.drew (Below.refl _ _))) ?_); rintro e w1 ⟨rfl,hm,ht'⟩; have HX:=Lib.hid (HAF.out _ (Below.drew (Below.refl _ _)) _ hm ht'); clear hm ht'))
   clear r0 r1 r3 r8 s0 HL HAF
   have q8:w1.cell? ⟨ab,8,none⟩=some (.int .i64 (a.held:Nat)):=HX.out.2.1.at_ (i:=8) (by omega)
   have q4:w1.cell? ⟨ab,4,none⟩=some (.int .i64 (a.lc:Nat)):=HX.out.2.1.at_ (i:=4) (by omega)
   have q7:w1.cell? ⟨ab,7,none⟩=some (.int .i64 (a.st:Nat)):=HX.out.2.1.at_ (i:=7) (by omega)
   have f8:=HX.out.2.1.fz 8
   have f7:=HX.out.2.1.fz 7
   go_wp2_with fail
   go_quiet (fail)
   go_wp2
   go_end0
   exact ⟨rfl,((HX.out.1.fset hab1 hab2 8 _).below (below_drewN (Below.refl _ _) _)).fset hab1 hab2 7 _,((HX.out.2.1.set_held HH).below (below_drewN (Below.refl _ _) _)).set_st 3,(((HX.out.2.2.fset HX.out.2.1.own 8 _).drewN _).fset HX.out.2.1.own 7 _)⟩
  ·rw [if_neg hlast,← hst]
   have he:=beqN_no hlast
   clear hf ha hL tk1 tk2 e1 hfree hlk ht hLb hlast hwho hlc hh9 hl9 hst hK hHH
   go_enter Try.func57,Try.ntmps57
   go_wp2_with fail
   go_region_held3 (fun w' => w'.cell? ⟨ab,0,none⟩=some (.pointer (some ⟨fb,0,none⟩))∧w'.cell? ⟨fb,0,none⟩=some (.pointer (some ⟨b,0,none⟩))∧w'.cell? ⟨ab,3,none⟩=some (.int .i64 (a.l0:Nat))∧w'.cell? ⟨ab,8,none⟩=some (.int .i64 (a.held:Nat))∧w'.cell? ⟨ab,1,none⟩=some (.int .i64 a.who)) (first | exact ⟨HX.out.2.1.at_ (i:=0) (by omega),HX.out.1.at_.1,HX.out.2.1.at_ (i:=3) (by omega),HX.out.2.1.at_ (i:=8) (by omega),HX.out.2.1.at_ (i:=1) (by omega)⟩ | go_keep) (first
    | (go_at_call 91; (with_reducible refine Calls.mono (HL.out _ (Below.drew (Below.refl _ _))) ?_); rintro e w1 ⟨rfl,hm,ht'⟩; have HX:=Lib.hid (HAF.out _ (Below.drew (Below.refl _ _)) _ hm ht'); clear hm ht'))
   clear r0 r1 r3 r8 s0 HL HAF
   have q8:w1.cell? ⟨ab,8,none⟩=some (.int .i64 (a.held:Nat)):=HX.out.2.1.at_ (i:=8) (by omega)
   have q4:w1.cell? ⟨ab,4,none⟩=some (.int .i64 (a.lc:Nat)):=HX.out.2.1.at_ (i:=4) (by omega)
   have q7:w1.cell? ⟨ab,7,none⟩=some (.int .i64 (a.st:Nat)):=HX.out.2.1.at_ (i:=7) (by omega)
   have f8:=HX.out.2.1.fz 8
   have f7:=HX.out.2.1.fz 7
   go_wp2_with fail
   go_quiet (fail)
   go_wp2
   go_end0
   exact ⟨rfl,(HX.out.1.fset hab1 hab2 8 _).below (below_drewN (Below.refl _ _) _),(HX.out.2.1.set_held HH).below (below_drewN (Below.refl _ _) _),(HX.out.2.2.fset HX.out.2.1.own 8 _).drewN _⟩
 ·have e1:takF m a=(tickS m,a):=if_neg hfree
  rw [e1]
  rw [← hK] at hfree
  rw [decide_eq_false hfree,if_neg hfree] at hL
  have HL:=Lib.hid hL
  have HAF:=Lib.hid fun u (hu:Below w.heap.size w u) w' (hm:MemAt w' 82 lo b (tickS m)) (htt:Touch lo u w') => fd_after hf ha h1 hu hm htt rfl rfl
  generalize tickS m=m' at *
  clear hf ha hL tk1 tk2 e1 hfree hlk ht hLb hwho hlc hh9 hl9 hst hK hHH
  go_enter Try.func57,Try.ntmps57
  go_wp2_with fail
  go_region_held3 (fun w' => w'.cell? ⟨ab,0,none⟩=some (.pointer (some ⟨fb,0,none⟩))∧w'.cell? ⟨fb,0,none⟩=some (.pointer (some ⟨b,0,none⟩))∧w'.cell? ⟨ab,3,none⟩=some (.int .i64 (a.l0:Nat))∧w'.cell? ⟨ab,8,none⟩=some (.int .i64 (a.held:Nat))∧w'.cell? ⟨ab,1,none⟩=some (.int .i64 a.who)) (first | exact ⟨HX.out.2.1.at_ (i:=0) (by omega),HX.out.1.at_.1,HX.out.2.1.at_ (i:=3) (by omega),HX.out.2.1.at_ (i:=8) (by omega),HX.out.2.1.at_ (i:=1) (by omega)⟩ | go_keep) (first
   | (go_at_call 91; (with_reducible refine Calls.mono (HL.out _ (Below.drew (Below.refl _ _))) ?_); rintro e w1 ⟨rfl,hm,ht'⟩; have HX:=Lib.hid (HAF.out _ (Below.drew (Below.refl _ _)) _ hm ht'); clear hm ht'))
  clear r0 r1 r3 r8 s0 HL HAF
  go_wp2
  go_end0
  exact ⟨rfl,HX.out.1,HX.out.2.1,HX.out.2.2⟩
end
end
section
open Go.RowKit
section
variable {w:World} {lo b fb L ab:Nat} {E:Nat→Prop} {F:FcS} {m:MemS} {a:FaS} {fv lv wv:Value}
theorem FactIn.over (h:FactIn w L E fb ab F a fv lv wv):FactIn (((w.setCell ⟨ab,7,none⟩ (.int .i64 0)).setCell ⟨ab,9,none⟩ (.slice none 0 0)).setCell ⟨ab,10,none⟩ (.slice none 0 0)) L E fb ab F { a with st:=0,ld:=[],wr:=[] } fv (.slice none 0 0) (.slice none 0 0) :=
 ((h.set_st 0).set_ld (l:=[]) ⟨rfl,.inl ⟨rfl,rfl⟩⟩ (fun k hk => by cases hk)).set_wr (l:=[]) ⟨rfl,.inl ⟨rfl,rfl⟩⟩ (fun k hk => by cases hk)
def FOver (lo b fb L ab:Nat) (E:Nat→Prop) (F:FcS) (m':MemS) (a':FaS) (w:World) (e:Ending) (w':World):Prop :=
 e=.returned (.tuple #[])∧FdbAt w' lo b fb F m'∧(∃ fv lv wv,FactIn w' L E fb ab F a' fv lv wv)∧Tch (FdD lo E) w w'
set_option maxRecDepth 20000 in
set_option maxHeartbeats 3200000 in
theorem fact_free (hf:FdbAt w lo b fb F m) (ha:FactIn w L E fb ab F a fv lv wv) (h1:lo + 3≤L) (h2:fb < L) (ht:0≤m.t∧m.t≤4611686018427387900) (hwho:0≤a.who) (hpos:1≤a.held) (hlk:a.l0 + a.held≤m.L) :
  Calls Try.prog 60 #[.pointer (some ⟨ab,0,none⟩)] w (FOver lo b fb L ab E F (freF m a).1 (freF m a).2 w):=by
 have hLb:=hf.fits.L
 have hab:L≤ab:=(ha.low _ ha.own).1
 have hab1:lo + 3≤ab:=by omega
 have hab2:ab ≠ fb:=by omega
 obtain ⟨H,hH⟩:∃ H,a.held=H + 1:=⟨a.held - 1,by omega⟩
 obtain ⟨K,hK⟩:∃ K,K=a.l0 + H:=⟨_,rfl⟩
 have hl9:a.l0 < 1000000:=by omega
 have hh9:H < 1000000:=by omega
 obtain ⟨G,hG⟩:∃ G:Int,G=(a.held:Int):=⟨_,rfl⟩
 have hz:wrap64 (G - 1)=(H:Int):=by rw [show G - 1=(H:Int) by omega]; exact IntWalk.wrap64_in _ (by omega)
 have r0:w.cell? ⟨ab,0,none⟩=some (.pointer (some ⟨fb,0,none⟩)):=ha.at_ (i:=0) (by omega)
 have r1:w.cell? ⟨ab,1,none⟩=some (.int .i64 a.who):=ha.at_ (i:=1) (by omega)
 have r3:w.cell? ⟨ab,3,none⟩=some (.int .i64 (a.l0:Nat)):=ha.at_ (i:=3) (by omega)
 have r8:w.cell? ⟨ab,8,none⟩=some (.int .i64 G):=by have:=ha.at_ (i:=8) (by clear hz; omega); rw [hG]; exact this
 have f8:=ha.fz 8
 obtain ⟨m',hm'⟩:∃ m',m'=(freF m a).1:=⟨_,rfl⟩
 have hfm:freeS m (K:Int) a.who=m':=by
  rw [free_k (by omega) hwho,hm',hK]
  show _=if m.h (a.l0 + (a.held - 1))=a.who then putL (tickS m) (a.l0 + (a.held - 1)) (-1) else tickS m
  rw [hH,Nat.add_sub_cancel]
 have hmC:m'.C=m.C∧m'.L=m.L:=by
  rw [hm']
  show (if _ then _ else _:MemS).C=_∧(if _ then _ else _:MemS).L=_
  split <;> exact ⟨rfl,rfl⟩
 obtain ⟨w0,hw0⟩:∃ w0,w0=w.setCell ⟨ab,8,none⟩ (.int .i64 (H:Nat)):=⟨_,rfl⟩
 have hf0:FdbAt w0 lo b fb F m:=by rw [hw0]; exact hf.fset hab1 hab2 8 _
 have ha0:FactIn w0 L E fb ab F { a with held:=H } fv lv wv:=by rw [hw0]; exact ha.set_held H
 have ht0:Tch (FdD lo E) w w0:=by rw [hw0]; exact (Tch.refl _ _).fset ha.own 8 _
 have hL:=fun u (hu:Below w0.heap.size w0 u) => mem_Free (K:Int) a.who (hf0.below hu).mem (by omega)
 rw [hfm] at hL
 have HL:=Lib.hid hL
 have HAF:=Lib.hid fun u (hu:Below w0.heap.size w0 u) w' (hm:MemAt w' 82 lo b m') (htt:Touch lo u w') => fd_after hf0 ha0 h1 hu hm htt hmC.1 hmC.2
 have e2:(freF m a).2=if H=0 then { a with held:=0,st:=0,ld:=[],wr:=[] } else { a with held:=H }:=by
  show (if a.held - 1=0 then _ else _:FaS)=_
  rw [hH,Nat.add_sub_cancel]
 rw [← hm']
 obtain ⟨a',ha'⟩:∃ a',a'=(freF m a).2:=⟨_,rfl⟩
 rw [← ha']
 rw [← ha'] at e2
 have HE2:=Lib.hid e2
 obtain ⟨hb2,hb1⟩:=wrap_addF (k:=a.l0) (l:=H) (by clear hz; omega) (by clear hz; omega)
 rw [← hK] at hb1 hb2
 have p0:w0.cell? ⟨ab,0,none⟩=some (.pointer (some ⟨fb,0,none⟩)):=ha0.at_ (i:=0) (by clear hz hb1 hb2; omega)
 have p1:w0.cell? ⟨ab,1,none⟩=some (.int .i64 a.who):=ha0.at_ (i:=1) (by clear hz hb1 hb2; omega)
 have p3:w0.cell? ⟨ab,3,none⟩=some (.int .i64 (a.l0:Nat)):=ha0.at_ (i:=3) (by clear hz hb1 hb2; omega)
 have p8:w0.cell? ⟨ab,8,none⟩=some (.int .i64 (H:Nat)):=ha0.at_ (i:=8) (by clear hz hb1 hb2; omega)
 have s0:=hf0.at_.1
 have HT0:=Lib.hid ht0
 have HW:=Lib.hid hw0
 clear hf ha hf0 ha0 ht ht0 hL hfm hmC hm' e2 ha' hG hwho hlk hLb hpos hK hl9 hh9 hH
 go_enter Try.func60,Try.ntmps60
 go_wp2_with fail
 rw [← hw0]
 clear hw0 r0 r1 r3 r8 f8
 go_region_held3 (fun w' => w'.cell? ⟨ab,0,none⟩=some (.pointer (some ⟨fb,0,none⟩))∧w'.cell? ⟨fb,0,none⟩=some (.pointer (some ⟨b,0,none⟩))∧w'.cell? ⟨ab,3,none⟩=some (.int .i64 (a.l0:Nat))∧w'.cell? ⟨ab,8,none⟩=some (.int .i64 (H:Nat))∧w'.cell? ⟨ab,1,none⟩=some (.int .i64 a.who)) (first | exact ⟨HX.out.2.1.at_ (i:=0) (by omega),HX.out.1.at_.1,HX.out.2.1.at_ (i:=3) (by omega),HX.out.2.1.at_ (i:=8) (by omega),HX.out.2.1.at_ (i:=1) (by omega)⟩ | go_keep) (first
  | (go_at_call 94; (with_reducible refine Calls.mono (HL.out _ (Below.drew (Below.refl _ _))) ?_); rintro e w1 ⟨rfl,hm,ht'⟩; have HX:=Lib.hid (HAF.out _ (Below.drew (Below.refl _ _)) _ hm ht'); clear hm ht'))
 have q8:w1.cell? ⟨ab,8,none⟩=some (.int .i64 (H:Nat)):=HX.out.2.1.at_ (i:=8) (by clear hz hb1 hb2; omega)
 clear p0 p1 p3 p8 s0 HL HAF
 by_cases hz0:H=0
 ·have HE3:=Lib.hid (HE2.out.trans (if_pos hz0))
  have hk:((H:Int) == 0)=true:=by rw [hz0]; rfl
  have HEND:=Lib.hid (fact_end HX.out.2.1)
  have HZ:=Lib.hid hz0
  clear hz0
  go_wp2_with fail
  refine (HEND.out).mono ?_
  rintro e w2 ⟨rfl,rfl⟩
  go_wp2
  go_end0
  refine ⟨rfl,((HX.out.1.fset hab1 hab2 7 _).fset hab1 hab2 9 _).fset hab1 hab2 10 _,⟨fv,.slice none 0 0,.slice none 0 0,?_⟩,(((HT0.out.trans HX.out.2.2).fset HX.out.2.1.own 7 _).fset HX.out.2.1.own 9 _).fset HX.out.2.1.own 10 _⟩
  rw [HE3.out]
  have h9:=HX.out.2.1.over
  rw [HZ.out] at h9
  exact h9
 ·have HE3:=Lib.hid (HE2.out.trans (if_neg hz0))
  have hk:((H:Int) == 0)=false:=by simp; clear hz hb1 hb2; omega
  clear hz0
  go_wp2
  go_end0
  exact ⟨rfl,HX.out.1,⟨fv,lv,wv,by rw [HE3.out]; exact HX.out.2.1⟩,HT0.out.trans HX.out.2.2⟩
end
end
end Go.Proofs.Ythloabdfkakehaa
