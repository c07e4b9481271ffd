/-
  Words and contracts that a statement's proof rests on (MrL). No statement is proved here.
-/
import Derived.Test.YtpcapdpglpgcbaaGreatMrE
import Derived.Test.YtpcapdpglpgcbaaGreatMrF
import Derived.Test.YtpcapdpglpgcbaaGreatMrG
import Derived.Test.YtpcapdpglpgcbaaGreatMrH
import Derived.Test.YtpcapdpglpgcbaaGreatMrI
import Derived.Test.YtpcapdpglpgcbaaGreatMrJ
import Derived.Test.YtpcapdpglpgcbaaGreatMrK
set_option linter.unusedVariables false
set_option linter.unusedSimpArgs false
namespace Go.Proofs.YtpcapdpglpgcbaaGreat
open Go.RowKit
section
variable {E:Nat→Prop} {w:World} {L A S1 Q cQ:Nat} {X:Nat→Value} {bp bq P r S B n nv:Nat} {uv:Value} {G:Nat→Value} {R:Nat→Nat} {qv:Nat→Nat→Value} {s s':Ms} {a:Int} {o:Od}
def DoneR (E:Nat→Prop) (w:World) (L A S1 Q cQ:Nat) (X:Nat→Value) (bp bq P r S B n nv:Nat) (uv:Value) (G:Nat→Value) (R:Nat→Nat) (s':Ms) (a:Int) (e:Ending) (w':World):Prop :=
 ∃ qv',e=.returned (.int .i64 a)∧RfAll E w' L A S1 Q cQ X bp bq P r S B n nv uv s'.lv s'.st s'.g G R qv' s'.qs∧s'.good∧MdFr E w w' L
theorem DoneR.quiet (h:RfAll E w L A S1 Q cQ X bp bq P r S B n nv uv s.lv s.st s.g G R qv s.qs) (hg:s.good) (hs:s'=s) {v:Int} (ha:a=v) {e:Ending} {w':World} (he:Says (.int .i64 v) w e w'):DoneR E w L A S1 Q cQ X bp bq P r S B n nv uv G R s' a e w':=by
 obtain ⟨rfl,hb⟩:=he
 rw [hs,ha]
 exact ⟨qv,rfl,h.call hb,hg,RfFr.quiet h hb⟩
theorem DoneR.of {v:Int} (hs:doS P r S B n nv s o=s') (ha:doA P r S B n nv s o=v) {e:Ending} {w':World} (h:DoneR E w L A S1 Q cQ X bp bq P r S B n nv uv G R s' v e w'):DoneR E w L A S1 Q cQ X bp bq P r S B n nv uv G R (doS P r S B n nv s o) (doA P r S B n nv s o) e w':=by
 rw [hs,ha]; exact h
theorem lv_ok {lv:List Vl} (h:∀ x ∈ lv,x.ok) (j:Nat):(lv.getD j vl0).ok:=by
 rw [List.getD_eq_getElem?_getD]
 cases h9:lv[j]?
 ·exact ⟨by decide,by decide,by decide⟩
 ·exact h _ (List.mem_of_getElem? h9)
theorem ref17_DoAll (h:RfAll E w L A S1 Q cQ X bp bq P r S B n nv uv s.lv s.st s.g G R qv s.qs) (hr:r≤64) (hS:1≤S∧S≤8) (hB:1≤B∧B≤16) (hn:1≤n∧n≤8) (hg:s.good) (hlen:∀ i j,i < P→j < P→(s.qs i j).length≤1000000) (o:Od) (ho:o.ok) :
  Calls Tryz.prog 12 #[.pointer (some ⟨A,0,none⟩),o.val] w (DoneR E w L A S1 Q cQ X bp bq P r S B n nv uv G R (doS P r S B n nv s o) (doA P r S B n nv s o)):=by
 obtain ⟨kd,po,tt,vi,sx,kv,km,me,un,nw,li,sh,bu,id⟩:=o
 obtain ⟨hvi,hkm,hme,hun,hnw⟩:=ho
 simp only at hvi hkm hme hun hnw
 unfold Od.val
 simp only
 have hst:=hg.1
 have hok:=hg.2
 have hst':∀ i,i < S * B→∀ j,j < n→(s.g i j).e.stamp < 4294967296:=fun i _ j _ => hst i j
 by_cases hk:kd < 0 ∨ 12 < kd
 ·have hk2:=hk
  rcases hk2 with hk' | hk'
  ·exact (ref17_DoXa h kd hk' po tt vi sx kv km me un nw li sh bu id).mono fun e w' he => DoneR.quiet h hg (doS_X hk) (doA_X hk) he
  ·exact (ref17_DoXb h kd hk' po tt vi sx kv km me un nw li sh bu id).mono fun e w' he => DoneR.quiet h hg (doS_X hk) (doA_X hk) he
 ·rcases (show kd=0 ∨ kd=1 ∨ kd=2 ∨ kd=3 ∨ kd=4 ∨ kd=5 ∨ kd=6 ∨ kd=7 ∨ kd=8 ∨ kd=9 ∨ kd=10 ∨ kd=11 ∨ kd=12 by omega) with rfl | rfl | rfl | rfl | rfl | rfl | rfl | rfl | rfl | rfl | rfl | rfl | rfl
  ·by_cases hp:portB P po=true
   ·obtain ⟨p,rfl,hpl⟩:=port_nat hp
    exact (ref17_Do0 h p hpl tt vi sx kv km me un nw li sh bu id).mono fun e w' he => DoneR.quiet h hg (doS_0 rfl) (by exact (doA_0 rfl).trans (if_pos hp)) he
   ·exact (ref17_Bad0 h po (by simpa using hp) tt vi sx kv km me un nw li sh bu id).mono fun e w' he => DoneR.quiet h hg (doS_0 rfl) (by exact (doA_0 rfl).trans (if_neg hp)) he
  ·by_cases hneg:findN s.lv vi nv < 0
   ·exact (ref17_Do1No h vi hneg po tt sx kv km me un nw li sh bu id).mono fun e w' he => DoneR.quiet h hg (doS_1 rfl) (by exact (doA_1 rfl).trans (if_pos hneg)) he
   ·exact (ref17_Do1 h vi (findN s.lv vi nv).toNat (by omega) po tt sx kv km me un nw li sh bu id).mono fun e w' he => DoneR.quiet h hg (doS_1 rfl) (by exact (doA_1 rfl).trans (if_neg hneg)) he
  ·by_cases hp:portB P po=true
   ·obtain ⟨p,rfl,hpl⟩:=port_nat hp
    refine (ref17_Do2 h hS hB hn hst' p hpl kv km hkm nw hnw tt vi sx me un li sh bu id).mono fun e w' he => DoneR.of (by exact (doS_2 rfl).trans (if_pos hp)) (by exact (doA_2 rfl).trans (if_pos hp)) ?_
    obtain ⟨rfl,hm,hb⟩:=he
    exact ⟨qv,rfl,hm,⟨updR_st hst (put_st (own_st (hst _)) (by exact hnw)) _,hok⟩,hb⟩
   ·exact (ref17_Bad2 h po (by simpa using hp) tt vi sx kv km me un nw li sh bu id).mono fun e w' he => DoneR.quiet h hg (by exact (doS_2 rfl).trans (if_neg hp)) (by exact (doA_2 rfl).trans (if_neg hp)) he
  ·exact (ref17_Do3 h hS hB hn kv km hkm po tt vi sx me un nw li sh bu id).mono fun e w' he => DoneR.quiet h hg (doS_3 rfl) (by exact (doA_3 rfl).trans rfl) he
  ·by_cases hp:portB P po=true
   ·obtain ⟨p,rfl,hpl⟩:=port_nat hp
    refine (ref17_Do4 h hS hB hn hst' p hpl kv km hkm nw hnw tt vi sx me un li sh bu id).mono fun e w' he => DoneR.of (by exact (doS_4 rfl).trans (if_pos hp)) (by exact (doA_4 rfl).trans (if_pos hp)) ?_
    obtain ⟨rfl,hm,hb⟩:=he
    exact ⟨qv,rfl,hm,⟨updR_st hst (put_st (own_st (hst _)) (by show (0:Nat) < _; omega)) _,hok⟩,hb⟩
   ·exact (ref17_Bad4 h po (by simpa using hp) tt vi sx kv km me un nw li sh bu id).mono fun e w' he => DoneR.quiet h hg (by exact (doS_4 rfl).trans (if_neg hp)) (by exact (doA_4 rfl).trans (if_neg hp)) he
  ·cases hdr:(dropF (fun i => ownP (s.g (homeN kv km S B) i)) kv km n).2
   ·refine (ref17_Do5N h hS hB hn kv km hkm hdr po tt vi sx me un nw li sh bu id).mono fun e w' he => DoneR.of (by exact (doS_5 rfl).trans rfl) (by exact (doA_5 rfl).trans (if_neg (by rw [hdr]; decide))) ?_
    obtain ⟨rfl,hm,hb⟩:=he
    exact ⟨qv,rfl,hm,⟨updR_st hst (drop_st (own_st (hst _))) _,hok⟩,hb⟩
   ·refine (ref17_Do5 h hS hB hn kv km hkm hdr po tt vi sx me un nw li sh bu id).mono fun e w' he => DoneR.of (by exact (doS_5 rfl).trans rfl) (by exact (doA_5 rfl).trans (if_pos hdr)) ?_
    obtain ⟨rfl,hm,hb⟩:=he
    exact ⟨qv,rfl,hm,⟨updR_st hst (drop_st (own_st (hst _))) _,hok⟩,hb⟩
  ·by_cases ha:atI S B sh bu=-1
   ·exact (ref17_Do6No h hS hB hn nw li sh bu (by omega) po tt vi sx kv km me un id).mono fun e w' he => DoneR.quiet h hg (by exact (doS_6 rfl).trans (if_pos ha)) (by exact (doA_6 rfl).trans (if_pos ha)) he
   ·obtain ⟨Hh,hh1,hh2⟩:=at_nat ha
    refine (ref17_Do6 h hS hB hn hst' nw hnw li sh bu Hh hh2 hh1 po tt vi sx kv km me un id).mono fun e w' he => DoneR.of (by exact (doS_6 rfl).trans (if_neg ha)) (by exact (doA_6 rfl).trans (if_neg ha)) ?_
    simp only
    rw [hh1,Int.toNat_natCast]
    obtain ⟨rfl,hm,hb⟩:=he
    exact ⟨qv,rfl,hm,⟨updR_st hst (sweep_st (own_st (hst _))) _,hok⟩,hb⟩
  ·refine (ref17_Do7 h hS hB hn po tt vi sx kv km me un nw li sh bu id).mono fun e w' he => DoneR.of (by exact (doS_7 rfl).trans rfl) (by exact (doA_7 rfl).trans rfl) ?_
   obtain ⟨rfl,hm,hb⟩:=he
   exact ⟨qv,rfl,hm,⟨doG_st 6 0 0 po vi 0 0 S B n s.g hst (by omega),hok⟩,hb⟩
  ·by_cases hp:portB P po=true
   ·obtain ⟨p,rfl,hpl⟩:=port_nat hp
    by_cases hx:rightSt sx=true
    ·refine (ref17_Do8 h p hpl sx hx tt vi kv km me un nw li sh bu id).mono fun e w' he => DoneR.of (by exact (doS_8 rfl).trans ((if_pos hp).trans (if_pos hx))) (by exact (doA_8 rfl).trans ((if_pos hp).trans (if_pos hx))) ?_
     obtain ⟨rfl,hm,hb⟩:=he
     exact ⟨qv,rfl,hm,⟨hst,hok⟩,hb⟩
    ·exact (ref17_Do8No h p hpl sx hx tt vi kv km me un nw li sh bu id).mono fun e w' he => DoneR.quiet h hg (by exact (doS_8 rfl).trans ((if_pos hp).trans (if_neg hx))) (by exact (doA_8 rfl).trans ((if_pos hp).trans (if_neg hx))) he
   ·exact (ref17_Bad8 h po (by simpa using hp) tt vi sx kv km me un nw li sh bu id).mono fun e w' he => DoneR.quiet h hg (by exact (doS_8 rfl).trans (if_neg hp)) (by exact (doA_8 rfl).trans (if_neg hp)) he
  ·by_cases hneg:findN s.lv vi nv < 0
   ·exact (ref17_Do9No h vi me un hneg po tt sx kv km nw li sh bu id).mono fun e w' he => DoneR.quiet h hg (by exact (doS_9 rfl).trans (if_pos hneg)) (by exact (doA_9 rfl).trans (if_pos hneg)) he
   ·refine (ref17_Do9 h vi me un hme hun (findN s.lv vi nv).toNat (by omega) po tt sx kv km nw li sh bu id).mono fun e w' he => DoneR.of (by exact (doS_9 rfl).trans (if_neg hneg)) (by exact (doA_9 rfl).trans (if_neg hneg)) ?_
    obtain ⟨rfl,hm,hb⟩:=he
    exact ⟨qv,rfl,hm,⟨hst,setV_ok hok _ ⟨hvi,Nat.lt_of_le_of_lt Nat.and_le_left hme,Nat.lt_of_le_of_lt Nat.and_le_left hun⟩⟩,hb⟩
  ·by_cases hp:portB P po=true
   ·by_cases hp2:portB P tt=true
    ·obtain ⟨i,rfl,hi⟩:=port_nat hp
     obtain ⟨j,rfl,hj⟩:=port_nat hp2
     by_cases hf:r≤(s.qs i j).length
     ·exact (ref17_Do10No h i j hi hj hf vi sx kv km me un nw li sh bu id).mono fun e w' he => DoneR.quiet h hg (by exact (doS_10 rfl).trans (((if_pos hp).trans (if_pos hp2)).trans (if_pos hf))) (by exact (doA_10 rfl).trans (((if_pos hp).trans (if_pos hp2)).trans (if_pos hf))) he
     ·refine (ref17_Do10 h i j hi hj hr (by omega) vi sx kv km me un nw li sh bu id).mono fun e w' he => DoneR.of (by exact (doS_10 rfl).trans (((if_pos hp).trans (if_pos hp2)).trans (if_neg hf))) (by exact (doA_10 rfl).trans (((if_pos hp).trans (if_pos hp2)).trans (if_neg hf))) ?_
      obtain ⟨rfl,⟨qv',hm⟩,hb⟩:=he
      exact ⟨qv',rfl,hm,⟨hst,hok⟩,hb⟩
    ·exact (ref17_BadTo10 h po tt hp (by simpa using hp2) vi sx kv km me un nw li sh bu id).mono fun e w' he => DoneR.quiet h hg (by exact (doS_10 rfl).trans ((if_pos hp).trans (if_neg hp2))) (by exact (doA_10 rfl).trans ((if_pos hp).trans (if_neg hp2))) he
   ·exact (ref17_Bad10 h po (by simpa using hp) tt vi sx kv km me un nw li sh bu id).mono fun e w' he => DoneR.quiet h hg (by exact (doS_10 rfl).trans (if_neg hp)) (by exact (doA_10 rfl).trans (if_neg hp)) he
  ·by_cases hp:portB P po=true
   ·by_cases hp2:portB P tt=true
    ·obtain ⟨i,rfl,hi⟩:=port_nat hp
     obtain ⟨j,rfl,hj⟩:=port_nat hp2
     rcases hql:s.qs i j with _ | ⟨x,l⟩
     ·exact (ref17_Do11No h i j hi hj hql vi sx kv km me un nw li sh bu id).mono fun e w' he => DoneR.quiet h hg (by exact (doS_11 rfl).trans (((if_pos hp).trans (if_pos hp2)).trans (if_pos hql))) (by exact (doA_11 rfl).trans (((if_pos hp).trans (if_pos hp2)).trans (by show (s.qs i j).headD (-1)=-1; rw [hql]; rfl))) he
     ·refine (ref17_Do11 h i j hi hj x l hql (hlen i j hi hj) vi sx kv km me un nw li sh bu id).mono fun e w' he => DoneR.of (s':={ s with qs:=upd2 s.qs i j l }) (by exact (doS_11 rfl).trans (((if_pos hp).trans (if_pos hp2)).trans ((if_neg (by show ¬ s.qs i j=[]; rw [hql]; exact List.cons_ne_nil _ _)).trans (by show Ms.mk _ _ _ (upd2 s.qs i j (s.qs i j).tail)=_; rw [hql]; rfl)))) (by exact (doA_11 rfl).trans (((if_pos hp).trans (if_pos hp2)).trans (by show (s.qs i j).headD (-1)=x; rw [hql]; rfl))) ?_
      obtain ⟨rfl,⟨qv',hm⟩,hb⟩:=he
      exact ⟨qv',rfl,hm,⟨hst,hok⟩,hb⟩
    ·exact (ref17_BadTo11 h po tt hp (by simpa using hp2) vi sx kv km me un nw li sh bu id).mono fun e w' he => DoneR.quiet h hg (by exact (doS_11 rfl).trans ((if_pos hp).trans (if_neg hp2))) (by exact (doA_11 rfl).trans ((if_pos hp).trans (if_neg hp2))) he
   ·exact (ref17_Bad11 h po (by simpa using hp) tt vi sx kv km me un nw li sh bu id).mono fun e w' he => DoneR.quiet h hg (by exact (doS_11 rfl).trans (if_neg hp)) (by exact (doA_11 rfl).trans (if_neg hp)) he
  ·by_cases hp:portB P tt=true
   ·obtain ⟨p,rfl,hpl⟩:=port_nat hp
    have hsn:doA P r S B n nv s ⟨12,po,p,vi,sx,kv,km,me,un,nw,li,sh,bu,id⟩=(sendK s.lv nv (s.st p).1 p vi:Nat):=(doA_12 rfl).trans (if_pos hp)
    by_cases hs:(s.st p).1=4
    ·by_cases hneg:findN s.lv vi nv < 0
     ·exact (ref17_Do12b h p hpl vi hs hneg po sx kv km me un nw li sh bu id).mono fun e w' he => DoneR.quiet h hg (doS_12 rfl) (hsn.trans (by unfold sendK; rw [if_neg (by rw [hs]; decide),if_pos hneg]; rfl)) he
     ·obtain ⟨j,hj⟩:∃ j:Nat,findN s.lv vi nv=j:=⟨(findN s.lv vi nv).toNat,by omega⟩
      have e1:(findN s.lv vi nv).toNat=j:=by rw [hj,Int.toNat_natCast]
      cases hm:hasB (s.lv.getD j vl0).mem (p:Int)
      ·exact (ref17_Do12c h p hpl vi hs j hj (lv_ok hok j) hm po sx kv km me un nw li sh bu id).mono fun e w' he => DoneR.quiet h hg (doS_12 rfl) (hsn.trans (by unfold sendK; rw [if_neg (by rw [hs]; decide),if_neg hneg,e1,if_pos hm]; rfl)) he
      ·cases hu:hasB (s.lv.getD j vl0).unt (p:Int)
       ·exact (ref17_Do12e h p hpl vi hs j hj (lv_ok hok j) hm hu po sx kv km me un nw li sh bu id).mono fun e w' he => DoneR.quiet h hg (doS_12 rfl) (hsn.trans (by unfold sendK; rw [if_neg (by rw [hs]; decide),if_neg hneg,e1,if_neg (by rw [hm]; decide),if_neg (by rw [hu]; decide)]; rfl)) he
       ·exact (ref17_Do12d h p hpl vi hs j hj (lv_ok hok j) hm hu po sx kv km me un nw li sh bu id).mono fun e w' he => DoneR.quiet h hg (doS_12 rfl) (hsn.trans (by unfold sendK; rw [if_neg (by rw [hs]; decide),if_neg hneg,e1,if_neg (by rw [hm]; decide),if_pos hu]; rfl)) he
    ·exact (ref17_Do12a h p hpl hs po vi sx kv km me un nw li sh bu id).mono fun e w' he => DoneR.quiet h hg (doS_12 rfl) (hsn.trans (by unfold sendK; rw [if_pos hs]; rfl)) he
   ·exact (ref17_Bad12 h tt (by simpa using hp) po vi sx kv km me un nw li sh bu id).mono fun e w' he => DoneR.quiet h hg (doS_12 rfl) (by exact (doA_12 rfl).trans (if_neg hp)) he
theorem qN_len {f t r:Nat} {o:Od} {q:List Int} (h:q.length≤r):(qN f t r o q).length≤r:=by
 unfold qN
 split
 ·split
  ·exact h
  ·rw [List.length_append]
   simp only [List.length_cons,List.length_nil]
   omega
 ·split
  ·rw [List.length_tail]
   omega
  ·exact h
theorem doS_len (h:∀ i j,i < P→j < P→(s.qs i j).length≤r) (i j:Nat) (hi:i < P) (hj:j < P):((doS P r S B n nv s o).qs i j).length≤r:=by
 rw [doS_q hi hj]
 exact qN_len (h i j hi hj)
end
end Go.Proofs.YtpcapdpglpgcbaaGreat
