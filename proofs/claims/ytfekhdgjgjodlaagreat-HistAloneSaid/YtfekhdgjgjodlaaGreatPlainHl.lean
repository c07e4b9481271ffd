/-
  Words and contracts that a statement's proof rests on (PlainHk, HiR, MrL, MsH, VlanI, MoC, HiS, PlainHl). No statement is proved here.
-/
import Derived.Test.YtfekhdgjgjodlaaGreatBkD
import Derived.Test.YtfekhdgjgjodlaaGreatBkE
import Derived.Test.YtfekhdgjgjodlaaGreatPtB
import Derived.Test.YtfekhdgjgjodlaaGreatPlainHi
import Derived.Test.YtfekhdgjgjodlaaGreatHiC
import Derived.Test.YtfekhdgjgjodlaaGreatMoJ
import Derived.Test.YtfekhdgjgjodlaaGreatHiE
import Derived.Test.YtfekhdgjgjodlaaGreatMrE
import Derived.Test.YtfekhdgjgjodlaaGreatMrF
import Derived.Test.YtfekhdgjgjodlaaGreatMrG
import Derived.Test.YtfekhdgjgjodlaaGreatMrH
import Derived.Test.YtfekhdgjgjodlaaGreatMrI
import Derived.Test.YtfekhdgjgjodlaaGreatMrJ
import Derived.Test.YtfekhdgjgjodlaaGreatMrK
import Derived.Test.YtfekhdgjgjodlaaGreatMrO
set_option linter.unusedVariables false
set_option linter.unusedSimpArgs false
namespace Go.Proofs.YtfekhdgjgjodlaaGreat
section
theorem OrdL.at_ {key:Nat→Int} {N:Nat} {o:List Nat} (h:OrdL N key o) {j:Nat} (hj:j < o.length):getN o j < N∧0 < key (getN o j):=(h.2 _).1 (getN_mem hj)
end
section
open Go.RowKit
def rowV (F:Nat→Nat) (n:Nat):List Value:=(List.range n).map fun i => .int .i64 (F i:Nat)
theorem rowV_length (F:Nat→Nat) (n:Nat):(rowV F n).length=n:=by simp [rowV]
theorem rowV_at (F:Nat→Nat) {n i:Nat} (h:i < n):(rowV F n)[i]?=some (.int .i64 (F i:Nat)):=by
 unfold rowV
 rw [List.getElem?_map,List.getElem?_range h]
 rfl
theorem rowV_set (F:Nat→Nat) {n i j:Nat} (hi:i < n) (hj:j < n) (hne:i ≠ j):((rowV F n).set i (.int .i64 (F j:Nat))).set j (.int .i64 (F i:Nat))=rowV (swK F i j) n:=by
 apply List.ext_getElem?
 intro p
 rcases Nat.lt_or_ge p n with h | h
 ·rw [rowV_at _ h]
  by_cases e2:p=j
  ·subst e2
   rw [List.getElem?_set_self (by rw [List.length_set,rowV_length]; exact h),swK_j]
  ·rw [List.getElem?_set_ne (Ne.symm e2)]
   by_cases e1:p=i
   ·subst e1
    rw [List.getElem?_set_self (by rw [rowV_length]; exact h),swK_i]
   ·rw [List.getElem?_set_ne (Ne.symm e1),rowV_at _ h,swK_o e1 e2]
 ·rw [List.getElem?_eq_none (by rw [List.length_set,List.length_set,rowV_length]; exact h),List.getElem?_eq_none (by rw [rowV_length]; exact h)]
def PlOwn (w:World) (base pb n cap:Nat) (F:Nat→Nat):Prop:=w.ownsRow base 3 1 (.slice (some ⟨pb,0,none⟩) n cap) n (rowV F n)
section
variable {w w':World} {base pb n cap:Nat} {F:Nat→Nat}
theorem PlOwn.lt (h:PlOwn w base pb n cap F):base≤pb∧pb < w.heap.size:=World.ownsRow.lt h pb rfl
theorem PlOwn.call (h:PlOwn w base pb n cap F) (hb:Below w.heap.size w w'):PlOwn w' base pb n cap F:=own_below h hb
theorem PlOwn.cell (h:PlOwn w base pb n cap F) {i:Nat} (hi:i < n):w.cell? ⟨pb,i,none⟩=some (.int .i64 (F i:Nat)):=by
 have:=World.ownsRow.cellAt h i (by omega)
 rw [rowV_at _ hi] at this
 exact this
theorem PlOwn.frozen (h:PlOwn w base pb n cap F) (hn:0 < n) (i:Nat):w.frozen? ⟨pb,i,none⟩=false:=by
 obtain ⟨b,c,G,e,_,_,hr,_⟩:=own_rowIs h hn
 injection e with e
 injection e with e
 injection e with e
 rw [e]
 exact hr.frozen i
theorem PlOwn.swap (h:PlOwn w base pb n cap F) {X Y:Nat} (hX:X < n) (hY:Y < n) (hXY:X ≠ Y):PlOwn ((w.setCell ⟨pb,X,none⟩ (.int .i64 (F Y:Nat))).setCell ⟨pb,Y,none⟩ (.int .i64 (F X:Nat))) base pb n cap (swK F X Y):=by
 have h1:=(World.ownsRow.stored h X (.int .i64 (F Y:Nat))).1
 have h2:=(World.ownsRow.stored h1 Y (.int .i64 (F X:Nat))).1
 rw [rowV_set F hX hY hXY] at h2
 exact h2
end
section
variable {w:World} {N B:Nat} {v:Value} {L:Nat→Ent}
end
end
section
open Go.RowKit
section
variable {E:Nat→Prop} {w:World} {L A S1 Q cQ:Nat} {X:Nat→Value} {bp bq P r S B n nv:Nat} {uv:Value} {G:Nat→Value} {R:Nat→Nat} {qv:Nat→Nat→Value} {s s':Ms} {a:Int} {o:Od}
def DoneR (E:Nat→Prop) (w:World) (L A S1 Q cQ:Nat) (X:Nat→Value) (bp bq P r S B n nv:Nat) (uv:Value) (G:Nat→Value) (R:Nat→Nat) (s':Ms) (a:Int) (e:Ending) (w':World):Prop :=
 ∃ qv',e=.returned (.int .i64 a)∧RfAll E w' L A S1 Q cQ X bp bq P r S B n nv uv s'.lv s'.st s'.g G R qv' s'.qs∧s'.good∧MdFr E w w' L
theorem DoneR.quiet (h:RfAll E w L A S1 Q cQ X bp bq P r S B n nv uv s.lv s.st s.g G R qv s.qs) (hg:s.good) (hs:s'=s) {v:Int} (ha:a=v) {e:Ending} {w':World} (he:Says (.int .i64 v) w e w'):DoneR E w L A S1 Q cQ X bp bq P r S B n nv uv G R s' a e w':=by
 obtain ⟨rfl,hb⟩:=he
 rw [hs,ha]
 exact ⟨qv,rfl,h.call hb,hg,RfFr.quiet h hb⟩
theorem DoneR.of {v:Int} (hs:doS P r S B n nv s o=s') (ha:doA P r S B n nv s o=v) {e:Ending} {w':World} (h:DoneR E w L A S1 Q cQ X bp bq P r S B n nv uv G R s' v e w'):DoneR E w L A S1 Q cQ X bp bq P r S B n nv uv G R (doS P r S B n nv s o) (doA P r S B n nv s o) e w':=by
 rw [hs,ha]; exact h
theorem lv_ok {lv:List Vl} (h:∀ x ∈ lv,x.ok) (j:Nat):(lv.getD j vl0).ok:=by
 rw [List.getD_eq_getElem?_getD]
 cases h9:lv[j]?
 ·exact ⟨by decide,by decide,by decide⟩
 ·exact h _ (List.mem_of_getElem? h9)
theorem ref17_DoAll (h:RfAll E w L A S1 Q cQ X bp bq P r S B n nv uv s.lv s.st s.g G R qv s.qs) (hr:r≤64) (hS:1≤S∧S≤8) (hB:1≤B∧B≤16) (hn:1≤n∧n≤8) (hg:s.good) (hlen:∀ i j,i < P→j < P→(s.qs i j).length≤1000000) (o:Od) (ho:o.ok) :
  Calls Tryz.prog 19 #[.pointer (some ⟨A,0,none⟩),o.val] w (DoneR E w L A S1 Q cQ X bp bq P r S B n nv uv G R (doS P r S B n nv s o) (doA P r S B n nv s o)):=by
 obtain ⟨kd,po,tt,vi,sx,kv,km,me,un,nw,li,sh,bu,id⟩:=o
 obtain ⟨hvi,hkm,hme,hun,hnw⟩:=ho
 simp only at hvi hkm hme hun hnw
 unfold Od.val
 simp only
 have hst:=hg.1
 have hok:=hg.2
 have hst':∀ i,i < S * B→∀ j,j < n→(s.g i j).e.stamp < 4294967296:=fun i _ j _ => hst i j
 by_cases hk:kd < 0 ∨ 12 < kd
 ·have hk2:=hk
  rcases hk2 with hk' | hk'
  ·exact (ref17_DoXa h kd hk' po tt vi sx kv km me un nw li sh bu id).mono fun e w' he => DoneR.quiet h hg (doS_X hk) (doA_X hk) he
  ·exact (ref17_DoXb h kd hk' po tt vi sx kv km me un nw li sh bu id).mono fun e w' he => DoneR.quiet h hg (doS_X hk) (doA_X hk) he
 ·rcases (show kd=0 ∨ kd=1 ∨ kd=2 ∨ kd=3 ∨ kd=4 ∨ kd=5 ∨ kd=6 ∨ kd=7 ∨ kd=8 ∨ kd=9 ∨ kd=10 ∨ kd=11 ∨ kd=12 by omega) with rfl | rfl | rfl | rfl | rfl | rfl | rfl | rfl | rfl | rfl | rfl | rfl | rfl
  ·by_cases hp:portB P po=true
   ·obtain ⟨p,rfl,hpl⟩:=port_nat hp
    exact (ref17_Do0 h p hpl tt vi sx kv km me un nw li sh bu id).mono fun e w' he => DoneR.quiet h hg (doS_0 rfl) (by exact (doA_0 rfl).trans (if_pos hp)) he
   ·exact (ref17_Bad0 h po (by simpa using hp) tt vi sx kv km me un nw li sh bu id).mono fun e w' he => DoneR.quiet h hg (doS_0 rfl) (by exact (doA_0 rfl).trans (if_neg hp)) he
  ·by_cases hneg:findN s.lv vi nv < 0
   ·exact (ref17_Do1No h vi hneg po tt sx kv km me un nw li sh bu id).mono fun e w' he => DoneR.quiet h hg (doS_1 rfl) (by exact (doA_1 rfl).trans (if_pos hneg)) he
   ·exact (ref17_Do1 h vi (findN s.lv vi nv).toNat (by omega) po tt sx kv km me un nw li sh bu id).mono fun e w' he => DoneR.quiet h hg (doS_1 rfl) (by exact (doA_1 rfl).trans (if_neg hneg)) he
  ·by_cases hp:portB P po=true
   ·obtain ⟨p,rfl,hpl⟩:=port_nat hp
    refine (ref17_Do2 h hS hB hn hst' p hpl kv km hkm nw hnw tt vi sx me un li sh bu id).mono fun e w' he => DoneR.of (by exact (doS_2 rfl).trans (if_pos hp)) (by exact (doA_2 rfl).trans (if_pos hp)) ?_
    obtain ⟨rfl,hm,hb⟩:=he
    exact ⟨qv,rfl,hm,⟨updR_st hst (put_st (own_st (hst _)) (by exact hnw)) _,hok⟩,hb⟩
   ·exact (ref17_Bad2 h po (by simpa using hp) tt vi sx kv km me un nw li sh bu id).mono fun e w' he => DoneR.quiet h hg (by exact (doS_2 rfl).trans (if_neg hp)) (by exact (doA_2 rfl).trans (if_neg hp)) he
  ·exact (ref17_Do3 h hS hB hn kv km hkm po tt vi sx me un nw li sh bu id).mono fun e w' he => DoneR.quiet h hg (doS_3 rfl) (by exact (doA_3 rfl).trans rfl) he
  ·by_cases hp:portB P po=true
   ·obtain ⟨p,rfl,hpl⟩:=port_nat hp
    refine (ref17_Do4 h hS hB hn hst' p hpl kv km hkm nw hnw tt vi sx me un li sh bu id).mono fun e w' he => DoneR.of (by exact (doS_4 rfl).trans (if_pos hp)) (by exact (doA_4 rfl).trans (if_pos hp)) ?_
    obtain ⟨rfl,hm,hb⟩:=he
    exact ⟨qv,rfl,hm,⟨updR_st hst (put_st (own_st (hst _)) (by show (0:Nat) < _; omega)) _,hok⟩,hb⟩
   ·exact (ref17_Bad4 h po (by simpa using hp) tt vi sx kv km me un nw li sh bu id).mono fun e w' he => DoneR.quiet h hg (by exact (doS_4 rfl).trans (if_neg hp)) (by exact (doA_4 rfl).trans (if_neg hp)) he
  ·cases hdr:(dropF (fun i => ownP (s.g (homeN kv km S B) i)) kv km n).2
   ·refine (ref17_Do5N h hS hB hn kv km hkm hdr po tt vi sx me un nw li sh bu id).mono fun e w' he => DoneR.of (by exact (doS_5 rfl).trans rfl) (by exact (doA_5 rfl).trans (if_neg (by rw [hdr]; decide))) ?_
    obtain ⟨rfl,hm,hb⟩:=he
    exact ⟨qv,rfl,hm,⟨updR_st hst (drop_st (own_st (hst _))) _,hok⟩,hb⟩
   ·refine (ref17_Do5 h hS hB hn kv km hkm hdr po tt vi sx me un nw li sh bu id).mono fun e w' he => DoneR.of (by exact (doS_5 rfl).trans rfl) (by exact (doA_5 rfl).trans (if_pos hdr)) ?_
    obtain ⟨rfl,hm,hb⟩:=he
    exact ⟨qv,rfl,hm,⟨updR_st hst (drop_st (own_st (hst _))) _,hok⟩,hb⟩
  ·by_cases ha:atI S B sh bu=-1
   ·exact (ref17_Do6No h hS hB hn nw li sh bu (by omega) po tt vi sx kv km me un id).mono fun e w' he => DoneR.quiet h hg (by exact (doS_6 rfl).trans (if_pos ha)) (by exact (doA_6 rfl).trans (if_pos ha)) he
   ·obtain ⟨Hh,hh1,hh2⟩:=at_nat ha
    refine (ref17_Do6 h hS hB hn hst' nw hnw li sh bu Hh hh2 hh1 po tt vi sx kv km me un id).mono fun e w' he => DoneR.of (by exact (doS_6 rfl).trans (if_neg ha)) (by exact (doA_6 rfl).trans (if_neg ha)) ?_
    simp only
    rw [hh1,Int.toNat_natCast]
    obtain ⟨rfl,hm,hb⟩:=he
    exact ⟨qv,rfl,hm,⟨updR_st hst (sweep_st (own_st (hst _))) _,hok⟩,hb⟩
  ·refine (ref17_Do7 h hS hB hn po tt vi sx kv km me un nw li sh bu id).mono fun e w' he => DoneR.of (by exact (doS_7 rfl).trans rfl) (by exact (doA_7 rfl).trans rfl) ?_
   obtain ⟨rfl,hm,hb⟩:=he
   exact ⟨qv,rfl,hm,⟨doG_st 6 0 0 po vi 0 0 S B n s.g hst (by omega),hok⟩,hb⟩
  ·by_cases hp:portB P po=true
   ·obtain ⟨p,rfl,hpl⟩:=port_nat hp
    by_cases hx:rightSt sx=true
    ·refine (ref17_Do8 h p hpl sx hx tt vi kv km me un nw li sh bu id).mono fun e w' he => DoneR.of (by exact (doS_8 rfl).trans ((if_pos hp).trans (if_pos hx))) (by exact (doA_8 rfl).trans ((if_pos hp).trans (if_pos hx))) ?_
     obtain ⟨rfl,hm,hb⟩:=he
     exact ⟨qv,rfl,hm,⟨hst,hok⟩,hb⟩
    ·exact (ref17_Do8No h p hpl sx hx tt vi kv km me un nw li sh bu id).mono fun e w' he => DoneR.quiet h hg (by exact (doS_8 rfl).trans ((if_pos hp).trans (if_neg hx))) (by exact (doA_8 rfl).trans ((if_pos hp).trans (if_neg hx))) he
   ·exact (ref17_Bad8 h po (by simpa using hp) tt vi sx kv km me un nw li sh bu id).mono fun e w' he => DoneR.quiet h hg (by exact (doS_8 rfl).trans (if_neg hp)) (by exact (doA_8 rfl).trans (if_neg hp)) he
  ·by_cases hneg:findN s.lv vi nv < 0
   ·exact (ref17_Do9No h vi me un hneg po tt sx kv km nw li sh bu id).mono fun e w' he => DoneR.quiet h hg (by exact (doS_9 rfl).trans (if_pos hneg)) (by exact (doA_9 rfl).trans (if_pos hneg)) he
   ·refine (ref17_Do9 h vi me un hme hun (findN s.lv vi nv).toNat (by omega) po tt sx kv km nw li sh bu id).mono fun e w' he => DoneR.of (by exact (doS_9 rfl).trans (if_neg hneg)) (by exact (doA_9 rfl).trans (if_neg hneg)) ?_
    obtain ⟨rfl,hm,hb⟩:=he
    exact ⟨qv,rfl,hm,⟨hst,setV_ok hok _ ⟨hvi,Nat.lt_of_le_of_lt Nat.and_le_left hme,Nat.lt_of_le_of_lt Nat.and_le_left hun⟩⟩,hb⟩
  ·by_cases hp:portB P po=true
   ·by_cases hp2:portB P tt=true
    ·obtain ⟨i,rfl,hi⟩:=port_nat hp
     obtain ⟨j,rfl,hj⟩:=port_nat hp2
     by_cases hf:r≤(s.qs i j).length
     ·exact (ref17_Do10No h i j hi hj hf vi sx kv km me un nw li sh bu id).mono fun e w' he => DoneR.quiet h hg (by exact (doS_10 rfl).trans (((if_pos hp).trans (if_pos hp2)).trans (if_pos hf))) (by exact (doA_10 rfl).trans (((if_pos hp).trans (if_pos hp2)).trans (if_pos hf))) he
     ·refine (ref17_Do10 h i j hi hj hr (by omega) vi sx kv km me un nw li sh bu id).mono fun e w' he => DoneR.of (by exact (doS_10 rfl).trans (((if_pos hp).trans (if_pos hp2)).trans (if_neg hf))) (by exact (doA_10 rfl).trans (((if_pos hp).trans (if_pos hp2)).trans (if_neg hf))) ?_
      obtain ⟨rfl,⟨qv',hm⟩,hb⟩:=he
      exact ⟨qv',rfl,hm,⟨hst,hok⟩,hb⟩
    ·exact (ref17_BadTo10 h po tt hp (by simpa using hp2) vi sx kv km me un nw li sh bu id).mono fun e w' he => DoneR.quiet h hg (by exact (doS_10 rfl).trans ((if_pos hp).trans (if_neg hp2))) (by exact (doA_10 rfl).trans ((if_pos hp).trans (if_neg hp2))) he
   ·exact (ref17_Bad10 h po (by simpa using hp) tt vi sx kv km me un nw li sh bu id).mono fun e w' he => DoneR.quiet h hg (by exact (doS_10 rfl).trans (if_neg hp)) (by exact (doA_10 rfl).trans (if_neg hp)) he
  ·by_cases hp:portB P po=true
   ·by_cases hp2:portB P tt=true
    ·obtain ⟨i,rfl,hi⟩:=port_nat hp
     obtain ⟨j,rfl,hj⟩:=port_nat hp2
     rcases hql:s.qs i j with _ | ⟨x,l⟩
     ·exact (ref17_Do11No h i j hi hj hql vi sx kv km me un nw li sh bu id).mono fun e w' he => DoneR.quiet h hg (by exact (doS_11 rfl).trans (((if_pos hp).trans (if_pos hp2)).trans (if_pos hql))) (by exact (doA_11 rfl).trans (((if_pos hp).trans (if_pos hp2)).trans (by show (s.qs i j).headD (-1)=-1; rw [hql]; rfl))) he
     ·refine (ref17_Do11 h i j hi hj x l hql (hlen i j hi hj) vi sx kv km me un nw li sh bu id).mono fun e w' he => DoneR.of (s':={ s with qs:=upd2 s.qs i j l }) (by exact (doS_11 rfl).trans (((if_pos hp).trans (if_pos hp2)).trans ((if_neg (by show ¬ s.qs i j=[]; rw [hql]; exact List.cons_ne_nil _ _)).trans (by show Ms.mk _ _ _ (upd2 s.qs i j (s.qs i j).tail)=_; rw [hql]; rfl)))) (by exact (doA_11 rfl).trans (((if_pos hp).trans (if_pos hp2)).trans (by show (s.qs i j).headD (-1)=x; rw [hql]; rfl))) ?_
      obtain ⟨rfl,⟨qv',hm⟩,hb⟩:=he
      exact ⟨qv',rfl,hm,⟨hst,hok⟩,hb⟩
    ·exact (ref17_BadTo11 h po tt hp (by simpa using hp2) vi sx kv km me un nw li sh bu id).mono fun e w' he => DoneR.quiet h hg (by exact (doS_11 rfl).trans ((if_pos hp).trans (if_neg hp2))) (by exact (doA_11 rfl).trans ((if_pos hp).trans (if_neg hp2))) he
   ·exact (ref17_Bad11 h po (by simpa using hp) tt vi sx kv km me un nw li sh bu id).mono fun e w' he => DoneR.quiet h hg (by exact (doS_11 rfl).trans (if_neg hp)) (by exact (doA_11 rfl).trans (if_neg hp)) he
  ·by_cases hp:portB P tt=true
   ·obtain ⟨p,rfl,hpl⟩:=port_nat hp
    have hsn:doA P r S B n nv s ⟨12,po,p,vi,sx,kv,km,me,un,nw,li,sh,bu,id⟩=(sendK s.lv nv (s.st p).1 p vi:Nat):=(doA_12 rfl).trans (if_pos hp)
    by_cases hs:(s.st p).1=4
    ·by_cases hneg:findN s.lv vi nv < 0
     ·exact (ref17_Do12b h p hpl vi hs hneg po sx kv km me un nw li sh bu id).mono fun e w' he => DoneR.quiet h hg (doS_12 rfl) (hsn.trans (by unfold sendK; rw [if_neg (by rw [hs]; decide),if_pos hneg]; rfl)) he
     ·obtain ⟨j,hj⟩:∃ j:Nat,findN s.lv vi nv=j:=⟨(findN s.lv vi nv).toNat,by omega⟩
      have e1:(findN s.lv vi nv).toNat=j:=by rw [hj,Int.toNat_natCast]
      cases hm:hasB (s.lv.getD j vl0).mem (p:Int)
      ·exact (ref17_Do12c h p hpl vi hs j hj (lv_ok hok j) hm po sx kv km me un nw li sh bu id).mono fun e w' he => DoneR.quiet h hg (doS_12 rfl) (hsn.trans (by unfold sendK; rw [if_neg (by rw [hs]; decide),if_neg hneg,e1,if_pos hm]; rfl)) he
      ·cases hu:hasB (s.lv.getD j vl0).unt (p:Int)
       ·exact (ref17_Do12e h p hpl vi hs j hj (lv_ok hok j) hm hu po sx kv km me un nw li sh bu id).mono fun e w' he => DoneR.quiet h hg (doS_12 rfl) (hsn.trans (by unfold sendK; rw [if_neg (by rw [hs]; decide),if_neg hneg,e1,if_neg (by rw [hm]; decide),if_neg (by rw [hu]; decide)]; rfl)) he
       ·exact (ref17_Do12d h p hpl vi hs j hj (lv_ok hok j) hm hu po sx kv km me un nw li sh bu id).mono fun e w' he => DoneR.quiet h hg (doS_12 rfl) (hsn.trans (by unfold sendK; rw [if_neg (by rw [hs]; decide),if_neg hneg,e1,if_neg (by rw [hm]; decide),if_pos hu]; rfl)) he
    ·exact (ref17_Do12a h p hpl hs po vi sx kv km me un nw li sh bu id).mono fun e w' he => DoneR.quiet h hg (doS_12 rfl) (hsn.trans (by unfold sendK; rw [if_pos hs]; rfl)) he
   ·exact (ref17_Bad12 h tt (by simpa using hp) po vi sx kv km me un nw li sh bu id).mono fun e w' he => DoneR.quiet h hg (doS_12 rfl) (by exact (doA_12 rfl).trans (if_neg hp)) he
theorem qN_len {f t r:Nat} {o:Od} {q:List Int} (h:q.length≤r):(qN f t r o q).length≤r:=by
 unfold qN
 split
 ·split
  ·exact h
  ·rw [List.length_append]
   simp only [List.length_cons,List.length_nil]
   omega
 ·split
  ·rw [List.length_tail]
   omega
  ·exact h
theorem doS_len (h:∀ i j,i < P→j < P→(s.qs i j).length≤r) (i j:Nat) (hi:i < P) (hj:j < P):((doS P r S B n nv s o).qs i j).length≤r:=by
 rw [doS_q hi hj]
 exact qN_len (h i j hi hj)
end
end
section
open Go.RowKit
section
variable {E:Nat→Prop} {w:World} {L A S1 Q bp bq P r S B n nv cQ:Nat} {X:Nat→Value} {uv:Value} {lv:List Vl} {st:Nat→Int × Nat} {g:Nat→Nat→Pl} {G:Nat→Value} {R:Nat→Nat} {qv:Nat→Nat→Value} {qs:Nat→Nat→List Int}
theorem RfAll.grow {w':World} (h:RfAll E w L A S1 Q cQ X bp bq P r S B n nv uv lv st g G R qv qs) (hz:w.heap.size≤w'.heap.size) (hk:∀ b,b < w.heap.size→¬ E b→w'.heap[b]?=w.heap[b]?):RfAll (fun b => E b ∨ (w.heap.size≤b∧b < w'.heap.size)) w' L A S1 Q cQ X bp bq P r S B n nv uv lv st g G R qv qs:=by
 have h':=h.keepE hz hk
 obtain ⟨D,h1,h2,h3,h4,h5⟩:=h.bk
 have hbk:BkAt w' D bp bq S B n g:=h1.keep hz fun b hlt hc => hk b hlt (fun he => by
  rcases hc with rfl | rfl | hc
  ·exact (h5 _ he).2.1 rfl
  ·exact (h5 _ he).2.2.1 rfl
  ·exact hc (h5 b he).1)
 refine ⟨h'.md,h'.qu,h'.lbk,fun b => D b ∨ (w.heap.size≤b∧b < w'.heap.size),?_,fun b hd => ?_,.inl h3,fun b hc => ⟨.inl (h4 b hc).1,(h4 b hc).2⟩,fun b he => ?_⟩
 ·obtain ⟨k0,k1,k2,k3,k4,k5,k6,k9,k10⟩:=hbk
  obtain ⟨_,_,_,_,_,_,_,_,m10⟩:=h1
  refine ⟨k0,k1,k2,k3,k4,k5,k6,k9,fun a ha => ?_⟩
  obtain ⟨v0,hv0,hrow0⟩:=m10 a ha
  obtain ⟨v,hv,Ax,cap,e1,e2,e3,e4⟩:=k10 a ha
  refine ⟨v,hv,Ax,cap,e1,e2,e3,fun hn => ?_⟩
  obtain ⟨b,off,f1,f2,f3,f4⟩:=e4 hn
  refine ⟨b,off,f1,f2,fun hd => ?_,f4⟩
  rcases hd with hd | hd
  ·exact f3 hd
  ·obtain ⟨Ay,cay,y1,y2,y3,y4⟩:=hrow0
   obtain ⟨b',off',z1,z2,z3,z4⟩:=y4 hn
   have hq0:w'.cell? ⟨bq,a,none⟩=w.cell? ⟨bq,a,none⟩:=World.cell?_of_block (hk bq (h2 bq h3) (fun he => (h5 bq he).2.2.1 rfl))
   rw [hq0,hv0] at hv
   injection hv with hv
   rw [y1,e1] at hv
   injection hv with hv
   rw [z1,f1] at hv
   injection hv with hv
   injection hv with hv
   omega
 ·rcases hd with hd | hd
  ·exact Nat.lt_of_lt_of_le (h2 b hd) hz
  ·exact hd.2
 ·rcases he with he | he
  ·exact ⟨.inl (h5 b he).1,(h5 b he).2⟩
  ·refine ⟨.inr he,?_,?_,fun hc => ?_⟩
   ·have:=h1.1; omega
   ·have:=h1.2.1; omega
   ·have:=h2 b (h4 b hc).1; omega
end
structure Both (Ep E:Nat→Prop) (w:World) (Lp Ap Sp Qp bpp bqp:Nat) (up:Value) (Gp:Nat→Value) (Rp:Nat→Nat) (qvp:Nat→Nat→Value) (L A S1 Q cQ:Nat) (X:Nat→Value) (bp bq:Nat) (uv:Value) (G:Nat→Value) (R:Nat→Nat) (qv:Nat→Nat→Value) (P r S B n nv:Nat) (s:Ms):Prop where
 md:MdAll Ep w Lp Ap Sp Qp bpp bqp P r S B n nv up s.lv s.st s.g Gp Rp qvp s.qs
 rf:RfAll E w L A S1 Q cQ X bp bq P r S B n nv uv s.lv s.st s.g G R qv s.qs
 cov:∀ b,b < w.heap.size→E b ∨ Ep b
section
variable {Ep E:Nat→Prop} {w w':World} {Lp Ap Sp Qp bpp bqp:Nat} {up:Value} {Gp:Nat→Value} {Rp:Nat→Nat} {qvp qvp':Nat→Nat→Value} {L A S1 Q cQ:Nat} {X:Nat→Value} {bp bq:Nat} {uv:Value} {G:Nat→Value} {R:Nat→Nat} {qv qv':Nat→Nat→Value} {P r S B n nv:Nat} {s s':Ms}
theorem Both.call (h:Both Ep E w Lp Ap Sp Qp bpp bqp up Gp Rp qvp L A S1 Q cQ X bp bq uv G R qv P r S B n nv s) (hb:Below w.heap.size w w'):Both Ep (fun b => E b ∨ (w.heap.size≤b∧b < w'.heap.size)) w' Lp Ap Sp Qp bpp bqp up Gp Rp qvp L A S1 Q cQ X bp bq uv G R qv P r S B n nv s :=
 ⟨h.md.call hb,h.rf.grow hb.size fun b hlt _ => hb.block b hlt,fun b hlt => by
  by_cases hc:b < w.heap.size
  ·exact (h.cov b hc).imp .inl id
  ·exact .inl (.inr ⟨by omega,hlt⟩)⟩
theorem Both.prog (h:Both Ep E w Lp Ap Sp Qp bpp bqp up Gp Rp qvp L A S1 Q cQ X bp bq uv G R qv P r S B n nv s) (hm:MdAll Ep w' Lp Ap Sp Qp bpp bqp P r S B n nv up s'.lv s'.st s'.g Gp Rp qvp' s'.qs) (hf:MdFr Ep w w' Lp) :
  MdAll Ep w' Lp Ap Sp Qp bpp bqp P r S B n nv up s'.lv s'.st s'.g Gp Rp qvp' s'.qs∧RfAll (fun b => E b ∨ (w.heap.size≤b∧b < w'.heap.size)) w' L A S1 Q cQ X bp bq P r S B n nv uv s.lv s.st s.g G R qv s.qs∧∀ b,b < w'.heap.size→(E b ∨ (w.heap.size≤b∧b < w'.heap.size)) ∨ Ep b :=
 ⟨hm,h.rf.grow hf.low.size fun b hlt hn => hf.kp b ((h.cov b hlt).resolve_left hn),fun b hlt => by
  by_cases hc:b < w.heap.size
  ·exact (h.cov b hc).imp .inl id
  ·exact .inl (.inr ⟨by omega,hlt⟩)⟩
theorem Both.start (h1:MdAll Ep w Lp Ap Sp Qp bpp bqp P r S B n nv up s'.lv s'.st s'.g Gp Rp qvp s'.qs) (hb:Below w.heap.size w w') (h2:RfAll (fun b => b < w.heap.size) w' L A S1 Q cQ X bp bq P r S B n nv uv s'.lv s'.st s'.g G R qv' s'.qs) :
  Both (fun b => Ep b ∨ (w.heap.size≤b∧b < w'.heap.size)) (fun b => b < w.heap.size) w' Lp Ap Sp Qp bpp bqp up Gp Rp qvp L A S1 Q cQ X bp bq uv G R qv' P r S B n nv s' :=
 ⟨h1.grow hb.size fun b hlt _ => hb.block b hlt,h2,fun b hlt => by
  by_cases hc':b < w.heap.size
  ·exact .inl hc'
  ·exact .inr (.inr ⟨by omega,hlt⟩)⟩
end
end
section
open Go.RowKit
end
section
open Go.RowKit
end
section
open Go.RowKit
section
variable {w:World} {N Bo nr nv m:Nat} {vr vv v:Value} {lr:List Rl} {lv:List Vl} {L:Nat→Ent} {P S B n r:Nat} {t:Int}
end
end
section
def stN (P r S B n nv:Nat) (Q:Nat→Od) (s:Ms):Nat→Ms
 | 0 => s
 | k + 1 => doS P r S B n nv (stN P r S B n nv Q s k) (Q k)
def aloE (P r S B n nv:Nat) (Q:Nat→Od) (s:Ms) (k:Nat):Ent:=⟨3,3 * (k:Int),3 * (k:Int) + 2,3 * (k:Int) + 3,Q k,doA P r S B n nv (stN P r S B n nv Q s k) (Q k)⟩
def chgE (L:Nat→Ent) (k:Nat) (a:Int) (i:Nat):Ent:=if i=k then { L i with ans:=a } else L i
theorem range_drop {N k:Nat} (h:k < N):(List.range N).drop k=k :: (List.range N).drop (k + 1):=by
 rw [List.drop_eq_getElem_cons (by simpa using h)]
 congr 1
 simp
theorem ord_range {N:Nat} {key:Nat→Int} (hp:∀ i,i < N→0 < key i) (hm:∀ i j,i < j→j < N→key i < key j):OrdL N key (List.range N):=by
 refine ⟨?_,fun i => ?_⟩
 ·rw [List.pairwise_iff_getElem]
  intro i j hi hj hij
  simp only [List.length_range] at hi hj
  simp only [List.getElem_range]
  exact .inl (hm i j hij hj)
 ·rw [List.mem_range]
  exact ⟨fun h => ⟨h,hp i h⟩,fun h => h.1⟩
section
variable {P r S B n nv:Nat} {Q:Nat→Od} {s:Ms}
theorem alo_ord (N:Nat):OrdL N (fun i => (aloE P r S B n nv Q s i).mar) (List.range N) :=
 ord_range (fun i _ => by show (0:Int) < 3 * (i:Int) + 2; omega) (fun i j h _ => by show 3 * (i:Int) + 2 < 3 * (j:Int) + 2; omega)
theorem chg_ord (N k:Nat) (a:Int):OrdL N (fun i => (chgE (aloE P r S B n nv Q s) k a i).mar) (List.range N):=by
 have e:(fun i => (chgE (aloE P r S B n nv Q s) k a i).mar)=fun i => (aloE P r S B n nv Q s i).mar:=by
  funext i
  unfold chgE
  split <;> rfl
 rw [e]
 exact alo_ord N
theorem chg_same (L:Nat→Ent) (k:Nat) (a:Int) (i:Nat):(chgE L k a i).who=(L i).who∧(chgE L k a i).beg=(L i).beg∧(chgE L k a i).mar=(L i).mar∧(chgE L k a i).fin=(L i).fin∧(chgE L k a i).op=(L i).op:=by
 unfold chgE
 split <;> exact ⟨rfl,rfl,rfl,rfl,rfl⟩
theorem alo_mis (k:Nat) (a:Int) (i:Nat):misT (chgE (aloE P r S B n nv Q s) k a i)=false:=by
 obtain ⟨h1,h2,h3,h4,h5⟩:=chg_same (aloE P r S B n nv Q s) k a i
 have b1:(aloE P r S B n nv Q s i).beg=3 * (i:Int):=rfl
 have b2:(aloE P r S B n nv Q s i).mar=3 * (i:Int) + 2:=rfl
 have b3:(aloE P r S B n nv Q s i).fin=3 * (i:Int) + 3:=rfl
 unfold misT
 rw [h2,h3,h4,b1,b2,b3]
 simp only [Bool.or_eq_false_iff,Bool.and_eq_false_iff,decide_eq_false_iff_not]
 omega
theorem alo_bus (k:Nat) (a:Int) (i:Nat):busB (chgE (aloE P r S B n nv Q s) k a) i=false:=by
 rw [busB_false]
 intro j hj
 obtain ⟨h1,h2,h3,h4,h5⟩:=chg_same (aloE P r S B n nv Q s) k a i
 obtain ⟨g1,g2,g3,g4,g5⟩:=chg_same (aloE P r S B n nv Q s) k a j
 unfold busP
 rw [h1,h2,h3,g1,g3,g4]
 show ¬ ((0 < 3 * (i:Int) + 2∧3 * (i:Int) + 2=3 * (j:Int) + 2) ∨ ((3:Int)=3∧(3 * (j:Int) + 3=0 ∨ 3 * (i:Int) < 3 * (j:Int) + 3)))
 omega
theorem rpl_alo (N k:Nat) (a:Int) (ha:a ≠ doA P r S B n nv (stN P r S B n nv Q s k) (Q k)):∀ d m,d + m=N→∀ b:Int,(m≤k→b=-1)→(k < m→b=k) →
  (rpl P r S B n nv (chgE (aloE P r S B n nv Q s) k a) ((List.range N).drop m) (stN P r S B n nv Q s m) b).2=if k < N then (k:Int) else -1
 | 0,m,hm,b,h1,h2 => by
  rw [List.drop_eq_nil_of_le (by simp; omega),rpl]
  by_cases hk:k < N
  ·rw [if_pos hk]; exact h2 (by omega)
  ·rw [if_neg hk]; exact h1 (by omega)
 | d + 1,m,hm,b,h1,h2 => by
  rw [range_drop (by omega),rpl]
  obtain ⟨_,_,_,h4,h5⟩:=chg_same (aloE P r S B n nv Q s) k a m
  have e5:(aloE P r S B n nv Q s m).op=Q m:=rfl
  have e4:(aloE P r S B n nv Q s m).fin=3 * (m:Int) + 3:=rfl
  rw [h5,h4,e5,e4]
  refine rpl_alo N k a ha d (m + 1) (by omega) _ (fun h => ?_) (fun h => ?_)
  ·have hne:m ≠ k:=by omega
   have ea:(chgE (aloE P r S B n nv Q s) k a m).ans=doA P r S B n nv (stN P r S B n nv Q s m) (Q m):=by
    unfold chgE
    rw [if_neg hne]
    rfl
   rw [ea,if_neg (fun h => h.2.2 rfl)]
   exact h1 (by omega)
  ·by_cases hk:m=k
   ·subst hk
    have ea:(chgE (aloE P r S B n nv Q s) m a m).ans=a:=by
     unfold chgE
     rw [if_pos rfl]
    rw [ea,if_pos ⟨h1 (Nat.le_refl _),by omega,ha⟩]
   ·have hb:=h2 (by omega)
    rw [if_neg (fun h => by rw [hb] at h; omega)]
    exact hb
theorem chk_alo (N k:Nat) (a:Int) (ha:a ≠ doA P r S B n nv (stN P r S B n nv Q s k) (Q k)):chkH P r S B n nv (chgE (aloE P r S B n nv Q s) k a) N (List.range N) s=if k < N then ((k:Int),7) else (-1,0):=by
 have h3:=rpl_alo (P:=P) (r:=r) (S:=S) (B:=B) (n:=n) (nv:=nv) (Q:=Q) (s:=s) N k a ha N 0 (by omega) (-1) (fun _ => rfl) (fun h => by omega)
 rw [List.drop_zero] at h3
 unfold chkH
 rw [firstJ_none _ _ (fun i _ => alo_mis k a i),firstJ_none _ _ (fun i _ => alo_bus k a i),if_neg (fun h => h rfl),if_neg (fun h => h rfl)]
 have h4:(rpl P r S B n nv (chgE (aloE P r S B n nv Q s) k a) (List.range N) s (-1)).2=if k < N then (k:Int) else -1:=h3
 rw [h4]
 by_cases hk:k < N
 ·rw [if_pos hk,if_pos hk,if_pos (by omega)]
 ·rw [if_neg hk,if_neg hk,if_neg (fun h => h rfl)]
theorem chg_none (L:Nat→Ent) {N:Nat} (a:Int):∀ i,i < N→chgE L N a i=L i:=fun i hi => if_neg (by omega)
end
end
end Go.Proofs.YtfekhdgjgjodlaaGreat
