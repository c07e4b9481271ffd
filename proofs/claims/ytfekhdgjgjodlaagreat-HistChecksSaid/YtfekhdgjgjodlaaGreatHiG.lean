/-
  Words and contracts that a statement's proof rests on (MoKf, HiG). No statement is proved here.
-/
import Derived.Test.YtfekhdgjgjodlaaGreatBkE
import Derived.Test.YtfekhdgjgjodlaaGreatMoG
import Derived.Test.YtfekhdgjgjodlaaGreatSrC
import Derived.Test.YtfekhdgjgjodlaaGreatMoT
import Derived.Test.YtfekhdgjgjodlaaGreatMoK
set_option linter.unusedVariables false
set_option linter.unusedSimpArgs false
namespace Go.Proofs.YtfekhdgjgjodlaaGreat
section
open Go.RowKit
set_option maxRecDepth 20000 in
set_option maxHeartbeats 3200000 in
theorem zm3 (kd po tt vi sx kv km me un nw li sh bu id:Int) (w:World):Calls Tryz.prog 37 #[opV kd po tt vi sx kv km me un nw li sh bu id] w (Says (opV kd po tt vi sx kv km me un nw li sh bu id) w):=by
 have HKY:=Lib.hid fun W=>zpg kv km W
 have HBOX:Hid (∀ w',Below (w.heap.size+2) ((w.alloc (.cells #[.int .i64 kd,.int .i64 po,.int .i64 tt,.int .i64 vi,.int .i64 sx,.int .i64 kv,.int .u64 km,.int .u64 me,.int .u64 un,.int .u32 nw,.int .u32 li,.int .i64 sh,.int .i64 bu,.int .i64 id] 66)).alloc (.cells #[.int .i64 0,.int .i64 0,.int .i64 0,.int .i64 0,.int .i64 0,.int .i64 0,.int .u64 0,.int .u64 0,.int .u64 0,.int .u32 0,.int .u32 0,.int .i64 0,.int .i64 0,.int .i64 0] 55)) w'->w'.cell? ⟨w.heap.size,0,none⟩=some (.int .i64 kd)/\w'.cell? ⟨w.heap.size,1,none⟩=some (.int .i64 po)/\w'.cell? ⟨w.heap.size,2,none⟩=some (.int .i64 tt)/\w'.cell? ⟨w.heap.size,3,none⟩=some (.int .i64 vi)/\w'.cell? ⟨w.heap.size,4,none⟩=some (.int .i64 sx)/\w'.cell? ⟨w.heap.size,5,none⟩=some (.int .i64 kv)/\w'.cell? ⟨w.heap.size,6,none⟩=some (.int .u64 km)/\w'.cell? ⟨w.heap.size,7,none⟩=some (.int .u64 me)/\w'.cell? ⟨w.heap.size,8,none⟩=some (.int .u64 un)/\w'.cell? ⟨w.heap.size,9,none⟩=some (.int .u32 nw)/\w'.cell? ⟨w.heap.size,10,none⟩=some (.int .u32 li)/\w'.cell? ⟨w.heap.size,11,none⟩=some (.int .i64 sh)/\w'.cell? ⟨w.heap.size,12,none⟩=some (.int .i64 bu)/\w'.cell? ⟨w.heap.size,13,none⟩=some (.int .i64 id)):=fun w' hb=>by
  refine ⟨?_,?_,?_,?_,?_,?_,?_,?_,?_,?_,?_,?_,?_,?_⟩ <;>
  ·rw [hb.cell (by show w.heap.size<_;omega)]
   simp [go_sem]
 have HLOW:Hid (∀ w',Below (w.heap.size+2) ((w.alloc (.cells #[.int .i64 kd,.int .i64 po,.int .i64 tt,.int .i64 vi,.int .i64 sx,.int .i64 kv,.int .u64 km,.int .u64 me,.int .u64 un,.int .u32 nw,.int .u32 li,.int .i64 sh,.int .i64 bu,.int .i64 id] 66)).alloc (.cells #[.int .i64 0,.int .i64 0,.int .i64 0,.int .i64 0,.int .i64 0,.int .i64 0,.int .u64 0,.int .u64 0,.int .u64 0,.int .u32 0,.int .u32 0,.int .i64 0,.int .i64 0,.int .i64 0] 55)) w'->Below w.heap.size w w'):=fun w' hb=>(((Below.refl w.heap.size w).alloc (Nat.le_refl _) _).alloc (by simp) _).trans (hb.mono (by omega))
 have HSZ:Hid (∀ w',Below (w.heap.size+2) ((w.alloc (.cells #[.int .i64 kd,.int .i64 po,.int .i64 tt,.int .i64 vi,.int .i64 sx,.int .i64 kv,.int .u64 km,.int .u64 me,.int .u64 un,.int .u32 nw,.int .u32 li,.int .i64 sh,.int .i64 bu,.int .i64 id] 66)).alloc (.cells #[.int .i64 0,.int .i64 0,.int .i64 0,.int .i64 0,.int .i64 0,.int .i64 0,.int .u64 0,.int .u64 0,.int .u64 0,.int .u32 0,.int .u32 0,.int .i64 0,.int .i64 0,.int .i64 0] 55)) w'->w.heap.size+2<=w'.heap.size):=fun w' hb=>by have:=hb.size;simp at this;omega
 have HUP:Hid (∀ w' w'',Below (w.heap.size+2) ((w.alloc (.cells #[.int .i64 kd,.int .i64 po,.int .i64 tt,.int .i64 vi,.int .i64 sx,.int .i64 kv,.int .u64 km,.int .u64 me,.int .u64 un,.int .u32 nw,.int .u32 li,.int .i64 sh,.int .i64 bu,.int .i64 id] 66)).alloc (.cells #[.int .i64 0,.int .i64 0,.int .i64 0,.int .i64 0,.int .i64 0,.int .i64 0,.int .u64 0,.int .u64 0,.int .u64 0,.int .u32 0,.int .u32 0,.int .i64 0,.int .i64 0,.int .i64 0] 55)) w'->Below w'.heap.size w' w''->Below (w.heap.size+2) ((w.alloc (.cells #[.int .i64 kd,.int .i64 po,.int .i64 tt,.int .i64 vi,.int .i64 sx,.int .i64 kv,.int .u64 km,.int .u64 me,.int .u64 un,.int .u32 nw,.int .u32 li,.int .i64 sh,.int .i64 bu,.int .i64 id] 66)).alloc (.cells #[.int .i64 0,.int .i64 0,.int .i64 0,.int .i64 0,.int .i64 0,.int .i64 0,.int .u64 0,.int .u64 0,.int .u64 0,.int .u32 0,.int .u32 0,.int .i64 0,.int .i64 0,.int .i64 0] 55)) w''):=fun w' w'' h1 h2=>h1.trans (h2.mono (by have:=h1.size;simp at this;omega))
 unfold opV
 go_enter Tryz.func37,Tryz.ntmps37
 go_wp2_with fail
 refine wp_region_held_drew (S:=fun w'=>w'.cell? ⟨w.heap.size,0,none⟩=some (.int .i64 kd)/\w'.cell? ⟨w.heap.size,1,none⟩=some (.int .i64 po)/\w'.cell? ⟨w.heap.size,2,none⟩=some (.int .i64 tt)/\w'.cell? ⟨w.heap.size,3,none⟩=some (.int .i64 vi)/\w'.cell? ⟨w.heap.size,4,none⟩=some (.int .i64 sx)/\w'.cell? ⟨w.heap.size,5,none⟩=some (.int .i64 kv)/\w'.cell? ⟨w.heap.size,6,none⟩=some (.int .u64 km)/\w'.cell? ⟨w.heap.size,7,none⟩=some (.int .u64 me)/\w'.cell? ⟨w.heap.size,8,none⟩=some (.int .u64 un)/\w'.cell? ⟨w.heap.size,9,none⟩=some (.int .u32 nw)/\w'.cell? ⟨w.heap.size,10,none⟩=some (.int .u32 li)/\w'.cell? ⟨w.heap.size,11,none⟩=some (.int .i64 sh)/\w'.cell? ⟨w.heap.size,12,none⟩=some (.int .i64 bu)/\w'.cell? ⟨w.heap.size,13,none⟩=some (.int .i64 id)) (by kernel_rfl) ?_ (fun hHeld=>?_)
 ·exact HBOX.out _ (Below.refl _ _).drew
 obtain ⟨v0,hv0⟩:∃ w',w'=(((w.alloc (.cells #[.int .i64 kd,.int .i64 po,.int .i64 tt,.int .i64 vi,.int .i64 sx,.int .i64 kv,.int .u64 km,.int .u64 me,.int .u64 un,.int .u32 nw,.int .u32 li,.int .i64 sh,.int .i64 bu,.int .i64 id] 66)).alloc (.cells #[.int .i64 0,.int .i64 0,.int .i64 0,.int .i64 0,.int .i64 0,.int .i64 0,.int .u64 0,.int .u64 0,.int .u64 0,.int .u32 0,.int .u32 0,.int .i64 0,.int .i64 0,.int .i64 0] 55))).drew:=⟨_,rfl⟩
 have hq0:Below (w.heap.size+2) ((w.alloc (.cells #[.int .i64 kd,.int .i64 po,.int .i64 tt,.int .i64 vi,.int .i64 sx,.int .i64 kv,.int .u64 km,.int .u64 me,.int .u64 un,.int .u32 nw,.int .u32 li,.int .i64 sh,.int .i64 bu,.int .i64 id] 66)).alloc (.cells #[.int .i64 0,.int .i64 0,.int .i64 0,.int .i64 0,.int .i64 0,.int .i64 0,.int .u64 0,.int .u64 0,.int .u64 0,.int .u32 0,.int .u32 0,.int .i64 0,.int .i64 0,.int .i64 0] 55)) v0:=by rw [hv0];exact (Below.refl _ _).drew
 have HT0:Hid (v0.there (w.heap.size+1) 0 14):=by
  rw [hv0,World.there_drew]
  have:=zb6 (cs:=#[.int .i64 0,.int .i64 0,.int .i64 0,.int .i64 0,.int .i64 0,.int .i64 0,.int .u64 0,.int .u64 0,.int .u64 0,.int .u32 0,.int .u32 0,.int .i64 0,.int .i64 0,.int .i64 0]) (zbd (w.alloc (.cells #[.int .i64 kd,.int .i64 po,.int .i64 tt,.int .i64 vi,.int .i64 sx,.int .i64 kv,.int .u64 km,.int .u64 me,.int .u64 un,.int .u32 nw,.int .u32 li,.int .i64 sh,.int .i64 bu,.int .i64 id] 66)) #[.int .i64 0,.int .i64 0,.int .i64 0,.int .i64 0,.int .i64 0,.int .i64 0,.int .u64 0,.int .u64 0,.int .u64 0,.int .u32 0,.int .u32 0,.int .i64 0,.int .i64 0,.int .i64 0] 55)
  rw [World.size_alloc] at this
  exact this
 (try rw [<- hv0] at hHeld |-)
 clear hv0;refine tk 0 ?_;refine tk 1 ?_;refine tk 2 ?_;refine tk 3 ?_;refine tk 4 ?_;refine tk 5 ?_;refine tk 6 ?_;refine tk 7 ?_;refine tk 8 ?_;refine tk 9 ?_;refine tk 10 ?_;refine tk 11 ?_;refine tk 13 ?_;refine tk 14 ?_;refine tk 15 ?_;refine tk 16 ?_;refine tk 17 ?_;refine tk 18 ?_;refine tk 19 ?_;refine tk 20 ?_;refine tk 21 ?_;refine tk 22 ?_;refine tk 23 ?_;refine tk 24 ?_;refine tk 25 ?_;refine tk 26 ?_
 refine clR 12 rfl fun K hK=>?_
 go_simp
 refine Calls.mono (HKY.out _) ?_
 rintro e wb ⟨rfl,hbb⟩;have hqb:=HUP.out _ _ hq0 hbb
 have HTB:Hid (wb.there (w.heap.size+1) 0 14):=za2 HT0.out hbb (by have:=HSZ.out _ hq0;omega)
 clear hbb
 refine hK.out _ _ ?_ (fun hHeld=>?_)
 ·(try dsimp only)
  exact HBOX.out _ hqb
 clear hK K;refine tk 27 ?_
 refine clR 28 rfl fun K hK=>?_
 refine zb3 (by rfl) 55 _ _ (by rfl) (w.heap.size+1) 0 #[.int .i64 kd,.int .i64 po,.int .i64 tt,.int .i64 vi,.int .i64 sx,.int .i64 kv,.int .u64 km,.int .u64 me,.int .u64 un,.int .u32 nw,.int .u32 li,.int .i64 sh,.int .i64 bu,.int .i64 id] (by rfl) (by rfl) HTB.out (by kernel_rfl) (by simp [Value.oneCell']) ?_
 intro wz hst
 refine hK.out _ _ ?_ (fun hHeld=>?_)
 ·(try dsimp only)
  obtain ⟨y0,y1,y2,y3,y4,y5,y6,y7,y8,y9,y10,y11,y12,y13⟩:=HBOX.out _ hqb
  exact ⟨(World.cell?_of_block (a:=⟨w.heap.size,0,none⟩) (hst.far w.heap.size (by omega))).trans y0,(World.cell?_of_block (a:=⟨w.heap.size,1,none⟩) (hst.far w.heap.size (by omega))).trans y1,(World.cell?_of_block (a:=⟨w.heap.size,2,none⟩) (hst.far w.heap.size (by omega))).trans y2,(World.cell?_of_block (a:=⟨w.heap.size,3,none⟩) (hst.far w.heap.size (by omega))).trans y3,(World.cell?_of_block (a:=⟨w.heap.size,4,none⟩) (hst.far w.heap.size (by omega))).trans y4,(World.cell?_of_block (a:=⟨w.heap.size,5,none⟩) (hst.far w.heap.size (by omega))).trans y5,(World.cell?_of_block (a:=⟨w.heap.size,6,none⟩) (hst.far w.heap.size (by omega))).trans y6,(World.cell?_of_block (a:=⟨w.heap.size,7,none⟩) (hst.far w.heap.size (by omega))).trans y7,(World.cell?_of_block (a:=⟨w.heap.size,8,none⟩) (hst.far w.heap.size (by omega))).trans y8,(World.cell?_of_block (a:=⟨w.heap.size,9,none⟩) (hst.far w.heap.size (by omega))).trans y9,(World.cell?_of_block (a:=⟨w.heap.size,10,none⟩) (hst.far w.heap.size (by omega))).trans y10,(World.cell?_of_block (a:=⟨w.heap.size,11,none⟩) (hst.far w.heap.size (by omega))).trans y11,(World.cell?_of_block (a:=⟨w.heap.size,12,none⟩) (hst.far w.heap.size (by omega))).trans y12,(World.cell?_of_block (a:=⟨w.heap.size,13,none⟩) (hst.far w.heap.size (by omega))).trans y13⟩
 clear hK K
 (try simp only [Act.put,sqA,sqB,sqC])
 refine dnR ?_
 have z0:wz.cell? ⟨w.heap.size+1,0,none⟩=some (.int .i64 kd):=hst.cells 0 _ rfl
 have z1:wz.cell? ⟨w.heap.size+1,1,none⟩=some (.int .i64 po):=hst.cells 1 _ rfl
 have z2:wz.cell? ⟨w.heap.size+1,2,none⟩=some (.int .i64 tt):=hst.cells 2 _ rfl
 have z3:wz.cell? ⟨w.heap.size+1,3,none⟩=some (.int .i64 vi):=hst.cells 3 _ rfl
 have z4:wz.cell? ⟨w.heap.size+1,4,none⟩=some (.int .i64 sx):=hst.cells 4 _ rfl
 have z5:wz.cell? ⟨w.heap.size+1,5,none⟩=some (.int .i64 kv):=hst.cells 5 _ rfl
 have z6:wz.cell? ⟨w.heap.size+1,6,none⟩=some (.int .u64 km):=hst.cells 6 _ rfl
 have z7:wz.cell? ⟨w.heap.size+1,7,none⟩=some (.int .u64 me):=hst.cells 7 _ rfl
 have z8:wz.cell? ⟨w.heap.size+1,8,none⟩=some (.int .u64 un):=hst.cells 8 _ rfl
 have z9:wz.cell? ⟨w.heap.size+1,9,none⟩=some (.int .u32 nw):=hst.cells 9 _ rfl
 have z10:wz.cell? ⟨w.heap.size+1,10,none⟩=some (.int .u32 li):=hst.cells 10 _ rfl
 have z11:wz.cell? ⟨w.heap.size+1,11,none⟩=some (.int .i64 sh):=hst.cells 11 _ rfl
 have z12:wz.cell? ⟨w.heap.size+1,12,none⟩=some (.int .i64 bu):=hst.cells 12 _ rfl
 have z13:wz.cell? ⟨w.heap.size+1,13,none⟩=some (.int .i64 id):=hst.cells 13 _ rfl
 have HBZ:Hid (Below w.heap.size w wz):=(HLOW.out _ hqb).trans (hst.below _ (by omega))
 clear hst hHeld
 go_wp2
 exact bodyPost_ret (v:=opV kd po tt vi sx kv km me un nw li sh bu id) (by simp [results,Tryz.results37,go_sem,opV,z0,z1,z2,z3,z4,z5,z6,z7,z8,z9,z10,z11,z12,z13]) rfl ⟨rfl,HBZ.out⟩
end
section
open Go.RowKit
set_option maxRecDepth 20000 in
set_option maxHeartbeats 12800000 in
theorem zmo {L:Nat->Ent} {n:Nat} {y:Value} {w:World} {B:Nat} (hn:n<=1000000) (hv:zbj w B n y L) (hB:B<=w.heap.size) :
  Calls Tryz.prog 16 #[y] w fun e w'=>∃ u,e=.returned u/\w'.ownsRow w.heap.size 57 19 u n (encE (zcp L n))/\Below w.heap.size w w':=by
 obtain ⟨A,cap,rfl,h1,h2,h3⟩:=hv;have HC:=Lib.hid h3;have HN:=Lib.hid (And.intro hn (And.intro h1 hB));unfold maxLen at h2;clear h3 h1 hB hn
 go_enter Tryz.func16,Tryz.ntmps16
 go_wp2
 go_loopw [3,4] (fun out i wr=>∃ (k:Nat) (pw:Value) (wx:World),pw=out/\wx=wr/\k<=n/\i=.int .i64 k/\Hid (wr.ownsRow w.heap.size 57 19 out k (encE (zcp L k)))/\Hid (Below w.heap.size w wr)) (fun _ i _=>n - (intOf i).toNat)
 case atStart=>exact ⟨0,_,_,rfl,rfl,Nat.zero_le _,rfl,⟨by simp [encE,zcp],.inl ⟨rfl,rfl⟩⟩,Below.refl _ _⟩
 case round =>
  obtain ⟨k,pv,wr,rfl,rfl,hk,rfl,HO,HI⟩:=hrel
  by_cases hlt:k<n
  ·have d1:decide (k<n)=true:=decide_eq_true hlt
   obtain ⟨b,off,rfl,hb,hc⟩:=HC.out (by omega)
   have hcx:=(hc k hlt).keep (w':=wr) fun p hp=>HI.out.cell (by rw [hp];have:=HN.out;omega)
   have HRG:=Lib.hid hcx.range
   have g0:(0:Int)<=(k:Int):=Int.natCast_nonneg _
   have g1:(k:Int)<(n:Int):=by omega
   have hKN:k<=1000000:=by have:=HN.out.1;omega
   have HX:Hid (encE (zcp L (k+1))=encE (zcp L k) ++ (L k).cells):=Lib.hid (by rw [zhp,zee,zls])
   obtain ⟨x,hx⟩:∃ x,x=L k:=⟨_,rfl⟩;rw [<- hx] at HRG HX;clear hx hcx hc HC hb;obtain ⟨who,beg,mar,fin,⟨kd,po,tt,vi,sx,kv,km,me,un,nw,li,sh,bu,id⟩,ans⟩:=x;unfold Ent.cells at HRG HX
   simp only [] at HRG HX
   have HOP:=Lib.hid fun W=>zm3 kd po tt vi sx kv km me un nw li sh bu id W
   unfold opV at HOP
   go_upto_region 6 with (first
    |(refine wpList_load_mid (by rfl) 68 _ (by rfl) b (off+k*19) (by rfl) [.int .i64 who,.int .i64 beg,.int .i64 mar,.int .i64 fin,.int .i64 kd,.int .i64 po,.int .i64 tt,.int .i64 vi,.int .i64 sx,.int .i64 kv,.int .u64 (km:Nat),.int .u64 (me:Nat),.int .u64 (un:Nat),.int .u32 (nw:Nat),.int .u32 (li:Nat),.int .i64 sh,.int .i64 bu,.int .i64 id,.int .i64 ans] _ HRG.out Tryz.underlying68 (by rfl) (by kernel_rfl) ?_;clear HRG)
    |(refine zak (by rfl) 68 _ _ (by rfl) wr.heap.size 0 #[.int .i64 who,.int .i64 beg,.int .i64 mar,.int .i64 fin,.int .i64 kd,.int .i64 po,.int .i64 tt,.int .i64 vi,.int .i64 sx,.int .i64 kv,.int .u64 (km:Nat),.int .u64 (me:Nat),.int .u64 (un:Nat),.int .u32 (nw:Nat),.int .u32 (li:Nat),.int .i64 sh,.int .i64 bu,.int .i64 id,.int .i64 ans] (by rfl) (by rfl) (zco _ _) (by kernel_rfl) (by simp [Value.oneCell']) ?_;intro wz hst;(have HST:=Lib.hid hst);clear hst)
    |fail)
   have HZO:=Lib.hid (za1 (HO.out.alloc _) HST.out (fun e=>by have:=(HO.out.lt _ e).2;omega))
   have HZB:Hid (Below w.heap.size w wz/\w.heap.size<=wz.heap.size):=⟨(HI.out.alloc HI.out.size _).trans (HST.out.below _ HI.out.size),by have:=HI.out.size;rw [HST.out.size];simp;omega⟩
   have HEL:Hid (wr.heap.size<wz.heap.size):=Lib.hid (by rw [HST.out.size];simp)
   have HNE:Hid (∀ w4:World,w4.ownsRow w.heap.size 57 19 pv k (encE (zcp L k))->pv.ownBlock≠some wr.heap.size):=fun _ _ e=>by have:=(HO.out.lt _ e).2;omega
   have HSP:Hid (∀ w',Below wz.heap.size wz w'->w'.cell? ⟨wr.heap.size,0,none⟩=some (.int .i64 who)/\w'.cell? ⟨wr.heap.size,1,none⟩=some (.int .i64 beg)/\w'.cell? ⟨wr.heap.size,2,none⟩=some (.int .i64 mar)/\w'.cell? ⟨wr.heap.size,3,none⟩=some (.int .i64 fin)/\w'.cell? ⟨wr.heap.size,18,none⟩=some (.int .i64 ans)/\w'.rangeAt wr.heap.size 4 [.int .i64 kd,.int .i64 po,.int .i64 tt,.int .i64 vi,.int .i64 sx,.int .i64 kv,.int .u64 (km:Nat),.int .u64 (me:Nat),.int .u64 (un:Nat),.int .u32 (nw:Nat),.int .u32 (li:Nat),.int .i64 sh,.int .i64 bu,.int .i64 id]):=fun w' hb=>⟨(hb.cell (p:=⟨wr.heap.size,0,none⟩) HEL.out).trans (by have:=HST.out.cells 0 _ rfl;rw [Nat.zero_add] at this;exact this),(hb.cell (p:=⟨wr.heap.size,1,none⟩) HEL.out).trans (by have:=HST.out.cells 1 _ rfl;rw [Nat.zero_add] at this;exact this),(hb.cell (p:=⟨wr.heap.size,2,none⟩) HEL.out).trans (by have:=HST.out.cells 2 _ rfl;rw [Nat.zero_add] at this;exact this),(hb.cell (p:=⟨wr.heap.size,3,none⟩) HEL.out).trans (by have:=HST.out.cells 3 _ rfl;rw [Nat.zero_add] at this;exact this),(hb.cell (p:=⟨wr.heap.size,18,none⟩) HEL.out).trans (by have:=HST.out.cells 18 _ rfl;rw [Nat.zero_add] at this;exact this),fun j v hv=>(hb.cell (p:=⟨wr.heap.size,4+j,none⟩) HEL.out).trans (by have h9:=HST.out.cells (4+j) v (zll hv);rw [Nat.zero_add] at h9;exact h9)⟩
   clear HST
   refine wp_region_held_drew (S:=fun w'=>w'.cell? ⟨wr.heap.size,0,none⟩=some (.int .i64 who)/\w'.cell? ⟨wr.heap.size,1,none⟩=some (.int .i64 beg)/\w'.cell? ⟨wr.heap.size,2,none⟩=some (.int .i64 mar)/\w'.cell? ⟨wr.heap.size,3,none⟩=some (.int .i64 fin)/\w'.cell? ⟨wr.heap.size,18,none⟩=some (.int .i64 ans)/\w'.rangeAt wr.heap.size 4 [.int .i64 kd,.int .i64 po,.int .i64 tt,.int .i64 vi,.int .i64 sx,.int .i64 kv,.int .u64 (km:Nat),.int .u64 (me:Nat),.int .u64 (un:Nat),.int .u32 (nw:Nat),.int .u32 (li:Nat),.int .i64 sh,.int .i64 bu,.int .i64 id]) (by kernel_rfl) ?_ (fun hHeld=>?_)
   ·exact HSP.out _ (Below.refl _ _).drew
   obtain ⟨v0,hv0⟩:∃ w',w'=wz.drew:=⟨_,rfl⟩
   have hvb:Below wz.heap.size wz v0:=by rw [hv0];exact (Below.refl _ _).drew
   rw [<- hv0] at hHeld |-;clear hv0;refine tk 0 ?_;refine tk 1 ?_;refine tk 2 ?_;refine tk 3 ?_;refine tk 4 ?_;refine tk 5 ?_;refine tk 6 ?_;refine tk 7 ?_;refine tk 8 ?_;refine tk 9 ?_
   refine tkL 10 rfl ?_ (yieldsIf_load_mid (by rfl) _ _ rfl wr.heap.size 4 rfl [.int .i64 kd,.int .i64 po,.int .i64 tt,.int .i64 vi,.int .i64 sx,.int .i64 kv,.int .u64 (km:Nat),.int .u64 (me:Nat),.int .u64 (un:Nat),.int .u32 (nw:Nat),.int .u32 (li:Nat),.int .i64 sh,.int .i64 bu,.int .i64 id] _ (fun _ h=>h.2.2.2.2.2) Tryz.underlying66 (by rfl) (by kernel_rfl))
   refine tk 12 ?_;refine tk 13 ?_
   refine clR 11 rfl fun K hK=>?_
   go_simp
   refine Calls.mono (HOP.out _) ?_
   rintro e w4 ⟨rfl,hb4⟩;have HV4:Hid (Below wz.heap.size wz w4):=Lib.hid (hvb.trans (hb4.mono hvb.size));have HO4:=Lib.hid (zac HZO.out HV4.out);have HB4:Hid (Below w.heap.size w w4):=Lib.hid (HZB.out.1.trans (HV4.out.mono HZB.out.2));clear hb4
   refine hK.out _ _ ?_ (fun hHeld=>?_)
   ·(try dsimp only)
    exact HSP.out _ HV4.out
   clear hK K;refine tk 14 ?_
   refine clR 15 rfl fun K hK=>?_
   go_simp
   refine hK.out _ _ ?_ (fun hHeld=>?_)
   ·(try dsimp only)
    exact HSP.out _ (HV4.out.alloc HV4.out.size _)
   clear hK K
   (try simp only [Act.put,sqA,sqB,sqC])
   refine clR 16 rfl fun K hK=>?_
   refine zam _ (by rfl) zoa _ _ (by rfl) w.heap.size _ k _ (by rfl) (zac HO4.out ((Below.refl _ _).alloc (Nat.le_refl _) (.cells #[.int .i64 who,.int .i64 beg,.int .i64 mar,.int .i64 fin,.int .i64 kd,.int .i64 po,.int .i64 tt,.int .i64 vi,.int .i64 sx,.int .i64 kv,.int .u64 (km:Nat),.int .u64 (me:Nat),.int .u64 (un:Nat),.int .u32 (nw:Nat),.int .u32 (li:Nat),.int .i64 sh,.int .i64 bu,.int .i64 id,.int .i64 ans] 57))) (w4.heap.size+1) _ 1 [.int .i64 who,.int .i64 beg,.int .i64 mar,.int .i64 fin,.int .i64 kd,.int .i64 po,.int .i64 tt,.int .i64 vi,.int .i64 sx,.int .i64 kv,.int .u64 (km:Nat),.int .u64 (me:Nat),.int .u64 (un:Nat),.int .u32 (nw:Nat),.int .u32 (li:Nat),.int .i64 sh,.int .i64 bu,.int .i64 id,.int .i64 ans] (by rfl) (Sl.litN w4 #[.int .i64 who,.int .i64 beg,.int .i64 mar,.int .i64 fin,.int .i64 kd,.int .i64 po,.int .i64 tt,.int .i64 vi,.int .i64 sx,.int .i64 kv,.int .u64 (km:Nat),.int .u64 (me:Nat),.int .u64 (un:Nat),.int .u32 (nw:Nat),.int .u32 (li:Nat),.int .i64 sh,.int .i64 bu,.int .i64 id,.int .i64 ans] _ 1 19 rfl (by decide)) (by simp [Value.oneCell']) (by omega) (by have:=HB4.out.size;simp;omega) ?_
   intro v2 w2 hown2 hgr2 hat2 hbel2
   refine hK.out _ _ ?_ (fun hHeld=>?_)
   ·(try dsimp only)
    exact keepS hHeld fun p hp=>World.cell?_of_block (hgr2.block p.block (by rw [hp];have:=HZB.out.2;have:=HV4.out.size;have:=HEL.out;simp;omega) (fun e=>HNE.out _ HO4.out (by rw [<- e,hp])))
   clear hK K;refine tk 17 ?_
   refine dnR ?_
   have HO2:Hid (w2.ownsRow w.heap.size 57 19 v2 (k+1) (encE (zcp L (k+1)))):=by
    rw [HX.out];exact hown2
   have HB2:Hid (Below w.heap.size w w2):=(HB4.out.alloc HB4.out.size _).trans hbel2;clear hown2 hbel2 hgr2 hat2
   go_wp2
   go_roundw
   case rel=>exact ⟨k+1,_,_,rfl,rfl,by omega,by go_num,HO2.out,HB2.out⟩
   case measure=>simp [intOf];omega
  ·have:k=n:=by omega
   subst this
   have d1:decide (k<k)=false:=decide_eq_false hlt
   go_wp2
   go_ret
   exact ⟨_,rfl,HO.out,HI.out⟩
end
end Go.Proofs.YtfekhdgjgjodlaaGreat
