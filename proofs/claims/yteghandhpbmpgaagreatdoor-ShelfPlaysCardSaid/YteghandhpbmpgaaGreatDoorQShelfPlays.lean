/-
 ShelfPlays: for every input the call returns true, and each argument reads afterwards as it read before. Conditions: none but the row's own, that the listed package-level variables read as the program's text lays them.
-/
import Derived.Test.YteghandhpbmpgaaGreatDoorCards
import Derived.Test.YteghandhpbmpgaaGreatDoorTie
import Derived.Test.YteghandhpbmpgaaGreatDoorSA6

section
/-
 Chapter 13: records put and withdrawn, one behind the other (ShelfPlays). Condition: what the package leans on lies as the text lays it.
-/
namespace Go.Proofs.YteghandhpbmpgaaGreatDoor
open Go.RowKit
set_option maxRecDepth 100000
set_option linter.unusedVariables false
set_option linter.unusedSimpArgs false
set_option linter.unnecessarySimpa false
set_option maxHeartbeats 8000000

theorem made_at (v:Value)(l:List Int)(i own:Nat)(W:World)(hv:ReadsI W W.heap.size v l)(hl:l.length<=9223372036854775807)(hi:i<=1000)(ho:own<=1000):YC 25 #[v,YI (i:Int),YI (own:Int)] W λe w'=>∃ v' ob,e= .returned v'/\(∃ x,v'=rvV x/\MadeR x ob)/\Own [] W w' ob:=
 (record_gen v l i own W hv hl hi ho).mono λe w' ⟨x,ob,q1,⟨q2,q3⟩,q4⟩=>⟨_,ob,q1,⟨x,rfl,made_of q2 q3⟩,q4⟩
theorem shelfPlays.law (v:Value)(l:List Int)(W:World)(hv:ReadsI W W.heap.size v l)(hl:l.length<=9223372036854775807)(hK:RecLib W):YC 8 #[v] W (YR (.bool true) W):=by
 refine z8 Tryz.func8 (zD [] λb3=>zD [0,0] λb4=> ?_)
 refine y4 (α:=Nat×Hv×List Blk) (λ(i,y,ob)=>[(0,v),(3,Zp b3 0),(4,Zp b4 0),(5,YI (i:Int))]) (λ(i,y,ob)=>[⟨b4, #[.string (mkS gJ),.slice none 0 0],49⟩,⟨b3, #[.string (mkS y.name),.slice y.A y.es.length y.cap],49⟩]++ob) (λ(i,y,ob) m=>(i<=10/\yR y.sh/\y.name=gJ/\y.es.length<=i/\ShO y ob)/\m=10-i) (0,s0v,[]) 10 [0] ⟨⟨by decide,may0,rfl,by decide,⟨[],[],rfl,LsO.nil⟩⟩,rfl⟩ ?_
 rintro ⟨i,y,ob⟩ mm g kk ⟨⟨hi,hM,hnm,hlen,hyo⟩,hmm⟩ nx hkk
 subst hkk
 refine zE 13 [] ((i:Int)<10) (λh13=> ?_) (λh13=> ?_)
 rotate_left
 ·exact z1 (v:= .bool true) [] (λw hO=>awake13_any w (hK.on hO.below)) (z6 [] Z4 λw hO=>⟨rfl,hO.below⟩)
 have hi9:i<=9:=by omega
 obtain ⟨k,hk,hk3⟩:=yM (atL l (84*i+80)) 3 (by decide)
 obtain ⟨k2,hk2,_⟩:=yM (atL l (84*i+81)) 3 (by decide)
 obtain ⟨k4,hk4,_⟩:=yM (atL l (84*i+82)) 2 (by decide)
 have f1:=x8 hv hl (84*i+80) 3 Om (by decide) (by decide) hk
 have f2:=x8 hv hl (84*i+81) 3 Om (by decide) (by decide) hk2
 have f3:=x8 hv hl (84*i+82) 2 Om (by decide) (by decide) hk4
 refine x_i 18 [] ((84*i:Nat):Int) (x_i 21 [] ((84*i:Nat):Int) (x_i 22 [] ((84*i+80:Nat):Int) (z1 [] (λw hO=>f1 w hO.below) (x_i 24 [] ((1+k:Nat):Int) (yV (R:=λv ob=>∃ x,v=rvV x/\MadeR x ob) [] (λw hO=>made_at v l (84*i) (1+k) w ((hv.below hO.below).more hO.below.size) hl Om Om) ?_)))))
 rintro _ obr ⟨x,rfl,hX⟩
 have iy:∀ w,Own [] W w (ob++obr)->ShIn w w.heap.size y:=λw hO=>hyo.inn hO (λb hb=>List.mem_append_left _ hb) hM
 have ix:∀ w,Own [] W w (ob++obr)->RcIn w w.heap.size x:=λw hO=>hX.inn hO (λb hb=>List.mem_append_right _ hb)
 have hsv:=hX.bnd.pre
 have hsb:=hX.bnd.bld
 have hc0:(zX x.rt).1=0:=by rw [hX.chk]
 have hl64:y.sh.es.length<64:=by
  have:y.sh.es.length=y.es.length:=by simp [Hv.sh]
  omega
 have hyn:y.sh.name=gJ:=hnm
 have hyl:y.sh.es.length=y.es.length:=by simp [Hv.sh]
 have cF:∀ w,Own [] W w (ob++obr)->YC 33 #[hvV y,.string (mkS x.name),x5 x.ver] w (YR (YI (zO y.sh.es x.rt.name x.rt.ver)) w):=λw hO=>by
  have h:=sFind_any y x.name x.ver w (iy w hO) hsv hsb (hK.on hO.below)
  rw [find_is hM] at h;exact h
 have cP:∀ w,Own [] W w (ob++obr)->YC 38 #[hvV y,rvV x] w λe w'=>∃ v ob,e= .returned v/\(∃ y2:Hv,∃ e2:Int,v= .tuple #[hvV y2,YI e2]/\ShO y2 ob/\((zO y.sh.es x.rt.name x.rt.ver= -1/\e2=0/\yR y2.sh/\y2.name=gJ/\qO y.sh y2.sh/\y2.es.length=y.es.length+1)\/(0<=zO y.sh.es x.rt.name x.rt.ver/\e2=8)))/\Own [] w w' ob:=λw hO=>by
  refine (sPut_any y x w (iy w hO) (ix w hO) (hK.on hO.below)).mono λe w' ⟨v,o2,q1,⟨y2,q2,q3,q4⟩,q5⟩=>⟨v,o2,q1,⟨y2,_,q2,q4, ?_⟩,q5⟩
  rw [put_is hM hc0 hl64] at q3 ⊢
  by_cases hz:zO y.sh.es x.rt.name x.rt.ver= -1
  ·rw [if_pos hz] at q3 ⊢
   refine .inl ⟨hz,rfl,q3▸put_may hM hc0 hz hl64, ?_,q3▸grown_put hM hc0 hz hl64, ?_⟩
   ·exact (congrArg Sh.name q3).trans hyn
   ·have:=congrArg (λs:Sh=>s.es.length) q3
    simpa [Hv.sh] using this
  ·rw [if_neg hz]
   exact .inr ⟨by have:=mA y.sh.es x.rt.name x.rt.ver;omega,rfl⟩
 have cY:∀ (on:Bool) w,Own [] W w (ob++obr)->YC 40 #[hvV y,.string (mkS x.name),x5 x.ver,.bool on] w λe w'=>∃ v ob,e= .returned v/\(∃ y2:Hv,∃ e2:Int,v= .tuple #[hvV y2,YI e2]/\ShO y2 ob/\((0<=zO y.sh.es x.rt.name x.rt.ver/\e2=0/\yR y2.sh/\y2.name=gJ/\qO y.sh y2.sh/\y2.es.length=y.es.length)\/(zO y.sh.es x.rt.name x.rt.ver= -1/\e2=9)))/\Own [] w w' ob:=λon w hO=>by
  refine (sYank_any y x.name x.ver on w (iy w hO) hsv hsb (hK.on hO.below)).mono λe w' ⟨v,o2,q1,⟨y2,q2,q3,q4⟩,q5⟩=>⟨v,o2,q1,⟨y2,_,q2,q4, ?_⟩,q5⟩
  rw [yank_is hM] at q3 ⊢
  by_cases hz:zO y.sh.es x.name x.ver= -1
  ·rw [if_pos hz]
   exact .inr ⟨hz,rfl⟩
  ·rw [if_neg hz] at q3 ⊢
   refine .inl ⟨by
    have:zO y.sh.es x.rt.name x.rt.ver= -1\/0<=zO y.sh.es x.rt.name x.rt.ver:=mA _ _ _
    rcases this with h|h
    ·exact absurd h hz
    ·exact h,rfl,q3▸mark_may hM,(congrArg Sh.name q3).trans hyn,q3▸(grown_mark hM).1, ?_⟩
   have:=congrArg (λs:Sh=>s.es.length) q3
   simpa [Hv.sh,mE] using this
 generalize zO y.sh.es x.rt.name x.rt.ver=z at cF cP cY
 refine zD [] λb6=>z1 (v:=YI z) [0,2,0,0] (λw hO=>cF w (hO.past 3 (ob++obr))) (yV (R:=λv o=>∃ y2:Hv,∃ e2:Int,v= .tuple #[hvV y2,YI e2]/\ShO y2 o/\((z= -1/\e2=0/\yR y2.sh/\y2.name=gJ/\qO y.sh y2.sh/\y2.es.length=y.es.length+1)\/(0<=z/\e2=8))) [2,0] (λw hO=>cP w (hO.past 3 (ob++obr))) ?_)
 rintro _ o2 ⟨y2,e2,rfl,hy2,hp2⟩
 refine zD [] λb8=>x_i 40 [0] ((84*i:Nat):Int) (x_i 41 [] ((84*i+81:Nat):Int) (z1 [] (λw hO=>f2 w hO.below) ?_))
 refine w8 (α:=Hv×Int×List Blk) 43 (λ(y2,e2,_)=>[(0,v),(3,Zp b3 0),(4,Zp b4 0),(5,YI (i:Int)),(8,Zp b8 0),(9,YI e2)]) (λ(y2,e2,o)=>[⟨b8, #[.string (mkS y2.name),.slice y2.A y2.es.length y2.cap],49⟩,⟨b6, #[.string (mkS x.name),YI x.maj,YI x.min,YI x.pat,.string (mkS x.pre),.string (mkS x.bld),.slice x.nA x.needs.length x.nc,.slice x.bA x.bars.length x.bc,.slice x.fA x.fts.length x.fc],28⟩,⟨b4, #[.string (mkS gJ),.slice none 0 0],49⟩,⟨b3, #[.string (mkS y.name),.slice y.A y.es.length y.cap],49⟩]++(ob++o)) (λ(y2,e2,o)=>ShO y2 o/\(e2=0->yR y2.sh/\y2.name=gJ/\qO y.sh y2.sh/\y2.es.length<=y.es.length+1)) [] (λnj=>gW 43 ((k2:Int)=1) (λh43=> ?_) (λh43=> ?_)) ?_
 ·refine yJ 16 [] [⟨b6, #[.string (mkS x.name),YI x.maj,YI x.min,YI x.pat,.string (mkS x.pre),.string (mkS x.bld),.slice x.nA x.needs.length x.nc,.slice x.bA x.bars.length x.bc,.slice x.fA x.fts.length x.fc],28⟩,⟨b3, #[.string (mkS y.name),.slice y.A y.es.length y.cap],49⟩] (λw hO=> ?_) (x_i 52 [1,0,0] ((84*i:Nat):Int) (x_i 53 [] ((84*i+82:Nat):Int) (zK [] 9 (z1 [] (λw hO=>f3 w hO.below) (zK [] 11 (y9 (R:=λv o=>∃ y2:Hv,∃ e2:Int,v= .tuple #[hvV y2,YI e2]/\ShO y2 o/\((0<=z/\e2=0/\yR y2.sh/\y2.name=gJ/\qO y.sh y2.sh/\y2.es.length=y.es.length)\/(z= -1/\e2=9))) (λw hO=>cY (decide ((k4:Int)=1)) w ((hO.past 4 ((ob++obr)++o2)).sublist (List.sublist_append_left _ _))) ?_))))))
  ·have hO':=hO.past 0 ([⟨b8, #[.string (mkS y2.name),.slice y2.A y2.es.length y2.cap],49⟩,⟨b6, #[.string (mkS x.name),YI x.maj,YI x.min,YI x.pat,.string (mkS x.pre),.string (mkS x.bld),.slice x.nA x.needs.length x.nc,.slice x.bA x.bars.length x.bc,.slice x.fA x.fts.length x.fc],28⟩,⟨b4, #[.string (mkS gJ),.slice none 0 0],49⟩,⟨b3, #[.string (mkS y.name),.slice y.A y.es.length y.cap],49⟩]++(ob++obr++o2))
   clear hO
   exact fD (⟨b8, #[.string (mkS y2.name),.slice y2.A y2.es.length y2.cap],49⟩::⟨b4, #[.string (mkS gJ),.slice none 0 0],49⟩::(ob++obr++o2)) hO' λp=>by simp only [List.countP_append,List.countP_cons,List.countP_nil,List.cons_append,List.nil_append];omega
  rintro _ o3 ⟨y3,e3,rfl,hy3,hp3⟩
  refine zK [] 15 (xh_sto 0 ⟨b8, #[.string (mkS y2.name),.slice y2.A y2.es.length y2.cap],49⟩ 0 2 (hvV y3) ([⟨b8, #[.string (mkS y2.name),.slice y2.A y2.es.length y2.cap],49⟩,⟨b6, #[.string (mkS x.name),YI x.maj,YI x.min,YI x.pat,.string (mkS x.pre),.string (mkS x.bld),.slice x.nA x.needs.length x.nc,.slice x.bA x.bars.length x.bc,.slice x.fA x.fts.length x.fc],28⟩,⟨b4, #[.string (mkS gJ),.slice none 0 0],49⟩,⟨b3, #[.string (mkS y.name),.slice y.A y.es.length y.cap],49⟩]++(ob++obr++o2)++o3) [⟨b6, #[.string (mkS x.name),YI x.maj,YI x.min,YI x.pat,.string (mkS x.pre),.string (mkS x.bld),.slice x.nA x.needs.length x.nc,.slice x.bA x.bars.length x.bc,.slice x.fA x.fts.length x.fc],28⟩,⟨b3, #[.string (mkS y.name),.slice y.A y.es.length y.cap],49⟩] (by show 0+2<=2;omega) (λw hO=> ?_) ?_)
  ·have hO':=hO.past 0 ([⟨b8, #[.string (mkS y3.name),.slice y3.A y3.es.length y3.cap],49⟩,⟨b6, #[.string (mkS x.name),YI x.maj,YI x.min,YI x.pat,.string (mkS x.pre),.string (mkS x.bld),.slice x.nA x.needs.length x.nc,.slice x.bA x.bars.length x.bc,.slice x.fA x.fts.length x.fc],28⟩,⟨b4, #[.string (mkS gJ),.slice none 0 0],49⟩,⟨b3, #[.string (mkS y.name),.slice y.A y.es.length y.cap],49⟩]++(ob++obr++o2)++o3)
   clear hO
   exact fD (⟨b8, #[.string (mkS y3.name),.slice y3.A y3.es.length y3.cap],49⟩::⟨b4, #[.string (mkS gJ),.slice none 0 0],49⟩::(ob++obr++o2++o3)) hO' λp=>by simp only [List.countP_append,List.countP_cons,List.countP_nil,List.cons_append,List.nil_append];omega
  have hfin:∀ w,Own [] W w ([⟨b8, #[.string (mkS y3.name),.slice y3.A y3.es.length y3.cap],49⟩,⟨b6, #[.string (mkS x.name),YI x.maj,YI x.min,YI x.pat,.string (mkS x.pre),.string (mkS x.bld),.slice x.nA x.needs.length x.nc,.slice x.bA x.bars.length x.bc,.slice x.fA x.fts.length x.fc],28⟩,⟨b4, #[.string (mkS gJ),.slice none 0 0],49⟩,⟨b3, #[.string (mkS y.name),.slice y.A y.es.length y.cap],49⟩]++(ob++obr++o2)++o3)->Own [] W w ([⟨b8, #[.string (mkS y3.name),.slice y3.A y3.es.length y3.cap],49⟩,⟨b6, #[.string (mkS x.name),YI x.maj,YI x.min,YI x.pat,.string (mkS x.pre),.string (mkS x.bld),.slice x.nA x.needs.length x.nc,.slice x.bA x.bars.length x.bc,.slice x.fA x.fts.length x.fc],28⟩,⟨b4, #[.string (mkS gJ),.slice none 0 0],49⟩,⟨b3, #[.string (mkS y.name),.slice y.A y.es.length y.cap],49⟩]++(ob++o3)):=λw hO=>fD (obr++o2) hO λp=>by simp only [List.countP_append,List.countP_cons,List.countP_nil,List.cons_append,List.nil_append];omega
  rcases hp3 with ⟨hz,rfl,hm3,hn3,hg3,hl3⟩|⟨rfl,rfl⟩
  ·exact x_yes 62 [] (z>=0) hz (zH [] ([⟨b8, #[.string (mkS y3.name),.slice y3.A y3.es.length y3.cap],49⟩,⟨b6, #[.string (mkS x.name),YI x.maj,YI x.min,YI x.pat,.string (mkS x.pre),.string (mkS x.bld),.slice x.nA x.needs.length x.nc,.slice x.bA x.bars.length x.bc,.slice x.fA x.fts.length x.fc],28⟩,⟨b4, #[.string (mkS gJ),.slice none 0 0],49⟩,⟨b3, #[.string (mkS y.name),.slice y.A y.es.length y.cap],49⟩]++(ob++o3)) (λw hO=>hfin w (hO.past 0 _)) (nj (y3,0,o3) [] ⟨hy3,λ_=>⟨hm3,hn3,hg3,by omega⟩⟩ Kr))
  ·exact zH [] ([⟨b8, #[.string (mkS y3.name),.slice y3.A y3.es.length y3.cap],49⟩,⟨b6, #[.string (mkS x.name),YI x.maj,YI x.min,YI x.pat,.string (mkS x.pre),.string (mkS x.bld),.slice x.nA x.needs.length x.nc,.slice x.bA x.bars.length x.bc,.slice x.fA x.fts.length x.fc],28⟩,⟨b4, #[.string (mkS gJ),.slice none 0 0],49⟩,⟨b3, #[.string (mkS y.name),.slice y.A y.es.length y.cap],49⟩]++(ob++o3)) (λw hO=>hfin w (hO.past 0 _)) (nj (y3,9,o3) [] ⟨hy3,λh=>absurd h (by decide)⟩ Kr)
 ·have hfin:∀ w,Own [] W w ([⟨b8, #[.string (mkS y2.name),.slice y2.A y2.es.length y2.cap],49⟩,⟨b6, #[.string (mkS x.name),YI x.maj,YI x.min,YI x.pat,.string (mkS x.pre),.string (mkS x.bld),.slice x.nA x.needs.length x.nc,.slice x.bA x.bars.length x.bc,.slice x.fA x.fts.length x.fc],28⟩,⟨b4, #[.string (mkS gJ),.slice none 0 0],49⟩,⟨b3, #[.string (mkS y.name),.slice y.A y.es.length y.cap],49⟩]++(ob++obr++o2))->Own [] W w ([⟨b8, #[.string (mkS y2.name),.slice y2.A y2.es.length y2.cap],49⟩,⟨b6, #[.string (mkS x.name),YI x.maj,YI x.min,YI x.pat,.string (mkS x.pre),.string (mkS x.bld),.slice x.nA x.needs.length x.nc,.slice x.bA x.bars.length x.bc,.slice x.fA x.fts.length x.fc],28⟩,⟨b4, #[.string (mkS gJ),.slice none 0 0],49⟩,⟨b3, #[.string (mkS y.name),.slice y.A y.es.length y.cap],49⟩]++(ob++o2)):=λw hO=>fD obr hO λp=>by simp only [List.countP_append,List.countP_cons,List.countP_nil,List.cons_append,List.nil_append];omega
  rcases hp2 with ⟨rfl,rfl,hm2,hn2,hg2,hl2⟩|⟨hz,rfl⟩
  ·exact x_i 79 [0,3] ((y.es.length+1:Nat):Int) (qT 80 [] ((y2.es.length:Int)=((y.es.length+1:Nat):Int)) (λ_=>zH [] ([⟨b8, #[.string (mkS y2.name),.slice y2.A y2.es.length y2.cap],49⟩,⟨b6, #[.string (mkS x.name),YI x.maj,YI x.min,YI x.pat,.string (mkS x.pre),.string (mkS x.bld),.slice x.nA x.needs.length x.nc,.slice x.bA x.bars.length x.bc,.slice x.fA x.fts.length x.fc],28⟩,⟨b4, #[.string (mkS gJ),.slice none 0 0],49⟩,⟨b3, #[.string (mkS y.name),.slice y.A y.es.length y.cap],49⟩]++(ob++o2)) (λw hO=>hfin w (hO.past 0 _)) (nj (y2,0,o2) [] ⟨hy2,λ_=>⟨hm2,hn2,hg2,by omega⟩⟩ Kr)) (λh=>absurd Om h))
  ·exact zE 67 [] (z<0) (λh=>absurd h Om) (λ_=>zH [] ([⟨b8, #[.string (mkS y2.name),.slice y2.A y2.es.length y2.cap],49⟩,⟨b6, #[.string (mkS x.name),YI x.maj,YI x.min,YI x.pat,.string (mkS x.pre),.string (mkS x.bld),.slice x.nA x.needs.length x.nc,.slice x.bA x.bars.length x.bc,.slice x.fA x.fts.length x.fc],28⟩,⟨b4, #[.string (mkS gJ),.slice none 0 0],49⟩,⟨b3, #[.string (mkS y.name),.slice y.A y.es.length y.cap],49⟩]++(ob++o2)) (λw hO=>hfin w (hO.past 0 _)) (nj (y2,8,o2) [] ⟨hy2,λh=>absurd h (by decide)⟩ Kr))
 clear hp2 hy2 cF cP cY iy ix
 rintro ⟨y2,e2,o2⟩ g2 ⟨hy2,hp2⟩
 refine qT 84 [] (e2=0) (λh84=> ?_) (λh84=> ?_)
 rotate_left
 ·exact x_i 15 [] ((i+1:Nat):Int) (zH [] ([⟨b4, #[.string (mkS gJ),.slice none 0 0],49⟩,⟨b3, #[.string (mkS y.name),.slice y.A y.es.length y.cap],49⟩]++ob) (λw hO=>fD o2 (hO.past 2 ([⟨b4, #[.string (mkS gJ),.slice none 0 0],49⟩,⟨b3, #[.string (mkS y.name),.slice y.A y.es.length y.cap],49⟩]++(ob++o2))) λp=>by simp only [List.countP_append,List.countP_cons,List.countP_nil,List.cons_append,List.nil_append];omega) (nx (i+1,y,ob) (10-(i+1)) [] Om ⟨⟨by omega,hM,hnm,by omega,hyo⟩,rfl⟩ Kr Kr))
 obtain ⟨hm2,hn2,hg2,hl2⟩:=hp2 h84
 have iy:∀ w,Own [] W w (ob++o2)->ShIn w w.heap.size y:=λw hO=>hyo.inn hO (λb hb=>List.mem_append_left _ hb) hM
 have i2:∀ w,Own [] W w (ob++o2)->ShIn w w.heap.size y2:=λw hO=>hy2.inn hO (λb hb=>List.mem_append_right _ hb) hm2
 have c1:∀ w,Own [] W w (ob++o2)->YC 31 #[hvV y2] w (YR (.bool true) w):=λw hO=>by
  have h:=wP y2 w (i2 w hO) (hK.on hO.below)
  rw [decide_eq_true hm2] at h;exact h
 have c2:∀ w,Own [] W w (ob++o2)->YC 44 #[hvV y,hvV y2] w (YR (.bool true) w):=λw hO=>by
  have h:=f0 y y2 w (iy w hO) (i2 w hO) (hK.on hO.below)
  rw [decide_eq_true hg2] at h;exact h
 have c3:∀ w,Own [] W w (ob++o2)->YC 44 #[hvV s0v,hvV y2] w (YR (.bool true) w):=λw hO=>by
  have h:=f0 s0v y2 w (s0_in w) (i2 w hO) (hK.on hO.below)
  rw [decide_eq_true (grown_nil (s:=s0v.sh) may0 rfl hm2 hn2.symm)] at h;exact h
 have c4:¬ y2.es.length<=y.es.length→∀ w,Own [] W w (ob++o2)->YC 44 #[hvV y2,hvV y] w (YR (.bool false) w):=λhno w hO=>by
  have h:=f0 y2 y w (i2 w hO) (iy w hO) (hK.on hO.below)
  rw [decide_eq_false (λq=>hno (by have:=q.2.2.2.1;simpa [Hv.sh] using this))] at h;exact h
 refine z1 (v:= .bool true) [0] (λw hO=>c1 w (hO.past 4 (ob++o2))) (z1 (v:= .bool true) [3,0] (λw hO=>c2 w (hO.past 4 (ob++o2))) (z1 (v:= .bool true) [2,0] (λw hO=>c3 w (hO.past 4 (ob++o2))) (zE 107 [0,3] ((y2.es.length:Int)>(y.es.length:Int)) (λh107=>z1 (v:= .bool false) [0,3] (λw hO=>c4 (by omega) w (hO.past 4 (ob++o2))) ?_) (λh107=> ?_))))
 all_goals
  exact x_i 15 [0,3] ((i+1:Nat):Int) (zH [] ([⟨b4, #[.string (mkS gJ),.slice none 0 0],49⟩,⟨b3, #[.string (mkS y2.name),.slice y2.A y2.es.length y2.cap],49⟩]++o2) (λw hO=>fD ob (hO.past 2 ([⟨b4, #[.string (mkS gJ),.slice none 0 0],49⟩,⟨b3, #[.string (mkS y2.name),.slice y2.A y2.es.length y2.cap],49⟩]++(ob++o2))) λp=>by simp only [List.countP_append,List.countP_cons,List.countP_nil,List.cons_append,List.nil_append];omega) (nx (i+1,y2,o2) (10-(i+1)) [] Om ⟨⟨by omega,hm2,hn2,by omega,hy2⟩,rfl⟩ Kr Kr))
end Go.Proofs.YteghandhpbmpgaaGreatDoor
end

section
/-
 ShelfPlays: for every input the call returns true, and each argument reads afterwards as it read before. Conditions: none but the row's own, that the listed package-level variables read as the program's text lays them.
-/
namespace Go.Proofs.YteghandhpbmpgaaGreatDoor.shelfPlays
open Go.ChangeShapes Go.WideShapes Go.ChangeAt Go.RowKit
open Go.ChangeMaps (open_string shut_string)
set_option linter.unusedVariables false

set_option maxRecDepth 100000 in
theorem contract (H:Type)(enc:TypeId×Value->H)(W:World)(base:Nat)(args:Array Value)(ds gs:List (DataW H))(before:List MemPlace)
  (hval:∀ (j:Nat) t v,Tryz.f8.params[j]?=some t->args[j]?=some v->Value.okWide Tryz.prog W .any base t v)
  (hW:DataW.Whole enc Tryz.prog Tryz.f8.params.toList Rows.shelfPlaysSpec.vars false W args.toList ds gs before) (hL:laidMetH Tryz.prog Rows.shelfPlaysRow.laid W) (hS:W.ShapedOpen Tryz.prog):
  YC 8 args W λe W'=>∃ v,e= .returned v/\Rows.shelfPlaysSpec.post enc Tryz.prog Tryz.f8 false true false false W args v W':=by
 have ht:HasLib W:=hasLib_of (hasTab_of hL (by rfl)) hS
 have hW':=hW
 obtain ⟨p,q,hA0,hV,rfl,hfz,hnd⟩:=hW
 have hA:DataW.TrodAll enc Tryz.prog W 0 (λ_=>true) true Tryz.f8.params.toList args.toList ds p:=hA0
 rw [Tryz.params8] at hA hval
 obtain ⟨v0,vs0,d0,ds0,p0,q0,hargs,rfl,rfl,h0,r0⟩:=trodAll_cons hA
 obtain ⟨rfl,rfl,rfl⟩:=trodAll_nil r0
 obtain rfl:args= #[v0]:=by cases args;simp_all
 obtain ⟨rfl,rfl⟩:=trodVars_none hV
 clear hA0
 obtain ⟨l,l_reads,l_len⟩:=open_nums (hval 0 43 v0 rfl rfl) h0
 refine (shelfPlays.law v0 l W l_reads l_len ⟨ht,mkLib_of hL (by rfl)⟩).mono λe W' ⟨he,hb⟩=> ?_
 subst he
 exact ⟨_,rfl,law_end laidOut (λt ht=>by rw [Tryz.params8] at ht;simp at ht;subst ht;exact ⟨by kernel_rfl,of_decide_eq_true Kr⟩) rfl rfl Tryz.underlying4 hW' (by rfl) hb⟩

noncomputable def laidWorld (os:Os):World:=
 {World.holding Tryz.prog os ⟨#[], #[],[]⟩ with heap:=layAt (layAt (layAt (layAt (layAt (layAt ((World.holding Tryz.prog os ⟨#[], #[],[]⟩).heap) 6 Rows.laid_math_bits_deBruijn32tab) 7 Rows.laid_math_bits_deBruijn64tab) 3 Rows.laid_internal_strconv_uint64pow10) 5 Rows.laid_unicode_utf8_acceptRanges) 2 Rows.laid_linchpin_mark_keys) 4 Rows.laid_unicode_utf8_first}
theorem laid_met (os:Os):laidMet Tryz.prog Rows.shelfPlaysRow.laid ((laidWorld os).forCall (λ_ _=>0) ⟨#[], #[.slice none 0 0],[]⟩).memory:=
 laidMet_of_run' 8 Kr Kr
theorem reads (os:Os){H:Type}(enc:TypeId×Value->H):∃ places,DataW.whole enc Tryz.prog ((laidWorld os).forCall (λ_ _=>0) ⟨#[], #[.slice none 0 0],[]⟩).memory Tryz.f8.params.toList Rows.shelfPlaysSpec.vars false (#[.slice none 0 0]:Array Value).toList 8=some ([.nil],[],places):=
 ⟨[],by kernel_rfl⟩

set_option maxRecDepth 100000 in
theorem lifted (os:Os)(started:os.Started)(H:Type)(enc:TypeId×Value->H)(F:Stop.Interp):
  ReturnsInHanded {} Tryz.checked os 8 .any ((OpenSpec.ofChange Rows.shelfPlaysSpec).preRow enc Tryz.prog Tryz.f8 Rows.shelfPlaysRow.domain false Rows.shelfPlaysRow.laid) (((OpenSpec.ofChange Rows.shelfPlaysSpec).at F).post enc Tryz.prog Tryz.f8 false true false false):=by
 obtain ⟨places,hx⟩:=reads os enc
 refine returnsInHanded_of_row (C:=Tryz.checked) (s:=OpenSpec.ofChange Rows.shelfPlaysSpec) own started Kr Tryz.func8
  (witness_row_at (enc:=enc) (C:=Tryz.checked) false (laidWorld os) #[.slice none 0 0] rfl Kr Kr Kr
   (OpenSpec.preRow_of_cond 8 hx Kr (λk hk=>by cases hk) Kr (laid_met os))) ?_
 intro W base args ds gs before hval hW _ _ _ hL hS _
 exact contract H enc W base args ds gs before hval hW hL hS

theorem j1:(Rows.shelfPlaysRow.inPlace==Tryz.pinned.checked.prog.inPlace 8)=true:=by kernel_rfl
theorem j2:(Rows.shelfPlaysRow.unfollowed==Tryz.pinned.checked.prog.unfollowed 8)=true:=by kernel_rfl
theorem j3:(Rows.shelfPlaysRow.recurses==Tryz.pinned.checked.prog.recurses 8)=true:=by kernel_rfl
theorem j4:(Rows.shelfPlaysRow.named==Tryz.pinned.checked.prog.varsNamed 8)=true:=by kernel_rfl
theorem j5:(Rows.shelfPlaysRow.lifted==Tryz.pinned.checked.prog.liftsFinal)=true:=by kernel_rfl
theorem closed:joinedFacts Tryz.pinned.checked.prog 8 Tryz.f8 (OpenSpec.ofChange Rows.shelfPlaysSpec).bare Rows.shelfPlaysRow=true:=by
 unfold joinedFacts
 rw [jfLaid,jfMaps,j1,j2,j3,j4,jfHeard,jfEnter,j5]
 kernel_rfl

theorem said:Rows.ShelfPlaysSaid:=
 OpenClaim.holds_of_cond 8 Tryz.f8 rfl rfl rfl rfl rfl rfl rfl ⟨rfl,rfl,rfl,rfl,rfl⟩ rfl rfl rfl rfl rfl Kr Tryz.func8 closed
  (of_decide_eq_true Kr) (by unfold Func.isWrapper;first|(rw [if_pos (by decide+kernel)];kernel_rfl)|(rw [if_neg (by decide+kernel)];exact ⟨rfl,rfl⟩))
  (λos started H enc _ F=>by rw [OpenClaim.pre_eq_preRow];exact lifted os started H enc F)

theorem plain (f : FuncId) (fn : Func) (hf : Tryz.pinned.checked.prog.funcNamed "linchpin/linchpinlaw13.ShelfPlays" = some f) (hfn : Tryz.pinned.checked.prog.funcs[f]? = some fn) :
  false=Tryz.pinned.checked.prog.looks []∧∀ (j:Nat) t,fn.params[j]?=some t->Tryz.pinned.checked.prog.wantsStandIn t=false:=by
 obtain rfl : f = 8 := Option.some.inj ((show Tryz.prog.funcNamed "linchpin/linchpinlaw13.ShelfPlays" = some 8 by kernel_rfl).symm.trans hf) |>.symm
 obtain rfl:fn=Tryz.f8:=(Option.some.inj (Tryz.func8.symm.trans hfn)).symm
 refine ⟨by kernel_rfl,λj t ht=> ?_⟩
 rw [Tryz.params8] at ht
 have hm:=Array.mem_of_getElem? ht
 simp at hm
 subst hm
 exact (show Tryz.prog.wantsStandIn 43=false by kernel_rfl)

theorem goes:false=Rows.shelfPlaysRow.goesBy Tryz.pinned.checked.prog:=by kernel_rfl
theorem card:Rows.ShelfPlaysCardSaid:=
 Claim7.holds_tied_plain_at .later [] _ _ _ _ said (λ_ h=>by cases h) Kr (λ_ h=>by cases h) shelfPlays_row_tie rfl ⟨rfl,rfl⟩ Kr rfl plain goes

#print axioms card
end Go.Proofs.YteghandhpbmpgaaGreatDoor.shelfPlays
end
