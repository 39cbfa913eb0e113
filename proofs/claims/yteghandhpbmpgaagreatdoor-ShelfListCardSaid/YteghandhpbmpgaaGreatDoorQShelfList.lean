/-
 ShelfList: for every input the call returns true, and each argument reads afterwards as it read before. Conditions: none but the row's own, that the listed package-level variables read as the program's text lays them.
-/
import Derived.Test.YteghandhpbmpgaaGreatDoorCards
import Derived.Test.YteghandhpbmpgaaGreatDoorTie
import Derived.Test.YteghandhpbmpgaaGreatDoorLI8

section
namespace Go.Proofs.YteghandhpbmpgaaGreatDoor
open Go.RowKit
set_option maxRecDepth 100000
set_option linter.unusedVariables false
set_option linter.unusedSimpArgs false
set_option linter.unnecessarySimpa false
set_option maxHeartbeats 8000000

def belV (a b:Ver):Bool:=if a.maj=b.maj then if a.min=b.min then decide (a.pre≠[]) && decide (b.pre=[]) else decide (a.min<b.min) else decide (a.maj<b.maj)
theorem made_bel {o1 o2:Nat}{k1 k2:Nat->Bool}{x y:Rv}(hx:RecG o1 k1 x)(hy:RecG o2 k2 y)(h:xH x.ver y.ver<0):belV x.ver y.ver=true:=by
 obtain ⟨a,b,_,_,e1,e2,e3⟩:=hx.ver
 obtain ⟨c,d,_,_,f1,f2,f3⟩:=hy.ver
 have h':(if cmpN x.ver y.ver≠0 then cmpN x.ver y.ver else t7 x.pre y.pre)<0:=by
  unfold xH at h
  split at h
  ·exact h
  ·omega
 have hN:cmpN x.ver y.ver=if Lib.compareInt x.maj y.maj≠0 then Lib.compareInt x.maj y.maj else if Lib.compareInt x.min y.min≠0 then Lib.compareInt x.min y.min else Lib.compareInt x.pat y.pat:=rfl
 show (if x.maj=y.maj then if x.min=y.min then decide (x.pre≠[]) && decide (y.pre=[]) else decide (x.min<y.min) else decide (x.maj<y.maj))=true
 by_cases h1:x.maj=y.maj
 ·rw [if_pos h1]
  by_cases h2:x.min=y.min
  ·rw [if_pos h2]
   rw [hN,h1,h2,e3,f3] at h'
   simp only [wF,ne_eq,not_true_eq_false,if_false] at h'
   have:x.pre≠[]/\y.pre=[]:=by
    rcases hx.pb with ⟨p,_⟩|⟨p,_⟩|⟨p,_⟩<;>rcases hy.pb with ⟨q,_⟩|⟨q,_⟩|⟨q,_⟩<;>rw [p,q] at h' ⊢<;>first|exact absurd h' (by decide)|exact ⟨by simp,rfl⟩
   simp [this]
  ·rw [if_neg h2]
   rw [hN,h1] at h'
   simp only [wF,ne_eq,not_true_eq_false,if_false] at h'
   unfold Lib.compareInt at h'
   rw [decide_eq_true_eq]
   by_cases h3:x.min<y.min
   ·exact h3
   ·have h4:y.min<x.min:=by omega
    simp [h3,h4] at h'
 ·rw [if_neg h1,decide_eq_true_eq]
  rw [hN] at h'
  unfold Lib.compareInt at h'
  by_cases h3:x.maj<y.maj
  ·exact h3
  ·have h4:y.maj<x.maj:=by omega
   simp [h3,h4] at h'
theorem below13_any (a b:Ver)(W:World):YC 48 #[y7 a,y7 b] W (YR (.bool (belV a b)) W):=by
 refine z8 Tryz.func48 (zO [] λb2=>zO [] λb3=>kJ 9 [1,0] (a.maj=b.maj) (λh1=> ?_) (λh1=> ?_))
 rotate_left
 ·exact z7 [1,0] (.bool (decide (a.maj<b.maj))) λw hO=>⟨by unfold belV;rw [if_neg h1],hO.below⟩
 refine kJ 19 [1,0] (a.min=b.min) (λh2=> ?_) (λh2=> ?_)
 rotate_left
 ·exact z7 [1,0] (.bool (decide (a.min<b.min))) λw hO=>⟨by unfold belV;rw [if_pos h1,if_neg h2],hO.below⟩
 refine g0 27 [1] a.pre [] (λh3=> ?_) (λh3=> ?_)
 ·exact z7 [] Z5 λw hO=>⟨by unfold belV;rw [if_pos h1,if_pos h2];simp [h3],hO.below⟩
 ·refine yJ 31 [0] b.pre [] (λh4=> ?_) (λh4=> ?_)
  ·exact z7 [] Z4 λw hO=>⟨by unfold belV;rw [if_pos h1,if_pos h2];simp [h3,h4],hO.below⟩
  ·exact z7 [] Z5 λw hO=>⟨by unfold belV;rw [if_pos h1,if_pos h2];simp [h4],hO.below⟩
theorem shelfList.law (v:Value)(l:List Int)(own:Int)(W:World)(hv:ReadsI W W.heap.size v l)(hl:l.length<=9223372036854775807)(hK:RecLib W):YC 10 #[v,YI own] W (YR (.bool true) W):=by
 obtain ⟨k,hk5,cN⟩:=nameT_any own
 refine z8 Tryz.func10 (yI (k:=46) (args:= #[v,YI 0,.string ⟨#[111,110,101]⟩,YI ((8:Nat):Int)]) (R:=λv ob=>∃ y o1 o2,v=hvV y/\ob=o1++o2/\MadeS y o1 o2/\y.es.length<=8) [] (λw hO=>shelf_gen v l 8 w ((hv.below hO.below).more hO.below.size) hl (by decide)) ?_)
 rintro _ _ ⟨y,o1,o2,rfl,rfl,hS,hy8⟩
 obtain ⟨ob,q7⟩:∃ ob,o1++o2=ob:=⟨_,rfl⟩
 have q8:=hS.sho
 rw [q7] at q8 ⊢
 have hM:=hS.may
 generalize yP k=nm at*
 have q6:y.sh.es.length=y.es.length:=by simp [Hv.sh]
 refine z6 (v:= .string (mkS nm)) [] (λw hO=>cN w) (zB [] λb5=>yI (k:=36) (args:= #[hvV y,.string (mkS nm)]) (R:=λv ob=>∃ l:List Nat,Sl 3 1 v l.length (l.map encN) ob/\ListS y.sh nm l) [0,0] (λw hO=>sList_any y nm w (q8.inn (hO.past 1 ob) (λb h=>h) hM) hM (hK.on hO.below)) ?_)
 rintro v3 o3 ⟨t,hSl,hL⟩
 have hS3:∃ A3 c3,v3= .slice A3 t.length c3:=by
  rcases hSl.2 with ⟨rfl,h,_⟩|⟨g,cap,cur,rfl,_⟩
  ·exact ⟨none,0,by rw [h]⟩
  ·exact ⟨_,_,rfl⟩
 obtain ⟨A3,c3,rfl⟩:=hS3
 have iy:∀ w,Own [] W w (ob++o3)->ShIn w w.heap.size y:=λw hO=>q8.inn hO (λb h=>List.mem_append_left _ h) hM
 have hld:∀ j (hj:j<t.length),∃ b off,A3=some ⟨b,off,none⟩∧∀ w,Own [] W w (ob++o3)->(loadVar 3 ⟨b,off+j*1+0,none⟩).run Tryz.prog w= .ok (YI (t[j]:Int)) w:=λj hj=>by
  obtain ⟨g,cur,e1,e2,_⟩:=Sl.block hSl Om
  refine ⟨g,0,e1,λw hO=> ?_⟩
  obtain ⟨b,off,e,hel⟩:=(Sl.reads (g:=λi=>[encN i]) (by rw [←List.map_eq_flatMap];exact hSl) rfl hO λb hb=>List.mem_append_right _ hb).elem (sz:=1) (λ_=>rfl) j hj
  rw [e1] at e
  simp only [Option.some.injEq,Addr.mk.injEq] at e
  obtain ⟨rfl,rfl,_⟩:=e
  exact hel w (Below.refl _ _) _ 0 _ Kr
 have hle:∀ p (hp:p<y.es.length),∃ b off,y.A=some ⟨b,off,none⟩∧∀ w,Own [] W w (ob++o3)->(loadVar 9 ⟨b,off+p*11+0,none⟩).run Tryz.prog w= .ok (.string (mkS y.es[p].rec'.name)) w/\(loadVar 28 ⟨b,off+p*11+0,none⟩).run Tryz.prog w= .ok (rvV y.es[p].rec') w/\(loadVar 23 ⟨b,off+p*11+1,none⟩).run Tryz.prog w= .ok (y7 y.es[p].rec'.ver) w:=λp hp=>by
  obtain ⟨g,cur,e1,e2,_⟩:=Sl.block hS.own.top Om
  refine ⟨g,0,e1,λw hO=> ?_⟩
  obtain ⟨b,off,e,hel⟩:=(iy w hO).es.top.elem gN p hp
  rw [e1] at e
  simp only [Option.some.injEq,Addr.mk.injEq] at e
  obtain ⟨rfl,rfl,_⟩:=e
  exact ⟨hel w (Below.refl _ _) _ 0 _ Kr,hel w (Below.refl _ _) _ 0 _ Kr,hel w (Below.refl _ _) _ 1 _ Kr⟩
 have z0:∀ p (hp:p<y.es.length),(y.sh.es[p]?.map λe=>e.rc.name)=some y.es[p].rec'.name:=λp hp=>by simp [Hv.sh,hp];rfl
 have z1:∀ p (hp:p<y.es.length),pL y.sh.es p=y.es[p].rec'.ver:=λp hp=>by rw [dR Om];simp [Hv.sh];rfl
 have z2:∀ j (hj:j<t.length),∃ hp:t[j]<y.es.length,y.es[t[j]].rec'.name=nm:=λj hj=>by
  obtain ⟨h1,h2⟩:=idx_mem.1 (hL.1.mem_iff.1 (List.getElem_mem hj))
  have h1:t[j]<y.es.length:=by omega
  refine ⟨h1, ?_⟩
  rw [z0 _ h1] at h2
  exact Option.some.inj h2
 have z3:∀ p (hp:p<y.es.length),zW y.sh.es y.es[p].rec'.name y.es[p].rec'.ver=(p:Int):=λp hp=>by
  have:=place_own hM (i:=p) Om
  rw [show y.sh.es[p]=(y.es[p]).et from by simp [Hv.sh]] at this
  exact this
 have z4:∀ p (hp:p<y.es.length),y.es[p].rec'.ver.pre.length<=1000000/\y.es[p].rec'.ver.build.length<=1000000:=λp hp=>by
  have hok:=(hM.ok (y.es[p].et) (by show _∈y.es.map Ev.et;exact List.mem_map_of_mem (List.getElem_mem hp))).1
  have hB:=(chk_bnd hok).1
  exact ⟨hB.pre,hB.bld⟩
 have q4:(wX y.sh.es nm y.es.length).length=t.length:=by rw [←q6];exact hL.1.length_eq.symm
 have ht8:t.length<=8:=by rw [←q4];exact Nat.le_trans (idx_len _) hy8
 refine zL (α:=Nat) (λi=>[(5,Zp b5 0),(6,.string (mkS nm)),(7,.slice A3 t.length c3),(8,YI ((wX y.sh.es nm i).length:Int)),(9,YI (i:Int))]) (λ_=>[⟨b5, #[.string (mkS y.name),.slice y.A y.es.length y.cap],49⟩]++(ob++o3)) (λi m=>i<=y.es.length/\m=y.es.length-i) 0 y.es.length [] ⟨Nat.zero_le _,rfl⟩ ?_
 rintro i mm g kk ⟨hi,hmm⟩ nx hkk
 subst hkk
 refine zA 23 [0] ((i:Int)<(y.es.length:Int)) (λh23=> ?_) (λh23=> ?_)
 ·have hj:i<y.es.length:=by omega
  have hil:=idx_len (l:=y.sh.es) (n:=nm) i
  obtain ⟨eb,eo,hA,hel⟩:=hle i hj
  have hid:wX y.sh.es nm (i+1)=if (some y.es[i].rec'.name:Option YL)=some nm then wX y.sh.es nm i++[i] else wX y.sh.es nm i:=by rw [wX,z0 i hj]
  have hel0:=λw hO=>(hel w hO).1
  generalize y.es[i].rec'.name=un at hid hel0
  refine zH 29 [0] hA y.es.length y.cap i 11 hj (zG 32 [] 9 eb (eo+i*11+0) (.string (mkS un)) (λw hO=>hel0 w (hO.past 1 (ob++o3))) (yJ 34 [] un nm (λh34=> ?_) (λh34=> ?_)))
  ·rw [if_pos (by rw [h34])] at hid
   exact x_i 36 [] (((wX y.sh.es nm i).length:Int)+1) (x_i 25 [] ((i+1:Nat):Int) (qN 8 [] (YI (((wX y.sh.es nm i).length:Int)+1)) (YI ((wX y.sh.es nm (i+1)).length:Int)) (by rw [hid];simp) (nx (i+1) (y.es.length-(i+1)) [] Om ⟨hj,rfl⟩ Kr Kr)))
  ·rw [if_neg (by simpa using h34)] at hid
   exact x_i 25 [] ((i+1:Nat):Int) (qN 8 [] (YI ((wX y.sh.es nm i).length:Int)) (YI ((wX y.sh.es nm (i+1)).length:Int)) (by rw [hid]) (nx (i+1) (y.es.length-(i+1)) [] Om ⟨hj,rfl⟩ Kr Kr))
 obtain rfl:i=y.es.length:=by omega
 refine qN 8 [] (YI ((wX y.sh.es nm y.es.length).length:Int)) (YI (t.length:Int)) (by rw [q4]) (zL (α:=Nat) (λi=>[(5,Zp b5 0),(6,.string (mkS nm)),(7,.slice A3 t.length c3),(8,YI (t.length:Int)),(10,YI (i:Int))]) (λ_=>[⟨b5, #[.string (mkS y.name),.slice y.A y.es.length y.cap],49⟩]++(ob++o3)) (λi m=>i<=t.length/\m=t.length-i) 0 t.length [] ⟨Nat.zero_le _,rfl⟩ ?_)
 rintro i mm g2 kk ⟨hi,hmm⟩ nx hkk
 subst hkk
 refine zA 40 [] ((i:Int)<(t.length:Int)) (λh40=> ?_) (λh40=> ?_)
 rotate_left
 ·exact z6 (v:= .bool true) [] (λw hO=>awake13_any w (hK.on hO.below)) (x_yes 109 [] ((t.length:Int)=(t.length:Int)) rfl (z7 [] Z4 λw hO=>⟨rfl,hO.below⟩))
 have hj:i<t.length:=by omega
 obtain ⟨tb,tn,hT,htl⟩:=hld i hj
 obtain ⟨hp,hpn⟩:=z2 i hj
 obtain ⟨eb,eo,hA,hel⟩:=hle _ hp
 have hpl:=z3 _ hp
 have hb2:=z4 _ hp
 have z9:0<i→∃ q j6 j7 q9 j0,∃ vq:Ver,q<y.es.length/\A3=some ⟨j6,j7,none⟩/\y.A=some ⟨q9,j0,none⟩/\(∀ w,Own [] W w (ob++o3)->(loadVar 3 ⟨j6,j7+(i-1)*1+0,none⟩).run Tryz.prog w= .ok (YI (q:Int)) w/\(loadVar 23 ⟨q9,j0+q*11+1,none⟩).run Tryz.prog w= .ok (y7 vq) w)/\belV vq (y.es[t[i]].rec'.ver)=true:=λh0=>by
  have hj1:i-1<t.length:=by omega
  obtain ⟨j6,j7,hT2,q5⟩:=hld (i-1) hj1
  obtain ⟨hq,_⟩:=z2 (i-1) hj1
  obtain ⟨q9,j0,hA2,q2⟩:=hle _ hq
  refine ⟨t[i-1],j6,j7,q9,j0,y.es[t[i-1]].rec'.ver,hq,hT2,hA2,λw hO=>⟨q5 w hO,(q2 w hO).2.2⟩, ?_⟩
  obtain ⟨_,_,g1⟩:=hS.gen _ (List.getElem_mem hq)
  obtain ⟨_,_,g2⟩:=hS.gen _ (List.getElem_mem hp)
  refine made_bel g1 g2 ?_
  rw [←z1 _ hq,←z1 _ hp]
  exact List.pairwise_iff_getElem.1 hL.2 (i-1) i hj1 hj Om
 have z5:=λw hO=>(hel w hO).2.1
 generalize t[i]=p at*
 generalize y.es[p].rec'=u at*
 have cF:∀ w,Own [] W w (ob++o3)->YC 33 #[hvV y,.string (mkS nm),y7 u.ver] w (YR (YI (p:Int)) w):=λw hO=>by
  have h:=sFind_any y nm u.ver w (iy w hO) hb2.1 hb2.2 (hK.on hO.below)
  rw [find_is hM,←hpn,hpl,hpn] at h;exact h
 refine zH 45 [] hT t.length c3 i 1 hj (zG 46 [] 3 tb (tn+i*1+0) (YI (p:Int)) (λw hO=>htl w (hO.past 1 (ob++o3))) (zA 47 [] ((p:Int)<0) (λh=>absurd h Om) (λ_=>zH 51 [] hT t.length c3 i 1 hj (zG 52 [] 3 tb (tn+i*1+0) (YI (p:Int)) (λw hO=>htl w (hO.past 1 (ob++o3))) (zA 56 [0] ((p:Int)>=(y.es.length:Int)) (λh=>absurd h Om) (λ_=> ?_))))))
 refine fE 10 [] (bK 50062 [0] 4 hT t.length c3 i 1 hj (bJ 50063 [] 5 3 tb (tn+i*1+0) (YI (p:Int)) (λw hO=>htl w (hO.past 1 (ob++o3))) (bK 50064 [] 6 hA y.es.length y.cap p 11 hp (bJ 50066 [] 8 28 eb (eo+p*11+0) (rvV u) (λw hO=>z5 w (hO.past 1 (ob++o3))) (zV [] 9 (fD λb11=> ?_))))))
 refine g0 70 [0,0] u.name nm (λ_=> ?_) (λh=>absurd hpn h)
 refine z6 (v:=YI (p:Int)) [1,0] (λw hO=>cF w (hO.past 2 (ob++o3))) (zH 79 [] hT t.length c3 i 1 hj (zG 80 [] 3 tb (tn+i*1+0) (YI (p:Int)) (λw hO=>htl w (hO.past 2 (ob++o3))) (kJ 81 [] ((p:Int)=(p:Int)) (λ_=> ?_) (λh=>absurd rfl h))))
 refine zA 85 [] ((i:Int)>0) (λh85=> ?_) (λh85=> ?_)
 rotate_left
 ·exact x_i 42 [] ((i+1:Nat):Int) (zJ [] ([⟨b5, #[.string (mkS y.name),.slice y.A y.es.length y.cap],49⟩]++(ob++o3)) (λw hO=>hO.past 1 _) (nx (i+1) (t.length-(i+1)) [] Om ⟨hj,rfl⟩ Kr Kr))
 obtain ⟨q,j6,j7,q9,j0,vq,hq,hT2,hA2,q2,q3⟩:=z9 Om
 have cB:∀ w,YC 48 #[y7 vq,y7 u.ver] w (YR (.bool true) w):=λw=>by
  have h:=below13_any vq u.ver w
  rw [q3] at h;exact h
 refine qN 91 [1] (YI (IntKind.i64.wrap ((i:Int) -1))) (YI ((i-1:Nat):Int)) (by rw [IntWalk.i64_in _ Om];congr 1;omega) (zH 92 [] hT2 t.length c3 (i-1) 1 Om (zG 93 [] 3 j6 (j7+(i-1)*1+0) (YI (q:Int)) (λw hO=>(q2 w (hO.past 2 (ob++o3))).1) (zH 94 [] hA2 y.es.length y.cap q 11 hq (zG 97 [] 23 q9 (j0+q*11+1) (y7 vq) (λw hO=>(q2 w (hO.past 2 (ob++o3))).2) ?_))))
 exact z6 (v:= .bool true) [0] (λw hO=>cB w) (x_i 42 [] ((i+1:Nat):Int) (zJ [] ([⟨b5, #[.string (mkS y.name),.slice y.A y.es.length y.cap],49⟩]++(ob++o3)) (λw hO=>hO.past 1 _) (nx (i+1) (t.length-(i+1)) [] Om ⟨hj,rfl⟩ Kr Kr)))
end Go.Proofs.YteghandhpbmpgaaGreatDoor
end

section
/-
 ShelfList: for every input the call returns true, and each argument reads afterwards as it read before. Conditions: none but the row's own, that the listed package-level variables read as the program's text lays them.
-/
namespace Go.Proofs.YteghandhpbmpgaaGreatDoor.shelfList
open Go.ChangeShapes Go.WideShapes Go.ChangeAt Go.RowKit
open Go.ChangeMaps (open_string shut_string)
set_option linter.unusedVariables false

set_option maxRecDepth 100000 in
theorem contract (H:Type)(enc:TypeId×Value->H)(W:World)(base:Nat)(args:Array Value)(ds gs:List (DataW H))(before:List MemPlace)
  (hval:∀ (j:Nat) t v,Tryz.f10.params[j]?=some t->args[j]?=some v->Value.okWide Tryz.prog W .any base t v)
  (hW:DataW.Whole enc Tryz.prog Tryz.f10.params.toList Rows.shelfListSpec.vars false W args.toList ds gs before) (hL:laidMetH Tryz.prog Rows.shelfListRow.laid W) (hS:W.ShapedOpen Tryz.prog):
  YC 10 args W λe W'=>∃ v,e= .returned v/\Rows.shelfListSpec.post enc Tryz.prog Tryz.f10 false true false false W args v W':=by
 have ht:HasLib W:=hasLib_of (hasTab_of hL (by rfl)) hS
 have hW':=hW
 obtain ⟨p,q,hA0,hV,rfl,hfz,hnd⟩:=hW
 have hA:DataW.TrodAll enc Tryz.prog W 0 (λ_=>true) true Tryz.f10.params.toList args.toList ds p:=hA0
 rw [Tryz.params10] at hA hval
 obtain ⟨v0,vs0,d0,ds0,p0,q0,hargs,rfl,rfl,h0,r0⟩:=trodAll_cons hA
 obtain ⟨v1,vs1,d1,ds1,p1,q1,rfl,rfl,rfl,h1,r1⟩:=trodAll_cons r0
 obtain ⟨rfl,rfl,rfl⟩:=trodAll_nil r1
 obtain rfl:args= #[v0,v1]:=by cases args;simp_all
 obtain ⟨rfl,rfl⟩:=trodVars_none hV
 obtain ⟨own,rfl,rfl,rfl,w1⟩:=open_int Tryz.underlying3 (hval 1 3 v1 rfl rfl) h1
 clear hA0
 obtain ⟨l,l_reads,l_len⟩:=open_nums (hval 0 43 v0 rfl rfl) h0
 refine (shelfList.law v0 l own W l_reads l_len ⟨ht,mkLib_of hL (by rfl)⟩).mono λe W' ⟨he,hb⟩=> ?_
 subst he
 exact ⟨_,rfl,law_end laidOut (λt ht=>by rw [Tryz.params10] at ht;simp at ht;rcases ht with rfl|rfl<;>exact ⟨by kernel_rfl,of_decide_eq_true Kr⟩) rfl rfl Tryz.underlying4 hW' (by rfl) hb⟩

noncomputable def laidWorld (os:Os):World:=
 {World.holding Tryz.prog os ⟨#[], #[],[]⟩ with heap:=layAt (layAt (layAt (layAt (layAt (layAt ((World.holding Tryz.prog os ⟨#[], #[],[]⟩).heap) 6 Rows.laid_math_bits_deBruijn32tab) 7 Rows.laid_math_bits_deBruijn64tab) 3 Rows.laid_internal_strconv_uint64pow10) 5 Rows.laid_unicode_utf8_acceptRanges) 2 Rows.laid_linchpin_mark_keys) 4 Rows.laid_unicode_utf8_first}
theorem laid_met (os:Os):laidMet Tryz.prog Rows.shelfListRow.laid ((laidWorld os).forCall (λ_ _=>0) ⟨#[], #[.slice none 0 0,YI 0],[]⟩).memory:=
 laidMet_of_run' 8 Kr Kr
theorem reads (os:Os){H:Type}(enc:TypeId×Value->H):∃ places,DataW.whole enc Tryz.prog ((laidWorld os).forCall (λ_ _=>0) ⟨#[], #[.slice none 0 0,.int .i64 0],[]⟩).memory Tryz.f10.params.toList Rows.shelfListSpec.vars false (#[.slice none 0 0,.int .i64 0]:Array Value).toList 8=some ([.nil,.lit (.int .i64 0)],[],places):=
 ⟨[],by kernel_rfl⟩

set_option maxRecDepth 100000 in
theorem lifted (os:Os)(started:os.Started)(H:Type)(enc:TypeId×Value->H)(F:Stop.Interp):
  ReturnsInHanded {} Tryz.checked os 10 .any ((OpenSpec.ofChange Rows.shelfListSpec).preRow enc Tryz.prog Tryz.f10 Rows.shelfListRow.domain false Rows.shelfListRow.laid) (((OpenSpec.ofChange Rows.shelfListSpec).at F).post enc Tryz.prog Tryz.f10 false true false false):=by
 obtain ⟨places,hx⟩:=reads os enc
 refine returnsInHanded_of_row (C:=Tryz.checked) (s:=OpenSpec.ofChange Rows.shelfListSpec) own started Kr Tryz.func10
  (witness_row_at (enc:=enc) (C:=Tryz.checked) false (laidWorld os) #[.slice none 0 0,YI 0] rfl Kr Kr Kr
   (OpenSpec.preRow_of_cond 8 hx Kr (λk hk=>by cases hk) Kr (laid_met os))) ?_
 intro W base args ds gs before hval hW _ _ _ hL hS _
 exact contract H enc W base args ds gs before hval hW hL hS

theorem j1:(Rows.shelfListRow.inPlace==Tryz.pinned.checked.prog.inPlace 10)=true:=by kernel_rfl
theorem j2:(Rows.shelfListRow.unfollowed==Tryz.pinned.checked.prog.unfollowed 10)=true:=by kernel_rfl
theorem j3:(Rows.shelfListRow.recurses==Tryz.pinned.checked.prog.recurses 10)=true:=by kernel_rfl
theorem j4:(Rows.shelfListRow.named==Tryz.pinned.checked.prog.varsNamed 10)=true:=by kernel_rfl
theorem j5:(Rows.shelfListRow.lifted==Tryz.pinned.checked.prog.liftsFinal)=true:=by kernel_rfl
theorem closed:joinedFacts Tryz.pinned.checked.prog 10 Tryz.f10 (OpenSpec.ofChange Rows.shelfListSpec).bare Rows.shelfListRow=true:=by
 unfold joinedFacts
 rw [jfLaid,jfMaps,j1,j2,j3,j4,jfHeard,jfEnter,j5]
 kernel_rfl

theorem said:Rows.ShelfListSaid:=
 OpenClaim.holds_of_cond 10 Tryz.f10 rfl rfl rfl rfl rfl rfl rfl ⟨rfl,rfl,rfl,rfl,rfl⟩ rfl rfl rfl rfl rfl Kr Tryz.func10 closed
  (of_decide_eq_true Kr) (by unfold Func.isWrapper;first|(rw [if_pos (by decide+kernel)];kernel_rfl)|(rw [if_neg (by decide+kernel)];exact ⟨rfl,rfl⟩))
  (λos started H enc _ F=>by rw [OpenClaim.pre_eq_preRow];exact lifted os started H enc F)

theorem plain (f : FuncId) (fn : Func) (hf : Tryz.pinned.checked.prog.funcNamed "linchpin/linchpinlaw13.ShelfList" = some f) (hfn : Tryz.pinned.checked.prog.funcs[f]? = some fn) :
  false=Tryz.pinned.checked.prog.looks []∧∀ (j:Nat) t,fn.params[j]?=some t->Tryz.pinned.checked.prog.wantsStandIn t=false:=by
 obtain rfl : f = 10 := Option.some.inj ((show Tryz.prog.funcNamed "linchpin/linchpinlaw13.ShelfList" = some 10 by kernel_rfl).symm.trans hf) |>.symm
 obtain rfl:fn=Tryz.f10:=(Option.some.inj (Tryz.func10.symm.trans hfn)).symm
 refine ⟨by kernel_rfl,λj t ht=> ?_⟩
 rw [Tryz.params10] at ht
 have hm:=Array.mem_of_getElem? ht
 simp at hm
 rcases hm with rfl|rfl
 ·exact (show Tryz.prog.wantsStandIn 43=false by kernel_rfl)
 ·exact (show Tryz.prog.wantsStandIn 3=false by kernel_rfl)

theorem goes:false=Rows.shelfListRow.goesBy Tryz.pinned.checked.prog:=by kernel_rfl
theorem card:Rows.ShelfListCardSaid:=
 Claim7.holds_tied_plain_at .later [] _ _ _ _ said (λ_ h=>by cases h) Kr (λ_ h=>by cases h) shelfList_row_tie rfl ⟨rfl,rfl⟩ Kr rfl plain goes

#print axioms card
end Go.Proofs.YteghandhpbmpgaaGreatDoor.shelfList
end
