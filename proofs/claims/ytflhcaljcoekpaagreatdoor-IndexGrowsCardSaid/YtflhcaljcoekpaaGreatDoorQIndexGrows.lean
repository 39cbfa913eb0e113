/-
 IndexGrows: for every input the call returns true, and each argument reads afterwards as it read before. Conditions: none but the row's own, that the listed package-level variables read as the program's text lays them.
-/
import Derived.Test.YtflhcaljcoekpaaGreatDoorCards
import Derived.Test.YtflhcaljcoekpaaGreatDoorTie
import Derived.Test.YtflhcaljcoekpaaGreatDoorIG17

section
/-
 Chapter 14: one record more, and the text of the shelf (IndexGrows). Condition: what the package leans on lies as the text lays it.
-/
namespace Go.Proofs.YtflhcaljcoekpaaGreatDoor
open Go.RowKit
set_option maxRecDepth 100000
set_option linter.unusedVariables false
set_option linter.unusedSimpArgs false
set_option linter.unnecessarySimpa false
set_option maxHeartbeats 8000000

theorem mid_text (A more:YL):Value.string (mkS (((A++(wEnt++[32]++more)).drop A.length).take (A.length+6-A.length)))= .string (mkS [101,110,116,114,121,32]):=by
 rw [show A.length+6-A.length=6 by omega,List.drop_left' rfl];rfl
theorem entT_head (e:Et):∃ more,vT e=wEnt++[32]++more:=⟨_,by
 show (zE 32 [wEnt,yD (g7 e),onW e.yk]++[10])++yK e.rc=_
 rw [show zE 32 [wEnt,yD (g7 e),onW e.yk]=wEnt++32::zE 32 [yD (g7 e),onW e.yk] from rfl,List.append_assoc,List.append_assoc,List.append_assoc];rfl⟩
theorem grow_text {s:Sh}{e:Et}(h:okE e):∃ more,shT ⟨s.name,s.es++[e]⟩=shT s++(wEnt++[32]++more)/\more.length<=10000:=by
 obtain ⟨more,hm⟩:=entT_head e
 have hl:=entT_len h
 rw [hm] at hl
 refine ⟨more, ?_,by simp only [List.length_append] at hl;omega⟩
 show (shH s.name++[10])++(s.es++[e]).flatMap vT=((shH s.name++[10])++s.es.flatMap vT)++_
 rw [List.flatMap_append,List.flatMap_singleton,hm];simp only [List.append_assoc]
theorem nil_may:¬ x3 nilSh:=λh=>by
 have:=h.name
 rw [show nmL nilSh.name=false from by kernel_rfl] at this;cases this
theorem indexGrows.law (v:Value)(l:List Int)(vm:Value)(m:List Int)(W:World)(hv:ReadsI W W.heap.size v l)(hl:l.length<=9223372036854775807)(hvm:ReadsI W W.heap.size vm m)(hlm:m.length<=9223372036854775807)(hK:RecLib W)(hL:LyAt W):YC 6 #[v,vm] W (YR (.bool true) W):=by
 refine zD Tryz.func6 (yB (k:=15) (args:= #[v,YI 0,.string ⟨#[111,110,101]⟩,YI ((5:Nat):Int)]) (R:=λv ob=>∃ y o1 o2,v=hvV y/\ob=o1++o2/\MadeS y o1 o2/\y.es.length<=5) [] (λw hO=>shelf_gen v l 5 w ((hv.below hO.below).more hO.below.size) hl (by decide)) ?_)
 rintro _ _ ⟨y,o1,o2,rfl,rfl,hS,hy5⟩
 have hyO:=hS.sho
 have hM:=hS.may
 clear hS
 generalize o1++o2=ob at*
 have hyl:y.sh.es.length=y.es.length:=by simp [Hv.sh]
 have hlenY:(shT y.sh).length<=100000:=by have:=sh_len hM;omega
 have iy:∀ w,Own [] W w ob->ShIn w w.heap.size y:=λw hO=>hyO.inn hO (λb h=>h) hM
 have cRec:∀ w,YB W w->YC 20 #[vm,YI 0,YI 2] w λe w'=>∃ v ob,e= .returned v/\(∃ x,v=rvV x/\MadeR x ob)/\Own [] w w' ob:=λw hb=>(record_gen vm m 0 2 w ((hvm.below hb).more hb.size) hlm (by decide) (by decide)).mono λe w' ⟨x,ob,q1,⟨q2,q3⟩,q4⟩=>⟨_,ob,q1,⟨x,rfl,made_of q2 q3⟩,q4⟩
 have cPy0:∀ w,Own [] W w ob->YC 13 #[hvV y] w (YR (.tuple #[.string (mkS (shT y.sh)),YI 0]) w):=λw hO=>by
  have h:=j6 y w (iy w hO) (hK.on hO.below)
  rw [if_pos hM,if_pos hM] at h;exact h
 have cPzz:∀ (z:Hv) (o3:List Blk),x3 z.sh->ShO z o3→∀ w,Own [] W w o3->YC 13 #[hvV z] w (YR (.tuple #[.string (mkS (shT z.sh)),YI 0]) w):=λz o3 hz hzO w hO=>by
  have h:=j6 z w (hzO.inn hO (λb h=>h) hz) (hK.on hO.below)
  rw [if_pos hz,if_pos hz] at h;exact h
 have cPzn:∀ (z:Hv),z.sh=nilSh→∀ w,Own [] W w []->YC 13 #[hvV z] w (YR (.tuple #[.string (mkS []),YI 1]) w):=λz hz w hO=>by
  obtain ⟨n,A,c,es⟩:=z
  simp only [Hv.sh,nilSh,Sh.mk.injEq,List.map_eq_nil_iff] at hz
  obtain ⟨rfl,rfl⟩:=hz
  have h:=j6 ⟨[],A,c,[]⟩ w ⟨⟨λh=>absurd h (Nat.lt_irrefl 0),(λe h=>by cases h),Nat.zero_le _⟩,Nat.zero_le _,Nat.zero_le _⟩ (hK.on hO.below)
  rw [if_neg (show ¬ x3 (⟨[],A,c,[]⟩:Hv).sh from nil_may),if_neg (show ¬ x3 (⟨[],A,c,[]⟩:Hv).sh from nil_may)] at h;exact h
 refine zH [] λb5=>dJ 9 [0,0] (x_h2 [] 2 7 (yU (k:=20) (args:= #[vm,YI 0,YI 2]) (R:=λv ob=>∃ x,v=rvV x/\MadeR x ob) (λw hO=>cRec w hO.below) ?_) (wR λb6=>zX [] 2 (yU (k:=20) (args:= #[vm,YI 0,YI 2]) (R:=λv ob=>∃ x,v=rvV x/\MadeR x ob) (λw hO=>cRec w hO.below) ?_)))
 ·rintro _ obr ⟨x,rfl,hX⟩
  have hc0:(zK x.rt).1=0:=by rw [hX.chk]
  have hpS:=put_is hM hc0 Om
  have hpm:y8 y.sh.es x.rt.name x.rt.ver= -1->x3 ⟨y.sh.name,y.sh.es++[⟨x.rt,yL x.rt,false⟩]⟩:=λhp=>put_may hM hc0 hp Om
  have cPut:∀ w,Own [] W w (ob++obr)->YC 19 #[hvV y,rvV x] w λe w'=>∃ v ob,e= .returned v/\(∃ z,v= .tuple #[hvV z,YI (dB y.sh x.rt).2]/\z.sh=(dB y.sh x.rt).1/\ShO z ob)/\Own [] w w' ob:=λw hO=>sPut_any y x w (iy w (hO.sublist (List.sublist_append_left _ _))) (hX.inn hO λb hb=>List.mem_append_right _ hb) (hK.on hO.below)
  refine x_h2 [] 3 7 (yU (k:=19) (args:= #[hvV y,rvV x]) (R:=λv ob=>∃ z,v= .tuple #[hvV z,YI (dB y.sh x.rt).2]/\z.sh=(dB y.sh x.rt).1/\ShO z ob) (λw hO=>cPut w (hO.past 1 (ob++obr))) ?_) (wR λb6=>zX [] 3 (yU (k:=19) (args:= #[hvV y,rvV x]) (R:=λv ob=>∃ z,v= .tuple #[hvV z,YI (dB y.sh x.rt).2]/\z.sh=(dB y.sh x.rt).1/\ShO z ob) (λw hO=>cPut w (hO.past 2 (ob++obr))) ?_))
  ·rintro _ o3 ⟨z,rfl,hz,hzO⟩
   refine zX [] 7 (wR λb6=>zX [] 8 (xh_sto 0 ⟨b6,ZM,24⟩ 0 2 (hvV z) (⟨b6,ZM,24⟩::(hvB b5 y::ob++obr++o3)) (hvB b5 y::ob) (by show 0+2<=2;decide) (λw hO=>(hO.past 1 (hvB b5 y::ob++obr++o3)).sublist ((List.sublist_append_left _ _).trans (List.sublist_append_left _ _))) ?_))
   rw [hpS] at hz ⊢
   have hL3:∀ {w:World},Own [] W w (ob++obr++o3)->Own [] W w ob:=λhO=>(hO.sublist (List.sublist_append_left _ _)).sublist (List.sublist_append_left _ _)
   by_cases hpl:y8 y.sh.es x.rt.name x.rt.ver= -1
   ·rw [if_pos hpl] at hz ⊢
    have hzM:x3 z.sh:=hz▸hpm hpl
    refine z7 (k:=13) (args:= #[hvV y]) (v:= .tuple #[.string (mkS (shT y.sh)),YI 0]) [1] (λw hO=>cPy0 w (hL3 (hO.past 2 (ob++obr++o3)))) (z7 (k:=13) (args:= #[hvV z]) (v:= .tuple #[.string (mkS (shT z.sh)),YI 0]) [0] (λw hO=>cPzz z o3 hzM hzO w ((hO.past 2 (ob++obr++o3)).sublist (List.sublist_append_right _ _))) (z7 (v:= .bool true) [] (λw hO=>kD w (hK.on hO.below) (hL.on hO.below)) ?_))
    obtain ⟨more,hm,hmm⟩:=grow_text (s:=y.sh) (e:=⟨x.rt,yL x.rt,false⟩) ⟨hc0,rfl⟩
    rw [hz,hm]
    generalize shT y.sh=A at*
    refine zG 60 [] (((A++(wEnt++[32]++more)).length:Int)>(A.length:Int)) (λ_=> ?_) (λh=>absurd (show ((A++(wEnt++[32]++more)).length:Int)>(A.length:Int) by simp only [List.length_append,wEnt,List.length_cons,List.length_nil];omega) h)
    refine x_shi 66 [] (A++(wEnt++[32]++more)) (A.length:Int) Om (by rw [List.length_append];omega) (.string (mkS A)) (by rw [Int.toNat_natCast,List.take_left'];rfl) (xH 68 [] A A (λ_=> ?_) (λh=>absurd rfl h))
    refine x_i 76 [] ((A.length+6:Nat):Int) (x_smid 77 [] (A++(wEnt++[32]++more)) (A.length:Int) ((A.length+6:Nat):Int) ⟨by omega,by omega,by simp only [List.length_append,wEnt,List.length_cons,List.length_nil];omega⟩ (.string (mkS [101,110,116,114,121,32])) (by rw [Int.toNat_natCast,Int.toNat_natCast];exact mid_text A more) (xH 78 [] [101,110,116,114,121,32] [101,110,116,114,121,32] (λ_=> ?_) (λh=>absurd rfl h)))
    exact z8 [] Z4 λw hO=>⟨rfl,hO.below⟩
   ·rw [if_neg hpl] at hz ⊢
    exact z7 (k:=13) (args:= #[hvV y]) (v:= .tuple #[.string (mkS (shT y.sh)),YI 0]) [1] (λw hO=>cPy0 w (hL3 (hO.past 2 (ob++obr++o3)))) (z7 (k:=13) (args:= #[hvV z]) (v:= .tuple #[.string (mkS []),YI 1]) [0] (λw hO=>cPzn z hz w hO.no) (z7 (v:= .bool true) [] (λw hO=>kD w (hK.on hO.below) (hL.on hO.below)) (z8 [] Z4 λw hO=>⟨rfl,hO.below⟩)))
  ·rintro _ o3 ⟨z,rfl,hz,hzO⟩
   refine zX [] 8 (xh_sto 0 ⟨b6,ZM,24⟩ 0 2 (hvV z) (⟨b6,ZM,24⟩::(hvB b5 y::ob++obr++o3)) (hvB b5 y::ob) (by show 0+2<=2;decide) (λw hO=>(hO.past 1 (hvB b5 y::ob++obr++o3)).sublist ((List.sublist_append_left _ _).trans (List.sublist_append_left _ _))) ?_)
   rw [hpS] at hz ⊢
   have hL3:∀ {w:World},Own [] W w (ob++obr++o3)->Own [] W w ob:=λhO=>(hO.sublist (List.sublist_append_left _ _)).sublist (List.sublist_append_left _ _)
   by_cases hpl:y8 y.sh.es x.rt.name x.rt.ver= -1
   ·rw [if_pos hpl] at hz ⊢
    have hzM:x3 z.sh:=hz▸hpm hpl
    refine z7 (k:=13) (args:= #[hvV y]) (v:= .tuple #[.string (mkS (shT y.sh)),YI 0]) [1] (λw hO=>cPy0 w (hL3 (hO.past 2 (ob++obr++o3)))) (z7 (k:=13) (args:= #[hvV z]) (v:= .tuple #[.string (mkS (shT z.sh)),YI 0]) [0] (λw hO=>cPzz z o3 hzM hzO w ((hO.past 2 (ob++obr++o3)).sublist (List.sublist_append_right _ _))) (z7 (v:= .bool true) [] (λw hO=>kD w (hK.on hO.below) (hL.on hO.below)) ?_))
    obtain ⟨more,hm,hmm⟩:=grow_text (s:=y.sh) (e:=⟨x.rt,yL x.rt,false⟩) ⟨hc0,rfl⟩
    rw [hz,hm]
    generalize shT y.sh=A at*
    refine zG 60 [] (((A++(wEnt++[32]++more)).length:Int)>(A.length:Int)) (λ_=> ?_) (λh=>absurd (show ((A++(wEnt++[32]++more)).length:Int)>(A.length:Int) by simp only [List.length_append,wEnt,List.length_cons,List.length_nil];omega) h)
    refine x_shi 66 [] (A++(wEnt++[32]++more)) (A.length:Int) Om (by rw [List.length_append];omega) (.string (mkS A)) (by rw [Int.toNat_natCast,List.take_left'];rfl) (xH 68 [] A A (λ_=> ?_) (λh=>absurd rfl h))
    refine x_i 76 [] ((A.length+6:Nat):Int) (x_smid 77 [] (A++(wEnt++[32]++more)) (A.length:Int) ((A.length+6:Nat):Int) ⟨by omega,by omega,by simp only [List.length_append,wEnt,List.length_cons,List.length_nil];omega⟩ (.string (mkS [101,110,116,114,121,32])) (by rw [Int.toNat_natCast,Int.toNat_natCast];exact mid_text A more) (xH 78 [] [101,110,116,114,121,32] [101,110,116,114,121,32] (λ_=> ?_) (λh=>absurd rfl h)))
    exact z8 [] Z4 λw hO=>⟨rfl,hO.below⟩
   ·rw [if_neg hpl] at hz ⊢
    exact z7 (k:=13) (args:= #[hvV y]) (v:= .tuple #[.string (mkS (shT y.sh)),YI 0]) [1] (λw hO=>cPy0 w (hL3 (hO.past 2 (ob++obr++o3)))) (z7 (k:=13) (args:= #[hvV z]) (v:= .tuple #[.string (mkS []),YI 1]) [0] (λw hO=>cPzn z hz w hO.no) (z7 (v:= .bool true) [] (λw hO=>kD w (hK.on hO.below) (hL.on hO.below)) (z8 [] Z4 λw hO=>⟨rfl,hO.below⟩)))
 ·rintro _ obr ⟨x,rfl,hX⟩
  have hc0:(zK x.rt).1=0:=by rw [hX.chk]
  have hpS:=put_is hM hc0 Om
  have hpm:y8 y.sh.es x.rt.name x.rt.ver= -1->x3 ⟨y.sh.name,y.sh.es++[⟨x.rt,yL x.rt,false⟩]⟩:=λhp=>put_may hM hc0 hp Om
  have cPut:∀ w,Own [] W w (ob++obr)->YC 19 #[hvV y,rvV x] w λe w'=>∃ v ob,e= .returned v/\(∃ z,v= .tuple #[hvV z,YI (dB y.sh x.rt).2]/\z.sh=(dB y.sh x.rt).1/\ShO z ob)/\Own [] w w' ob:=λw hO=>sPut_any y x w (iy w (hO.sublist (List.sublist_append_left _ _))) (hX.inn hO λb hb=>List.mem_append_right _ hb) (hK.on hO.below)
  refine zX [] 3 (yU (k:=19) (args:= #[hvV y,rvV x]) (R:=λv ob=>∃ z,v= .tuple #[hvV z,YI (dB y.sh x.rt).2]/\z.sh=(dB y.sh x.rt).1/\ShO z ob) (λw hO=>cPut w (hO.past 2 (ob++obr))) ?_)
  rintro _ o3 ⟨z,rfl,hz,hzO⟩
  refine zX [] 8 (xh_sto 0 ⟨b6,ZM,24⟩ 0 2 (hvV z) (⟨b6,ZM,24⟩::(hvB b5 y::ob++obr++o3)) (hvB b5 y::ob) (by show 0+2<=2;decide) (λw hO=>(hO.past 1 (hvB b5 y::ob++obr++o3)).sublist ((List.sublist_append_left _ _).trans (List.sublist_append_left _ _))) ?_)
  rw [hpS] at hz ⊢
  have hL3:∀ {w:World},Own [] W w (ob++obr++o3)->Own [] W w ob:=λhO=>(hO.sublist (List.sublist_append_left _ _)).sublist (List.sublist_append_left _ _)
  by_cases hpl:y8 y.sh.es x.rt.name x.rt.ver= -1
  ·rw [if_pos hpl] at hz ⊢
   have hzM:x3 z.sh:=hz▸hpm hpl
   refine z7 (k:=13) (args:= #[hvV y]) (v:= .tuple #[.string (mkS (shT y.sh)),YI 0]) [1] (λw hO=>cPy0 w (hL3 (hO.past 2 (ob++obr++o3)))) (z7 (k:=13) (args:= #[hvV z]) (v:= .tuple #[.string (mkS (shT z.sh)),YI 0]) [0] (λw hO=>cPzz z o3 hzM hzO w ((hO.past 2 (ob++obr++o3)).sublist (List.sublist_append_right _ _))) (z7 (v:= .bool true) [] (λw hO=>kD w (hK.on hO.below) (hL.on hO.below)) ?_))
   obtain ⟨more,hm,hmm⟩:=grow_text (s:=y.sh) (e:=⟨x.rt,yL x.rt,false⟩) ⟨hc0,rfl⟩
   rw [hz,hm]
   generalize shT y.sh=A at*
   refine zG 60 [] (((A++(wEnt++[32]++more)).length:Int)>(A.length:Int)) (λ_=> ?_) (λh=>absurd (show ((A++(wEnt++[32]++more)).length:Int)>(A.length:Int) by simp only [List.length_append,wEnt,List.length_cons,List.length_nil];omega) h)
   refine x_shi 66 [] (A++(wEnt++[32]++more)) (A.length:Int) Om (by rw [List.length_append];omega) (.string (mkS A)) (by rw [Int.toNat_natCast,List.take_left'];rfl) (xH 68 [] A A (λ_=> ?_) (λh=>absurd rfl h))
   refine x_i 76 [] ((A.length+6:Nat):Int) (x_smid 77 [] (A++(wEnt++[32]++more)) (A.length:Int) ((A.length+6:Nat):Int) ⟨by omega,by omega,by simp only [List.length_append,wEnt,List.length_cons,List.length_nil];omega⟩ (.string (mkS [101,110,116,114,121,32])) (by rw [Int.toNat_natCast,Int.toNat_natCast];exact mid_text A more) (xH 78 [] [101,110,116,114,121,32] [101,110,116,114,121,32] (λ_=> ?_) (λh=>absurd rfl h)))
   exact z8 [] Z4 λw hO=>⟨rfl,hO.below⟩
  ·rw [if_neg hpl] at hz ⊢
   exact z7 (k:=13) (args:= #[hvV y]) (v:= .tuple #[.string (mkS (shT y.sh)),YI 0]) [1] (λw hO=>cPy0 w (hL3 (hO.past 2 (ob++obr++o3)))) (z7 (k:=13) (args:= #[hvV z]) (v:= .tuple #[.string (mkS []),YI 1]) [0] (λw hO=>cPzn z hz w hO.no) (z7 (v:= .bool true) [] (λw hO=>kD w (hK.on hO.below) (hL.on hO.below)) (z8 [] Z4 λw hO=>⟨rfl,hO.below⟩)))
end Go.Proofs.YtflhcaljcoekpaaGreatDoor
end

section
/-
 IndexGrows: for every input the call returns true, and each argument reads afterwards as it read before. Conditions: none but the row's own, that the listed package-level variables read as the program's text lays them.
-/
namespace Go.Proofs.YtflhcaljcoekpaaGreatDoor.indexGrows
open Go.ChangeShapes Go.WideShapes Go.ChangeAt Go.RowKit
open Go.ChangeMaps (open_string shut_string)
set_option linter.unusedVariables false

set_option maxRecDepth 100000 in
theorem tL (H:Type)(enc:TypeId×Value->H)(W:World)(base:Nat)(args:Array Value)(ds gs:List (DataW H))(before:List MemPlace)
  (hval:∀ (j:Nat) t v,Tryz.f6.params[j]?=some t->args[j]?=some v->Value.okWide YP W .any base t v)
  (hW:DataW.Whole enc YP Tryz.f6.params.toList Rows.indexGrowsSpec.vars false W args.toList ds gs before) (hL:laidMetH YP Rows.indexGrowsRow.laid W) (hS:W.ShapedOpen YP):
  YC 6 args W λe W'=>∃ v,e= .returned v/\Rows.indexGrowsSpec.post enc YP Tryz.f6 false true false false W args v W':=by
 have ht:HasLib W:=hasLib_of (hasTab_of hL (by rfl)) hS
 have hW':=hW
 obtain ⟨p,q,hA0,hV,rfl,hfz,hnd⟩:=hW
 have hA:DataW.TrodAll enc YP W 0 (λ_=>true) true Tryz.f6.params.toList args.toList ds p:=hA0
 rw [Tryz.params6] at hA hval
 obtain ⟨v0,vs0,d0,ds0,p0,q0,hargs,rfl,rfl,h0,r0⟩:=trodAll_cons hA
 obtain ⟨v1,vs1,d1,ds1,p1,q1,rfl,rfl,rfl,h1,r1⟩:=trodAll_cons r0
 obtain ⟨rfl,rfl,rfl⟩:=trodAll_nil r1
 obtain rfl:args= #[v0,v1]:=by cases args;simp_all
 obtain ⟨rfl,rfl⟩:=trodVars_none hV
 clear hA0
 obtain ⟨l,l_reads,l_len⟩:=tW (hval 0 30 v0 rfl rfl) h0
 obtain ⟨m,m_reads,m_len⟩:=tW (hval 1 30 v1 rfl rfl) h1
 refine (indexGrows.law v0 l v1 m W l_reads l_len m_reads m_len ⟨ht,mkLib_of hL (by rfl)⟩ (lyAt_of hL (by rfl))).mono λe W' ⟨he,hb⟩=> ?_
 subst he
 exact ⟨_,rfl,law_end laidOut (λt ht=>by rw [Tryz.params6] at ht;simp at ht;subst ht;exact ⟨by kernel_rfl,of_decide_eq_true Kr⟩) rfl rfl Tryz.underlying4 hW' (by rfl) hb⟩

noncomputable def qY (os:Os):World:=
 {World.holding YP os ⟨#[], #[],[]⟩ with heap:=jW (jW (jW (jW (jW (jW (jW ((World.holding YP os ⟨#[], #[],[]⟩).heap) 6 Rows.laid_math_bits_deBruijn32tab) 7 Rows.laid_math_bits_deBruijn64tab) 3 Rows.laid_internal_strconv_uint64pow10) 5 Rows.laid_unicode_utf8_acceptRanges) 2 Rows.laid_linchpin_mark_keys) 1 Rows.laid_linchpin_record_layouts) 4 Rows.laid_unicode_utf8_first}
theorem tG (os:Os):laidMet YP Rows.indexGrowsRow.laid ((qY os).forCall (λ_ _=>0) ⟨#[], #[.slice none 0 0,.slice none 0 0],[]⟩).memory:=
 laidMet_of_run' 8 Kr Kr
theorem reads (os:Os){H:Type}(enc:TypeId×Value->H):∃ places,DataW.whole enc YP ((qY os).forCall (λ_ _=>0) ⟨#[], #[.slice none 0 0,.slice none 0 0],[]⟩).memory Tryz.f6.params.toList Rows.indexGrowsSpec.vars false (#[.slice none 0 0,.slice none 0 0]:Array Value).toList 8=some ([.nil,.nil],[],places):=
 ⟨[],by kernel_rfl⟩

set_option maxRecDepth 100000 in
theorem lifted (os:Os)(started:os.Started)(H:Type)(enc:TypeId×Value->H)(F:Stop.Interp):
  ReturnsInHanded {} Tryz.checked os 6 .any ((OpenSpec.ofChange Rows.indexGrowsSpec).preRow enc YP Tryz.f6 Rows.indexGrowsRow.domain false Rows.indexGrowsRow.laid) (((OpenSpec.ofChange Rows.indexGrowsSpec).at F).post enc YP Tryz.f6 false true false false):=by
 obtain ⟨places,hx⟩:=reads os enc
 refine returnsInHanded_of_row (C:=Tryz.checked) (s:=OpenSpec.ofChange Rows.indexGrowsSpec) own started Kr Tryz.func6
  (witness_row_at (enc:=enc) (C:=Tryz.checked) false (qY os) #[.slice none 0 0,.slice none 0 0] rfl Kr Kr Kr
   (OpenSpec.preRow_of_cond 8 hx Kr (λk hk=>by cases hk) Kr (tG os))) ?_
 intro W base args ds gs before hval hW _ _ _ hL hS _
 exact tL H enc W base args ds gs before hval hW hL hS

theorem j1:(Rows.indexGrowsRow.inPlace==Tryz.pinned.checked.prog.inPlace 6)=true:=by kernel_rfl
theorem j2:(Rows.indexGrowsRow.unfollowed==Tryz.pinned.checked.prog.unfollowed 6)=true:=by kernel_rfl
theorem j3:(Rows.indexGrowsRow.recurses==Tryz.pinned.checked.prog.recurses 6)=true:=by kernel_rfl
theorem j4:(Rows.indexGrowsRow.named==Tryz.pinned.checked.prog.varsNamed 6)=true:=by kernel_rfl
theorem j5:(Rows.indexGrowsRow.lifted==Tryz.pinned.checked.prog.liftsFinal)=true:=by kernel_rfl
theorem closed:joinedFacts Tryz.pinned.checked.prog 6 Tryz.f6 (OpenSpec.ofChange Rows.indexGrowsSpec).bare Rows.indexGrowsRow=true:=by
 unfold joinedFacts
 rw [jfLaid,jfMaps,j1,j2,j3,j4,jfHeard,jfEnter,j5]
 kernel_rfl

theorem said:Rows.IndexGrowsSaid:=
 OpenClaim.holds_of_cond 6 Tryz.f6 rfl rfl rfl rfl rfl rfl rfl ⟨rfl,rfl,rfl,rfl,rfl⟩ rfl rfl rfl rfl rfl Kr Tryz.func6 closed
  (of_decide_eq_true Kr) (by unfold Func.isWrapper;first|(rw [if_pos (by decide+kernel)];kernel_rfl)|(rw [if_neg (by decide+kernel)];exact ⟨rfl,rfl⟩))
  (λos started H enc _ F=>by rw [OpenClaim.pre_eq_preRow];exact lifted os started H enc F)

theorem jM (f : FuncId) (fn : Func) (hf : Tryz.pinned.checked.prog.funcNamed "linchpin/linchpinlaw14.IndexGrows" = some f) (hfn : Tryz.pinned.checked.prog.funcs[f]? = some fn) :
  false=Tryz.pinned.checked.prog.looks []∧∀ (j:Nat) t,fn.params[j]?=some t->Tryz.pinned.checked.prog.wantsStandIn t=false:=by
 obtain rfl : f = 6 := Option.some.inj ((show Tryz.prog.funcNamed "linchpin/linchpinlaw14.IndexGrows" = some 6 by kernel_rfl).symm.trans hf) |>.symm
 obtain rfl:fn=Tryz.f6:=(Option.some.inj (Tryz.func6.symm.trans hfn)).symm
 refine ⟨by kernel_rfl,λj t ht=> ?_⟩
 rw [Tryz.params6] at ht
 have hm:=Array.mem_of_getElem? ht
 simp at hm
 subst hm
 exact (show Tryz.prog.wantsStandIn 30=false by kernel_rfl)

theorem goes:false=Rows.indexGrowsRow.goesBy Tryz.pinned.checked.prog:=by kernel_rfl
theorem card:Rows.IndexGrowsCardSaid:=
 Claim7.holds_tied_plain_at .later [] _ _ _ _ said (λ_ h=>by cases h) Kr (λ_ h=>by cases h) indexGrows_row_tie rfl ⟨rfl,rfl⟩ Kr rfl jM goes

#print axioms card
end Go.Proofs.YtflhcaljcoekpaaGreatDoor.indexGrows
end
