/-
 IndexSums: for every input the call returns true, and each argument reads afterwards as it read before. Conditions: none but the row's own, that the listed package-level variables read as the program's text lays them.
-/
import Derived.Test.YtflhcaljcoekpaaGreatDoorCards
import Derived.Test.YtflhcaljcoekpaaGreatDoorTie
import Derived.Test.YtflhcaljcoekpaaGreatDoorIG17

section
/-
 Chapter 14: of a text in which one digit of an entry's sum is another one just that entry is wrong, by its sum (IndexSums). Condition: what the package leans on lies as the text lays it.
-/
namespace Go.Proofs.YtflhcaljcoekpaaGreatDoor
open Go.RowKit
set_option maxRecDepth 100000
set_option linter.unusedVariables false
set_option linter.unusedSimpArgs false
set_option linter.unnecessarySimpa false
set_option maxHeartbeats 8000000

def hexS:YL:=[48,49,50,51,52,53,54,55,56,57,97,98,99,100,101,102]
theorem hexS_at {q:Nat}(h:q<hexS.length):hexS[q]=jH q:=by
 have key:∀ q:_root_.Fin 16,hexS[q.val]'q.isLt=jH q.val:=by decide
 exact key ⟨q,h⟩
theorem hexN_some:∀ (s:YL) (n:Nat),(∀ c∈s,(pP c).isSome=true)→∃ m,wG n s=some m
 | [],n,_=>⟨n,rfl⟩
 |c::r,n,h=>by
  have hc:=h c (List.mem_cons_self ..)
  obtain ⟨d,hd⟩:=Option.isSome_iff_exists.1 hc
  rw [wG,hd]
  exact hexN_some r _ λx hx=>h x (List.mem_cons_of_mem _ hx)
theorem turn_read (n:UInt64)(p q:Nat)(hq:q<16):∃ m,bF ((yD n).set p (jH q))=some m:=by
 unfold bF
 rw [List.length_set,show (yD n).length=16 from bE _ _,if_pos rfl]
 refine hexN_some _ _ λc hc=> ?_
 rcases List.mem_or_eq_of_mem_set hc with hc|rfl
 ·obtain ⟨i,_,rfl⟩:=List.mem_map.1 hc
  rw [hexV_D (Nat.mod_lt _ (by decide))];rfl
 ·rw [hexV_D hq];rfl
/-- A shelf of one entry, its sum told as d. -/
def hZ (d:YL)(e:Et):YL:=shH oneN++[10]++(bK d e.yk++[10]++yK e.rc)
def sumF:YL:=[115,104,101,108,102,32,111,110,101,10,101,110,116,114,121,32]
theorem sumT_is (d:YL)(e:Et):hZ d e=sumF++(d++([32]++onW e.yk++[10]++yK e.rc)):=by
 show (shH oneN++[10])++((wEnt++32::(d++32::onW e.yk))++[10]++yK e.rc)=_
 rw [show shH oneN++[10]=[115,104,101,108,102,32,111,110,101,10] from rfl]
 simp [wEnt,sumF]
theorem sumT_one (e:Et):shT ⟨oneN,[e]⟩=hZ (yD (g7 e)) e:=by
 show (shH oneN++[10])++[e].flatMap vT=_
 rw [List.flatMap_singleton];rfl
theorem sumT_set {d:YL}(e:Et)(c:UInt8){p:Nat}(hp:p<d.length):(hZ d e).set (16+p) c=hZ (d.set p c) e:=by
 rw [sumT_is,sumT_is,List.set_append,if_neg (by show ¬ 16+p<16;omega),show 16+p-sumF.length=p by show 16+p-16=p;omega,List.set_append,if_pos hp]
theorem sumT_at {d:YL}(e:Et){p:Nat}(hp:p<d.length)(h:16+p<(hZ d e).length):(hZ d e)[16+p]=d[p]:=by
 have e1:(hZ d e)[16+p]?=some d[p]:=by
  rw [sumT_is,List.getElem?_append_right (by show 16<=16+p;omega),show 16+p-sumF.length=p by show 16+p-16=p;omega,List.getElem?_append_left hp,List.getElem?_eq_getElem hp]
 rw [List.getElem?_eq_getElem h] at e1
 exact Option.some.inj e1
theorem sumT_len {d:YL}(e:Et)(hd:d.length=16):33<=(hZ d e).length/\(hZ d e).length<=(yK e.rc).length+37:=by
 have ho:2<=(onW e.yk).length/\(onW e.yk).length<=3:=by cases e.yk<;>decide
 rw [sumT_is]
 simp only [sumF,List.length_append,List.length_cons,List.length_nil]
 omega
theorem sum_rd {d:YL}{m:Nat}{e:Et}(h:okE e)(hd:bF d=some m):∀ p r,gF [] (hZ d e)=p::r->RdOk r.length r:=λp r q=>by
 obtain ⟨_,hb⟩:=text_read hd
 have h10:(10:UInt8)∉d:=hb▸tH (by decide) _ _
 have hT:hZ d e=unL (shH oneN::bK d e.yk::kJ e.rc):=by unfold hZ;rw [qB,qB,vY]
 have hf:∀ x∈shH oneN::bK d e.yk::kJ e.rc,(10:UInt8)∉x:=λx hx=>by
  rcases List.mem_cons.1 hx with rfl|hx
  ·decide
  rcases List.mem_cons.1 hx with rfl|hx
  ·exact qZ 10 32 (by decide) λy hy=>by
    simp only [List.mem_cons,List.not_mem_nil,or_false] at hy
    rcases hy with rfl|rfl|rfl
    ·decide
    ·exact h10
    ·exact (on_free _).2
  ·exact nX h.1 x hx
 have hl:=n8 _ [] hf
 rw [List.append_nil] at hl
 rw [hT,hl] at q
 obtain ⟨_,rfl⟩:=List.cons.inj q
 exact rdok_cons (p:=bK d e.yk++[10]) h.1 (R:=[]) (λp hp=>by cases hp) rdok_nil _
theorem u8_made:∃ i,Tryz.prog.info? 5=some i/\i.size=1:=by
 obtain ⟨i,_,h1,_,h2,_⟩:=u8_info
 exact ⟨i,h1,h2⟩
theorem indexSums.law (v:Value)(l:List Int)(at_ by_:Int)(W:World)(hv:ReadsI W W.heap.size v l)(hl:l.length<=9223372036854775807)(hK:RecLib W)(hL:LyAt W):YC 5 #[v,YI at_,YI by_] W (YR (.bool true) W):=by
 obtain ⟨p,hp,hp16⟩:=x6 at_ 16 (by decide)
 obtain ⟨q,hq,hq16⟩:=x6 by_ 16 (by decide)
 have cp:∀ w,YC 18 #[YI at_,YI 16] w (YR (YI (p:Int)) w):=λw=>(fB at_ 16 w (by decide) (by decide)).mono λe w' ⟨e1,e2⟩=>⟨by rw [e1];exact congrArg (λz=>Ending.returned (YI z)) hp,e2▸Below.refl _ _⟩
 have cq:∀ w,YC 18 #[YI by_,YI 16] w (YR (YI (q:Int)) w):=λw=>(fB by_ 16 w (by decide) (by decide)).mono λe w' ⟨e1,e2⟩=>⟨by rw [e1];exact congrArg (λz=>Ending.returned (YI z)) hq,e2▸Below.refl _ _⟩
 have cP0:∀ (A:Option Addr) (c:Nat) (w:World),YB W w->YC 13 #[.agg #[.string ⟨#[111,110,101]⟩,.slice A 0 c]] w (YR (.tuple #[.string (mkS awT1),YI 0]) w):=λA c w hb=>by
  have h:=j6 ⟨oneN,A,c,[]⟩ w ⟨⟨λh=>absurd h (Nat.lt_irrefl 0),(λe h=>by cases h),Nat.zero_le _⟩,Nat.zero_le _,by show oneN.length<=_;decide⟩ (hK.on hb)
  rw [if_pos (show x3 (⟨oneN,A,c,[]⟩:Hv).sh from aw_may),if_pos (show x3 (⟨oneN,A,c,[]⟩:Hv).sh from aw_may),show shT (⟨oneN,A,c,[]⟩:Hv).sh=awT1 from aw_t1] at h;exact h
 refine zD Tryz.func5 (yB (k:=15) (args:= #[v,YI 0,.string ⟨#[111,110,101]⟩,YI ((4:Nat):Int)]) (R:=λv ob=>∃ y o1 o2,v=hvV y/\ob=o1++o2/\MadeS y o1 o2/\y.es.length<=4) [] (λw hO=>shelf_gen v l 4 w ((hv.below hO.below).more hO.below.size) hl (by decide)) ?_)
 rintro _ _ ⟨y,o1,o2,rfl,rfl,hS,hy4⟩
 have hyO:=hS.sho
 have hM:=hS.may
 have hnm:y.name=oneN:=hS.name
 have htop:=hS.own.top.2
 clear hS
 generalize o1++o2=ob at*
 have hyl:y.sh.es.length=y.es.length:=by simp [Hv.sh]
 have iy:∀ w,Own [] W w ob->ShIn w w.heap.size y:=λw hO=>hyO.inn hO (λb h=>h) hM
 have hTt:y.sh=⟨oneN,y.es.map Ev.et⟩:=by show (⟨y.name,_⟩:Sh)=_;rw [hnm]
 rcases htop with ⟨e,h0,_⟩|⟨gA,cap,cur,e,_,hcap,_⟩
 ·obtain ⟨nm,A,c,es⟩:=y
  obtain rfl:es=[]:=List.eq_nil_of_length_eq_zero h0
  injection e with e1 _ e3
  subst e1;subst e3
  exact zH [] λb7=>z7 (k:=13) (args:= #[.agg #[.string ⟨#[111,110,101]⟩,.slice none 0 0]]) (v:= .tuple #[.string (mkS awT1),YI 0]) [0,0,0] (λw hO=>cP0 none 0 w hO.below) (x_yes 34 [0] (([]:List Ev).length=0) rfl (z7 (v:= .bool true) [] (λw hO=>kD w (hK.on hO.below) (hL.on hO.below)) (z8 [0] Z4 λw hO=>⟨rfl,hO.below⟩)))
 injection e with hA _ hc
 by_cases h0:y.es.length=0
 ·refine zH [] λb7=>xY 25 [0,0,0] (YI (if (1:Int)<(y.es.length:Int) then 1 else (y.es.length:Int))) (YI 0) (by rw [h0];rfl) (x_slhi 26 [] hA y.es.length y.cap 11 0 (by decide) Om (.slice (some ⟨gA,0,none⟩) 0 y.cap) rfl ?_)
  refine z7 (k:=13) (args:= #[.agg #[.string ⟨#[111,110,101]⟩,.slice (some ⟨gA,0,none⟩) 0 y.cap]]) (v:= .tuple #[.string (mkS awT1),YI 0]) [] (λw hO=>cP0 _ _ w hO.below) (zG 34 [0] ((y.es.length:Int)=0) (λ_=> ?_) (λh=>absurd Om h))
  exact z7 (v:= .bool true) [] (λw hO=>kD w (hK.on hO.below) (hL.on hO.below)) (zG 53 [0] ((y.es.length:Int)=0) (λ_=>z8 [] Z4 λw hO=>⟨rfl,hO.below⟩) (λh=>absurd Om h))
 obtain ⟨e0,he0,hT1⟩:∃ e0,e0∈y.sh.es/\(y.sh.es.take 1)=[e0]:=by
  obtain ⟨e0,r,e⟩:∃ e0 r,y.sh.es=e0::r:=by
   cases h:y.sh.es with
   |nil=>rw [h] at hyl;simp at hyl;omega
   |cons a r=>exact ⟨a,r,rfl⟩
  exact ⟨e0,by rw [e];exact List.mem_cons_self ..,by rw [e];rfl⟩
 have hM1:x3 ⟨oneN,[e0]⟩:=by have h:=may_pre1 hM 1;rw [hT1] at h;rw [hTt] at h;exact h
 have hok:=hM.ok e0 he0
 have cP1:∀ w,Own [] W w ob->YC 13 #[.agg #[.string ⟨#[111,110,101]⟩,.slice (some ⟨gA,0,none⟩) 1 y.cap]] w (YR (.tuple #[.string (mkS (hZ (yD (g7 e0)) e0)),YI 0]) w):=λw hO=>by
  have hI:=iy w hO
  have hl1:(y.es.take 1).length=1:=by rw [List.length_take];omega
  have hsh:(⟨oneN,some ⟨gA,0,none⟩,y.cap,y.es.take 1⟩:Hv).sh=⟨oneN,[e0]⟩:=by
   show (⟨oneN,(y.es.take 1).map Ev.et⟩:Sh)=_
   rw [List.map_take,←hT1];rfl
  have h:=j6 ⟨oneN,some ⟨gA,0,none⟩,y.cap,y.es.take 1⟩ w ⟨hA▸hI.es.fst 1,by show (y.es.take 1).length<=y.cap;rw [hl1];omega,by show oneN.length<=_;decide⟩ (hK.on hO.below)
  rw [hsh,if_pos hM1,if_pos hM1,sumT_one] at h
  have hV:∀ k,k=1->(Value.agg #[.string (mkS oneN),.slice (some ⟨gA,0,none⟩) k y.cap])= .agg #[.string ⟨#[111,110,101]⟩,.slice (some ⟨gA,0,none⟩) 1 y.cap]:=λk hk=>by rw [hk];rfl
  have hE:hvV ⟨oneN,some ⟨gA,0,none⟩,y.cap,y.es.take 1⟩= .agg #[.string ⟨#[111,110,101]⟩,.slice (some ⟨gA,0,none⟩) 1 y.cap]:=hV _ hl1
  rw [hE] at h;exact h
 have hd16:(yD (g7 e0)).length=16:=bE _ _
 have hrl:=(yS hok.1).2.2.2.2.2
 obtain ⟨hlo,hhi⟩:=sumT_len e0 hd16
 have hk:16+p<(hZ (yD (g7 e0)) e0).length:=by omega
 have hat:=sumT_at e0 (d:=yD (g7 e0)) (p:=p) Om hk
 have hset:=sumT_set e0 (jH q) (d:=yD (g7 e0)) (p:=p) Om
 obtain ⟨m,hm⟩:=turn_read (g7 e0) p q hq16
 have hd16':((yD (g7 e0)).set p (jH q)).length=16:=by rw [List.length_set];exact hd16
 have cT:∀ w,YB W w->YC 16 #[.string (mkS ((hZ (yD (g7 e0)) e0).set (16+p) (jH q)))] w λe w'=>∃ v ob,e= .returned v/\(∃ u:Hv,v= .tuple #[hvV u,YI (jS (hZ ((yD (g7 e0)).set p (jH q)) e0)).2.1,YI (jS (hZ ((yD (g7 e0)).set p (jH q)) e0)).2.2])/\Own [] w w' ob:=λw hb=>by
  rw [hset]
  exact (fT _ w (by have:=(sumT_len e0 hd16').2;omega) (hK.on hb) (hL.on hb) (sum_rd hok hm)).mono λe w' ⟨v,ob,q1,⟨u,q2,q3,q4⟩,q5⟩=>⟨v,ob,q1,⟨u,q2⟩,q5⟩
 have hsame:(yD (g7 e0))[p]'Om=jH q->jS (hZ ((yD (g7 e0)).set p (jH q)) e0)=(⟨oneN,[e0]⟩,0,0):=λh=>by
  have e1:(yD (g7 e0)).set p (jH q)=yD (g7 e0):=by rw [←h];exact List.set_getElem_self ..
  rw [e1,←sumT_one]
  exact shelf_back hM1 (by rw [sumT_one];omega)
 have hdiff:¬ (yD (g7 e0))[p]'Om=jH q->jS (hZ ((yD (g7 e0)).set p (jH q)) e0)=(nilSh,13,2):=λh=>by
  refine shelf_sum Kr hok hm (λq2=>h ?_) (by have:=(sumT_len e0 hd16').2;show (hZ _ e0).length<=_;omega)
  have e3:((yD (g7 e0)).set p (jH q))[p]'Om=jH q:=List.getElem_set_self ..
  have e4:∀ (l:YL) (hl:p<l.length),l=yD (g7 e0)->l[p]=(yD (g7 e0))[p]'Om:=λl hl e=>by subst e;rfl
  rw [←e4 _ Om q2];exact e3
 rw [←hat] at hsame hdiff
 generalize jS (hZ ((yD (g7 e0)).set p (jH q)) e0)=rI at*
 clear hset hat
 generalize hZ (yD (g7 e0)) e0=t at*
 obtain ⟨bt,hbt⟩:∃ bt,t[16+p]=bt:=⟨_,rfl⟩
 rw [hbt] at hsame hdiff
 obtain ⟨dg,hdg⟩:∃ dg,jH q=dg:=⟨_,rfl⟩
 have hqs:hexS[q]'hq16=dg:=(hexS_at hq16).trans hdg
 rw [hdg] at hsame hdiff cT
 refine zH [] λb7=>xY 25 [0,0,0] (YI (if (1:Int)<(y.es.length:Int) then 1 else (y.es.length:Int))) (YI 1) (by split<;>first|rfl|(congr 1;omega)) (x_slhi 26 [] hA y.es.length y.cap 11 1 (by decide) Om (.slice (some ⟨gA,0,none⟩) 1 y.cap) rfl ?_)
 refine z7 (k:=13) (args:= #[.agg #[.string ⟨#[111,110,101]⟩,.slice (some ⟨gA,0,none⟩) 1 y.cap]]) (v:= .tuple #[.string (mkS t),YI 0]) [] (λw hO=>by
  have h1:=hO.past 1 ob
  clear hO
  exact cP1 w h1) ?_
 refine zG 34 [0] ((y.es.length:Int)=0) (λh=>absurd h Om) (λ_=>zG 42 [] ((t.length:Int)<33) (λh=>absurd h Om) (λ_=> ?_))
 refine x_bytes 56 [] t (src:=9) (dst:=36) (e:=5) (x:= .tmp 55) λw0 w1 cap hO hB hb hlt hcap=> ?_
 have hO':=hO.past 0 ([hvB b7 y]++ob)
 clear hO
 have hgW:W.heap.size<=w0.heap.size:=hO'.size
 have hW1:YB W w1:=hO'.below.trans (hb.mono hO'.size)
 clear hb
 generalize w0.heap.size=g at*
 have hld:∀ w,YB w1 w->(loadVar 5 ⟨g,0+(16+p)*1,none⟩).run YP w= .ok (.int .u8 (bt.toNat:Int)) w:=λw hw=>by
  rw [show 0+(16+p)*1=16+p by omega,←hbt]
  exact byte_load (hB.on (hw.block g hB.lt)) hk Kr
 obtain ⟨ti,hti,htz⟩:=u8_made
 refine z7 (v:=YI (p:Int)) [] (λw hO=>cp w) (x_i 59 [] ((16+p:Nat):Int) (z7 (v:=YI (q:Int)) [] (λw hO=>cq w) (nO 62 [] hexS q hq16 dg hqs ?_)))
 refine zL 65 [] (A:=some ⟨g,0,none⟩) rfl t.length cap (16+p) 1 hk (zI 66 [] 5 g (0+(16+p)*1) (.int .u8 (bt.toNat:Int)) (λw hO=>hld w hO.below) (zG 68 [] ((bt.toNat:Int)=(dg.toNat:Int)) (λh68=> ?_) (λh68=> ?_)))
 ·have hr:=hsame (UInt8.toNat.inj Om)
  refine zL 72 [] (A:=some ⟨g,0,none⟩) rfl t.length cap (16+p) 1 hk (x_poke (T:=5) (k:=0+(16+p)*1) (b:=dg) hB Om hti htz λw2 hB2 hb2 hs2=> ?_)
  rw [show 0+(16+p)*1=16+p by omega] at hB2
  have hW2:YB W w2:=hW1.trans (hb2.mono hgW)
  refine x_readD 75 [] (.string (mkS (t.set (16+p) dg))) (λw hO=>run_back (src:=36) (dst:=9) (e:=5) (x:= .tmp 74) (g:=g) (cap:=cap) Kr Kr Kr Kr (by rw [List.length_set];kernel_rfl) (hB2.on (hO.below.block g hB2.lt))) (yB (k:=16) (args:= #[.string (mkS (t.set (16+p) dg))]) (R:=λv ob=>∃ u:Hv,v= .tuple #[hvV u,YI rI.2.1,YI rI.2.2]) [] (λw hO=>cT w (hW2.trans (hO.below.mono hW2.size))) ?_)
  rintro _ ob2 ⟨z,rfl⟩
  rw [hr]
  exact zH [] λb14=>z7 (v:= .bool true) [0] (λw hO=>kD w (hK.on (hW2.trans (hO.below.mono hW2.size))) (hL.on (hW2.trans (hO.below.mono hW2.size)))) (z8 [] Z4 λw hO=>⟨rfl,hW2.trans (hO.below.mono hW2.size)⟩)
 ·have hr:=hdiff (λq2=>h68 (by rw [q2]))
  refine zL 72 [] (A:=some ⟨g,0,none⟩) rfl t.length cap (16+p) 1 hk (x_poke (T:=5) (k:=0+(16+p)*1) (b:=dg) hB Om hti htz λw2 hB2 hb2 hs2=> ?_)
  rw [show 0+(16+p)*1=16+p by omega] at hB2
  have hW2:YB W w2:=hW1.trans (hb2.mono hgW)
  refine x_readD 75 [] (.string (mkS (t.set (16+p) dg))) (λw hO=>run_back (src:=36) (dst:=9) (e:=5) (x:= .tmp 74) (g:=g) (cap:=cap) Kr Kr Kr Kr (by rw [List.length_set];kernel_rfl) (hB2.on (hO.below.block g hB2.lt))) (yB (k:=16) (args:= #[.string (mkS (t.set (16+p) dg))]) (R:=λv ob=>∃ u:Hv,v= .tuple #[hvV u,YI rI.2.1,YI rI.2.2]) [] (λw hO=>cT w (hW2.trans (hO.below.mono hW2.size))) ?_)
  rintro _ ob2 ⟨z,rfl⟩
  rw [hr]
  exact zH [] λb14=>z7 (v:= .bool true) [0] (λw hO=>kD w (hK.on (hW2.trans (hO.below.mono hW2.size))) (hL.on (hW2.trans (hO.below.mono hW2.size)))) (z8 [] Z4 λw hO=>⟨rfl,hW2.trans (hO.below.mono hW2.size)⟩)
end Go.Proofs.YtflhcaljcoekpaaGreatDoor
end

section
/-
 IndexSums: for every input the call returns true, and each argument reads afterwards as it read before. Conditions: none but the row's own, that the listed package-level variables read as the program's text lays them.
-/
namespace Go.Proofs.YtflhcaljcoekpaaGreatDoor.indexSums
open Go.ChangeShapes Go.WideShapes Go.ChangeAt Go.RowKit
open Go.ChangeMaps (open_string shut_string)
set_option linter.unusedVariables false

set_option maxRecDepth 100000 in
theorem tL (H:Type)(enc:TypeId×Value->H)(W:World)(base:Nat)(args:Array Value)(ds gs:List (DataW H))(before:List MemPlace)
  (hval:∀ (j:Nat) t v,Tryz.f5.params[j]?=some t->args[j]?=some v->Value.okWide YP W .any base t v)
  (hW:DataW.Whole enc YP Tryz.f5.params.toList Rows.indexSumsSpec.vars false W args.toList ds gs before) (hL:laidMetH YP Rows.indexSumsRow.laid W) (hS:W.ShapedOpen YP):
  YC 5 args W λe W'=>∃ v,e= .returned v/\Rows.indexSumsSpec.post enc YP Tryz.f5 false true false false W args v W':=by
 have ht:HasLib W:=hasLib_of (hasTab_of hL (by rfl)) hS
 have hW':=hW
 obtain ⟨p,q,hA0,hV,rfl,hfz,hnd⟩:=hW
 have hA:DataW.TrodAll enc YP W 0 (λ_=>true) true Tryz.f5.params.toList args.toList ds p:=hA0
 rw [Tryz.params5] at hA hval
 obtain ⟨v0,vs0,d0,ds0,p0,q0,hargs,rfl,rfl,h0,r0⟩:=trodAll_cons hA
 obtain ⟨v1,vs1,d1,ds1,p1,q1,rfl,rfl,rfl,h1,r1⟩:=trodAll_cons r0
 obtain ⟨v2,vs2,d2,ds2,p2,q2,rfl,rfl,rfl,h2,r2⟩:=trodAll_cons r1
 obtain ⟨rfl,rfl,rfl⟩:=trodAll_nil r2
 obtain rfl:args= #[v0,v1,v2]:=by cases args;simp_all
 obtain ⟨rfl,rfl⟩:=trodVars_none hV
 obtain ⟨at_,rfl,rfl,rfl,w1⟩:=open_int Tryz.underlying3 (hval 1 3 v1 rfl rfl) h1
 obtain ⟨by_,rfl,rfl,rfl,w2⟩:=open_int Tryz.underlying3 (hval 2 3 v2 rfl rfl) h2
 clear hA0
 obtain ⟨l,l_reads,l_len⟩:=tW (hval 0 30 v0 rfl rfl) h0
 refine (indexSums.law v0 l at_ by_ W l_reads l_len ⟨ht,mkLib_of hL (by rfl)⟩ (lyAt_of hL (by rfl))).mono λe W' ⟨he,hb⟩=> ?_
 subst he
 exact ⟨_,rfl,law_end laidOut (λt ht=>by rw [Tryz.params5] at ht;simp at ht;rcases ht with rfl|rfl|rfl<;>exact ⟨by kernel_rfl,of_decide_eq_true Kr⟩) rfl rfl Tryz.underlying4 hW' (by rfl) hb⟩

noncomputable def qY (os:Os):World:=
 {World.holding YP os ⟨#[], #[],[]⟩ with heap:=jW (jW (jW (jW (jW (jW (jW ((World.holding YP os ⟨#[], #[],[]⟩).heap) 6 Rows.laid_math_bits_deBruijn32tab) 7 Rows.laid_math_bits_deBruijn64tab) 3 Rows.laid_internal_strconv_uint64pow10) 5 Rows.laid_unicode_utf8_acceptRanges) 2 Rows.laid_linchpin_mark_keys) 1 Rows.laid_linchpin_record_layouts) 4 Rows.laid_unicode_utf8_first}
theorem tG (os:Os):laidMet YP Rows.indexSumsRow.laid ((qY os).forCall (λ_ _=>0) ⟨#[], #[.slice none 0 0,YI 0,YI 0],[]⟩).memory:=
 laidMet_of_run' 8 Kr Kr
theorem reads (os:Os){H:Type}(enc:TypeId×Value->H):∃ places,DataW.whole enc YP ((qY os).forCall (λ_ _=>0) ⟨#[], #[.slice none 0 0,.int .i64 0,.int .i64 0],[]⟩).memory Tryz.f5.params.toList Rows.indexSumsSpec.vars false (#[.slice none 0 0,.int .i64 0,.int .i64 0]:Array Value).toList 8=some ([.nil,.lit (.int .i64 0),.lit (.int .i64 0)],[],places):=
 ⟨[],by kernel_rfl⟩

set_option maxRecDepth 100000 in
theorem lifted (os:Os)(started:os.Started)(H:Type)(enc:TypeId×Value->H)(F:Stop.Interp):
  ReturnsInHanded {} Tryz.checked os 5 .any ((OpenSpec.ofChange Rows.indexSumsSpec).preRow enc YP Tryz.f5 Rows.indexSumsRow.domain false Rows.indexSumsRow.laid) (((OpenSpec.ofChange Rows.indexSumsSpec).at F).post enc YP Tryz.f5 false true false false):=by
 obtain ⟨places,hx⟩:=reads os enc
 refine returnsInHanded_of_row (C:=Tryz.checked) (s:=OpenSpec.ofChange Rows.indexSumsSpec) own started Kr Tryz.func5
  (witness_row_at (enc:=enc) (C:=Tryz.checked) false (qY os) #[.slice none 0 0,YI 0,YI 0] rfl Kr Kr Kr
   (OpenSpec.preRow_of_cond 8 hx Kr (λk hk=>by cases hk) Kr (tG os))) ?_
 intro W base args ds gs before hval hW _ _ _ hL hS _
 exact tL H enc W base args ds gs before hval hW hL hS

theorem j1:(Rows.indexSumsRow.inPlace==Tryz.pinned.checked.prog.inPlace 5)=true:=by kernel_rfl
theorem j2:(Rows.indexSumsRow.unfollowed==Tryz.pinned.checked.prog.unfollowed 5)=true:=by kernel_rfl
theorem j3:(Rows.indexSumsRow.recurses==Tryz.pinned.checked.prog.recurses 5)=true:=by kernel_rfl
theorem j4:(Rows.indexSumsRow.named==Tryz.pinned.checked.prog.varsNamed 5)=true:=by kernel_rfl
theorem j5:(Rows.indexSumsRow.lifted==Tryz.pinned.checked.prog.liftsFinal)=true:=by kernel_rfl
theorem closed:joinedFacts Tryz.pinned.checked.prog 5 Tryz.f5 (OpenSpec.ofChange Rows.indexSumsSpec).bare Rows.indexSumsRow=true:=by
 unfold joinedFacts
 rw [jfLaid,jfMaps,j1,j2,j3,j4,jfHeard,jfEnter,j5]
 kernel_rfl

theorem said:Rows.IndexSumsSaid:=
 OpenClaim.holds_of_cond 5 Tryz.f5 rfl rfl rfl rfl rfl rfl rfl ⟨rfl,rfl,rfl,rfl,rfl⟩ rfl rfl rfl rfl rfl Kr Tryz.func5 closed
  (of_decide_eq_true Kr) (by unfold Func.isWrapper;first|(rw [if_pos (by decide+kernel)];kernel_rfl)|(rw [if_neg (by decide+kernel)];exact ⟨rfl,rfl⟩))
  (λos started H enc _ F=>by rw [OpenClaim.pre_eq_preRow];exact lifted os started H enc F)

theorem jM (f : FuncId) (fn : Func) (hf : Tryz.pinned.checked.prog.funcNamed "linchpin/linchpinlaw14.IndexSums" = some f) (hfn : Tryz.pinned.checked.prog.funcs[f]? = some fn) :
  false=Tryz.pinned.checked.prog.looks []∧∀ (j:Nat) t,fn.params[j]?=some t->Tryz.pinned.checked.prog.wantsStandIn t=false:=by
 obtain rfl : f = 5 := Option.some.inj ((show Tryz.prog.funcNamed "linchpin/linchpinlaw14.IndexSums" = some 5 by kernel_rfl).symm.trans hf) |>.symm
 obtain rfl:fn=Tryz.f5:=(Option.some.inj (Tryz.func5.symm.trans hfn)).symm
 refine ⟨by kernel_rfl,λj t ht=> ?_⟩
 rw [Tryz.params5] at ht
 have hm:=Array.mem_of_getElem? ht
 simp at hm
 rcases hm with rfl|rfl
 ·exact (show Tryz.prog.wantsStandIn 30=false by kernel_rfl)
 ·exact (show Tryz.prog.wantsStandIn 3=false by kernel_rfl)

theorem goes:false=Rows.indexSumsRow.goesBy Tryz.pinned.checked.prog:=by kernel_rfl
theorem card:Rows.IndexSumsCardSaid:=
 Claim7.holds_tied_plain_at .later [] _ _ _ _ said (λ_ h=>by cases h) Kr (λ_ h=>by cases h) indexSums_row_tie rfl ⟨rfl,rfl⟩ Kr rfl jM goes

#print axioms card
end Go.Proofs.YtflhcaljcoekpaaGreatDoor.indexSums
end
