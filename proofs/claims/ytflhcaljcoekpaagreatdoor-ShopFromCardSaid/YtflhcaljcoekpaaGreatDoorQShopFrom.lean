/-
 ShopFrom: for every input the call returns true, and each argument reads afterwards as it read before. Conditions: none but the row's own, that the listed package-level variables read as the program's text lays them.
-/
import Derived.Test.YtflhcaljcoekpaaGreatDoorCards
import Derived.Test.YtflhcaljcoekpaaGreatDoorTie
import Derived.Test.YtflhcaljcoekpaaGreatDoorSF15

section
/-
 Chapter 15: where a package comes from, by the reference (ShopFrom). Condition: what the package leans on lies as the text lays it.
-/
namespace Go.Proofs.YtflhcaljcoekpaaGreatDoor
open Go.RowKit
set_option maxRecDepth 100000
set_option linter.unusedVariables false
set_option linter.unusedSimpArgs false
set_option linter.unnecessarySimpa false
set_option maxHeartbeats 8000000

/-- A string of a table, in a drawn region. -/
theorem xh_idx {M:List Nat}{P:Program}{n:Nat}{W:World}{Q:Exit->Act->World->Prop}{c:Xc}(t:Nat)(h:List Nat)(i:Nat)(g:Nat->YL)(k N:Nat)(hN:k<N)(hg:zB M P n W Q (xHn (xgo P n t h c) i (.string (mkS (g k)))))
  (hp:((List.range N).map λj=>λw=>(part (xEl P (oT (xOi i (xgo P n t h c)))) (xAg (ev n (xgo P n t h c).f (oX (xOi i (xgo P n t h c))))) j).run P w)=(List.range N).map λj=>(λw=> .ok (.string (mkS (g j))) w):=by kernel_rfl)
  (hkt:(xgl P n t h c,fZ n i (xgo P n t h c),(xOi i (xgo P n t h c)).op,ev n (xgo P n t h c).f (oX (xOi i (xgo P n t h c))),ev n (xgo P n t h c).f (oY (xOi i (xgo P n t h c))),P.underlying (oT (xOi i (xgo P n t h c))),(P.info? (xEl P (oT (xOi i (xgo P n t h c))))).map (·.size))
   =(xgr P n t h c,wM i (xgo P n t h c),.index (oT (xOi i (xgo P n t h c))) (oX (xOi i (xgo P n t h c))) (oY (xOi i (xgo P n t h c))),.agg (xAg (ev n (xgo P n t h c).f (oX (xOi i (xgo P n t h c))))),YI (k:Int),some (.array N (xEl P (oT (xOi i (xgo P n t h c))))),some 1):=by kernel_rfl):zB M P n W Q c:=by
 simp only [Prod.mk.injEq] at hkt
 obtain ⟨hk,e1,e2,e3,e4,e5,e6⟩:=hkt
 refine zM h c hk (tQ (λw hO=>wY g hN e2 e3 e4 e5 (λj hj w=> ?_) e6 w) hg e1)
 exact congrFun (List.map_inj_left.1 hp j (List.mem_range.2 hj)) w
/-- The shelves that a drawn pin names. -/
def pinT:Nat->YL
 |0=>[111,110,101]
 |1=>[116,119,111]
 |_=>[115,105,120]
theorem pinT_short (k:Nat):(pinT k).length<=1000000:=by
 unfold pinT
 split<;>decide
theorem pins15_any (v:Value)(l:List Int)(W:World)(hv:ReadsI W W.heap.size v l)(hl:l.length<=9223372036854775807):YC 32 #[v,YI 1000] W λe w'=>∃ v' ob,e= .returned v'/\(∃ ps:List Pn,Sl 66 2 v' ps.length (ps.flatMap pnC) ob/\ps.length<=3∧∀ p∈ps,p.name.length<=1000000/\p.shelf.length<=1000000)/\Own [] W w' ob:=by
 refine z8 Tryz.func32 (zO (α:=Nat×List Pn×Value×List Blk) (λ(i,ps,v',ob)=>[(0,v),(1,YI 1000),(5,v'),(6,YI (i:Int))]) (λ(i,ps,v',ob)=>ob) (λ(i,ps,v',ob) m=>(1<=i/\i<=4/\ps.length+1<=i/\Sl 66 2 v' ps.length (ps.flatMap pnC) ob∧∀ p∈ps,p.name.length<=1000000/\p.shelf.length<=1000000)/\m=4-i) (1,[],.slice none 0 0,[]) 3 [] ⟨⟨Nat.le_refl _,by decide,by decide,Sl.nil _ _,λp h=>by cases h⟩,rfl⟩ ?_)
 rintro ⟨i,ps,u,ob⟩ mm g kk ⟨⟨hi1,hi4,hn,hS,hsn⟩,hmm⟩ nx hkk
 subst hkk
 refine zD 9 [] ((i:Int)<4) (λh9=> ?_) (λh9=> ?_)
 rotate_left
 ·have hp3:ps.length<=3:=by omega
  exact z7 [] u λw hO=>⟨u,ob,rfl,⟨ps,hS,hp3,hsn⟩,hO.past 0 ob⟩
 obtain ⟨c,hc,hc4⟩:=yG (atL l (1000+i)) 4 (by decide)
 have f0:=x3 hv hl (1000+i) 4 Om (by decide) (by decide) hc
 obtain ⟨k,hk5,cN⟩:=nameT_any (i:Int)
 refine x_i 15 [] ((1000+i:Nat):Int) (z6 (v:=YI (c:Int)) [] (λw hO=>f0 w hO.below) (zD 18 [] ((c:Int)<3) (λh18=> ?_) (λh18=> ?_)))
 rotate_left
 ·exact x_i 6 [] ((i+1:Nat):Int) (nx (i+1,ps,u,ob) (4-(i+1)) [] Om ⟨⟨by omega,by omega,by omega,hS,hsn⟩,rfl⟩ Kr Kr)
 have hnl:(y0 k).length<=1000000:=Nat.le_trans (gZ (pB k)) (by decide)
 have hpl:=pinT_short c
 generalize y0 k=nm at*
 refine gQ 9 [] [] (λw hO=>hO.below.no) (xh_idx 50024 [] 5 pinT c 3 Om (zY [] 2 (z6 (v:= .string (mkS nm)) [] (λw hO=>cN w) ?_)))
 generalize pinT c=pt at*
 refine zY [] 7 (k7 1 66 #[.string (mkS nm),.string (mkS pt)] λbl=>zY [] 8 (gV (T:=66) (sz:=2) (m:=1) (cp:=1) [⟨bl, #[.string (mkS nm),.string (mkS pt)],66⟩] ob [] 0 (⟨bl, #[.string (mkS nm),.string (mkS pt)],66⟩::ob) [] (λw hO=>hO.cast (by simp)) (λo w hO=>hO.below.no) hS Om λv3 ob3 hS3=> ?_))
 have hlen:ps.length+1=(ps++[(⟨nm,pt⟩:Pn)]).length:=by rw [List.length_append,List.length_singleton]
 have hS4:Sl 66 2 v3 (ps++[(⟨nm,pt⟩:Pn)]).length ((ps++[(⟨nm,pt⟩:Pn)]).flatMap pnC) ob3:=Sl.to hS3 hlen (by rw [List.flatMap_append,List.flatMap_singleton];rfl)
 have hsn4:∀ p∈ps++[(⟨nm,pt⟩:Pn)],p.name.length<=1000000/\p.shelf.length<=1000000:=λp hp=>by
  rcases List.mem_append.1 hp with hp|hp
  ·exact hsn p hp
  ·rw [List.mem_singleton.1 hp];exact ⟨hnl,hpl⟩
 clear hS hS3 hsn
 exact x_i 6 [] ((i+1:Nat):Int) (zP [] ob3 (λw hO=>by
  have h1:=hO.past 1 (ob3++[])
  clear hO
  rw [List.append_nil] at h1
  exact h1) (nx (i+1,ps++[⟨nm,pt⟩],v3,ob3) (4-(i+1)) [] Om ⟨⟨by omega,by omega,by omega,hS4,hsn4⟩,rfl⟩ Kr Kr))
/-- What From can answer for a shop that may be read. -/
theorem from_cases {l:List Sh}{ps:List Pn}{n:YL}(h:q6 l=true):yK l ps n=(0,9)\/yK l ps n=(0,12)\/yK l ps n=(0,15)∨∃ j:Nat,yK l ps n=((j:Int),0):=by
 unfold yK
 rw [if_pos h]
 split
 ·split
  ·rcases vP (λs:Sh=>decide (s.name=pinS ps (pinI ps n).1.toNat)) l 12 with ⟨e,_⟩|⟨j,_,e,_⟩
   ·exact .inr (.inl e)
   ·exact .inr (.inr (.inr ⟨j,e⟩))
  ·rcases vP (jY n) l 9 with ⟨e,_⟩|⟨j,_,e,_⟩
   ·exact .inl e
   ·exact .inr (.inr (.inr ⟨j,e⟩))
 ·exact .inr (.inr (.inl rfl))
theorem listR_err {xs:List Hv}{ps:List Pn}{n:YL}{v:Value}{ob:List Blk}{z:Int}(h:ListR xs ps n v ob)(e:yK (shs xs) ps n=(0,z))(hz:z≠0):v= .tuple #[YI 0,.slice none 0 0,YI z]:=by
 rcases h with ⟨_,rfl,_⟩|⟨i,hi,e',_⟩
 ·rw [e]
 ·rw [e] at e';exact absurd (congrArg Prod.snd e') hz
theorem shopFrom.law (v:Value)(l:List Int)(own:Int)(W:World)(hv:ReadsI W W.heap.size v l)(hl:l.length<=9223372036854775807)(hK:RecLib W):YC 8 #[v,YI own] W (YR (.bool true) W):=by
 obtain ⟨k,hk5,cN⟩:=nameT_any own
 refine z8 Tryz.func8 (xH (k:=30) (args:= #[v,YI 0]) (R:=λv' ob=>∃ A c xs o1 o2,v'= .slice A xs.length c/\ob=o1++o2/\ShopG A c xs o1 o2) [] (λw hO=>shop_gen v l w ((hv.below hO.below).more hO.below.size) hl) ?_)
 rintro _ _ ⟨A,c,xs,o1,o2,rfl,rfl,hG⟩
 obtain ⟨hGo,hGm,hG2,hGn,hGd⟩:=hG
 have hMx:=may_all hGm
 have hin:∀ w L,Own [] W w L->(∀ b∈o1++o2,b∈L)->HsIn w w.heap.size A xs:=λw L hO hs=>ls_in hGo hMx Om hO hs
 generalize o1++o2=ob at*
 have hGt:=hGo.top
 clear hGo
 generalize y0 k=nm at*
 refine z6 (v:= .string (mkS nm)) [] (λw hO=>cN w) (xH (k:=32) (args:= #[v,YI 1000]) (R:=λv' ob=>∃ ps:List Pn,Sl 66 2 v' ps.length (ps.flatMap pnC) ob/\ps.length<=3∧∀ p∈ps,p.name.length<=1000000/\p.shelf.length<=1000000) [] (λw hO=>pins15_any v l w ((hv.below hO.below).more hO.below.size) hl) ?_)
 rintro _ ob1 ⟨ps,hS,hp3,hsn⟩
 obtain ⟨B,cb,rfl⟩:=Sl.form hS
 have hps:∀ w L,Own [] W w L->(∀ b∈ob1,b∈L)->PsIn w w.heap.size B ps:=λw L hO hs=>⟨Sl.reads hS rfl hO hs,hsn,by omega⟩
 have cF:∀ w,Own [] W w (ob++ob1)->YC 23 #[.slice A xs.length c,.slice B ps.length cb,.string (mkS nm)] w (YR (.tuple #[YI (yK (shs xs) ps nm).1,YI (yK (shs xs) ps nm).2]) w):=λw hO=>bW A B c cb xs ps nm w (hin w _ hO λb hb=>List.mem_append_left _ hb) (hps w _ hO λb hb=>List.mem_append_right _ hb) (hK.on hO.below)
 have cR:∀ w,Own [] W w (ob++ob1)->YC 24 #[.slice A xs.length c,.slice B ps.length cb,.string (mkS nm)] w (YR (.tuple #[YI (yK (shs xs) ps nm).1,YI (yK (shs xs) ps nm).2]) w):=λw hO=>fromR15_any A B c cb xs ps nm w (hin w _ hO λb hb=>List.mem_append_left _ hb) (hps w _ hO λb hb=>List.mem_append_right _ hb)
 have cL:∀ w,Own [] W w (ob++ob1)->YC 25 #[.slice A xs.length c,.slice B ps.length cb,.string (mkS nm)] w λe w'=>∃ v ob,e= .returned v/\ListR xs ps nm v ob/\Own [] w w' ob:=λw hO=>list15_any A B c cb xs ps nm w (hin w _ hO λb hb=>List.mem_append_left _ hb) (hps w _ hO λb hb=>List.mem_append_right _ hb) (hK.on hO.below)
 have cM:∀ w,Own [] W w (ob++ob1)->YC 27 #[.slice A xs.length c] w (YR (.bool true) w):=λw hO=>by
  have h:=fN A c xs w (hin w _ hO λb hb=>List.mem_append_left _ hb) (hK.on hO.below)
  rw [hGm] at h;exact h
 have hE:∀ z:Int,yK (shs xs) ps nm=(0,z)->z≠0→∀ u o,ListR xs ps nm u o->u= .tuple #[YI 0,.slice none 0 0,YI z]:=λz e h u o hL=>listR_err hL e h
 clear hps
 rcases from_cases (ps:=ps) (n:=nm) hGm with e|e|e|⟨i,e⟩
 iterate 3
  ·rw [e] at cF cR
   have hE:=hE _ e (by decide)
   clear hin hMx hGn hGd hS hsn
   generalize ListR xs ps nm=LR at*
   refine z6 (v:= .tuple #[YI 0,YI _]) [] (λw hO=>cF w (hO.past 0 (ob++ob1))) (z6 (v:= .tuple #[YI 0,YI _]) [] (λw hO=>cR w (hO.past 0 (ob++ob1))) (xH (k:=25) (args:= #[.slice A xs.length c,.slice B ps.length cb,.string (mkS nm)]) (R:=LR) [] (λw hO=>cL w (hO.past 0 (ob++ob1))) ?_))
   rintro u ob2 hL
   obtain rfl:=hE u ob2 hL
   clear hL
   refine z6 (v:= .bool true) [] (λw hO=>awake15_any w (hK.on hO.below)) (z6 (k:=27) (args:= #[.slice A xs.length c]) (v:= .bool true) [] (λw hO=> ?_) ?_)
   ·have h1:=hO.past 0 ((ob++ob1)++ob2)
    clear hO
    exact cM w (h1.sublist (List.sublist_append_left _ _))
   ·exact z7 [] Z4 λw hO=>⟨rfl,hO.below⟩
 rw [e] at cF cR
 refine z6 (v:= .tuple #[YI (i:Int),YI 0]) [] (λw hO=>cF w (hO.past 0 (ob++ob1))) (z6 (v:= .tuple #[YI (i:Int),YI 0]) [] (λw hO=>cR w (hO.past 0 (ob++ob1))) (xH (k:=25) (args:= #[.slice A xs.length c,.slice B ps.length cb,.string (mkS nm)]) (R:=ListR xs ps nm) [] (λw hO=>cL w (hO.past 0 (ob++ob1))) ?_))
 rintro _ ob2 hL
 obtain ⟨a1,z1,t1,A1,c1,rfl,hS1,hP1⟩:=list_parts hL
 clear hL
 rw [e] at hP1
 rcases hP1 with ⟨h,h',_⟩|⟨j,hi,e1,rfl,rfl,hLS1⟩
 ·exact absurd h' h
 obtain rfl:i=j:=by have:(i:Int)=(j:Int):=congrArg Prod.fst e1;omega
 have hMi:=hMx _ (List.getElem_mem hi)
 have hle:∃ b off,A=some ⟨b,off,none⟩∧∀ w,Own [] W w ((ob++ob1)++ob2)->(loadVar 24 ⟨b,off+i*2+0,none⟩).run YP w= .ok (hvV xs[i]) w:=by
  obtain ⟨g,cur,q1,_⟩:=Sl.block hGt Om
  refine ⟨g,0,q1,λw hO=> ?_⟩
  obtain ⟨b,off,e,hel⟩:=(hin w _ hO λb hb=>List.mem_append_left _ (List.mem_append_left _ hb)).top.elem wH i hi
  rw [q1] at e
  simp only [Option.some.injEq,Addr.mk.injEq] at e
  obtain ⟨rfl,rfl,_⟩:=e
  exact hel w (Below.refl _ _) _ 0 _ Kr
 obtain ⟨eb,eo,hA,hel⟩:=hle
 have hn:=list_len hMi hLS1
 have cL2:∀ w,Own [] W w ((ob++ob1)++ob2)->YC 33 #[hvV xs[i],.string (mkS nm)] w λe w'=>∃ v ob,e= .returned v/\(∃ l:List Nat,Sl 3 1 v l.length (l.map vZ) ob/\wC xs[i].sh nm l)/\Own [] w w' ob:=λw hO=>r13List_any xs[i] nm w ((hin w _ hO λb hb=>List.mem_append_left _ (List.mem_append_left _ hb)).each _ (List.getElem_mem hi)) hMi
 have hone:∀ t2,wC xs[i].sh nm t2->t1=t2:=λt2 h=>list_one hMi hLS1 h
 generalize wC xs[i].sh nm=LS at*
 generalize xs[i]=y at*
 refine z6 (v:= .bool true) [] (λw hO=>awake15_any w (hK.on hO.below)) (z6 (k:=27) (args:= #[.slice A xs.length c]) (v:= .bool true) [] (λw hO=> ?_) (x_yes 51 [] ((i:Int)=(i:Int)) rfl (x_yes 66 [] ((i:Int)=(i:Int)) rfl ?_)))
 ·have h1:=hO.past 0 ((ob++ob1)++ob2)
  clear hO
  exact cM w (h1.sublist (List.sublist_append_left _ _))
 refine zK 75 [] hA xs.length c i 2 hi (zH 76 [] 24 eb (eo+i*2+0) (hvV y) (λw hO=>by
  have h1:=hO.past 0 ((ob++ob1)++ob2)
  clear hO
  exact hel w h1) (xH (k:=33) (args:= #[hvV y,.string (mkS nm)]) (R:=λv ob=>∃ l:List Nat,Sl 3 1 v l.length (l.map vZ) ob/\LS l) [] (λw hO=>by
  have h1:=hO.past 0 ((ob++ob1)++ob2)
  clear hO
  exact cL2 w h1) ?_))
 rintro _ ob3 ⟨t2,hS2,hL2⟩
 obtain rfl:=hone t2 hL2
 obtain ⟨A2,c2,rfl⟩:=Sl.form hS2
 refine z6 (v:= .bool true) [] (λw hO=>by
  have h1:=hO.past 0 (((ob++ob1)++ob2)++ob3)
  clear hO
  exact same15_any A1 A2 c1 c2 t1 w (sl_ints hS1 h1 λb hb=>List.mem_append_left _ (List.mem_append_right _ hb)) (sl_ints hS2 h1 λb hb=>List.mem_append_right _ hb) hn) (z7 [] Z4 λw hO=>⟨rfl,hO.below⟩)
end Go.Proofs.YtflhcaljcoekpaaGreatDoor
end

section
/-
 ShopFrom: for every input the call returns true, and each argument reads afterwards as it read before. Conditions: none but the row's own, that the listed package-level variables read as the program's text lays them.
-/
namespace Go.Proofs.YtflhcaljcoekpaaGreatDoor.shopFrom
open Go.ChangeShapes Go.WideShapes Go.ChangeAt Go.RowKit
open Go.ChangeMaps (open_string shut_string)
set_option linter.unusedVariables false

set_option maxRecDepth 100000 in
theorem contract (H:Type)(enc:TypeId×Value->H)(W:World)(base:Nat)(args:Array Value)(ds gs:List (DataW H))(before:List MemPlace)
  (hval:∀ (j:Nat) t v,Tryz.f8.params[j]?=some t->args[j]?=some v->Value.okWide YP W .any base t v)
  (hW:DataW.Whole enc YP Tryz.f8.params.toList Rows.shopFromSpec.vars false W args.toList ds gs before) (hL:laidMetH YP Rows.shopFromRow.laid W) (hS:W.ShapedOpen YP):
  YC 8 args W λe W'=>∃ v,e= .returned v/\Rows.shopFromSpec.post enc YP Tryz.f8 false true false false W args v W':=by
 have ht:HasLib W:=hasLib_of (hasTab_of hL (by rfl)) hS
 have hW':=hW
 obtain ⟨p,q,hA0,hV,rfl,hfz,hnd⟩:=hW
 have hA:DataW.TrodAll enc YP W 0 (λ_=>true) true Tryz.f8.params.toList args.toList ds p:=hA0
 rw [Tryz.params8] at hA hval
 obtain ⟨v0,vs0,d0,ds0,p0,q0,hargs,rfl,rfl,h0,r0⟩:=trodAll_cons hA
 obtain ⟨v1,vs1,d1,ds1,p1,q1,rfl,rfl,rfl,h1,r1⟩:=trodAll_cons r0
 obtain ⟨rfl,rfl,rfl⟩:=trodAll_nil r1
 obtain rfl:args= #[v0,v1]:=by cases args;simp_all
 obtain ⟨rfl,rfl⟩:=trodVars_none hV
 obtain ⟨own,rfl,rfl,rfl,w1⟩:=open_int Tryz.underlying3 (hval 1 3 v1 rfl rfl) h1
 clear hA0
 obtain ⟨l,l_reads,l_len⟩:=open_nums (hval 0 30 v0 rfl rfl) h0
 refine (shopFrom.law v0 l own W l_reads l_len ⟨ht,mkLib_of hL (by rfl)⟩).mono λe W' ⟨he,hb⟩=> ?_
 subst he
 exact ⟨_,rfl,law_end laidOut (λt ht=>by rw [Tryz.params8] at ht;simp at ht;rcases ht with rfl|rfl<;>exact ⟨by kernel_rfl,of_decide_eq_true Kr⟩) rfl rfl Tryz.underlying4 hW' (by rfl) hb⟩

noncomputable def tB (os:Os):World:=
 {World.holding YP os ⟨#[], #[],[]⟩ with heap:=layAt (layAt (layAt (layAt (layAt (layAt ((World.holding YP os ⟨#[], #[],[]⟩).heap) 6 Rows.laid_math_bits_deBruijn32tab) 7 Rows.laid_math_bits_deBruijn64tab) 3 Rows.laid_internal_strconv_uint64pow10) 5 Rows.laid_unicode_utf8_acceptRanges) 2 Rows.laid_linchpin_mark_keys) 4 Rows.laid_unicode_utf8_first}
theorem laid_met (os:Os):laidMet YP Rows.shopFromRow.laid ((tB os).forCall (λ_ _=>0) ⟨#[], #[.slice none 0 0,YI 0],[]⟩).memory:=
 laidMet_of_run' 8 Kr Kr
theorem reads (os:Os){H:Type}(enc:TypeId×Value->H):∃ places,DataW.whole enc YP ((tB os).forCall (λ_ _=>0) ⟨#[], #[.slice none 0 0,.int .i64 0],[]⟩).memory Tryz.f8.params.toList Rows.shopFromSpec.vars false (#[.slice none 0 0,.int .i64 0]:Array Value).toList 8=some ([.nil,.lit (.int .i64 0)],[],places):=
 ⟨[],by kernel_rfl⟩

set_option maxRecDepth 100000 in
theorem lifted (os:Os)(started:os.Started)(H:Type)(enc:TypeId×Value->H)(F:Stop.Interp):
  ReturnsInHanded {} Tryz.checked os 8 .any ((OpenSpec.ofChange Rows.shopFromSpec).preRow enc YP Tryz.f8 Rows.shopFromRow.domain false Rows.shopFromRow.laid) (((OpenSpec.ofChange Rows.shopFromSpec).at F).post enc YP Tryz.f8 false true false false):=by
 obtain ⟨places,hx⟩:=reads os enc
 refine returnsInHanded_of_row (C:=Tryz.checked) (s:=OpenSpec.ofChange Rows.shopFromSpec) own started Kr Tryz.func8
  (witness_row_at (enc:=enc) (C:=Tryz.checked) false (tB os) #[.slice none 0 0,YI 0] rfl Kr Kr Kr
   (OpenSpec.preRow_of_cond 8 hx Kr (λk hk=>by cases hk) Kr (laid_met os))) ?_
 intro W base args ds gs before hval hW _ _ _ hL hS _
 exact contract H enc W base args ds gs before hval hW hL hS

theorem j1:(Rows.shopFromRow.inPlace==Tryz.pinned.checked.prog.inPlace 8)=true:=by kernel_rfl
theorem j2:(Rows.shopFromRow.unfollowed==Tryz.pinned.checked.prog.unfollowed 8)=true:=by kernel_rfl
theorem j3:(Rows.shopFromRow.recurses==Tryz.pinned.checked.prog.recurses 8)=true:=by kernel_rfl
theorem j4:(Rows.shopFromRow.named==Tryz.pinned.checked.prog.varsNamed 8)=true:=by kernel_rfl
theorem j5:(Rows.shopFromRow.lifted==Tryz.pinned.checked.prog.liftsFinal)=true:=by kernel_rfl
theorem closed:joinedFacts Tryz.pinned.checked.prog 8 Tryz.f8 (OpenSpec.ofChange Rows.shopFromSpec).bare Rows.shopFromRow=true:=by
 unfold joinedFacts
 rw [jfLaid,jfMaps,j1,j2,j3,j4,jfHeard,jfEnter,j5]
 kernel_rfl

theorem said:Rows.ShopFromSaid:=
 OpenClaim.holds_of_cond 8 Tryz.f8 rfl rfl rfl rfl rfl rfl rfl ⟨rfl,rfl,rfl,rfl,rfl⟩ rfl rfl rfl rfl rfl Kr Tryz.func8 closed
  (of_decide_eq_true Kr) (by unfold Func.isWrapper;first|(rw [if_pos (by decide+kernel)];kernel_rfl)|(rw [if_neg (by decide+kernel)];exact ⟨rfl,rfl⟩))
  (λos started H enc _ F=>by rw [OpenClaim.pre_eq_preRow];exact lifted os started H enc F)

theorem jD (f : FuncId) (fn : Func) (hf : Tryz.pinned.checked.prog.funcNamed "linchpin/linchpinlaw15.ShopFrom" = some f) (hfn : Tryz.pinned.checked.prog.funcs[f]? = some fn) :
  false=Tryz.pinned.checked.prog.looks []∧∀ (j:Nat) t,fn.params[j]?=some t->Tryz.pinned.checked.prog.wantsStandIn t=false:=by
 obtain rfl : f = 8 := Option.some.inj ((show Tryz.prog.funcNamed "linchpin/linchpinlaw15.ShopFrom" = some 8 by kernel_rfl).symm.trans hf) |>.symm
 obtain rfl:fn=Tryz.f8:=(Option.some.inj (Tryz.func8.symm.trans hfn)).symm
 refine ⟨by kernel_rfl,λj t ht=> ?_⟩
 rw [Tryz.params8] at ht
 have hm:=Array.mem_of_getElem? ht
 simp at hm
 rcases hm with rfl|rfl
 ·exact (show Tryz.prog.wantsStandIn 30=false by kernel_rfl)
 ·exact (show Tryz.prog.wantsStandIn 3=false by kernel_rfl)

theorem goes:false=Rows.shopFromRow.goesBy Tryz.pinned.checked.prog:=by kernel_rfl
theorem card:Rows.ShopFromCardSaid:=
 Claim7.holds_tied_plain_at .later [] _ _ _ _ said (λ_ h=>by cases h) Kr (λ_ h=>by cases h) shopFrom_row_tie rfl ⟨rfl,rfl⟩ Kr rfl jD goes

#print axioms card
end Go.Proofs.YtflhcaljcoekpaaGreatDoor.shopFrom
end
