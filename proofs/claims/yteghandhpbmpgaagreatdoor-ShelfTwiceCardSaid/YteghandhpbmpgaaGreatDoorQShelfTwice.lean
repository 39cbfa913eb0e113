/-
 ShelfTwice: for every input the call returns true, and each argument reads afterwards as it read before. Conditions: none but the row's own, that the listed package-level variables read as the program's text lays them.
-/
import Derived.Test.YteghandhpbmpgaaGreatDoorCards
import Derived.Test.YteghandhpbmpgaaGreatDoorTie
import Derived.Test.YteghandhpbmpgaaGreatDoorTW8

section
/-
 Chapter 13: withdrawn twice, and restored (ShelfTwice). Condition: what the package leans on lies as the text lays it.
-/
namespace Go.Proofs.YteghandhpbmpgaaGreatDoor
open Go.RowKit
set_option maxRecDepth 100000
set_option linter.unusedVariables false
set_option linter.unusedSimpArgs false
set_option linter.unnecessarySimpa false
set_option maxHeartbeats 8000000

theorem place_core {l m:List Et}(h:l.map vH=m.map vH)(n:YL)(v:Ver):zS l n v=zS m n v:=by
 have key:∀ l:List Et,l.findIdx? (bJ n v)=(l.map vH).findIdx? (λc=>decide (c.1.name=n) && oneV c.1.ver v):=λl=>by rw [List.findIdx?_map];rfl
 unfold zS
 rw [key l,h,←key m]
theorem mark_two:∀ (l:List Et) (i:Nat) (a b:Bool),gP (gP l i a) i b=gP l i b
 | [],_,_,_=>rfl
 |e::r,0,_,_=>rfl
 |e::r,i+1,a,b=>by rw [gP,gP,gP,mark_two r i a b]
theorem mark_own:∀ (l:List Et) (i:Nat) (hi:i<l.length),gP l i l[i].yk=l
 |e::r,0,_=>rfl
 |e::r,i+1,hi=>congrArg (e::·) (mark_own r i (by simpa using hi))
theorem hit_self {e:Et}(h:(zQ e.rc).1=0):bJ e.rc.name e.rc.ver e=true:=by
 unfold bJ oneV
 rw [(gF h).2.1,p9]
 simp
theorem place_own {s:Sh}(h:yX s){i:Nat}(hi:i<s.es.length):zS s.es s.es[i].rc.name s.es[i].rc.ver=(i:Int):=
 (place_self hi (hit_self (h.ok _ (List.getElem_mem hi)).1)).2 (place_none.2 λe he=>by
  obtain ⟨j,hj,rfl⟩:=List.mem_take_iff_getElem.1 he
  exact List.pairwise_iff_getElem.1 h.apart j i Om hi Om)
theorem yank_own {z:Hv}{oz L:List Blk}{W w:World}{n:YL}{v:Ver}{i:Nat}(on:Bool)(hO:Own [] W w L)(hs:∀ b∈oz,b∈L)(hz:ShO z oz)(hM:yX z.sh)(hp:zS z.sh.es n v=(i:Int))(h3:v.pre.length<=1000000)(h4:v.build.length<=1000000)(hK:RecLib w):YC 40 #[hvV z,.string (mkS n),yE v,.bool on] w λe w'=>∃ v o,e= .returned v/\(∃ z2:Hv,v= .tuple #[hvV z2,YI 0]/\z2.sh=⟨z.name,gP z.sh.es i on⟩/\ShO z2 o)/\Own [] w w' o:=by
 refine (sYank_any z n v on w (hz.inn hO hs hM) h3 h4 hK).mono λe w' ⟨v,o,q1,⟨z2,q2,q3,q4⟩,q5⟩=>⟨v,o,q1, ?_,q5⟩
 rw [yank_is hM,if_neg (by rw [hp];omega)] at q2 q3
 rw [hp,Int.toNat_natCast] at q3
 exact ⟨z2,q2,q3,q4⟩
theorem shelfTwice.law (v:Value)(l:List Int)(at_:Int)(W:World)(hv:ReadsI W W.heap.size v l)(hl:l.length<=9223372036854775807)(hK:RecLib W):YC 12 #[v,YI at_] W (YR (.bool true) W):=by
 refine z8 Tryz.func12 (yC (k:=46) (args:= #[v,YI 0,.string ⟨#[111,110,101]⟩,YI ((6:Nat):Int)]) (R:=λv ob=>∃ y o1 o2,v=hvV y/\ob=o1++o2/\MadeS y o1 o2/\y.es.length<=6) [] (λw hO=>shelf_gen v l 6 w ((hv.below hO.below).more hO.below.size) hl (by decide)) ?_)
 rintro _ _ ⟨y,o1,o2,rfl,rfl,hS,hy6⟩
 obtain ⟨ob,hob⟩:∃ ob,o1++o2=ob:=⟨_,rfl⟩
 have hyO:=hS.sho
 rw [hob] at hyO ⊢
 have hM:=hS.may
 have iy:∀ w L,Own [] W w L->(∀ b∈ob,b∈L)->ShIn w w.heap.size y:=λw L hO h=>hyO.inn hO h hM
 refine zB [] λb5=>zA 18 [0] ((y.es.length:Int)=0) (λh18=>z6 (v:= .bool true) [] (λw hO=>awake13_any w (hK.on hO.below)) (z7 [] Z4 λw hO=>⟨rfl,hO.below⟩)) (λh18=> ?_)
 obtain ⟨i,hi,hiy⟩:∃ k:Nat,plc at_ y.es.length=(k:Int)/\k<y.es.length:=xD at_ y.es.length Om
 have hplace:∀ w,YC 26 #[YI at_,YI (y.es.length:Int)] w (YR (YI (i:Int)) w):=λw=>(n8 at_ y.es.length w Om Om).mono λe w' ⟨q1,q2⟩=>⟨hi▸q1,q2▸Below.refl _ _⟩
 have hel:∃ b off,y.A=some ⟨b,off,none⟩∧∀ w,Own [] W w ob->(loadVar 57 ⟨b,off+i*11+0,none⟩).run Tryz.prog w= .ok (evV y.es[i]) w:=by
  obtain ⟨g,cur,e1,e2,_⟩:=Sl.block hS.own.top Om
  refine ⟨g,0,e1,λw hO=> ?_⟩
  obtain ⟨b,off,e,hel⟩:=(iy w ob hO λb h=>h).es.top.elem gZ i hiy
  rw [e1] at e
  simp only [Option.some.injEq,Addr.mk.injEq] at e
  obtain ⟨rfl,rfl,_⟩:=e
  exact hel w (Below.refl _ _) _ 0 _ Kr
 obtain ⟨eb,eo,hA,hel⟩:=hel
 have hi':i<y.sh.es.length:=by simpa [Hv.sh] using hiy
 have hei:y.sh.es[i]=(y.es[i]).et:=by simp [Hv.sh]
 have hp:=place_own hM hi'
 have hok:=(hM.ok _ (List.getElem_mem hi')).1
 have hown:=mark_own y.sh.es i hi'
 rw [hei] at hp hok hown
 generalize y.es[i]=u at*
 have hB:=(chk_bnd hok).1
 have hpre:u.rec'.ver.pre.length<=1000000:=hB.pre
 have hbld:u.rec'.ver.build.length<=1000000:=hB.bld
 have hp:zS y.sh.es u.rec'.name u.rec'.ver=(i:Int):=hp
 refine x_join (α:=Nat) (λb6=>[(5,Zp b5 0),(6,Zp b6 0)]) (λb6=>[⟨b6, #[.string (mkS u.rec'.name),YI u.rec'.maj,YI u.rec'.min,YI u.rec'.pat,.string (mkS u.rec'.pre),.string (mkS u.rec'.bld),.slice u.rec'.nA u.rec'.needs.length u.rec'.nc,.slice u.rec'.bA u.rec'.bars.length u.rec'.bc,.slice u.rec'.fA u.rec'.fts.length u.rec'.fc,.int .u64 u.sum,.bool u.yk],57⟩,⟨b5, #[.string (mkS y.name),.slice y.A y.es.length y.cap],49⟩]++ob) (λ_=>True) [] (λnj=>fI 10 [] (x_h2 [0,0] 6 9
  (z6 [] (λw hO=>hplace w) (bN 50027 [] 7 hA y.es.length y.cap i 11 hiy (bL 50028 [] 8 57 eb (eo+i*11+0) (evV u) (λw hO=>hel w (hO.past 1 ob)) (zW [] 9 (d8 λb6=>nj b6 [0] trivial Kr)))))
  (d8 λb6=>zW [] 6 (z6 [] (λw hO=>hplace w) (bN 50027 [] 7 hA y.es.length y.cap i 11 hiy (bL 50028 [] 8 57 eb (eo+i*11+0) (evV u) (λw hO=>hel w (hO.past 1 ob)) (nj b6 [0] trivial Kr))))))) (λb6 g _=> ?_)
 refine yC (R:=λv o=>∃ z:Hv,v= .tuple #[hvV z,YI 0]/\z.sh=⟨y.name,gP y.sh.es i true⟩/\ShO z o) [1,0,0] (λw hO=>yank_own true (hO.past 2 ob) (λb h=>h) hyO hM hp hpre hbld (hK.on hO.below)) ?_
 rintro _ ob1 ⟨a,rfl,ha,haO⟩
 have aM:yX a.sh:=ha▸tB hM
 have ap:zS a.sh.es u.rec'.name u.rec'.ver=(i:Int):=by rw [ha];exact (place_core (fE _ _ _) _ _).trans hp
 refine zB [] λb7=>yC (R:=λv o=>∃ z:Hv,v= .tuple #[hvV z,YI 0]/\z.sh=⟨a.name,gP a.sh.es i true⟩/\ShO z o) [0,0,1,1] (λw hO=>yank_own true (hO.past 3 (ob++ob1)) (λb h=>List.mem_append_right _ h) haO aM ap hpre hbld (hK.on hO.below)) ?_
 rintro _ ob2 ⟨b,rfl,hb,hbO⟩
 have bM:yX b.sh:=hb▸tB (s:=a.sh) aM
 have bp:zS b.sh.es u.rec'.name u.rec'.ver=(i:Int):=by rw [hb];exact (place_core (fE _ _ _) _ _).trans ap
 refine zB [] λb9=>yC (R:=λv o=>∃ z:Hv,v= .tuple #[hvV z,YI 0]/\z.sh=⟨b.name,gP b.sh.es i u.yk⟩/\ShO z o) [0,0,2,2,2] (λw hO=>yank_own u.yk (hO.past 4 (ob++ob1++ob2)) (λb h=>List.mem_append_right _ h) hbO bM bp hpre hbld (hK.on hO.below)) ?_
 rintro _ ob3 ⟨c,rfl,hc,hcO⟩
 have cM:yX c.sh:=hc▸tB (s:=b.sh) bM
 have hab:a.sh=b.sh:=by
  rw [hb,show a.name=a.sh.name from rfl,ha,mark_two]
 have hcs:c.sh=y.sh:=by
  rw [hc,show b.name=b.sh.name from rfl,←hab,ha,mark_two]
  show (⟨y.name,gP y.sh.es i u.yk⟩:Sh)=y.sh
  rw [show u.yk=u.et.yk from rfl,hown];rfl
 have hg:=grown_mark (s:=y.sh) (i:=i) (on:=true) hM
 have hg1:d5 y.sh a.sh/\d5 a.sh y.sh:=by rw [ha];exact hg
 have m0:∀ q∈ob,q∈ob++ob1++ob2++ob3:=λq h=>List.mem_append_left _ (List.mem_append_left _ (List.mem_append_left _ h))
 have m1:∀ q∈ob1,q∈ob++ob1++ob2++ob3:=λq h=>List.mem_append_left _ (List.mem_append_left _ (List.mem_append_right _ h))
 have m2:∀ q∈ob2,q∈ob++ob1++ob2++ob3:=λq h=>List.mem_append_left _ (List.mem_append_right _ h)
 have m3:∀ q∈ob3,q∈ob++ob1++ob2++ob3:=λq h=>List.mem_append_right _ h
 have c1:∀ w,Own [] W w (ob++ob1++ob2++ob3)->YC 42 #[hvV a,hvV b] w (YR (.bool true) w):=λw hO=>by
  have h:=r13Same_any a b w (haO.inn hO m1 aM) (hbO.inn hO m2 bM)
  rw [decide_eq_true hab] at h;exact h
 have c2:∀ w,Own [] W w (ob++ob1++ob2++ob3)->YC 42 #[hvV c,hvV y] w (YR (.bool true) w):=λw hO=>by
  have h:=r13Same_any c y w (hcO.inn hO m3 cM) (iy w _ hO m0)
  rw [decide_eq_true hcs] at h;exact h
 have c3:∀ w,Own [] W w (ob++ob1++ob2++ob3)->YC 44 #[hvV y,hvV a] w (YR (.bool true) w):=λw hO=>by
  have h:=sGrown_any y a w (iy w _ hO m0) (haO.inn hO m1 aM) (hK.on hO.below)
  rw [decide_eq_true hg1.1] at h;exact h
 have c4:∀ w,Own [] W w (ob++ob1++ob2++ob3)->YC 44 #[hvV a,hvV y] w (YR (.bool true) w):=λw hO=>by
  have h:=sGrown_any a y w (haO.inn hO m1 aM) (iy w _ hO m0) (hK.on hO.below)
  rw [decide_eq_true hg1.2] at h;exact h
 exact zB [] λb11=>z6 (v:= .bool true) [] (λw hO=>awake13_any w (hK.on hO.below)) (z6 (v:= .bool true) [2,1] (λw hO=>c1 w (hO.past 5 (ob++ob1++ob2++ob3))) (z6 (v:= .bool true) [0,4] (λw hO=>c2 w (hO.past 5 (ob++ob1++ob2++ob3))) (z6 (v:= .bool true) [4,2] (λw hO=>c3 w (hO.past 5 (ob++ob1++ob2++ob3))) (z6 (v:= .bool true) [2,4] (λw hO=>c4 w (hO.past 5 (ob++ob1++ob2++ob3))) (z7 [] Z4 λw hO=>⟨rfl,hO.below⟩)))))
end Go.Proofs.YteghandhpbmpgaaGreatDoor
end

section
/-
 ShelfTwice: for every input the call returns true, and each argument reads afterwards as it read before. Conditions: none but the row's own, that the listed package-level variables read as the program's text lays them.
-/
namespace Go.Proofs.YteghandhpbmpgaaGreatDoor.shelfTwice
open Go.ChangeShapes Go.WideShapes Go.ChangeAt Go.RowKit
open Go.ChangeMaps (open_string shut_string)
set_option linter.unusedVariables false

set_option maxRecDepth 100000 in
theorem contract (H:Type)(enc:TypeId×Value->H)(W:World)(base:Nat)(args:Array Value)(ds gs:List (DataW H))(before:List MemPlace)
  (hval:∀ (j:Nat) t v,Tryz.f12.params[j]?=some t->args[j]?=some v->Value.okWide Tryz.prog W .any base t v)
  (hW:DataW.Whole enc Tryz.prog Tryz.f12.params.toList Rows.shelfTwiceSpec.vars false W args.toList ds gs before) (hL:laidMetH Tryz.prog Rows.shelfTwiceRow.laid W) (hS:W.ShapedOpen Tryz.prog):
  YC 12 args W λe W'=>∃ v,e= .returned v/\Rows.shelfTwiceSpec.post enc Tryz.prog Tryz.f12 false true false false W args v W':=by
 have ht:HasLib W:=hasLib_of (hasTab_of hL (by rfl)) hS
 have hW':=hW
 obtain ⟨p,q,hA0,hV,rfl,hfz,hnd⟩:=hW
 have hA:DataW.TrodAll enc Tryz.prog W 0 (λ_=>true) true Tryz.f12.params.toList args.toList ds p:=hA0
 rw [Tryz.params12] at hA hval
 obtain ⟨v0,vs0,d0,ds0,p0,q0,hargs,rfl,rfl,h0,r0⟩:=trodAll_cons hA
 obtain ⟨v1,vs1,d1,ds1,p1,q1,rfl,rfl,rfl,h1,r1⟩:=trodAll_cons r0
 obtain ⟨rfl,rfl,rfl⟩:=trodAll_nil r1
 obtain rfl:args= #[v0,v1]:=by cases args;simp_all
 obtain ⟨rfl,rfl⟩:=trodVars_none hV
 obtain ⟨at_,rfl,rfl,rfl,w1⟩:=open_int Tryz.underlying3 (hval 1 3 v1 rfl rfl) h1
 clear hA0
 obtain ⟨l,l_reads,l_len⟩:=open_nums (hval 0 43 v0 rfl rfl) h0
 refine (shelfTwice.law v0 l at_ W l_reads l_len ⟨ht,mkLib_of hL (by rfl)⟩).mono λe W' ⟨he,hb⟩=> ?_
 subst he
 exact ⟨_,rfl,law_end laidOut (λt ht=>by rw [Tryz.params12] at ht;simp at ht;rcases ht with rfl|rfl<;>exact ⟨by kernel_rfl,of_decide_eq_true Kr⟩) rfl rfl Tryz.underlying4 hW' (by rfl) hb⟩

noncomputable def laidWorld (os:Os):World:=
 {World.holding Tryz.prog os ⟨#[], #[],[]⟩ with heap:=layAt (layAt (layAt (layAt (layAt (layAt ((World.holding Tryz.prog os ⟨#[], #[],[]⟩).heap) 6 Rows.laid_math_bits_deBruijn32tab) 7 Rows.laid_math_bits_deBruijn64tab) 3 Rows.laid_internal_strconv_uint64pow10) 5 Rows.laid_unicode_utf8_acceptRanges) 2 Rows.laid_linchpin_mark_keys) 4 Rows.laid_unicode_utf8_first}
theorem laid_met (os:Os):laidMet Tryz.prog Rows.shelfTwiceRow.laid ((laidWorld os).forCall (λ_ _=>0) ⟨#[], #[.slice none 0 0,YI 0],[]⟩).memory:=
 laidMet_of_run' 8 Kr Kr
theorem reads (os:Os){H:Type}(enc:TypeId×Value->H):∃ places,DataW.whole enc Tryz.prog ((laidWorld os).forCall (λ_ _=>0) ⟨#[], #[.slice none 0 0,.int .i64 0],[]⟩).memory Tryz.f12.params.toList Rows.shelfTwiceSpec.vars false (#[.slice none 0 0,.int .i64 0]:Array Value).toList 8=some ([.nil,.lit (.int .i64 0)],[],places):=
 ⟨[],by kernel_rfl⟩

set_option maxRecDepth 100000 in
theorem lifted (os:Os)(started:os.Started)(H:Type)(enc:TypeId×Value->H)(F:Stop.Interp):
  ReturnsInHanded {} Tryz.checked os 12 .any ((OpenSpec.ofChange Rows.shelfTwiceSpec).preRow enc Tryz.prog Tryz.f12 Rows.shelfTwiceRow.domain false Rows.shelfTwiceRow.laid) (((OpenSpec.ofChange Rows.shelfTwiceSpec).at F).post enc Tryz.prog Tryz.f12 false true false false):=by
 obtain ⟨places,hx⟩:=reads os enc
 refine returnsInHanded_of_row (C:=Tryz.checked) (s:=OpenSpec.ofChange Rows.shelfTwiceSpec) own started Kr Tryz.func12
  (witness_row_at (enc:=enc) (C:=Tryz.checked) false (laidWorld os) #[.slice none 0 0,YI 0] rfl Kr Kr Kr
   (OpenSpec.preRow_of_cond 8 hx Kr (λk hk=>by cases hk) Kr (laid_met os))) ?_
 intro W base args ds gs before hval hW _ _ _ hL hS _
 exact contract H enc W base args ds gs before hval hW hL hS

theorem j1:(Rows.shelfTwiceRow.inPlace==Tryz.pinned.checked.prog.inPlace 12)=true:=by kernel_rfl
theorem j2:(Rows.shelfTwiceRow.unfollowed==Tryz.pinned.checked.prog.unfollowed 12)=true:=by kernel_rfl
theorem j3:(Rows.shelfTwiceRow.recurses==Tryz.pinned.checked.prog.recurses 12)=true:=by kernel_rfl
theorem j4:(Rows.shelfTwiceRow.named==Tryz.pinned.checked.prog.varsNamed 12)=true:=by kernel_rfl
theorem j5:(Rows.shelfTwiceRow.lifted==Tryz.pinned.checked.prog.liftsFinal)=true:=by kernel_rfl
theorem closed:joinedFacts Tryz.pinned.checked.prog 12 Tryz.f12 (OpenSpec.ofChange Rows.shelfTwiceSpec).bare Rows.shelfTwiceRow=true:=by
 unfold joinedFacts
 rw [jfLaid,jfMaps,j1,j2,j3,j4,jfHeard,jfEnter,j5]
 kernel_rfl

theorem said:Rows.ShelfTwiceSaid:=
 OpenClaim.holds_of_cond 12 Tryz.f12 rfl rfl rfl rfl rfl rfl rfl ⟨rfl,rfl,rfl,rfl,rfl⟩ rfl rfl rfl rfl rfl Kr Tryz.func12 closed
  (of_decide_eq_true Kr) (by unfold Func.isWrapper;first|(rw [if_pos (by decide+kernel)];kernel_rfl)|(rw [if_neg (by decide+kernel)];exact ⟨rfl,rfl⟩))
  (λos started H enc _ F=>by rw [OpenClaim.pre_eq_preRow];exact lifted os started H enc F)

theorem plain (f : FuncId) (fn : Func) (hf : Tryz.pinned.checked.prog.funcNamed "linchpin/linchpinlaw13.ShelfTwice" = some f) (hfn : Tryz.pinned.checked.prog.funcs[f]? = some fn) :
  false=Tryz.pinned.checked.prog.looks []∧∀ (j:Nat) t,fn.params[j]?=some t->Tryz.pinned.checked.prog.wantsStandIn t=false:=by
 obtain rfl : f = 12 := Option.some.inj ((show Tryz.prog.funcNamed "linchpin/linchpinlaw13.ShelfTwice" = some 12 by kernel_rfl).symm.trans hf) |>.symm
 obtain rfl:fn=Tryz.f12:=(Option.some.inj (Tryz.func12.symm.trans hfn)).symm
 refine ⟨by kernel_rfl,λj t ht=> ?_⟩
 rw [Tryz.params12] at ht
 have hm:=Array.mem_of_getElem? ht
 simp at hm
 rcases hm with rfl|rfl
 ·exact (show Tryz.prog.wantsStandIn 43=false by kernel_rfl)
 ·exact (show Tryz.prog.wantsStandIn 3=false by kernel_rfl)

theorem goes:false=Rows.shelfTwiceRow.goesBy Tryz.pinned.checked.prog:=by kernel_rfl
theorem card:Rows.ShelfTwiceCardSaid:=
 Claim7.holds_tied_plain_at .later [] _ _ _ _ said (λ_ h=>by cases h) Kr (λ_ h=>by cases h) shelfTwice_row_tie rfl ⟨rfl,rfl⟩ Kr rfl plain goes

#print axioms card
end Go.Proofs.YteghandhpbmpgaaGreatDoor.shelfTwice
end
