import Derived.Lib.SplitLaws
import Derived.Lib.TrimByte
import Derived.Lib.Join
import Derived.Shelf.Strings.SplitCore
import Derived.Lib.MakeNoZero
import Derived.Laws.IdiomCopy
import Derived.Laws.BitsAllLaws
import Derived.Laws.Entries
import Derived.Laws.IdiomStrings
import Derived.Scope
import Derived.Lib.OthersKept
import Derived.Lib.IndexBytes
import Derived.Laws.OwnMore
import Derived.Test.YtflhcaljcoekpaaGreatDoorSF3
set_option maxRecDepth 1000000
set_option maxHeartbeats 8000000
set_option linter.unusedVariables false
set_option linter.unusedSimpArgs false
set_option linter.unnecessarySimpa false
namespace Go.Proofs.YtflhcaljcoekpaaGreatDoor
open Go.RowKit

section
structure Rs where
 rc:Rt
 st:Int
def nilT:Rt:=⟨[],Ver.zero,[],[],[]⟩
def dH:YL:=[112,97,99,107,97,103,101]
def nM:YL:=[110,101,101,100]
def wAny:YL:=[97,110,121]
def nL:YL:=[119,104,101,110]
def wOpt:YL:=[111,112,116,105,111,110]
def pU:YL:=[98,97,114]
def noE (l:List YL):Bool:=l.all λs=>decide (s≠[])
def restW (s:YL)(k:Nat):Option (List YL×YL):=
 if (zJ 32 [] s).length<=k then none else if noE ((zJ 32 [] s).take k)=false then none else if zE 32 ((zJ 32 [] s).drop k)=[] then none else some ((zJ 32 [] s).take k,zE 32 ((zJ 32 [] s).drop k))
def jI {α:Type}(f:α->α):List α->List α
 | []=>[]
 | [a]=>[f a]
 |a::b::r=>a::jI f (b::r)
def headS (l:List YL):Option Rs:=
 if l.length=3/\l.getD 0 []=dH/\l.getD 1 []≠[]/\parE (l.getD 2 [])=0 then some ⟨⟨l.getD 1 [],parV (l.getD 2 []),[],[],[]⟩,1⟩ else none
def anyW (w:List YL)(t:YL):Wt:=⟨w.getD 1 [],t,if w.getD 2 []=[45] then [] else zJ 44 [] (w.getD 2 []),decide (w.getD 3 []=mJ)⟩
def anyS (x:Rs)(s:YL):Option Rs:=match restW s 4 with
 |none=>none
 |some (w,t)=>if x.st=2/\(w.getD 3 []=mJ\/w.getD 3 []=dJ) then some ⟨{x.rc with needs:=jI (λn=>{n with any:=n.any++[anyW w t]}) x.rc.needs},2⟩ else none
def whenS (x:Rs)(s:YL):Option Rs:=match restW s 1 with
 |none=>none
 |some (_,t)=>if x.st=2 then some ⟨{x.rc with needs:=jI (λn=>{n with wh:=t}) x.rc.needs},3⟩ else if x.st=5 then some ⟨{x.rc with bars:=jI (λb=>{b with wh:=t}) x.rc.bars},6⟩ else none
def optS (x:Rs)(l:List YL):Option Rs:=
 if l.length=2/\noE l=true/\(x.st=2\/x.st=3) then some ⟨{x.rc with needs:=jI (λn=>{n with opt:=l.getD 1 []}) x.rc.needs},4⟩ else none
def barS (x:Rs)(s:YL):Option Rs:=match restW s 2 with
 |none=>none
 |some (w,t)=>if x.st<=6 then some ⟨{x.rc with bars:=x.rc.bars++[⟨w.getD 1 [],t,[]⟩]},5⟩ else none
def featS (x:Rs)(l:List YL):Option Rs:=
 if 2<=l.length/\noE l=true then some ⟨{x.rc with fts:=x.rc.fts++[⟨l.getD 1 [],l.drop 2⟩]},7⟩ else none
def needS (x:Rs)(l:List YL):Option Rs:=if l.length=1/\x.st<5 then some ⟨{x.rc with needs:=x.rc.needs++[⟨[],[],[]⟩]},2⟩ else none
def lineS (x:Rs)(s:YL):Option Rs:=
 if x.st=0 then headS (zJ 32 [] s)
 else if (zJ 32 [] s).getD 0 []=nM then needS x (zJ 32 [] s)
 else if (zJ 32 [] s).getD 0 []=wAny then anyS x s
 else if (zJ 32 [] s).getD 0 []=nL then whenS x s
 else if (zJ 32 [] s).getD 0 []=wOpt then optS x (zJ 32 [] s)
 else if (zJ 32 [] s).getD 0 []=pU then barS x s
 else if (zJ 32 [] s).getD 0 []=x1 then featS x (zJ 32 [] s)
 else none
def runS:Rs->List YL->Option Rs
 |x,[]=>some x
 |x,s::r=>match lineS x s with
  |some y=>runS y r
  |none=>none
def badS:Rs->Nat->List YL->Int
 |_,_,[]=>0
 |x,k,s::r=>match lineS x s with
  |some y=>badS y (k+1) r
  |none=>((k+1:Nat):Int)
def linesOf (s:YL):List YL×Bool:=if (zJ 10 [] s).getLast?=some [] then ((zJ 10 [] s).dropLast,true) else (zJ 10 [] s,false)
def doneS (x:Rs):Rt×Int×Int:=if x.st=0 then (nilT,2,1) else if (zN x.rc).1≠0 then (nilT,(zN x.rc).1,0) else (x.rc,0,0)
def readT (s:YL):Rt×Int×Int:=
 if 4096<s.length then (nilT,3,0)
 else match runS ⟨nilT,0⟩ (zJ 10 [] s).dropLast with
  |none=>(nilT,2,badS ⟨nilT,0⟩ 0 (zJ 10 [] s).dropLast)
  |some x=>if (zJ 10 [] s).getLast?=some [] then doneS x else (nilT,2,((zJ 10 [] s).length:Int))
def headL (r:Rt):YL:=zE 32 [dH,r.name,r.ver.print]
def wishL (x:Wt):YL:=zE 32 [wAny,x.name,qT x.fs,vX x.bare,x.rng]
def whenL (s:YL):List YL:=if s=[] then [] else [zE 32 [nL,s]]
def optnL (s:YL):List YL:=if s=[] then [] else [zE 32 [wOpt,s]]
def needLs (n:Nt):List YL:=nM::(n.any.map wishL++whenL n.wh++optnL n.opt)
def barLs (b:Bt):List YL:=zE 32 [pU,b.name,b.rng]::whenL b.wh
def featL (f:Ft):YL:=zE 32 (x1::f.name::f.of)
def recLs (r:Rt):List YL:=headL r::(r.needs.flatMap needLs++r.bars.flatMap barLs++r.fts.map featL)
def unL (l:List YL):YL:=l.flatMap λs=>s++[10]
theorem wishL_text (x:Wt):wishL x++[10]=x7 x:=by
 unfold wishL x7
 simp only [zE,wAny,txAny,List.append_assoc,List.cons_append,List.nil_append]
end
section
end
section
end
section
def dS (b:UInt8):Nat->YL->List YL
 |0,s=>[s]
 |k+1,s=>if (zA b s).2.2 then (zA b s).1::dS b k (zA b s).2.1 else [s]
structure La where
 kind:Nat
 word:YL
 lo:Nat
 hi:Nat
 parts:Nat
 opn:Bool
 more:Bool
deriving DecidableEq
def lays:List La:=[⟨1,dH,0,0,3,false,false⟩,⟨2,nM,1,5,1,false,false⟩,⟨3,wAny,2,3,5,true,false⟩,⟨4,nL,2,3,2,true,false⟩,⟨5,wOpt,2,4,2,false,false⟩,⟨6,pU,1,7,3,true,false⟩,⟨7,nL,6,6,2,true,false⟩,⟨8,x1,1,8,2,false,true⟩]
def laPs (l:La)(s:YL):List YL:=if l.opn then dS 32 (l.parts-1) s else zJ 32 [] s
def laOk (l:La)(s:YL):Bool:=(decide ((laPs l s).length=l.parts)||(l.more && decide (l.parts<(laPs l s).length))) && decide ((laPs l s).getD 0 []=l.word) && noE (laPs l s)
def addA (x:Rt)(kind:Nat)(p:List YL):Rt×Bool:=
 match kind with
 |1=>({x with name:=p.getD 1 [],ver:=parV (p.getD 2 [])},decide (parE (p.getD 2 [])=0))
 |2=>({x with needs:=x.needs++[⟨[],[],[]⟩]},true)
 |3=>({x with needs:=jI (λn=>{n with any:=n.any++[anyW p (p.getD 4 [])]}) x.needs},decide (p.getD 3 []=mJ)||decide (p.getD 3 []=dJ))
 |4=>({x with needs:=jI (λn=>{n with wh:=p.getD 1 []}) x.needs},true)
 |5=>({x with needs:=jI (λn=>{n with opt:=p.getD 1 []}) x.needs},true)
 |6=>({x with bars:=x.bars++[⟨p.getD 1 [],p.getD 2 [],[]⟩]},true)
 |7=>({x with bars:=jI (λb=>{b with wh:=p.getD 1 []}) x.bars},true)
 |8=>({x with fts:=x.fts++[⟨p.getD 1 [],p.drop 2⟩]},true)
 |_=>(x,true)
def takeIn (x:Rt)(last:Nat)(s:YL):List La->Option (Rt×Nat)
 | []=>none
 |l::r=>if l.lo<=last/\last<=l.hi/\laOk l s=true then (if (addA x l.kind (laPs l s)).2 then some ((addA x l.kind (laPs l s)).1,l.kind) else none) else takeIn x last s r
def stg:Nat->Int
 |0=>0|1=>1|2=>2|3=>2|4=>3|5=>4|6=>5|7=>6|_=>7
structure InvA (x:Rt)(k:Nat):Prop where
 le:k<=8
 z:k=0->x=nilT
 n:2<=k->k<=5->x.needs≠[]
 b:6<=k->k<=7->x.bars≠[]
abbrev fitA (l:La)(last:Nat)(s:YL):Prop:=l.lo<=last/\last<=l.hi/\laOk l s=true
def outA (x:Rt)(s:YL)(l:La):Option (Rt×Nat):=if (addA x l.kind (laPs l s)).2 then some ((addA x l.kind (laPs l s)).1,l.kind) else none
def SameA (a:Option (Rt×Nat))(b:Option Rs):Prop:=match a,b with
 |none,none=>True
 |some (x,k),some y=>y=⟨x,stg k⟩/\InvA x k
 |_,_=>False
end
section
def flatC:List Sp->List Cu
 | []=>[]
 |s::l=>s.lo::s.hi::flatC l
def altRel (a:List Co):List Sp:=a.foldl (λl c=>andL l c.region) wholeL
def altZone (a:List Co):List Sp:=a.foldl (λl c=>orL l c.zone) []
def altSet (a:List Co):St:=⟨makeRel (altRel a),andL (altRel a) (altZone a)⟩
def orAll (r:List (List Co)):St:=r.foldl (λs a=>orT s (altSet a)) noneT
def rgSet (r:List (List Co)):St:=if rgMay r then orAll r else noneT
end
section
theorem altsL_index:∀ (s acc:YL),j6 acc s=if Lib.index s [124,124]= -1 then [acc++s] else (acc++s.take (Lib.index s [124,124]).toNat)::j6 [] (s.drop ((Lib.index s [124,124]).toNat+2))
 | [],acc=>by simp [j6,Lib.index]
 | [c],acc=>by simp [j6,Lib.index,List.isPrefixOf]
 |c::d::r,acc=>by
  by_cases h:c=124/\d=124
  ·obtain ⟨rfl,rfl⟩:=h
   have e:Lib.index (124::124::r) [124,124]=0:=by simp [Lib.index,List.isPrefixOf]
   rw [e,j6,if_pos ⟨rfl,rfl⟩,if_neg (by decide)];simp
  ·have hp:List.isPrefixOf ([124,124]:YL) (c::d::r)=false:=by
    rw [List.isPrefixOf,List.isPrefixOf,List.isPrefixOf]
    by_cases hc:c=124
    ·have hd:¬ d=124:=λq=>h ⟨hc,q⟩
     have:((124:UInt8)==d)=false:=beq_eq_false_iff_ne.2 (Ne.symm hd)
     simp [this]
    ·have:((124:UInt8)==c)=false:=beq_eq_false_iff_ne.2 (Ne.symm hc)
     simp [this]
   have ge:=Lib.index_ge (d::r) [124,124]
   rw [j6,if_neg h,altsL_index (d::r) (acc++[c])]
   have e:Lib.index (c::d::r) [124,124]=if Lib.index (d::r) [124,124]= -1 then-1 else Lib.index (d::r) [124,124]+1:=by
    conv=>lhs;rw [Lib.index]
    rw [hp,if_neg (by decide)]
    simp
   rw [e]
   generalize Lib.index (d::r) [124,124]=n at ge
   by_cases hn:n= -1
   ·subst hn;simp
   ·rw [if_neg hn,if_neg hn,if_neg Om]
    have e2:(n+1).toNat=n.toNat+1:=by omega
    rw [e2,List.take_succ_cons,show n.toNat+1+2=(n.toNat+2)+1 from by omega,List.drop_succ_cons]
    simp
theorem tT (sep:YL):∀ (f:Nat) (s:YL),s.length<f->Lib.splitK sep 0 (Lib.countFrom sep f s) s=if Lib.index s sep= -1 then [s] else s.take (Lib.index s sep).toNat::Lib.splitK sep 0 (Lib.countFrom sep (f-1) (s.drop ((Lib.index s sep).toNat+sep.length))) (s.drop ((Lib.index s sep).toNat+sep.length))
 |f+1,s,h=>by
  rw [Lib.countFrom]
  by_cases q:Lib.index s sep= -1
  ·rw [if_pos (by simp [q]),if_pos q,Lib.splitK]
  ·rw [if_neg (by simp [q]),if_neg q,Nat.add_comm 1,Lib.splitK,if_neg (by simp [q]),Nat.add_zero];rfl
theorem alts_from:∀ (f:Nat) (s:YL),s.length<f->Lib.splitK [124,124] 0 (Lib.countFrom [124,124] f s) s=j6 [] s
 |f+1,s,h=>by
  rw [tT _ _ _ h,altsL_index s []]
  by_cases q:Lib.index s [124,124]= -1
  ·rw [if_pos q,if_pos q];rfl
  ·have hr:=Lib.index_room s [124,124] (by have:=Lib.index_ge s [124,124];omega)
   rw [if_neg q,if_neg q]
   show _::Lib.splitK [124,124] 0 (Lib.countFrom [124,124] f _) _=_
   rw [alts_from f _ (by rw [List.length_drop];simp only [List.length_cons,List.length_nil];simp only [List.length_cons,List.length_nil] at hr;have:=Lib.index_ge s [124,124];omega)]
   rfl
theorem split_alts (s:YL):Lib.splitK [124,124] 0 (Lib.count s [124,124]) s=j6 [] s:=alts_from _ s (Nat.lt_succ_self _)
theorem cut_index (b:UInt8)(s:YL):zJ b [] s=if Lib.index s [b]= -1 then [s] else s.take (Lib.index s [b]).toNat::zJ b [] (s.drop ((Lib.index s [b]).toNat+1)):=by
 have hc:=tK b s
 have hge:=Lib.index_ge s [b]
 rw [qP,←hc]
 unfold Lib.cut
 by_cases h:Lib.index s [b]= -1
 ·have h2:¬ 0<=Lib.index s [b]:=by omega
  simp [h]
 ·have h2:0<=Lib.index s [b]:=by omega
  simp [h,h2]
theorem cuts_from (b:UInt8):∀ (f:Nat) (s:YL),s.length<f->Lib.splitK [b] 0 (Lib.countFrom [b] f s) s=zJ b [] s
 |f+1,s,h=>by
  rw [tT _ _ _ h,cut_index b s]
  by_cases q:Lib.index s [b]= -1
  ·rw [if_pos q,if_pos q]
  ·have hr:=Lib.index_room s [b] (by have:=Lib.index_ge s [b];omega)
   rw [if_neg q,if_neg q]
   show _::Lib.splitK [b] 0 (Lib.countFrom [b] f _) _=_
   rw [cuts_from b f _ (by rw [List.length_drop];simp only [List.length_cons,List.length_nil];simp only [List.length_cons,List.length_nil] at hr;have:=Lib.index_ge s [b];omega)]
   rfl
theorem split_cuts (b:UInt8)(s:YL):Lib.splitK [b] 0 (Lib.count s [b]) s=zJ b [] s:=cuts_from b _ s (Nat.lt_succ_self _)
theorem tU (sep:YL)(k:Nat)(s:YL):Lib.splitB (mkS sep) 0 k (mkS s)=(Lib.splitK sep 0 k s).map mkS:=by
 have h:=Lib.splitB_data (mkS sep) 0 k (mkS s)
 rw [mk_data,mk_data] at h
 rw [←h,List.map_map]
 refine ((List.map_congr_left λx _=> ?_).trans (List.map_id _)).symm
 exact Lib.mk_data x
theorem splitB_alts (s:YL):Lib.splitB (mkS [124,124]) 0 (Lib.countB (mkS s) (mkS [124,124])) (mkS s)=(j6 [] s).map mkS:=by
 rw [tU,show Lib.countB (mkS s) (mkS [124,124])=Lib.count s [124,124] from by unfold Lib.countB;rw [mk_data,mk_data],split_alts]
theorem nE:∀ (s:YL),Lib.trimLeftB s 32=xN s
 | []=>rfl
 |c::l=>by
  unfold Lib.trimLeftB
  rw [xN,List.dropWhile_cons]
  by_cases h:c=32
  ·subst h
   rw [if_pos (by decide),if_pos rfl];exact nE l
  ·rw [if_neg (by simp [h]),if_neg h]
def bareR (s:YL):YL:=(xN s.reverse).reverse
theorem bareF_snoc {c:UInt8}(h:c≠32):∀ (x:YL),xN (x++[c])=xN x++[c]
 | []=>by
  show xN [c]=[c]
  rw [xN];exact if_neg h
 |d::x=>by
  rw [List.cons_append,xN,xN]
  by_cases q:d=32
  ·rw [if_pos q,if_pos q,bareF_snoc h x]
  ·rw [if_neg q,if_neg q];rfl
theorem pP:∀ (x:YL),xN (x++[32])=if xN x=[] then [] else xN x++[32]
 | []=>by simp [xN]
 |d::x=>by
  rw [List.cons_append,xN,xN]
  by_cases q:d=32
  ·rw [if_pos q,if_pos q,pP x]
  ·rw [if_neg q,if_neg q,if_neg (by simp)];rfl
theorem bare_swap:∀ (s:YL),xN (bareR s)=bareR (xN s)
 | []=>rfl
 |c::l=>by
  have ih:=bare_swap l
  by_cases h:c=32
  ·subst h
   rw [show xN (32::l)=xN l from by rw [xN,if_pos rfl],←ih]
   unfold bareR
   rw [List.reverse_cons,pP]
   by_cases q:xN l.reverse=[]
   ·rw [if_pos q,q]
   ·rw [if_neg q,List.reverse_append]
    show xN (32::(xN l.reverse).reverse)=_
    rw [xN,if_pos rfl]
  ·rw [show xN (c::l)=c::l from by rw [xN,if_neg h]]
   unfold bareR
   rw [List.reverse_cons,bareF_snoc h,List.reverse_append]
   show xN (c::(xN l.reverse).reverse)=c::(xN l.reverse).reverse
   rw [xN,if_neg h]
theorem trim_bare (s:YL):Lib.trimB s 32=bareL s:=by
 unfold Lib.trimB Lib.trimRightB
 have e:∀ l:YL,l.dropWhile (·==32)=xN l:=nE
 rw [e,nE]
 exact bare_swap s
def textR (r:List (List Co)):YL:=if fewR r then rgText r else []
end
section
def pcsK:Nat->YL->List YL
 |0,s=>[s]
 |k+1,s=>if (zA 46 s).2.2 then (zA 46 s).1::pcsK k (zA 46 s).2.1 else [s]
def sgo (s:YL):Nat->Int×YL
 |0=>(7,s)
 |k+1=>if kL s (vC ((k+1:Nat):Int))=true/\(s.drop (vC ((k+1:Nat):Int)).length).length<(sgo s k).2.length then (((k+1:Nat):Int),s.drop (vC ((k+1:Nat):Int)).length) else sgo s k
def fI (s:YL):List YL:=pcsK 2 (zA 45 (sgo s 8).2).1
def starP (s:YL):Bool:=decide ((fI s).getLast?=some [42])
def guessP (s:YL):Co:=⟨if starP s then 9 else (sgo s 8).1,if starP s then ((fI s).length:Int) -1 else ((fI s).length:Int),⟨yZ (tg (fI s) 0),yZ (tg (fI s) 1),yZ (tg (fI s) 2),(zA 45 (sgo s 8).2).2.1,[]⟩⟩
def behC (c:Co):Cu:=if c.parts=3 then ⟨0,c.v,true⟩ else if c.parts=0 then vR 1 else pG c.v (c.parts-1).toNat
def leadK (c:Co):Int:=if ¬ c.v.maj=0 then 0 else if ¬ c.v.min=0 then 1 else if ¬ c.v.pat=0 then 2 else c.parts-1
def boundC (c:Co):Cu×Cu:=
 if c.op=3 then (vR (-1),⟨0,c.v,false⟩) else if c.op=4 then (vR (-1),behC c) else if c.op=5 then (behC c,vR 1) else if c.op=6 then (⟨0,c.v,false⟩,vR 1)
 else if c.op=7 then (⟨0,c.v,false⟩,pG c.v (leadK c).toNat) else if c.op=8 then (⟨0,c.v,false⟩,pG c.v (min (c.parts-1) 1).toNat) else if c.parts=0 then (vR (-1),vR 1) else (⟨0,c.v,false⟩,behC c)
end
section
def cpL (s t:YL):YL:=if kL s t=true then s.drop t.length else s
theorem m8:∀ (t s:YL),t.isPrefixOf s=kL s t
 | [],s=>by simp [kL]
 |a::t,[]=>by simp [kL,List.isPrefixOf]
 |a::t,b::s=>by
  have ih:=m8 t s
  unfold kL at ih ⊢
  rw [List.isPrefixOf,ih,List.length_cons,List.take_succ_cons]
  by_cases h:a=b
  ·subst h;simp
  ·simp [h,Ne.symm h]
theorem cutpre_any (s t:YL)(w:World):YC 213 #[.string (mkS s),.string (mkS t)] w (YR (.tuple #[.string (mkS (cpL s t)),.bool (kL s t)]) w):=
 (Tryz.strings_CutPrefix (mkS s) (mkS t) w).mono λe w' ⟨he,hw⟩=>by
  subst hw
  refine ⟨?_,Below.refl _ _⟩
  rw [he,mk_data,mk_data]
  unfold Lib.trimPrefix Lib.hasPrefix cpL
  rw [m8];rfl
end
section
set_option linter.unnecessarySimpa false
theorem reads_t {w:World}{A:Option Addr}{cap:Nat}{l:List YL}{B:Nat}(h:Reads y9 w B A l)(hB:B<=B):ReadsT w B (.slice A l.length cap) l:=
 ⟨A,cap,rfl,λh0=>by
  obtain ⟨b,off,e,hlt,hc⟩:=h h0
  refine ⟨⟨b,off,none⟩,e,hlt,λj hj=> ?_⟩
  rw [yI]
  refine hc j _ ?_
  rw [←x5]
  unfold vH
  rw [List.getElem?_map,List.getElem?_eq_getElem hj];rfl⟩
theorem tY (s:YL)(W:World)(hs:s.length<=1000000):YC 127 #[.string (mkS s)] W (YR (.string (mkS (kR s))) W):=by
 refine z8 Tryz.func127 (kJ 4 [] s [] (λh=> ?_) (λh=> ?_))
 ·exact z7 [] (.string ⟨#[]⟩) λw hO=>⟨by rw [show kR s=[] from if_pos h];rfl,hO.below⟩
 ·refine kC 6 [] bR s (kC 7 [] (bR++s) [10] ?_ ?_) ?_
  ·exact z7 [] (.string (mkS (bR++s++[10]))) λw hO=>⟨by rw [show kR s=bR++s++[10] from if_neg h],hO.below⟩
  ·unfold bR;simp only [List.length_append,List.length_cons,List.length_nil];omega
  ·unfold bR;simp only [List.length_cons,List.length_nil];omega
theorem r12wished_any (x:Wv)(W:World)(hv:Reads y9 W W.heap.size x.A x.fs)(hn:x.fs.length<=5000)(ht:(x7 x.wt).length<=100000000):YC 126 #[wvV x] W (YR (.string (mkS (x7 x.wt))) W):=by
 have hT:(x7 x.wt).length=4+x.name.length+1+(qT x.fs).length+1+4+1+x.rng.length+1:=by
  unfold x7 vX txAny mJ dJ Wv.wt
  cases x.bare<;>simp only [List.length_append,List.length_cons,List.length_nil,if_true,Bool.false_eq_true,if_false]
 rw [hT] at ht
 have main:∀ (fl kd:YL),fl=qT x.fs->kd=vX x.bare->txAny++x.name++[32]++fl++[32]++kd++[32]++x.rng++[10]=x7 x.wt:=λfl kd h1 h2=>by rw [h1,h2];rfl
 have hk4:(vX x.bare).length=4:=by unfold vX;cases x.bare<;>rfl
 have hJ:∀ w,YB W w->x.fs≠[]->YC 128 #[.slice x.A x.fs.length x.cap,.int .u8 44] w (YR (.string (mkS (qT x.fs))) w):=λw hb hne=>by
  have hw:qT x.fs=zE 44 x.fs:=if_neg hne
  rw [hw]
  exact fG _ x.fs 44 w (reads_t (hv.on hb hb.size) (Nat.le_refl _)) (by rw [←hw];omega) Om
 refine z8 Tryz.func126 (zZ [] λb1=>wE 8 (α:=YL) (λfl=>[(1,Zp b1 0),(3,.string (mkS fl)),(4,.string (mkS dJ))]) (λ_=>[⟨b1, #[.string (mkS x.name),.string (mkS x.rng),.slice x.A x.fs.length x.cap,.bool x.bare],139⟩]) (λfl=>fl=qT x.fs) [0] (λnj=>fY 8 ((0:Int)<(x.fs.length:Int)) (λh=> ?_) (λh=> ?_)) (λfl g hfl=> ?_))
 ·refine z6 (v:= .string (mkS (qT x.fs))) [0] (λw hO=>hJ w hO.below (λe=>by rw [e] at h;simp at h)) (nj (qT x.fs) [] rfl Kr)
 ·exact nj [45] [] (show [45]=qT x.fs from by unfold qT;rw [if_pos (List.eq_nil_of_length_eq_zero Om)]) Kr
 refine wE 13 (α:=YL) (λkd=>[(1,Zp b1 0),(3,.string (mkS fl)),(4,.string (mkS kd))]) (λ_=>[⟨b1, #[.string (mkS x.name),.string (mkS x.rng),.slice x.A x.fs.length x.cap,.bool x.bare],139⟩]) (λkd=>kd=vX x.bare) [0] (λnj=>zL 13 x.bare (λh=>nj mJ [] (by rw [h];rfl) Kr) (λh=>nj dJ [] (by rw [h];rfl) Kr)) (λkd g2 hkd=> ?_)
 have hfl':fl.length=(qT x.fs).length:=by rw [hfl]
 have hkd':kd.length=4:=by rw [hkd];exact hk4
 have ha:txAny.length=4:=rfl
 refine kC 16 [0] txAny x.name (kC 17 [] (txAny++x.name) [32] (kC 19 [] (txAny++x.name++[32]) fl (kC 20 [] (txAny++x.name++[32]++fl) [32] (kC 22 [] (txAny++x.name++[32]++fl++[32]) kd (kC 23 [] (txAny++x.name++[32]++fl++[32]++kd) [32] (kC 26 [0] (txAny++x.name++[32]++fl++[32]++kd++[32]) x.rng (kC 27 [] (txAny++x.name++[32]++fl++[32]++kd++[32]++x.rng) [10] ?_)))))))
 exact z7 [] (.string (mkS (txAny++x.name++[32]++fl++[32]++kd++[32]++x.rng++[10]))) λw hO=>⟨by rw [main fl kd hfl hkd],hO.below⟩
end
section
theorem wG (b:UInt8):∀ (k:Nat) (s:YL),Lib.splitK [b] 0 k s=dS b k s
 |0,s=>rfl
 |k+1,s=>by
  have hc:=tK b s
  have hge:=Lib.index_ge s [b]
  unfold Lib.splitK dS
  rw [←hc]
  unfold Lib.cut
  by_cases h:Lib.index s [b]= -1
  ·have h2:¬ 0<=Lib.index s [b]:=by omega
   simp [h]
  ·have h2:0<=Lib.index s [b]:=by omega
   simp [h,h2,wG b k]
theorem pcsB_more (b:UInt8):∀ (k:Nat) (s:YL),s.length<=k->dS b k s=dS b (k+1) s
 |0,s,h=>by
  obtain rfl:=List.eq_nil_of_length_eq_zero (Nat.le_zero.1 h)
  rfl
 |k+1,s,h=>by
  have hl:=cutAt_len b s
  rw [dS]
  conv=>rhs;rw [dS]
  cases hq:(zA b s).2.2 with
  |false=>rw [if_neg Bool.false_ne_true,if_neg Bool.false_ne_true]
  |true=>
   rw [hq,if_pos rfl] at hl
   rw [if_pos rfl,if_pos rfl,pcsB_more b k _ Om]
theorem pcsB_min (b:UInt8)(s:YL):∀ k:Nat,dS b (min k s.length) s=dS b k s
 |0=>by rw [Nat.zero_min]
 |k+1=>by
  by_cases h:s.length<=k
  ·rw [Nat.min_eq_right Om,←pcsB_more b k s h,←pcsB_min b s k,Nat.min_eq_right h]
  ·rw [Nat.min_eq_left Om]
theorem p5 (b:UInt8):∀ (k:Nat) (s:YL),1<=(dS b k s).length/\(dS b k s).length<=k+1
 |0,s=>⟨Nat.le_refl _,Nat.le_refl _⟩
 |k+1,s=>by
  have h:=p5 b k (zA b s).2.1
  unfold dS
  split
  ·simp only [List.length_cons];omega
  ·simp
theorem splitC_any (c0:UInt8)(s:YL)(n:Int)(W:World)(hs:s.length<=1000000)(hn:n= -1\/1<=n/\n<=1000):
  YC 300 #[.string (mkS s),.string ⟨#[c0]⟩,YI 0,YI n] W λe w'=>∃ v' ob',e= .returned v'/\SlT v' (if n<0 then zJ c0 [] s else dS c0 (n.toNat-1) s) ob'/\Own [] W w' ob':=by
 have hsz:=y4 s
 have hI:∀ (x:ByteArray) (c:Array Value),x.size<=(mkS s).size->YC 333 #[.string x,.string ⟨#[c0]⟩] (W.alloc (.cells c 9)) λe w'=>e= .returned (YI (Lib.indexB x ⟨#[c0]⟩))/\w'=W.alloc (.cells c 9):=
  λx c _=>(Tryz.strings_Index_one x c0 _).mono λe w' ⟨he,hw⟩=>⟨by rw [he,wP];try rfl,hw⟩
 have hC:YC 332 #[.string (mkS s),.string ⟨#[c0]⟩] W λe w'=>e= .returned (YI (Lib.countB (mkS s) ⟨#[c0]⟩))/\w'=W:=
  (Tryz.strings_Count_one (mkS s) c0 W).mono λe w' ⟨he,hw⟩=>⟨by rw [he];show _=Ending.returned (Value.int .i64 ((Lib.count (mkS s).data.toList [c0]:Nat):Int));rw [Lib.count_one];rfl,hw⟩
 obtain ⟨cn,hcn⟩:∃ cn,Lib.count s [c0]=cn:=⟨_,rfl⟩
 have hcB:Lib.countB (mkS s) ⟨#[c0]⟩=cn:=by unfold Lib.countB;rw [mk_data,show (⟨#[c0]⟩:ByteArray).data.toList=[c0] from rfl,hcn]
 have hcl:cn<=s.length:=by rw [←hcn,Lib.count_one];exact List.count_le_length
 obtain ⟨N,hN⟩:∃ N:Nat,(N:Int)=min (if n<0 then (Lib.countB (mkS s) ⟨#[c0]⟩:Int)+1 else n) (((mkS s).size:Int)+1):=by
  refine ⟨(min (if n<0 then (Lib.countB (mkS s) ⟨#[c0]⟩:Int)+1 else n) (((mkS s).size:Int)+1)).toNat,Int.toNat_of_nonneg ?_⟩
  split<;>omega
 have c:=Any.strings_genSplit_core Tryz.lays221 Kr (mkS s) ⟨#[c0]⟩ 0 n N W Om (Nat.le_refl 1) (Nat.zero_le _) hI hC Om Om hN
 rw [hcB,hsz] at hN
 have hB:Lib.splitB ⟨#[c0]⟩ 0 (N-1) (mkS s)=(if n<0 then zJ c0 [] s else dS c0 (n.toNat-1) s).map mkS:=by
  have h:=tU [c0] (N-1) s
  rw [show (mkS [c0]:ByteArray)=⟨#[c0]⟩ from rfl] at h
  rw [h,wG]
  congr 1
  split
  ·rename_i h0
   rw [if_pos h0] at hN
   rw [show N-1=cn by omega,←wG,←hcn,split_cuts]
  ·rename_i h0
   rw [if_neg h0] at hN
   rw [←pcsB_min c0 s (n.toNat-1)]
   congr 1
   omega
 rw [hB] at c
 generalize hl:(if n<0 then zJ c0 [] s else dS c0 (n.toNat-1) s)=l at c ⊢
 have hle:l.length<=N:=by
  rw [←hl]
  split
  ·rename_i h0
   rw [if_pos h0] at hN
   rw [←split_cuts c0 s,wG,hcn]
   have:=(p5 c0 cn s).2
   omega
  ·rename_i h0
   rw [if_neg h0] at hN
   have h1:=(p5 c0 (n.toNat-1) s).2
   have h2:=(p5 c0 (min (n.toNat-1) s.length) s).2
   rw [pcsB_min] at h2
   omega
 have hNm:N<=1000001:=by omega
 rw [List.length_map] at c
 refine Calls.mono c λe w' ⟨he,hw⟩=> ?_
 subst hw
 refine ⟨_,_,he,⟨by rw [vV];omega,.inr ⟨W.heap.size,N,_,rfl,rfl,hle,by unfold maxLen;omega,by rw [Lib.cellsOf_size (by rw [List.length_map];exact hle),Nat.mul_one], ?_⟩⟩,(Own.start [] W).alloc _ _⟩
 unfold Lib.cellsOf
 rw [List.map_map,List.take_append_of_le_length (by rw [List.length_map];omega),List.take_of_length_le (by rw [List.length_map];omega)]
 rfl
end
section
theorem grow_inner (B b n:Nat)(w:World)(hB:B<=b)(hbk:w.heap[b]?=some (.cells #[.pointer (some ⟨b,0,none⟩),.slice none 0 0] 75 (0,0)))(hBw:B<=w.heap.size)(hn:n<=281474976710656):
  YC 230 #[.pointer (some ⟨b,0,none⟩),YI n] w λe w'=>e= .returned (.tuple #[])/\(Lib.BuilderAt 75 5 B b (.pointer (some ⟨b,0,none⟩)) [] w'/\Below B w w'):=by
 obtain ⟨cs,hrun,hle,hmax⟩:=Lib.run_makeNoZero (P:=YP) w.drew #[3] 36 5 Tryz.underlying36 n hn
 have hlt:b<w.heap.size:=by
  rcases Nat.lt_or_ge b w.heap.size with h|h
  ·exact h
  ·simp [Array.getElem?_eq_none h] at hbk
 have hw:IntKind.i64.wrap (IntKind.i64.wrap 0+(n:Int))=n:=by
  rw [IntKind.wrap_i64,IntKind.wrap_i64];omega
 have hcall:(callFunc 271 #[YI (IntKind.i64.wrap (IntKind.i64.wrap 0+(n:Int)))]).run YP w.drew= .ok (.value (.slice (some ⟨w.drew.heap.size,0,none⟩) n cs.size)) (w.drew.drew.drew.alloc (.cells cs 5)):=by
  rw [hw,run_callFunc_extern Tryz.func271 Kr Kr Kr (e:=Extern.BytealgMakeNoZero.makeNoZero #[3] #[36]) Kr,hrun]
  rfl
 have c1:w.drew.cell? ⟨b,1,none⟩=some (.slice none 0 0):=by
  have:w.drew.heap[b]?=_:=hbk
  rw [Lib.cell_of_heap this];rfl
 have hb2:(w.alloc (.cells cs 5)).heap[b]?=_:=(Lib.alloc_old w _ b hlt).trans hbk
 have c2:(w.alloc (.cells cs 5)).cell? ⟨b,1,none⟩=some (.slice none 0 0):=by rw [Lib.cell_of_heap hb2];rfl
 have f2:(w.alloc (.cells cs 5)).frozen? ⟨b,1,none⟩=false:=Lib.frozen_of_heap hb2 1
 have hcopy:∀ W:World,(Builtin.copy_ #[36,36] 3 #[.slice (some ⟨w.heap.size,0,none⟩) 0 cs.size,.slice none 0 0]).run YP W= .ok (goInt 0) W:=
  λW=>run_copy_none W 36 36 3 5 _ _ 0 cs.size 0 0 Tryz.underlying36 Kr rfl
 clear hw hlt hb2
 have mixed:Tryz.prog.follows .mixedOrders=true:=by kernel_rfl
 go_enter Tryz.func230,Tryz.ntmps230
 go_wp2
 have hfin:=Lib.grown_fresh (T:=75) (e:=5) (cs:=cs) hB hbk hBw (hmax (by unfold maxLen;omega)) (by decide)
 have hbel:Below B w ((w.alloc (.cells cs 5)).setCell ⟨b,1,none⟩ (.slice (some ⟨w.heap.size,0,none⟩) 0 cs.size)).drew.drew.drew:=((((Below.refl B w).alloc hBw _).setCell (p:=⟨b,1,none⟩) hB _).drew).drew.drew
 go_region_o
 all_goals (go_wp2;go_end0;exact ⟨rfl,hfin.1,hbel⟩)
theorem grow_fresh (B b n:Nat)(w:World)(hB:B<=b)(hbk:w.heap[b]?=some (.cells #[.pointer none,.slice none 0 0] 75 (0,0)))(hBw:B<=w.heap.size)(hn:n<=281474976710656):
  YC 184 #[.pointer (some ⟨b,0,none⟩),YI n] w λe w'=>e= .returned (.tuple #[])/\(Lib.BuilderAt 75 5 B b (.pointer (some ⟨b,0,none⟩)) [] w'/\Below B w w'):=by
 obtain ⟨w1,hw1⟩:∃ x,x=w.setCell ⟨b,0,none⟩ (.pointer (some ⟨b,0,none⟩)):=⟨_,rfl⟩
 have hbk1:w1.heap[b]?=some (.cells #[.pointer (some ⟨b,0,none⟩),.slice none 0 0] 75 (0,0)):=by
  rw [hw1];simp [World.setCell,Array.getElem?_modify,hbk]
 have hs1:B<=w1.heap.size:=by rw [hw1];simpa [World.setCell] using hBw
 have hb1:Below B w w1:=by rw [hw1];exact (Below.refl B w).setCell (p:=⟨b,0,none⟩) hB _
 have hc:YC 71 #[.pointer (some ⟨b,0,none⟩)] w λe w'=>e= .returned (.tuple #[])/\w'=w1:=by
  rw [hw1]
  exact dC b w (by rw [Lib.cell_of_heap hbk];rfl) (by simp [World.shape?,hbk]) (Lib.frozen_of_heap hbk 0)
 clear hw1
 have c1:w1.cell? ⟨b,1,none⟩=some (.slice none 0 0):=by rw [Lib.cell_of_heap hbk1];rfl
 have c1':w1.drew.cell? ⟨b,1,none⟩=some (.slice none 0 0):=c1
 have hU:Lib.BuilderAt 75 5 B b (.pointer (some ⟨b,0,none⟩)) [] w1:=⟨hB,.slice none 0 0,hbk1,World.ownsRow_nil _ _ _ _,by simp [Value.ownBlock]⟩
 have mixed:Tryz.prog.follows .mixedOrders=true:=by kernel_rfl
 go_enter Tryz.func184,Tryz.ntmps184
 go_wp2_with (go_at_call 71;refine hc.mono ?_;rintro e w' ⟨rfl,hw⟩;rw [hw])
 go_region_o
 all_goals go_wp2_with (go_at_call 230;refine (grow_inner B b n w1.drew hB hbk1 hs1 hn).mono ?_;rintro e w' ⟨rfl,h1,h2⟩)
 all_goals first
  |(go_end0;exact ⟨rfl,h1,hb1.drew.trans h2⟩)
  |(go_end0;exact ⟨rfl,hU.drew,hb1.drew⟩)
end
section
structure HasLib (w:World):Prop where
 tab:HasTab w
 max:∃ m,w.cell? ⟨0,0,none⟩=some (YI m)
theorem HasLib.on {w w':World}(h:HasLib w)(hb:YB w w'):HasLib w':=
 ⟨h.tab.on hb,let ⟨m,hm⟩:=h.max;⟨m,(hb.cell (World.block_lt_of_cell? _ _ hm)).trans hm⟩⟩
theorem hasLib_of {W:World}(ht:HasTab W)(hS:W.ShapedOpen YP):HasLib W:=⟨ht,Tryz.laysM143.s1_3 W hS⟩
theorem split_own (s sep:YL)(l:List YL)(W:World)(h0:1<=sep.length)(hs:s.length<=1000000)(hl:Lib.splitB (mkS sep) 0 (Lib.countB (mkS s) (mkS sep)) (mkS s)=l.map mkS)(ht:HasLib W):
  YC 277 #[.string (mkS s),.string (mkS sep)] W λe w'=>∃ v' ob',e= .returned v'/\SlT v' l ob'/\Own [] W w' ob':=by
 obtain ⟨m,hm⟩:=ht.max
 have hz:(mkS sep).size=sep.length:=y4 sep
 have hlen:=Lib.splitB_all (mkS sep) Om 0 _ (mkS s) rfl
 have hle:=Lib.countB_le (mkS sep) Om (mkS s).size (mkS s) (Nat.le_refl _)
 rw [y4] at hle
 rw [hl,List.length_map] at hlen
 refine (Tryz.strings_Split (mkS s) (mkS sep) m W (by rw [y4];omega) hm Om).mono λe w' ⟨he,hw⟩=> ?_
 subst hw
 rw [hl,List.map_map] at*
 rw [←hlen] at he
 refine ⟨_,_,he,slt_lit l W.heap.size _ (by unfold vH;rfl) (by unfold maxLen;omega),(Own.start [] W).alloc _ _⟩
theorem split_bars (s:YL)(W:World)(hs:s.length<=1000000)(ht:HasLib W):
  YC 277 #[.string (mkS s),.string ⟨#[124,124]⟩] W λe w'=>∃ v' ob',e= .returned v'/\SlT v' (j6 [] s) ob'/\Own [] W w' ob':=
 split_own s [124,124] (j6 [] s) W (by decide) hs (splitB_alts s) ht
theorem trim_any (s:YL)(W:World)(hs:s.length<=1000000):
  YC 279 #[.string (mkS s),.string ⟨#[32]⟩] W (YR (.string (mkS (bareL s))) W):=
 (Tryz.strings_Trim_one (mkS s) 32 (by decide) W (by rw [y4];omega)).mono λe w' ⟨he,hw⟩=>
  ⟨by rw [he,mk_data,trim_bare];rfl,hw.elim (λq=>q▸Below.refl _ _) (λq=>q▸(Below.refl _ _).drew)⟩
def q8 (sep:YL):List YL->YL
 | []=>[]
 |x::r=>sep++x++q8 sep r
theorem joinB_T (sep:YL):∀ (r:List YL) (x:YL),dB sep (x::r)=x++q8 sep r
 | [],x=>by simp [dB,q8]
 |y::r,x=>by rw [joinB_two,joinB_T sep r y,q8];simp only [List.append_assoc]
theorem joinT_snoc (sep x:YL):∀ (r:List YL),q8 sep (r++[x])=q8 sep r++(sep++x)
 | []=>by simp [q8]
 |y::r=>by rw [List.cons_append,q8,q8,joinT_snoc sep x r];simp only [List.append_assoc]
theorem joinT_len {sep:YL}(hs:sep.length<=100):∀ {r:List YL},(∀ x∈r,x.length<=1000000)->(q8 sep r).length<=r.length*1000100
 | [],_=>by simp [q8]
 |y::r,h=>by
  have h1:=joinT_len hs (r:=r) λx hx=>h x (List.mem_cons_of_mem _ hx)
  have h2:=h y (List.mem_cons_self ..)
  rw [q8];simp only [List.length_append,List.length_cons];omega
theorem bc_two (x y z:YL):Lib.byteCells (x++(y++z))=Lib.byteCells x++Lib.strCells (mkS y)++Lib.strCells (mkS z):=by
 rw [vW,vW,←Lib.byteCells_append,←Lib.byteCells_append,List.append_assoc]
theorem join_many (sep x0:YL)(r:List YL)(b off cap:Nat)(w:World)(hc:∀ j (h:j<(x0::r).length),w.cell? ⟨b,off+j,none⟩=some (.string (mkS ((x0::r)[j]))))
  (hb:b<w.heap.size) (hr:1<=r.length) (hn:r.length<=1000) (h0:sep≠[]) (hs:sep.length<=100) (hx:∀ x∈x0::r,x.length<=1000000) (hcap:r.length+1<=cap):
  YC 136 #[.slice (some ⟨b,off,none⟩) (r.length+1) cap,.string (mkS sep)] w (YR (.string (mkS (dB sep (x0::r)))) w):=by
 have HT:=Lib.hid (show ∀ k,(x0++q8 sep (r.take k)).length<=2000000000 from λk=>by
  have h1:=joinT_len hs (r:=r.take k) λx hm=>hx x (List.mem_cons_of_mem _ (List.mem_of_mem_take hm))
  have h2:=hx x0 (List.mem_cons_self ..)
  have h3:(r.take k).length<=1000:=Nat.le_trans (by rw [List.length_take];exact Nat.min_le_right ..) hn
  rw [List.length_append];omega)
 have HC:=Lib.hid hc
 have HX:=Lib.hid hx
 have HJ:=Lib.hid (joinB_T sep r x0)
 have hx0:(mkS x0).size<=1000000:=by rw [y4];exact hx x0 (List.mem_cons_self ..)
 obtain ⟨S,hS⟩:∃ q,q=mkS sep:=⟨_,rfl⟩
 have hSz:S.size=sep.length:=by rw [hS,y4]
 have hS1:1<=S.size:=by cases sep with
  |nil=>exact absurd rfl h0
  |cons _ _=>rw [hSz];simp
 have hS9:S.size<=100:=by omega
 rw [←hS]
 have HS:=Lib.hid hS
 obtain ⟨N,hN⟩:∃ q,q=r.length+1:=⟨_,rfl⟩
 rw [←hN] at hcap ⊢
 have hcast:((N:Int) -1)=(r.length:Int):=by omega
 have hmul:S.size*r.length<=100000:=Nat.le_trans (Nat.mul_le_mul hS9 hn) (by decide)
 have hdv:¬ (9223372036854775807/((N:Int) -1)<=(S.size:Int)):=by
  rw [hcast]
  intro q
  have h1:(9223372036854775807:Int)<((S.size:Int)+1)*(r.length:Int):=
   Int.lt_mul_of_ediv_lt Om (Int.lt_add_one_of_le q)
  have h2:((S.size:Int)+1)*(r.length:Int)=((S.size*r.length+r.length:Nat):Int):=by rw [Int.add_mul,Int.one_mul];push_cast;rfl
  omega
 have hprod:wrap64 ((S.size:Int)*((N:Int) -1))=((S.size*r.length:Nat):Int):=by
  rw [hcast,show (S.size:Int)*(r.length:Int)=((S.size*r.length:Nat):Int) from by push_cast;rfl]
  exact IntWalk.wrap64_in _ ⟨by omega,by omega⟩
 generalize S.size*r.length=M at hmul hprod
 have hne0:((N:Int)==0)=false:=beq_eq_false_iff_ne.2 Om
 have hne1:((N:Int)==1)=false:=beq_eq_false_iff_ne.2 Om
 have hN2:2<=N:=by omega
 have hN9:N<=1001:=by omega
 have HN:=Lib.hid hN
 have H0:=Lib.hid h0
 clear hc hx hs h0 hS hSz hcast hN hr hn
 go_enter Tryz.func136,Tryz.ntmps136
 go_wp2
 go_loop [5,41] (λn i=>∃ (k t:Nat),k<=N/\i=YI k/\n=YI t/\t<=100000+k*1000000) (λ_ i=>N-(intOf i).toNat)
 case atStart=>exact ⟨0,M,Nat.zero_le _,rfl,rfl,by omega⟩
 case round=>
  obtain ⟨k,t,hk,rfl,rfl,ht⟩:=hrel
  by_cases hkn:k<N
  ·have hkl:k<(x0::r).length:=by have:=HN.out;rw [List.length_cons];omega
   obtain ⟨y,hy⟩:∃ q,q=mkS ((x0::r)[k]):=⟨_,rfl⟩
   have hyz:y.size<=1000000:=by rw [hy,y4];exact HX.out _ (List.getElem_mem hkl)
   have hck:w.cell? ⟨b,off+k,none⟩=some (.string y):=by rw [hy];exact HC.out k hkl
   clear hy hkl
   go_wp2
   exact ⟨⟨k+1,t+y.size,by omega,by go_num,by go_num,by omega⟩,by simp [intOf];omega⟩
  ·obtain rfl:k=N:=by omega
   go_wp2_with (go_at_call 184;refine (grow_fresh w.heap.size w.heap.size t _ (Nat.le_refl _) (heap_alloc_new w _) (by simp) Om).mono ?_)
   rintro e w1 rfl h1 hb1
   have hb1':YB w w1:=((Below.refl w.heap.size w).alloc (Nat.le_refl _) _).trans hb1
   have hsz1:=hb1'.size
   have hc0:w1.cell? ⟨b,off,none⟩=some (.string (mkS x0)):=by
    rw [hb1'.cell (p:=⟨b,off,none⟩) hb]
    exact HC.out 0 (by simp)
   have H1:=Lib.hid (Or.inr h1:Lib.IsBuilder 75 5 w.heap.size w.heap.size [] w1)
   have HB1:=Lib.hid hb1'
   clear h1 hb1 hb1' ht hprod hmul hdv hkn hk
   obtain ⟨X,hX⟩:∃ q,q=mkS x0:=⟨_,rfl⟩
   rw [←hX] at hc0 hx0
   have HX0:=Lib.hid hX
   clear hX
   go_wp2_with (go_at_call 35;refine (kZ w.heap.size w.heap.size [] X w1 H1.out ?_ hsz1).mono ?_)
   ·simp;omega
   rintro e w2 ⟨rfl,h2,hb2⟩
   have H2:=Lib.hid (show Lib.IsBuilder 75 5 w.heap.size w.heap.size (Lib.byteCells (x0++q8 sep (r.take 0))) w2 from by
    rw [HX0.out,vW,List.nil_append] at h2
    rw [List.take_zero,q8,List.append_nil];exact Or.inr h2)
   have HB2:=Lib.hid (HB1.out.trans hb2)
   clear h2 hb2 hsz1 hc0
   have hrk:k-1=r.length:=by have:=HN.out;omega
   go_wp2
   go_loopw [65] (λi wr=>∃ j:Nat,j<=r.length/\i=YI j/\Hid (Lib.IsBuilder 75 5 w.heap.size w.heap.size (Lib.byteCells (x0++q8 sep (r.take j))) wr)/\Hid (YB w wr)) (λi _=>r.length-(intOf i).toNat)
   case atStart=>exact ⟨0,Nat.zero_le _,rfl,H2,HB2⟩
   case round=>
    obtain ⟨j,hj,rfl,HB,HW⟩:=hrel
    have hsz:=HW.out.size
    by_cases hjr:j<r.length
    ·obtain ⟨y,hy⟩:∃ q,q=mkS r[j]:=⟨_,rfl⟩
     have hyz:y.size<=1000000:=by rw [hy,y4];exact HX.out _ (List.mem_cons_of_mem _ (List.getElem_mem hjr))
     have hck:wr.cell? ⟨b,off+1+j,none⟩=some (.string y):=by
      rw [HW.out.cell (p:=⟨b,off+1+j,none⟩) hb,hy,show off+1+j=off+(j+1) from by omega]
      exact HC.out (j+1) (by simp;omega)
     have HY:=Lib.hid hy
     have hlen:(Lib.byteCells (x0++q8 sep (r.take j))).length<=2000000000:=by rw [Lib.byteCells_length];exact HT.out j
     have HE:=Lib.hid (show Lib.byteCells (x0++q8 sep (r.take j))++Lib.strCells S++Lib.strCells y=Lib.byteCells (x0++q8 sep (r.take (j+1))) from by
      rw [HS.out,HY.out,List.take_succ_eq_append_getElem hjr,joinT_snoc,←List.append_assoc,bc_two])
     clear hy
     go_wp2_with (go_at_call 35;refine (kZ w.heap.size w.heap.size _ S wr HB.out ?_ hsz).mono ?_)
     ·omega
     rintro e w3 ⟨rfl,h3,hb3⟩
     have hsz3:=Nat.le_trans hsz hb3.size
     have H3:=Lib.hid h3
     have HB3:=Lib.hid hb3
     clear h3 hb3
     go_wp2_with (go_at_call 35;refine (kZ w.heap.size w.heap.size _ y w3 (Or.inr H3.out) ?_ hsz3).mono ?_)
     ·rw [List.length_append,Lib.strCells_length];omega
     rintro e w4 ⟨rfl,h4,hb4⟩
     rw [HE.out] at h4
     have H4:=Lib.hid (Or.inr h4:Lib.IsBuilder 75 5 w.heap.size w.heap.size (Lib.byteCells (x0++q8 sep (r.take (j+1)))) w4)
     have HB4:=Lib.hid ((HW.out.trans HB3.out).trans hb4)
     clear h4 hb4
     go_wp2
     go_roundw
     case rel=>exact ⟨j+1,by omega,by go_num,H4,HB4⟩
     case measure=>simp [intOf];omega
    ·obtain rfl:j=r.length:=by omega
     have HB':=HB.out
     rw [List.take_length,←HJ.out] at HB'
     have hne:dB sep (x0::r)≠[]:=by
      rw [HJ.out]
      cases r with
      |nil=>simp at hrk;omega
      |cons y r=>rw [q8];intro q;exact H0.out (List.append_eq_nil_iff.1 (List.append_eq_nil_iff.1 (List.append_eq_nil_iff.1 q).2).1).1
     have HBF:=Lib.hid HB'
     clear HB'
     go_wp2_with (go_at_call 39;refine (string_any w.heap.size w.heap.size _ _ HBF.out hne).mono ?_)
     rintro e w5 ⟨rfl,hb5⟩
     go_wp2
     go_ret
     exact ⟨rfl,HW.out.trans hb5⟩
theorem join_one (sep x:YL)(A:Option Addr)(cap:Nat)(w:World)(hv:Reads y9 w w.heap.size A [x])(hcap:1<=cap):
  YC 136 #[.slice A 1 cap,.string (mkS sep)] w (YR (.string (mkS x)) w):=by
 obtain ⟨b,off,rfl,hb,hcell⟩:=hv (by simp)
 have hc:w.cell? ⟨b,off,none⟩=some (.string (mkS x)):=hcell 0 _ rfl
 go_enter Tryz.func136,Tryz.ntmps136
 go_wp2
 go_ret
 exact ⟨rfl,Below.refl _ _⟩
theorem join_none (sep:YL)(A:Option Addr)(cap:Nat)(w:World):
  YC 136 #[.slice A 0 cap,.string (mkS sep)] w (YR (.string (mkS [])) w):=by
 go_enter Tryz.func136,Tryz.ntmps136
 go_wp2
 go_ret
 exact ⟨rfl,Below.refl _ _⟩
theorem sjoin_any (sep:YL)(l:List YL)(A:Option Addr)(cap:Nat)(w:World)(hv:Reads y9 w w.heap.size A l)(h0:sep≠[])(hs:sep.length<=100)(hn:l.length<=1000)(hx:∀ x∈l,x.length<=1000000)(hcap:l.length<=cap):
  YC 136 #[.slice A l.length cap,.string (mkS sep)] w (YR (.string (mkS (dB sep l))) w):=by
 match l,hv,hn,hx,hcap with
 | [],_,_,_,_=>exact join_none sep A cap w
 | [x],hv,_,_,hcap=>exact join_one sep x A cap w hv hcap
 |x::y::r,hv,hn,hx,hcap=>
  obtain ⟨b,off,rfl,hb,hcell⟩:=hv (by simp)
  refine join_many sep x (y::r) b off cap w (λj hj=> ?_) hb (by simp) (by simp at hn ⊢;omega) h0 hs hx hcap
  refine hcell j _ ?_
  rw [←x5];unfold vH
  rw [List.getElem?_map,List.getElem?_eq_getElem hj];rfl
end
section
theorem run_slhmA {P:Program}{ρ:Operand->Value}{o:Oper}{t e:TypeId}{x z y:Operand}{A:Option Addr}{n c sz:Nat}{k q:IntKind}{j m:Int}(ho:o.op= .slice t x none (some z) (some y))(hx:ρ x= .slice A n c)(hz:ρ z= .int k j)(hy:ρ y= .int q m)
  (hu:P.underlying t=some (.slice e)) (hs:(P.info? e).map (·.size)=some sz) (h0:0<=j) (h1:j<=m) (h2:m<=c) (hA:m=0∨∃ b off,A=some ⟨b,off,none⟩) (w:World):(execOp ρ o).run P w= .ok (.value (.slice A j.toNat m.toNat)) w:=by
 cases he:P.info? e with
 |none=>rw [he] at hs;cases hs
 |some i=>
  rw [he] at hs
  obtain rfl:=Option.some.inj hs
  have h3:0<=m:=Int.le_trans h0 h1
  have key:(if m<=0 then A else A.map λa=>a.add 0)=A:=by
   rcases hA with rfl|⟨b,off,rfl⟩
   ·rfl
   ·split
    ·rfl
    ·simp [yI]
  have hmx:max m 0=m:=by omega
  unfold execOp
  simp [ho,hx,hz,hy,Instr.sliceAt,Instr.slice,Instr.sliceBounds,Instr.sliceBound,Sem.run_bind,asIntOf,run_underlying hu,h0,h1,h2,h3,sizeOf,typeInfo,he]
  rw [hmx,if_pos h1,key]
section
variable {M:List Nat}{P:Program}{n:Nat}{W:World}{Q:Exit->Act->World->Prop}{c:Xc}
theorem x_slhmA (d:Nat)(h:List Nat)(A:Option Addr)(N cp sz:Nat)(j m:Int)(hj:0<=j/\j<=m/\m<=cp)(hA:m=0∨∃ b off,A=some ⟨b,off,none⟩)(v:Value)(hv: .slice A j.toNat m.toNat=v)(hg:zB M P n W Q ((xgo P n (d+50000) h c).put v))
  (hkt:(xgl P n (d+50000) h c,xW n (xgo P n (d+50000) h c),(skQ (xO (xgo P n (d+50000) h c))).2.2.2.2,ev n (xgo P n (d+50000) h c).f (skQ (xO (xgo P n (d+50000) h c))).2.1,ev n (xgo P n (d+50000) h c).f (skQ (xO (xgo P n (d+50000) h c))).2.2.1,ev n (xgo P n (d+50000) h c).f (skQ (xO (xgo P n (d+50000) h c))).2.2.2.1,P.underlying (skQ (xO (xgo P n (d+50000) h c))).1,(P.info? (xEl P (skQ (xO (xgo P n (d+50000) h c))).1)).map (·.size))
   =(xgr P n (d+50000) h c,true,true,.slice A N cp,YI j,YI m,some (.slice (xEl P (skQ (xO (xgo P n (d+50000) h c))).1)),some sz):=by kernel_rfl):zB M P n W Q c:=by
 simp only [Prod.mk.injEq] at hkt
 obtain ⟨hk,e1,e2,e3,e4,e5,e6,e7⟩:=hkt
 exact zM h c hk (x9 e1 (λw=>by rw [run_slhmA (skQ_op e2) e3 e4 e5 e6 e7 hj.1 hj.2.1 hj.2.2 hA w,hv]) hg)
end
section
variable {M:List Nat}{P:Program}{n:Nat}{ops:Array Oper}{W:World}{L0:List Blk}{Q:Exit->Act->World->Prop}{fuel:Nat}{listed:Array Bool}{L:List Blk}{f:Nat->Value}
theorem h_take14 {L':List Blk}(hs:∀ w,Own M W w L->Own M W w L')(h:v8 M P n ops W L0 Q fuel listed L' f):v8 M P n ops W L0 Q fuel listed L f:=⟨λw hO=>h.go w (hs w hO)⟩
end
section
variable {M:List Nat}{P:Program}{n:Nat}{W:World}{Q:Exit->Act->World->Prop}{c:Xc}
end
theorem Reads.fst {α:Type}{g:α->List Value}{w:World}{B:Nat}{A:Option Addr}{l:List α}(h:Reads g w B A l)(k:Nat):Reads g w B A (l.take k):=λh0=>by
 rw [List.length_take] at h0
 obtain ⟨b,off,e,hlt,hc⟩:=h Om
 refine ⟨b,off,e,hlt,λj u hj=>hc j u ?_⟩
 have e2:l.flatMap g=(l.take k).flatMap g++(l.drop k).flatMap g:=by rw [←List.flatMap_append,List.take_append_drop]
 rw [e2,List.getElem?_append_left (by
  have:=List.getElem?_eq_some_iff.1 hj
  exact this.1)]
 exact hj
end
section
def u64V (x:UInt64):Value:= .int .u64 (x.toNat:Int)
section
variable {P:Program}{ρ:Operand->Value}{o:Oper}{t t':TypeId}{a b:Operand}
theorem lt64 (x:UInt64):x.toNat<18446744073709551616:=x.toNat_lt
theorem fE {x y:UInt64}(ho:o.op= .binOp .xor t a b t')(hx:ρ a= .int .u64 (x.toNat:Int))(hy:ρ b= .int .u64 (y.toNat:Int))(w:World):(execOp ρ o).run P w= .ok (.value (.int .u64 ((x^^^y).toNat:Int))) w:=by
 have hb:binOp .xor t (.int .u64 (x.toNat:Int)) (.int .u64 (y.toNat:Int))=pure (.int .u64 ((x^^^y).toNat:Int)):=by
  have e:=u64_xor_nat _ _ (lt64 x) (lt64 y)
  rw [←UInt64.toNat_xor] at e
  rw [←e]
  simp [binOp,intBits_xor]
 have hg:eqGuard .xor t a b (.int .u64 (x.toNat:Int)) (.int .u64 (y.toNat:Int))=pure ():=rfl
 unfold execOp
 simp only [ho,hx,hy,Sem.run_bind,hg,hb,Sem.run_pure,Result.andThen_ok]
theorem run_or64 {x y:UInt64}(ho:o.op= .binOp .or t a b t')(hx:ρ a= .int .u64 (x.toNat:Int))(hy:ρ b= .int .u64 (y.toNat:Int))(w:World):(execOp ρ o).run P w= .ok (.value (.int .u64 ((x|||y).toNat:Int))) w:=by
 have hb:binOp .or t (.int .u64 (x.toNat:Int)) (.int .u64 (y.toNat:Int))=pure (.int .u64 ((x|||y).toNat:Int)):=by
  have e:=u64_or_nat _ _ (lt64 x) (lt64 y)
  rw [←UInt64.toNat_or] at e
  rw [←e]
  simp [binOp,intBits_or]
 have hg:eqGuard .or t a b (.int .u64 (x.toNat:Int)) (.int .u64 (y.toNat:Int))=pure ():=rfl
 unfold execOp
 simp only [ho,hx,hy,Sem.run_bind,hg,hb,Sem.run_pure,Result.andThen_ok]
theorem mE (n:Nat):IntKind.u64.wrap (n:Int)=((n % 18446744073709551616:Nat):Int):=by
 simp [IntKind.wrap,IntKind.bits,IntKind.signed]
theorem run_mul64 {x y:UInt64}(ho:o.op= .binOp .mul t a b t')(hx:ρ a= .int .u64 (x.toNat:Int))(hy:ρ b= .int .u64 (y.toNat:Int))(w:World):(execOp ρ o).run P w= .ok (.value (.int .u64 ((x*y).toNat:Int))) w:=by
 unfold execOp
 have h:=mE (x.toNat*y.toNat)
 rw [Int.natCast_mul] at h
 simp [ho,hx,hy,eqGuard,binOp,Op.intArith,h,UInt64.toNat_mul]
theorem run_shl64 {x:UInt64}{yk:IntKind}{n:Nat}(ho:o.op= .binOp .shl t a b t')(hx:ρ a= .int .u64 (x.toNat:Int))(hy:ρ b= .int yk (n:Int))(hn:n<64)(w:World):(execOp ρ o).run P w= .ok (.value (.int .u64 ((x<<<UInt64.ofNat n).toNat:Int))) w:=by
 have h1:=shift_shl .u64 yk (x.toNat:Int) (n:Int) Om (by show (n:Int)<=64;omega)
 have h2:IntKind.u64.wrap ((x.toNat:Int)*2^(n:Int).toNat)=((x<<<UInt64.ofNat n).toNat:Int):=by
  have h:=mE (x.toNat*2^n)
  rw [Int.toNat_natCast]
  rw [Int.natCast_mul] at h
  rw [show ((2:Int)^n)=((2^n:Nat):Int) from by push_cast;rfl,h,UInt64.toNat_shiftLeft,UInt64.toNat_ofNat',Nat.shiftLeft_eq,show n % 2^64 % 64=n from by omega]
 have hg:eqGuard .shl t a b (.int .u64 (x.toNat:Int)) (.int yk (n:Int))=pure ():=rfl
 unfold execOp
 simp only [ho,hx,hy,Sem.run_bind,hg,binOp,h1,h2,Sem.run_pure,Result.andThen_ok]
theorem fF {x:UInt64}{yk:IntKind}{n:Nat}(ho:o.op= .binOp .shr t a b t')(hx:ρ a= .int .u64 (x.toNat:Int))(hy:ρ b= .int yk (n:Int))(hn:n<64)(w:World):(execOp ρ o).run P w= .ok (.value (.int .u64 ((x>>>UInt64.ofNat n).toNat:Int))) w:=by
 have h1:=shift_shr .u64 yk (x.toNat:Int) (n:Int) Om (by show (n:Int)<=64;omega)
 have h2:(x.toNat:Int)/2^(n:Int).toNat=((x>>>UInt64.ofNat n).toNat:Int):=by
  rw [Int.toNat_natCast,show ((2:Int)^n)=((2^n:Nat):Int) from by push_cast;rfl,UInt64.toNat_shiftRight,UInt64.toNat_ofNat',Nat.shiftRight_eq_div_pow,show n % 2^64 % 64=n from by omega]
  exact (Int.natCast_ediv _ _).symm
 have hg:eqGuard .shr t a b (.int .u64 (x.toNat:Int)) (.int yk (n:Int))=pure ():=rfl
 unfold execOp
 simp only [ho,hx,hy,Sem.run_bind,hg,binOp,h1,h2,Sem.run_pure,Result.andThen_ok]
theorem run_to64 {src dst:TypeId}{x:UInt8}(ho:o.op= .convert src dst a)(hx:ρ a= .int .u8 (x.toNat:Int))(hs:(P.underlying src).isSome=true)(hd:P.underlying dst=some (.int .u64))(w:World):(execOp ρ o).run P w= .ok (.value (.int .u64 (x.toUInt64.toNat:Int))) w:=by
 have hk:P.intKind dst= .u64:=by unfold Program.intKind;rw [hd]
 have h:=run_convert_int (P:=P) w src dst .u8 (x.toNat:Int) hs (by rw [hk];exact hd)
 rw [hk,mE] at h
 have e:x.toNat % 18446744073709551616=x.toUInt64.toNat:=by rw [UInt8.toNat_toUInt64];have:=x.toNat_lt;omega
 rw [e] at h
 unfold execOp
 simp only [ho,hx,Sem.run_bind,h,Sem.run_pure,Result.andThen_ok]
end
end
section
def hexD (d:Nat):UInt8:=if d<10 then UInt8.ofNat (48+d) else UInt8.ofNat (87+d)
def hexV (c:UInt8):Option Nat:=if 48<=c.toNat/\c.toNat<=57 then some (c.toNat-48) else if 97<=c.toNat/\c.toNat<=102 then some (c.toNat-87) else none
def hexT (n:Nat)(k:Nat):YL:=(List.range k).map λi=>hexD (n/16^(15-i) % 16)
def dText (n:UInt64):YL:=hexT n.toNat 16
def hexN:Nat->YL->Option Nat
 |n,[]=>some n
 |n,c::r=>match hexV c with
  |some d=>hexN (n*16+d) r
  |none=>none
def dReadN (s:YL):Option Nat:=if s.length=16 then hexN 0 s else none
def dReadV (s:YL):UInt64:=UInt64.ofNat ((dReadN s).getD 0)
def dReadB (s:YL):Bool:=(dReadN s).isSome
end
section
def u8C (b:UInt8):List Value:=[.int .u8 (b.toNat:Int)]
def u64C (n:UInt64):List Value:=[.int .u64 (n.toNat:Int)]
theorem u8C_len (b:UInt8):(u8C b).length=1:=rfl
def SlB (v:Value)(l:YL)(ob:List Blk):Prop:=Sl 5 1 v l.length (l.flatMap u8C) ob
def SlU (v:Value)(l:List UInt64)(ob:List Blk):Prop:=Sl 67 1 v l.length (l.flatMap u64C) ob
theorem u8_flat (l:YL):l.flatMap u8C=l.map λb=> .int .u8 (b.toNat:Int):=by
 induction l with
 |nil=>rfl
 |cons b l ih=>rw [List.flatMap_cons,List.map_cons,ih];rfl
section
variable {P:Program}{o:Oper}
theorem run_bytes {src dst e:TypeId}{ρ:Operand->Value}{x:Operand}{A:Option Addr}{cap:Nat}{l:YL}{w:World}(ho:o.op= .convert src dst x)(hx:ρ x= .slice A l.length cap)(hs:P.underlying src=some (.slice e))(he:P.underlying e=some (.int .u8))(hd:P.underlying dst=some .string)(h0:0<l.length){B:Nat}(hv:Reads u8C w B A l):(execOp ρ o).run P w= .ok (.value (.string (mkS l))) w:=by
 obtain ⟨b,off,rfl,_,hcell⟩:=hv h0
 have hr:=run_convert_bytes_back (P:=P) w src dst e ⟨b,off,none⟩ cap l hs he hd (λj hj=>by
  rw [yI]
  refine hcell j _ ?_
  rw [u8_flat,List.getElem?_map,List.getElem?_eq_getElem hj];rfl)
 unfold execOp
 simp only [ho,hx,Sem.run_bind,Sem.run_pure,Result.andThen_ok,hr]
 rfl
end
section
variable {P:Program}{n0:Nat}{ops:Array Oper}{W:World}{Q:Exit->Act->World->Prop}{rest:List Oper}{o:Oper}{L0:List Blk}{f:Nat->Value}
end
theorem Reads.lit9 {α:Type}{g:α->List Value}{w:World}{b:Nat}{cs:Array Value}{T:TypeId}{l:List α}{fr:Nat×Nat}(h:w.heap[b]?=some (.cells cs T fr))(e:cs.toList=l.flatMap g):Reads g w w.heap.size (some ⟨b,0,none⟩) l:=λ_=>
 ⟨b,0,rfl,(Array.getElem?_eq_some_iff.1 h).1,λk u hk=>by
  rw [Nat.zero_add,cell_of_row w b k cs T fr h,←Array.getElem?_toList,e];exact hk⟩
section
variable {M:List Nat}{P:Program}{n0:Nat}{ops:Array Oper}{W:World}{Q:Exit->Act->World->Prop}{rest:List Oper}{o:Oper}{L0:List Blk}{f:Nat->Value}
end
end
section
structure Nm where
 b:Nat
 c:Nat
 t:List Value
abbrev Env:=Nat->Nm
def agE (i:Nat)(a b:Env):Prop:=∀ j,j<i->a j=b j
theorem agE.refl (i:Nat)(a:Env):agE i a a:=λ_ _=>rfl
theorem agE.trans {i j:Nat}{a b c:Env}(h:agE i a b)(k:agE j b c)(hij:i<=j):agE i a c:=λx hx=>(h x hx).trans (k x (Nat.lt_of_lt_of_le hx hij))
def updE (e:Env)(i:Nat)(x:Nm):Env:=λj=>if j=i then x else e j
theorem updE_at (e:Env)(i:Nat)(x:Nm):updE e i x i=x:=if_pos rfl
theorem jG (e:Env)(i:Nat)(x:Nm):agE i e (updE e i x):=λj hj=>(if_neg (Nat.ne_of_lt hj)).symm
inductive Hs where
 |no
 |at (j:Nat) (h:Hs)
 |dr (l o:List Nat) (h:Hs)
 |vl (v:Value) (h:Hs)
 |two (a b:Hs)
def Hs.hd:Hs->Nat| .at j _=>j|_=>0
def Hs.tl:Hs->Hs| .at _ h=>h| .dr _ _ h=>h| .vl _ h=>h|_=> .no
def Hs.vv:Hs->Value| .vl v _=>v|_=>undef
def Hs.ls:Hs->List Nat| .dr l _ _=>l|_=>[]
def Hs.lo:Hs->List Nat| .dr _ o _=>o|_=>[]
def Hs.l1:Hs->Hs| .two a _=>a|_=> .no
def Hs.l2:Hs->Hs| .two _ b=>b|_=> .no
inductive Res where
 |bad
 |fin
 |ck (a b j:Nat) (r:Res)
 |dr (l o:List Nat) (r:Res)
 |md (a:Nat) (r:Res)
 |vl (v:Value) (r:Res)
 |two (a b:Res)
def Res.good:Res->Prop
 | .bad=>False
 | .fin=>True
 | .ck a b _ r=>a=b/\r.good
 | .dr _ _ r=>r.good
 | .md _ r=>r.good
 | .vl _ r=>r.good
 | .two a b=>a.good/\b.good
def Res.l:Res->List Nat
 | .bad=>[0]
 | .fin=>[]
 | .ck a _ _ r=>a::r.l
 | .dr _ _ r=>r.l
 | .md _ r=>r.l
 | .vl _ r=>r.l
 | .two a b=>a.l++b.l
def Res.r:Res->List Nat
 | .bad=>[1]
 | .fin=>[]
 | .ck _ b _ r=>b::r.r
 | .dr _ _ r=>r.r
 | .md _ r=>r.r
 | .vl _ r=>r.r
 | .two a b=>a.r++b.r
def Res.hs:Res->Hs
 | .ck _ _ j r=> .at j r.hs
 | .dr l o r=> .dr l o r.hs
 | .md _ r=>r.hs
 | .vl v r=> .vl v r.hs
 | .two a b=> .two a.hs b.hs
 |_=> .no
def Res.md':Res->List Nat
 | .ck _ _ _ r=>r.md'
 | .dr _ _ r=>r.md'
 | .vl _ r=>r.md'
 | .md a r=>a::r.md'
 | .two a b=>a.md'++b.md'
 |_=>[]
def Res.vv:Res->Value
 | .ck _ _ _ r=>r.vv
 | .dr _ _ r=>r.vv
 | .md _ r=>r.vv
 | .vl v r=>match r with
  | .fin=>v
  |r=>r.vv
 | .two _ b=>b.vv
 |_=>undef
theorem Res.len:∀ r:Res,r.l.length=r.r.length
 | .bad=>rfl
 | .fin=>rfl
 | .ck _ _ _ r=>congrArg (·+1) r.len
 | .dr _ _ r=>r.len
 | .md _ r=>r.len
 | .vl _ r=>r.len
 | .two a b=>by rw [Res.l,Res.r,List.length_append,List.length_append,a.len,b.len]
theorem Res.good_of:∀ r:Res,r.l=r.r->r.good
 | .bad,h=>by cases h
 | .fin,_=>trivial
 | .ck _ _ _ r,h=>by
  have:=List.cons.inj h
  exact ⟨this.1,r.good_of this.2⟩
 | .dr _ _ r,h=>r.good_of h
 | .md _ r,h=>r.good_of h
 | .vl _ r,h=>r.good_of h
 | .two a b,h=>by
  have:=List.append_inj h a.len
  exact ⟨a.good_of this.1,b.good_of this.2⟩
def capN (c k:Nat):Nat:=(min c maxLen-k)+k
structure Rc where
 x:Nm
 n:Nat
 sz:Nat
 xs:List Value
 T:TypeId
def padN (x:Nm)(k sz:Nat):List Value:=(x.t++List.replicate (capN x.c k*sz) undef).take (capN x.c k*sz-k*sz)
def Rc.blk (r:Rc):Blk:=⟨r.x.b,(r.xs++padN r.x r.n r.sz).toArray,r.T⟩
def Rc.v (r:Rc):Value:= .slice (some ⟨r.x.b,0,none⟩) r.n (capN r.x.c r.n)
theorem le_capN (c k:Nat):k<=capN c k:=Nat.le_add_left ..
theorem padN_len (x:Nm)(k sz:Nat):(padN x k sz).length=capN x.c k*sz-k*sz:=by
 unfold padN
 rw [List.length_take,List.length_append,List.length_replicate];omega
theorem Rc.slTo {r:Rc}{m:Nat}(hl:r.xs.length=r.n*r.sz)(hn:r.n<=maxLen)(hm:m<=r.n):Sl r.T r.sz (.slice (some ⟨r.x.b,0,none⟩) m (capN r.x.c r.n)) m (r.xs.take (m*r.sz)) [r.blk]:=by
 have h1:=Nat.mul_le_mul_right r.sz (le_capN r.x.c r.n)
 have h2:=Nat.mul_le_mul_right r.sz hm
 refine ⟨by rw [List.length_take,hl];omega,.inr ⟨r.x.b,capN r.x.c r.n,(r.xs++padN r.x r.n r.sz).toArray,rfl,rfl,Nat.le_trans hm (le_capN _ _), ?_, ?_, ?_⟩⟩
 ·unfold capN;omega
 ·rw [List.size_toArray,List.length_append,padN_len,hl];omega
 ·show (r.xs++padN r.x r.n r.sz).take (m*r.sz)=_
  exact List.take_append_of_le_length (by rw [hl];exact h2)
theorem Rc.of {T sz:Nat}{v:Value}{n:Nat}{xs:List Value}{ob:List Blk}(h:Sl T sz v n xs ob)(hn:1<=n):∃ x:Nm,v=(Rc.mk x n sz xs T).v/\ob=[(Rc.mk x n sz xs T).blk]:=by
 rcases h.2 with ⟨_,h0,_⟩|⟨g,cap,cur,h1,h2,h3,h4,h5,h6⟩
 ·omega
 ·have hc:capN cap n=cap:=by unfold capN;omega
  have hlen:(cur.toList.drop (n*sz)).length=cap*sz-n*sz:=by rw [List.length_drop,Array.length_toList,h5]
  refine ⟨⟨g,cap,cur.toList.drop (n*sz)⟩, ?_, ?_⟩
  ·rw [h1];unfold Rc.v;rw [hc]
  ·rw [h2];unfold Rc.blk padN
   dsimp only
   rw [hc,←hlen,List.take_left,←h6,List.take_append_drop]
def flEq:Value->Value->Bool
 | .bool a,.bool b=>a==b
 | .int k a,.int k' b=>decide (k=k') && decide (a=b)
 | .string a,.string b=>decide (a=b)
 |_,_=>false
theorem flEq_ok:∀ {a b:Value},flEq a b=true->a=b:=λ{a b} h=>by
 unfold flEq at h
 split at h
 ·rw [beq_iff_eq] at h;rw [h]
 ·rw [Bool.and_eq_true,decide_eq_true_eq,decide_eq_true_eq] at h;rw [h.1,h.2]
 ·rw [decide_eq_true_eq] at h;rw [h]
 ·cases h
def flEqs:List Value->List Value->Bool
 | [],[]=>true
 |a::l,b::r=>flEq a b && flEqs l r
 |_,_=>false
theorem flEqs_ok:∀ {a b:List Value},flEqs a b=true->a=b
 | [],[],_=>rfl
 |a::l,b::r,h=>by
  unfold flEqs at h
  rw [Bool.and_eq_true] at h
  rw [flEq_ok h.1,flEqs_ok h.2]
 | [],b::r,h=>by cases h
 |a::l,[],h=>by cases h
def byQ (xs:List Value):YL:=xs.map λv=>match v with
 | .int _ z=>UInt8.ofNat z.toNat
 |_=>0
def nfN (n:Nat)(K:Nat->Res):Res:=match n with
 |0=>K 0
 |m+1=>K (Nat.succ m)
def nfI (z:Int)(K:Int->Res):Res:=match z with
 | .ofNat n=>nfN n λn=>K (.ofNat n)
 | .negSucc n=>nfN n λn=>K (.negSucc n)
def nfL:YL->(YL->Res)->Res
 | [],K=>K []
 |c::r,K=>nfN c.toNat λn=>nfL r λr=>K (UInt8.ofNat n::r)
def nf0 (v:Value)(K:Value->Res):Res:=match v with
 | .int k z=>nfI z λz=>K (.int k z)
 | .bool true=>K (.bool true)
 | .bool false=>K (.bool false)
 | .string ⟨⟨l⟩⟩=>nfL l λl=>K (.string ⟨⟨l⟩⟩)
 | .slice (some ⟨b,o,s⟩) n c=>nfN o λo=>nfN n λn=>K (.slice (some ⟨b,o,s⟩) n c)
 | .pointer (some ⟨b,o,s⟩)=>nfN o λo=>K (.pointer (some ⟨b,o,s⟩))
 |v=>K v
def nfVs:List Value->(List Value->Res)->Res
 | [],K=>K []
 |v::r,K=>nf0 v λv=>nfVs r λr=>K (v::r)
def nfV (v:Value)(K:Value->Res):Res:=match v with
 | .agg ⟨l⟩=>nfVs l λl=>K (.agg ⟨l⟩)
 | .tuple ⟨l⟩=>nfVs l λl=>K (.tuple ⟨l⟩)
 |v=>nf0 v K
def nfA (cs:Array Value)(K:Array Value->Res):Res:=match cs with
 |⟨l⟩=>nfVs l λl=>K ⟨l⟩
def nfBs:List Blk->(List Blk->Res)->Res
 | [],K=>K []
 |⟨b,cs,ty⟩::r,K=>nfBs r λr=>K (⟨b,cs,ty⟩::r)
theorem t8 (n:Nat)(K:Nat->Res):nfN n K=K n:=by cases n<;>rfl
theorem nfI_eq (z:Int)(K:Int->Res):nfI z K=K z:=by
 cases z with
 |ofNat n=>exact t8 n λn=>K (.ofNat n)
 |negSucc n=>exact t8 n λn=>K (.negSucc n)
theorem nfL_eq:∀ (l:YL) (K:YL->Res),nfL l K=K l
 | [],K=>rfl
 |c::r,K=>by rw [nfL,t8,nfL_eq r,UInt8.ofNat_toNat]
theorem nf0_eq (v:Value)(K:Value->Res):nf0 v K=K v:=by
 unfold nf0
 split
 ·exact nfI_eq _ _
 ·rfl
 ·rfl
 ·exact nfL_eq _ _
 ·rw [t8,t8]
 ·exact t8 _ _
 ·rfl
theorem fL:∀ (l:List Value) (K:List Value->Res),nfVs l K=K l
 | [],K=>rfl
 |v::r,K=>by rw [nfVs,nf0_eq,fL r]
theorem n7 (v:Value)(K:Value->Res):nfV v K=K v:=by
 unfold nfV
 split
 ·exact fL _ _
 ·exact fL _ _
 ·exact nf0_eq _ _
theorem nfA_eq (cs:Array Value)(K:Array Value->Res):nfA cs K=K cs:=by cases cs;exact fL _ _
theorem nfBs_eq:∀ (l:List Blk) (K:List Blk->Res),nfBs l K=K l
 | [],K=>rfl
 |⟨b,cs,ty⟩::r,K=>by rw [nfBs,nfBs_eq r]
structure Mm where
 L:List Blk
 O:List Rc
 i:Nat
 h:Hs
def Mm.all (m:Mm)(B:List Blk):List Blk:=m.L++(m.O.map Rc.blk++B)
noncomputable def fW {α:Type}(P:Program):Sem α->Option α
 | .pure a=>some a
 | .program k=>fW P (k P)
 |_=>none
theorem fJ {α:Type}{P:Program}{s:Sem α}{a:α}(h:fW P s=some a)(w:World):s.run P w= .ok a w:=by
 induction s with
 |pure x=>unfold fW at h;cases h;rfl
 |program k ih=>unfold fW at h;exact ih P h
 |_=>unfold fW at h;cases h
noncomputable def peel1 {α:Type}(P:Program)(b:Nat):Sem α->Option (Array Value×TypeId×α)
 | .program k=>peel1 P b (k P)
 | .new (.cells cs T (0,0)) k=>(fW P (k b)).map λa=>(cs,T,a)
 |_=>none
theorem peel1_ok {α:Type}{P:Program}{s:Sem α}{w:World}{cs:Array Value}{T:TypeId}{a:α}(h:peel1 P w.heap.size s=some (cs,T,a)):s.run P w= .ok a (w.alloc (.cells cs T)):=by
 induction s with
 |program k ih=>unfold peel1 at h;exact ih P h
 |new o k ih=>
  unfold peel1 at h
  split at h
  ·rename_i e;cases e
  ·rename_i cs' T' k' e
   cases e
   cases hp:fW P (k w.heap.size) with
   |none=>rw [hp] at h;cases h
   |some a'=>
    rw [hp] at h
    cases h
    exact fJ hp _
  ·cases h
 |_=>unfold peel1 at h;cases h
def srch (b:Nat):List Blk->Nat
 | []=>0
 |x::L=>bif Nat.beq x.b b then 0 else srch b L+1
structure Prm where
 sa:FuncId->Option Nat
 val:FuncId->Array Value->List Value->Option Value
 lst:FuncId->Array Value->Option (TypeId×List Value)
section
variable (P:Program)(G:List Blk)(pr:Prm)(sh:Bool)
def plA (L:List Blk)(b:Nat)(h:Hs):Nat:=bif sh then srch b L else h.hd
abbrev wL:=List Blk->FuncId->Array Value->Env->Mm->(Value->Mm->Res)->Res
def Mm.nx (m:Mm):Mm:=⟨m.L,m.O,m.i,m.h.tl⟩
def Mm.add (m:Mm)(x:Blk):Mm:=⟨x::m.L,m.O,m.i+1,m.h⟩
def Mm.own (m:Mm)(r:Rc):Mm:=⟨m.L,r::m.O,m.i+1,m.h⟩
def seeA (L:List Blk)(b:Nat)(m:Mm)(k:Blk->Mm->Res):Res:=match L[plA sh L b m.h]? with
 |some x=> .ck b x.b (plA sh L b m.h) (k x m.nx)
 |none=> .bad
noncomputable def dX (B:List Blk)(ty:TypeId)(p:Value)(m:Mm)(k:Value->Mm->Res):Res:=match p with
 | .pointer (some ⟨b,off,none⟩)=>seeA sh (m.all (B++G)) b m λx m=>match yQ P ty x.cs off with
  |some v=>nfV v λv=>k v m
  |none=> .bad
 |_=> .bad
noncomputable def storeA (T:TypeId)(p y:Value)(m:Mm)(k:Mm->Res):Res:=match p with
 | .pointer (some ⟨b,off,none⟩)=>match m.L[plA sh m.L b m.h]? with
  |some x=>match P.info? T with
   |some t=>bif Nat.beq y.cells.size t.size && Nat.ble (off+t.size) x.cs.size && y.cells.toList.all (λu=>u.oneCell') then
     .md b (.ck b x.b (plA sh m.L b m.h) (nfA (yR x.cs off y.cells) λcs=>nfBs (m.L.set (plA sh m.L b m.h) ⟨x.b,cs,x.ty⟩) λL=>k ⟨L,m.O,m.i,m.h.tl⟩)) else .bad
   |none=> .bad
  |none=> .bad
 |_=> .bad
noncomputable def makeA (s:Sem Next)(e:Env)(m:Mm)(k:Value->Mm->Res):Res:=match peel1 P (e m.i).b s with
 |some (cs,T,.value v)=>nfA cs λcs=>nfV v λv=>k v (m.add ⟨(e m.i).b,cs,T⟩)
 |_=> .bad
noncomputable def convA (B:List Blk)(src dst:TypeId)(x:Value)(m:Mm)(k:Value->Mm->Res):Res:=match x with
 | .slice (some ⟨b,o2,none⟩) n2 _=>match P.underlying src with
  |some (.slice e)=>match P.underlying e,P.underlying dst with
   |some (.int .u8),some .string=>seeA sh (m.all (B++G)) b m λy m=>bif Nat.ble 1 n2 && Nat.beq (byQ ((y.cs.toList.drop o2).take n2)).length n2 && flEqs ((y.cs.toList.drop o2).take n2) ((byQ ((y.cs.toList.drop o2).take n2)).flatMap u8C) then k (.string (mkS (byQ ((y.cs.toList.drop o2).take n2)))) m else .bad
   |_,_=> .bad
  |_=> .bad
 |_=> .bad
def plO (O:List Rc)(b:Nat)(h:Hs):Nat:=bif sh then (bif Nat.ble O.length (srch b (O.map Rc.blk)) then 100000 else srch b (O.map Rc.blk)) else h.hd
noncomputable def app3 (B:List Blk)(T:TypeId)(sz n2:Nat)(news:List Value)(b1 o1 n1:Nat)(e:Env)(m:Mm)(k:Value->Mm->Res):Res:=
 seeA sh (m.all (B++G)) b1 m λy m=>bif Nat.beq ((y.cs.toList.drop o1).take (n1*sz)).length (n1*sz) && Nat.ble n1 100000 then
  k (Rc.mk (e m.i) (n1+n2) sz ((y.cs.toList.drop o1).take (n1*sz)++news) T).v (m.own ⟨e m.i,n1+n2,sz,(y.cs.toList.drop o1).take (n1*sz)++news,T⟩) else .bad
noncomputable def app2 (B:List Blk)(T:TypeId)(sz n2:Nat)(news:List Value)(s:Value)(e:Env)(m:Mm)(k:Value->Mm->Res):Res:=match s with
 | .slice none 0 0=>k (Rc.mk (e m.i) n2 sz news T).v (m.own ⟨e m.i,n2,sz,news,T⟩)
 | .slice (some ⟨b1,o1,none⟩) n1 c1=>match m.O[plO sh m.O b1 m.h]? with
  |some r=>bif Nat.beq o1 0 && Nat.ble n1 r.n && Nat.beq r.sz sz && Nat.beq r.T T && Nat.beq r.xs.length (r.n*sz) && Nat.ble r.n 100000 then
    .md b1 (.ck b1 r.x.b (plO sh m.O b1 m.h) (.ck c1 (capN r.x.c r.n) 0 (k (Rc.mk (e m.i) (n1+n2) sz (r.xs.take (n1*sz)++news) T).v ⟨m.L,m.O.set (plO sh m.O b1 m.h) ⟨e m.i,n1+n2,sz,r.xs.take (n1*sz)++news,T⟩,m.i+1,m.h.tl.tl⟩))) else .bad
  |none=>bif Nat.ble (c1+1) (n1+n2) then .ck 0 0 (plO sh m.O b1 m.h) (app3 G sh B T sz n2 news b1 o1 n1 e m.nx k) else .bad
 |_=> .bad
noncomputable def appA (B:List Blk)(t:TypeId)(s x:Value)(e:Env)(m:Mm)(k:Value->Mm->Res):Res:=
 match P.underlying t,x with
 |some (.slice T),.slice (some ⟨b2,o2,none⟩) n2 _=>match P.info? T with
  |some i=>match i.zero with
   |some z=>seeA sh (m.all (B++G)) b2 m λy m=>
    bif Nat.beq z.cells.size i.size && Nat.ble 1 n2 && Nat.beq ((y.cs.toList.drop o2).take (n2*i.size)).length (n2*i.size) && ((y.cs.toList.drop o2).take (n2*i.size)).all (λu=>u.oneCell') && Nat.ble (n2+1) 100000 && Nat.ble i.bytes 1000 then
     app2 G sh B T i.size n2 ((y.cs.toList.drop o2).take (n2*i.size)) s e m k else .bad
   |none=> .bad
  |none=> .bad
 |_,_=> .bad
end
section
variable {M:List Nat}{P:Program}{G:List Blk}{pr:Prm}{sh:Bool}{W:World}{n:Nat}{Q:Exit->Act->World->Prop}{f:Nat->Value}{o:Oper}{K:Act->World->Prop}{e:Env}{m:Mm}{B:List Blk}
def Stp {α:Type}(M:List Nat)(W:World)(B:List Blk)(e:Env)(m:Mm)(run:Env->Mm->(α->Mm->Res)->Res)(goal:(α->World->Prop)->World->Prop):Prop:=
 ∀ (kf:Env->α->Mm->Res),(∀ e',agE m.i e e'->(run e' m (kf e')).good)→
  ∀ K:α->World->Prop,(∀ e1 a m',agE m.i e e1->m.i<=m'.i->(∀ e',agE m'.i e1 e'->(kf e' a m').good)→∀ w,Own M W w (m'.all B)->K a w)→∀ w,Own M W w (m.all B)->goal K w
theorem gW {L:List Blk}{b:Nat}{k:Blk->Mm->Res}(h:(seeA sh L b m k).good):∃ x,L[plA sh L b m.h]?=some x/\b=x.b/\(k x m.nx).good:=by
 unfold seeA at h
 split at h
 ·rename_i x hx;exact ⟨x,hx,h.1,h.2⟩
 ·exact h.elim
theorem fQ {w:World}(hG:∀ w,Own M W w []→∀ x∈G,w.heap[x.b]?=some (.cells x.cs x.ty))(hO:Own M W w (m.all B)){j:Nat}{x:Blk}(h:(m.all (B++G))[j]?=some x):w.heap[x.b]?=some (.cells x.cs x.ty):=by
 have hx:=List.mem_of_getElem? h
 unfold Mm.all at hx
 rw [←List.append_assoc,←List.append_assoc] at hx
 rcases List.mem_append.1 hx with hx|hx
 ·exact hO.held x (by unfold Mm.all;rw [←List.append_assoc];exact hx)
 ·exact hG w hO.no x hx
def Kon {α:Type}(M:List Nat)(W:World)(B:List Blk)(e:Env)(m:Mm)(kf:Env->α->Mm->Res)(K:α->World->Prop):Prop:=
 ∀ e1 a m',agE m.i e e1->m.i<=m'.i->(∀ e',agE m'.i e1 e'->(kf e' a m').good)→∀ w,Own M W w (m'.all B)->K a w
theorem Kon.here {α:Type}{kf:Env->α->Mm->Res}{K:α->World->Prop}(h:Kon M W B e m kf K){a:α}{m':Mm}(hi:m'.i=m.i)(hg:∀ e',agE m.i e e'->(kf e' a m').good){w:World}(hO:Own M W w (m'.all B)):K a w:=
 h e a m' (agE.refl _ _) (Nat.le_of_eq hi.symm) (hi▸hg) w hO
theorem load_ok {ty:TypeId}{q:Operand}{kf:Env->Value->Mm->Res}{K:Value->World->Prop}(hG:∀ w,Own M W w []→∀ x∈G,w.heap[x.b]?=some (.cells x.cs x.ty))(ho:o.op= .load ty q)
  (H:∀ e',agE m.i e e'->(dX P G sh B ty (ev n f q) m (kf e')).good) (HK:Kon M W B e m kf K) {w:World} (hO:Own M W w (m.all B)):∃ v w',(execOp (ev n f) o).run P w= .ok (.value v) w'/\K v w':=by
 unfold dX at H
 simp only [n7,nfA_eq,fL,nfBs_eq] at H
 split at H
 ·rename_i b off hq
  obtain ⟨x,hx,hb,h1⟩:=gW (H e (agE.refl _ _))
  cases hv:yQ P ty x.cs off with
  |none=>rw [hv] at h1;exact h1.elim
  |some v=>
   refine ⟨v,w,xD ho (by rw [hq,hb]) (y7 hv (fQ hG hO hx)),HK.here (m':=m.nx) rfl (λe' he=> ?_) hO⟩
   obtain ⟨y,hy,_,h2⟩:=gW (H e' he)
   rw [hx] at hy
   obtain rfl:=Option.some.inj hy
   rw [hv] at h2;exact h2
 ·exact (H e (agE.refl _ _)).elim
theorem makeA_ok {kf:Env->Value->Mm->Res}{K:Value->World->Prop}{s:Sem Next}
  (H:∀ e',agE m.i e e'->(makeA P s e' m (kf e')).good) (HK:Kon M W B e m kf K) {w:World} (hO:Own M W w (m.all B)):∃ v w',s.run P w= .ok (.value v) w'/\K v w':=by
 have h0:=H (updE e m.i ⟨w.heap.size,0,[]⟩) (jG _ _ _)
 have hE:∀ e',agE (m.i+1) (updE e m.i ⟨w.heap.size,0,[]⟩) e'->(e' m.i).b=w.heap.size/\agE m.i e e':=λe' he=>⟨by rw [←he m.i (Nat.lt_succ_self _),updE_at],(jG e m.i _).trans (λj hj=>he j (Nat.lt_succ_of_lt hj)) (Nat.le_refl _)⟩
 have h1:((updE e m.i ⟨w.heap.size,0,[]⟩) m.i).b=w.heap.size:=by rw [updE_at]
 unfold makeA at h0 H
 simp only [n7,nfA_eq] at h0 H
 rw [h1] at h0
 cases hs:peel1 P w.heap.size s with
 |none=>rw [hs] at h0;exact h0.elim
 |some y=>
  obtain ⟨cs,T,a⟩:=y
  cases a with
  |value v=>
   refine ⟨v,_,peel1_ok hs,HK (updE e m.i ⟨w.heap.size,0,[]⟩) v (m.add ⟨w.heap.size,cs,T⟩) (jG _ _ _) (Nat.le_succ _) (λe' he=> ?_) _ (hO.alloc cs T)⟩
   obtain ⟨q1,q2⟩:=hE e' he
   have:=H e' q2
   rw [q1,hs] at this;exact this
  |_=>rw [hs] at h0;exact h0.elim
theorem store_ok {T:TypeId}{q y:Operand}{kf:Env->Unit->Mm->Res}{K:Unit->World->Prop}(ho:o.op= .store T q y)
  (H:∀ e',agE m.i e e'->(storeA P sh T (ev n f q) (ev n f y) m (kf e' ())).good) (HK:Kon M W B e m kf K) {w:World} (hO:Own M W w (m.all B)):∃ w',(execOp (ev n f) o).run P w= .ok .skip w'/\K () w':=by
 unfold storeA at H
 simp only [nfA_eq,nfBs_eq] at H
 split at H
 ·rename_i b off hq
  have h0:=H e (agE.refl _ _)
  cases hx:m.L[plA sh m.L b m.h]? with
  |none=>rw [hx] at h0;exact h0.elim
  |some x=>
   rw [hx] at h0 H
   cases hi:P.info? T with
   |none=>rw [hi] at h0;exact h0.elim
   |some t=>
    rw [hi] at h0 H
    dsimp only at h0 H
    cases hc:(Nat.beq (ev n f y).cells.size t.size && Nat.ble (off+t.size) x.cs.size && (ev n f y).cells.toList.all λu=>u.oneCell') with
    |false=>rw [hc] at h0;exact h0.elim
    |true=>
     rw [hc] at h0 H
     have hb:b=x.b:=h0.1
     rw [Bool.and_eq_true,Bool.and_eq_true] at hc
     obtain ⟨⟨c1,c2⟩,c3⟩:=hc
     have c1:=Nat.eq_of_beq_eq_true c1
     have c2:=Nat.le_of_ble_eq_true c2
     have hxa:(m.all B)[plA sh m.L b m.h]?=some x:=by
      have hlt:=(List.getElem?_eq_some_iff.1 hx).1
      unfold Mm.all;rw [List.getElem?_append_left hlt];exact hx
     have hst:=run_storeCells_at (P:=P) x.b off x.ty (ev n f y).cells.toList 0 x.cs w (hO.get hxa) (by simp;omega) (List.all_eq_true.1 c3)
     refine ⟨w.setRow x.b (yR x.cs off (ev n f y).cells), ?_,HK.here (m':=⟨m.L.set (plA sh m.L b m.h) ⟨x.b,yR x.cs off (ev n f y).cells,x.ty⟩,m.O,m.i,m.h.tl⟩) rfl (λe' he=>(H e' he).2) ?_⟩
     ·unfold execOp
      simp only [ho,hq,hb,Instr.storeAt,Instr.sureAddr,Sem.run_bind,Sem.run_pure,Result.andThen_ok,storeVar,sizeOf,typeInfo,hi,c1,run_program]
      simp only [ne_eq,not_true_eq_false,if_false]
      have:(storeCells ⟨x.b,off,none⟩ (ev n f y).cells.toList).run P w= .ok () (w.setRow x.b (yR x.cs off (ev n f y).cells)):=by
       rw [hst];unfold yR;simp
      simp [this]
     ·have:=hO.put hxa (yR x.cs off (ev n f y).cells)
      have hlt:=(List.getElem?_eq_some_iff.1 hx).1
      unfold Mm.all at this ⊢
      rw [List.set_append_left _ _ hlt] at this
      exact this
 ·exact (H e (agE.refl _ _)).elim
theorem news_at {w:World}{b o2 k:Nat}{cs:Array Value}{T:TypeId}(hg:w.heap[b]?=some (.cells cs T)):∀ j u,((cs.toList.drop o2).take k)[j]?=some u->w.cell? ((⟨b,o2,none⟩:Addr).add j)=some u:=λj u h=>by
 rw [yI,cell_of_row w b (o2+j) cs T _ hg]
 rw [List.getElem?_take] at h
 split at h
 ·rw [List.getElem?_drop] at h;simpa using h
 ·cases h
theorem y3 {c:Bool}{r:Res}(h:(bif c then r else Res.bad).good):c=true/\r.good:=by cases c with|true=>exact ⟨rfl,h⟩|false=>exact h.elim
theorem own_appendF {t ty T:TypeId}{i:TypeInfo}{z:Value}{L:List Blk}{w:World}(ht:P.underlying t=some (.slice T))(hi:P.info? T=some i)(hz:i.zero=some z)(hzs:z.cells.size=i.size)
  {b:Addr} {n cap:Nat} {xs:List Value} (hxl:xs.length=n*i.size) (hxs:∀ j u,xs[j]?=some u->w.cell? (b.add j)=some u)
  {a:Addr} {m c:Nat} {news:List Value} (hl:news.length=m*i.size) (hnews:∀ j u,news[j]?=some u->w.cell? (a.add j)=some u)
  (hroom:cap<n+m) (h63:n+m<=maxLen) (hbytes:(n+m)*i.bytes<=140737488355328) (hO:Own M W w L):
  ∃ v' w' ob',(Builtin.append_ #[t,t] ty #[.slice (some b) n cap,.slice (some a) m c]).run P w= .ok v' w'/\Sl T i.size v' (n+m) (xs++news) ob'/\Own M W w' (ob'++L):=by
 have hsmall:n+m<=9223372036854775807:=by simp only [maxLen] at h63;omega
 have hlen:(xs++news).length=(n+m)*i.size:=by rw [List.length_append,hxl,hl,Nat.add_mul]
 have hr:=run_append_grow (P:=P) w t ty T i z ht hi hz b n cap xs hxl hxs a m c news hl hnews Om Om (growslice_fits Om hbytes)
 have hge:=grownCap_ge w (n+m) cap T
 have hcm:=grownCap_le_maxLen w (n+m) cap T h63
 refine ⟨_,_,[⟨w.heap.size,xs.toArray++news.toArray++Builtin.zeroCells z.cells (grownCap w (n+m) cap T-(n+m)),T⟩],hr,⟨hlen,.inr ⟨w.heap.size,grownCap w (n+m) cap T,_,rfl,rfl,hge,hcm, ?_, ?_⟩⟩,(bO hO).alloc (xs.toArray++news.toArray++Builtin.zeroCells z.cells (grownCap w (n+m) cap T-(n+m))) T⟩
 ·simp only [Array.size_append,List.size_toArray,size_zeroCells,hzs,hxl,hl,←Nat.add_mul]
  congr 1
  omega
 ·simp only [Array.toList_append,List.append_assoc]
  rw [←List.append_assoc,←hlen]
  exact List.take_left
theorem app2_ok {T sz n2:Nat}{news:List Value}{s:Value}{R:Value->World->Prop}{kf:Env->Value->Mm->Res}{K:Value->World->Prop}{w:World}(hn:1<=n2)
  (H:∀ e',agE m.i e e'->(app2 G sh B T sz n2 news s e' m (kf e')).good) (HK:Kon M W B e m kf K) (hO:Own M W w (m.all B))
  (hap:∀ (E ob L0:List Blk) (k:Nat) (xs:List Value),k<=100000->Sl T sz s k xs ob->Own M W w (E++ob++L0)→∃ v' w' ob',R v' w'/\Sl T sz v' (k+n2) (xs++news) ob'/\Own M W w' (E++ob'++L0))
  (hfu:∀ (b1 o1 n1 c1:Nat) (xs:List Value),s= .slice (some ⟨b1,o1,none⟩) n1 c1->n1<=100000->xs.length=n1*sz->(∀ j u,xs[j]?=some u->w.cell? ((⟨b1,o1,none⟩:Addr).add j)=some u)->c1<n1+n2→∃ v' w' ob',R v' w'/\Sl T sz v' (n1+n2) (xs++news) ob'/\Own M W w' (ob'++m.all B)) (hG:∀ w,Own M W w []→∀ x∈G,w.heap[x.b]?=some (.cells x.cs x.ty)):∃ v w',R v w'/\K v w':=by
 have hE:∀ nm e',agE (m.i+1) (updE e m.i nm) e'->e' m.i=nm/\agE m.i e e':=λnm e' he=>⟨by rw [←he m.i (Nat.lt_succ_self _),updE_at],(jG e m.i _).trans (λj hj=>he j (Nat.lt_succ_of_lt hj)) (Nat.le_refl _)⟩
 unfold app2 at H
 split at H
 ·obtain ⟨v',w',ob',hr,hsl,hO'⟩:=hap m.L [] (m.O.map Rc.blk++B) 0 [] Om (Sl.nil T sz) (by rw [List.append_nil];exact hO)
  rw [Nat.zero_add,List.nil_append] at hsl
  obtain ⟨nm,rfl,rfl⟩:=Rc.of hsl hn
  refine ⟨_,w',hr,HK (updE e m.i nm) _ (m.own ⟨nm,n2,sz,news,T⟩) (jG _ _ _) (Nat.le_succ _) (λe' he=> ?_) _ (by have:=hO';rw [List.append_assoc] at this;exact this)⟩
  obtain ⟨q1,q2⟩:=hE nm e' he
  have h3:=H e' q2
  rw [q1] at h3;exact h3
 ·rename_i b1 o1 n1 c1'
  have h1:=H e (agE.refl _ _)
  cases hr:m.O[plO sh m.O b1 m.h]? with
  |none=>
   rw [hr] at h1 H
   obtain ⟨hc,h1⟩:=y3 h1
   obtain ⟨y,hy,hb,h2⟩:=gW h1.2
   obtain ⟨hl,_⟩:=y3 h2
   rw [Bool.and_eq_true] at hl
   have hh:=fQ (m:=m.nx) hG hO hy
   obtain ⟨v',w',ob',hrr,hsl,hO'⟩:=hfu b1 o1 n1 c1' _ rfl (Nat.le_of_ble_eq_true hl.2) (Nat.eq_of_beq_eq_true hl.1) (by rw [hb];exact news_at hh) (Nat.le_of_ble_eq_true hc)
   obtain ⟨nm,rfl,rfl⟩:=Rc.of hsl Om
   refine ⟨_,w',hrr,HK (updE e m.i nm) _ (m.nx.nx.own ⟨nm,n1+n2,sz,_,T⟩) (jG _ _ _) (Nat.le_succ _) (λe' he=> ?_) _ (hO'.perm (List.perm_middle (l₁:=m.L)).symm)⟩
   obtain ⟨q1,q2⟩:=hE nm e' he
   obtain ⟨y',hy',_,h3⟩:=gW (y3 (H e' q2)).2.2
   rw [hy] at hy'
   obtain rfl:=Option.some.inj hy'
   have h4:=(y3 h3).2
   have h5:(kf e' (Rc.mk (e' m.i) (n1+n2) sz _ T).v (m.nx.nx.own ⟨e' m.i,n1+n2,sz,_,T⟩)).good:=h4
   rw [q1] at h5;exact h5
  |some r=>
   rw [hr] at h1 H
   obtain ⟨hc,h1'⟩:=y3 h1
   simp only [Bool.and_eq_true] at hc
   obtain ⟨⟨⟨⟨⟨d0,d1⟩,d2⟩,d3⟩,d4⟩,d5⟩:=hc
   have d0:=Nat.eq_of_beq_eq_true d0
   subst d0
   have d1:=Nat.le_of_ble_eq_true d1
   have d2:=Nat.eq_of_beq_eq_true d2
   have d3:=Nat.eq_of_beq_eq_true d3
   have d4:=Nat.eq_of_beq_eq_true d4
   have d5:=Nat.le_of_ble_eq_true d5
   have hb1:b1=r.x.b:=h1'.1
   have hcc:c1'=capN r.x.c r.n:=h1'.2.1
   have hlt:=(List.getElem?_eq_some_iff.1 hr).1
   have hget:=(List.getElem?_eq_some_iff.1 hr).2
   generalize plO sh m.O b1 m.h=j at*
   have hsl:=Rc.slTo (r:=r) (m:=n1) (by rw [d2];exact d4) (by unfold maxLen;omega) d1
   have hO9:m.O=m.O.take j++r::m.O.drop (j+1):=by rw [←hget,List.getElem_cons_drop,List.take_append_drop]
   have hO8:m.all B=(m.L++(m.O.take j).map Rc.blk)++[r.blk]++((m.O.drop (j+1)).map Rc.blk++B):=by
    unfold Mm.all
    conv=>lhs;rw [hO9]
    simp
   rw [d2,d3,←hb1,←hcc] at hsl
   obtain ⟨v',w',ob',hrr,hsl',hO'⟩:=hap (m.L++(m.O.take j).map Rc.blk) [r.blk] ((m.O.drop (j+1)).map Rc.blk++B) n1 (r.xs.take (n1*sz)) Om hsl (hO8▸hO)
   obtain ⟨nm,rfl,rfl⟩:=Rc.of hsl' Om
   refine ⟨_,w',hrr,HK (updE e m.i nm) _ ⟨m.L,m.O.set j ⟨nm,n1+n2,sz,r.xs.take (n1*sz)++news,T⟩,m.i+1,m.h.tl.tl⟩ (jG _ _ _) (Nat.le_succ _) (λe' he=> ?_) _ ?_⟩
   ·obtain ⟨q1,q2⟩:=hE nm e' he
    have h4:=(y3 (H e' q2)).2.2.2
    rw [q1] at h4;exact h4
   ·have:=hO'
    unfold Mm.all
    rw [List.set_eq_take_append_cons_drop,if_pos hlt]
    simpa using this
 ·exact (H e (agE.refl _ _)).elim
theorem app_ok {t:TypeId}{s x:Operand}{kf:Env->Value->Mm->Res}{K:Value->World->Prop}(hG:∀ w,Own M W w []→∀ x∈G,w.heap[x.b]?=some (.cells x.cs x.ty))(ho:o.op= .call {callee:= .builtin .append,args:= #[s,x],argTypes:= #[t,t]})
  (H:∀ e',agE m.i e e'->(appA P G sh B t (ev n f s) (ev n f x) e' m (kf e')).good) (HK:Kon M W B e m kf K) {w:World} (hO:Own M W w (m.all B)):∃ v w',(execOp (ev n f) o).run P w= .ok (.value v) w'/\K v w':=by
 unfold appA at H
 split at H
 rotate_left
 ·exact (H e (agE.refl _ _)).elim
 rename_i T b2 o2 n2 c2 ht hxv
 have h0:=H e (agE.refl _ _)
 cases hi:P.info? T with
 |none=>rw [hi] at h0;exact h0.elim
 |some i=>
 rw [hi] at h0 H
 dsimp only at h0 H
 cases hz:i.zero with
 |none=>rw [hz] at h0;exact h0.elim
 |some z=>
 rw [hz] at h0 H
 dsimp only at h0 H
 obtain ⟨y,hy,hb,h1⟩:=gW h0
 obtain ⟨hc,h1⟩:=y3 h1
 simp only [Bool.and_eq_true] at hc
 obtain ⟨⟨⟨⟨⟨c1,c2'⟩,c3⟩,c4⟩,c5⟩,c6⟩:=hc
 have c1:=Nat.eq_of_beq_eq_true c1
 have c2':=Nat.le_of_ble_eq_true c2'
 have c3:=Nat.eq_of_beq_eq_true c3
 have c5:=Nat.le_of_ble_eq_true c5
 have c6:=Nat.le_of_ble_eq_true c6
 have hnw:∀ j u,((y.cs.toList.drop o2).take (n2*i.size))[j]?=some u->w.cell? ((⟨b2,o2,none⟩:Addr).add j)=some u:=by rw [hb];exact news_at (fQ hG hO hy)
 refine app2_ok (G:=G) (sh:=sh) (T:=T) (sz:=i.size) (news:=(y.cs.toList.drop o2).take (n2*i.size)) (s:=ev n f s) (m:=m.nx) (R:=λv w'=>(execOp (ev n f) o).run P w= .ok (.value v) w') c2' (λe' he=> ?_) HK hO (λE ob L0 k xs hk hsl hO'=> ?_) (λb1 o1 n1 cc xs hs hk hxl hxs hc=> ?_) hG
 ·obtain ⟨y',hy',_,h2⟩:=gW (H e' he)
  rw [hy] at hy'
  obtain rfl:=Option.some.inj hy'
  exact (y3 h2).2
 ·obtain ⟨v',w',ob',hr,h1,h2⟩:=jT (P:=P) (ty:=o.type) (a:=⟨b2,o2,none⟩) (c:=c2) ht hi hz rfl c1 hsl hO' c3 hnw (List.all_eq_true.1 c4) (show k+n2<=maxLen by unfold maxLen;omega) (Nat.le_trans (Nat.mul_le_mul (show k+n2<=200000 by omega) c6) (by decide))
  refine ⟨v',w',ob', ?_,h1,h2⟩
  unfold execOp
  simp only [ho,resolve,invoke,builtin,Sem.run_bind,Sem.run_pure,Result.andThen_ok,List.map_toArray,List.map_cons,List.map_nil,hxv,hr]
 ·obtain ⟨v',w',ob',hr,h1,h2⟩:=own_appendF (P:=P) (M:=M) (W:=W) (L:=m.nx.all B) (ty:=o.type) (b:=⟨b1,o1,none⟩) (cap:=cc) (a:=⟨b2,o2,none⟩) (c:=c2) ht hi hz c1 hxl hxs c3 hnw hc (show n1+n2<=maxLen by unfold maxLen;omega) (Nat.le_trans (Nat.mul_le_mul (show n1+n2<=200000 by omega) c6) (by decide)) hO
  refine ⟨v',w',ob', ?_,h1,h2⟩
  unfold execOp
  simp only [ho,resolve,invoke,builtin,Sem.run_bind,Sem.run_pure,Result.andThen_ok,List.map_toArray,List.map_cons,List.map_nil,hs,hxv,hr]
end
section
variable {M:List Nat}{P:Program}{G:List Blk}{sh:Bool}{W:World}{n:Nat}{f:Nat->Value}{o:Oper}{e:Env}{m:Mm}{B:List Blk}
theorem conv_ok {src dst:TypeId}{x:Operand}{kf:Env->Value->Mm->Res}{K:Value->World->Prop}(hG:∀ w,Own M W w []→∀ x∈G,w.heap[x.b]?=some (.cells x.cs x.ty))(ho:o.op= .convert src dst x)
  (H:∀ e',agE m.i e e'->(convA P G sh B src dst (ev n f x) m (kf e')).good) (HK:Kon M W B e m kf K) {w:World} (hO:Own M W w (m.all B)):∃ v w',(execOp (ev n f) o).run P w= .ok (.value v) w'/\K v w':=by
 unfold convA at H
 split at H
 rotate_left
 ·exact (H e (agE.refl _ _)).elim
 rename_i b o2 n2 c2 hx
 have h0:=H e (agE.refl _ _)
 split at h0
 rotate_left
 ·exact h0.elim
 rename_i el hs
 rw [hs] at H
 dsimp only at H
 split at h0
 rotate_left
 ·exact h0.elim
 rename_i he hd
 rw [he,hd] at H
 dsimp only at H
 obtain ⟨y,hy,hb,h1⟩:=gW h0
 obtain ⟨hc,_⟩:=y3 h1
 rw [Bool.and_eq_true,Bool.and_eq_true] at hc
 have hh:=fQ hG hO hy
 have hl:=Nat.eq_of_beq_eq_true hc.1.2
 refine ⟨_,w,run_bytes (P:=P) (B:=w.heap.size) (l:=byQ ((y.cs.toList.drop o2).take n2)) ho (by rw [hx,hl]) hs he hd (by rw [hl];exact Nat.le_of_ble_eq_true hc.1.1) (λ_=>⟨b,o2,rfl,hb▸(Array.getElem?_eq_some_iff.1 hh).1,λk u hk=> ?_⟩),HK.here (m':=m.nx) rfl (λe' he'=> ?_) hO⟩
 ·rw [←flEqs_ok hc.2] at hk
  rw [hb,←yI]
  exact news_at hh k u hk
 ·obtain ⟨y',hy',_,h2⟩:=gW (H e' he')
  rw [hy] at hy'
  obtain rfl:=Option.some.inj hy'
  exact (y3 h2).2
end
theorem run_slE {P:Program}{ρ:Operand->Value}{o:Oper}{t el:TypeId}{x y:Operand}{b o2 n c sz:Nat}{k:IntKind}(ho:o.op= .slice t x (some y) none none)(hx:ρ x= .slice (some ⟨b,o2,none⟩) n c)(hy:ρ y= .int k (n:Int))
  (hu:P.underlying t=some (.slice el)) (hs:(P.info? el).map (·.size)=some sz) (w:World):(execOp ρ o).run P w= .ok (.value (.slice (some (if c=n then ⟨b,o2,none⟩ else ⟨b,o2+n*sz,none⟩)) 0 (c-n))) w:=by
 cases he:P.info? el with
 |none=>rw [he] at hs;cases hs
 |some i=>
  rw [he] at hs
  obtain rfl:=Option.some.inj hs
  unfold execOp
  simp [ho,hx,hy,Instr.sliceAt,Instr.slice,Instr.sliceBounds,Instr.sliceBound,Sem.run_bind,asIntOf,run_underlying hu,sizeOf,typeInfo,he,yI]
  split<;>rfl
def appQ (c:Call):Option (Operand×Operand×TypeId):=match c.callee,c.args.toList,c.argTypes.toList with
 | .builtin .append,[s,x],[t,t']=>bif Nat.beq t t' then some (s,x,t) else none
 |_,_,_=>none
theorem appQ_op {c:Call}{s x:Operand}{t:TypeId}(h:appQ c=some (s,x,t)):c={callee:= .builtin .append,args:= #[s,x],argTypes:= #[t,t]}:=by
 obtain ⟨ce,⟨xa⟩,⟨ta⟩⟩:=c
 unfold appQ at h
 dsimp only at h
 split at h
 ·rename_i h1 h2 h3
  cases hb:Nat.beq h2 h3 with
  |false=>rw [hb] at h;cases h
  |true=>
   rw [hb] at h
   have:=Nat.eq_of_beq_eq_true hb
   subst this
   cases h;rfl
 ·cases h
section
variable (P:Program)(G:List Blk)(pr:Prm)(sh:Bool)
def valA (k:FuncId)(args:Array Value)(xs:List Value)(m:Mm)(kk:Value->Mm->Res):Res:=match pr.val k args xs with
 |some v=>nfV v λv=>kk v m
 |none=> .bad
noncomputable def bY (call:wL)(B:List Blk)(k:FuncId)(args:Array Value)(e:Env)(m:Mm)(kk:Value->Mm->Res):Res:=
 match pr.sa k with
 |some a=>match args.getD a undef with
  | .slice none 0 0=>valA pr k args [] m kk
  | .slice (some ⟨b,o,none⟩) n c=>seeA sh (m.all (B++G)) b m λx m=>bif Nat.beq ((x.cs.toList.drop o).take n).length n && Nat.ble n c then valA pr k args ((x.cs.toList.drop o).take n) m kk else .bad
  |_=> .bad
 |none=>match pr.val k args [] with
  |some v=>nfV v λv=>kk v m
  |none=>match pr.lst k args with
   |some (T,xs)=>nfVs xs λxs=>bif Nat.ble 1 xs.length then kk (Rc.mk (e m.i) xs.length 1 xs T).v (m.own ⟨e m.i,xs.length,1,xs,T⟩) else .bad
   |none=>call B k args e m kk
noncomputable def pureA (call:wL)(B:List Blk)(n:Nat)(f:Nat->Value)(o:Oper)(e:Env)(m:Mm)(k:Value->Mm->Res):Res:=match fW P (execOp (ev n f) o) with
 |some (.value v)=>nfV v λv=>k v m
 |some (.enter g args)=>nfA args λargs=>bY G pr sh call B g args e m k
 |_=> .bad
noncomputable def sliA (t:TypeId)(b o2 n c:Nat)(m:Mm)(k:Value->Mm->Res):Res:=match P.underlying t with
 |some (.slice el)=>match (P.info? el).map (·.size) with
  |some sz=> .two (k (.slice (some ⟨b,o2,none⟩) 0 (c-n)) ⟨m.L,m.O,m.i,m.h.l1⟩) (k (.slice (some ⟨b,o2+n*sz,none⟩) 0 (c-n)) ⟨m.L,m.O,m.i,m.h.l2⟩)
  |none=> .bad
 |_=> .bad
def sliQ (v:Value)(w:Value):Option (Nat×Nat×Nat×Nat):=match v,w with
 | .slice (some ⟨b,o,none⟩) n c,.int _ z=>bif decide (z=(n:Int)) then some (b,o,n,c) else none
 |_,_=>none
theorem sliQ_ok {v w:Value}{b o n c:Nat}(h:sliQ v w=some (b,o,n,c)):v= .slice (some ⟨b,o,none⟩) n c∧∃ k,w= .int k (n:Int):=by
 unfold sliQ at h
 split at h
 ·rename_i z
  cases hd:decide (z=_) with
  |false=>rw [hd] at h;cases h
  |true=>rw [hd] at h;cases h;exact ⟨rfl,_,by rw [of_decide_eq_true hd]⟩
 ·cases h
noncomputable def opA (call:wL)(B:List Blk)(n:Nat)(f:Nat->Value)(o:Oper)(e:Env)(m:Mm)(k:(Nat->Value)->Mm->Res):Res:=match o.op with
 | .load ty p=>dX P G sh B ty (ev n f p) m λv m=>k (upd f o.dst v) m
 | .store T p y=>match o.dst with
  |none=>storeA P sh T (ev n f p) (ev n f y) m λm=>k f m
  |some _=> .bad
 | .alloc _=>makeA P (execOp (ev n f) o) e m λv m=>k (upd f o.dst v) m
 | .box _ _=>makeA P (execOp (ev n f) o) e m λv m=>k (upd f o.dst v) m
 | .buildSlice _ _ _=>makeA P (execOp (ev n f) o) e m λv m=>k (upd f o.dst v) m
 | .makeSlice _ _ _=>makeA P (execOp (ev n f) o) e m λv m=>k (upd f o.dst v) m
 | .convert s d x=>match ev n f x with
  | .slice (some _) _ _=>convA P G sh B s d (ev n f x) m λv m=>k (upd f o.dst v) m
  |_=>pureA P G pr sh call B n f o e m λv m=>k (upd f o.dst v) m
 | .slice t x (some y) none none=>match sliQ (ev n f x) (ev n f y) with
  |some (b,o2,l,c)=>sliA P t b o2 l c m λv m=>k (upd f o.dst v) m
  |none=>pureA P G pr sh call B n f o e m λv m=>k (upd f o.dst v) m
 | .call c=>match appQ c with
  |some (s,x,t)=>appA P G sh B t (ev n f s) (ev n f x) e m λv m=>k (upd f o.dst v) m
  |none=>pureA P G pr sh call B n f o e m λv m=>k (upd f o.dst v) m
 |_=>pureA P G pr sh call B n f o e m λv m=>k (upd f o.dst v) m
noncomputable def aOps (call:wL)(B:List Blk)(n:Nat)(a:Array Oper)(e:Env):List Oper->(Nat->Value)->Mm->((Nat->Value)->Mm->Res)->Res
 | [],f,m,k=>k f m
 |o::r,f,m,k=>bif zT a n f o then opA P G pr sh call B n f o e m (λf m=>aOps call B n a e r f m k) else aOps call B n a e r (upd f o.dst undef) m k
end
structure PrOk (P:Program)(pr:Prm)(M:List Nat)(W:World):Prop where
 v0:∀ {k args v},pr.sa k=none->pr.val k args []=some v→∀ w,Own M W w []->Calls P k args w λen w'=>en= .returned v/\YB w w'
 vn:∀ {k a args v},pr.sa k=some a->args.getD a undef= .slice none 0 0->pr.val k args []=some v→∀ w,Own M W w []->Calls P k args w λen w'=>en= .returned v/\YB w w'
 vs:∀ {k a args v b o n c xs},pr.sa k=some a->args.getD a undef= .slice (some ⟨b,o,none⟩) n c->n<=c->xs.length=n->pr.val k args xs=some v→∀ w,Own M W w []->b<w.heap.size->(∀ j u,xs[j]?=some u->w.cell? ⟨b,o+j,none⟩=some u)->Calls P k args w λen w'=>en= .returned v/\YB w w'
 ls:∀ {k args T xs},pr.lst k args=some (T,xs)→∀ w,Own M W w []->Calls P k args w λen w'=>∃ v ob,en= .returned v/\Sl T 1 v xs.length xs ob/\Own [] w w' ob
section
variable {M:List Nat}{P:Program}{G:List Blk}{pr:Prm}{sh:Bool}{W:World}{n:Nat}{Q:Exit->Act->World->Prop}{f:Nat->Value}{o:Oper}{e:Env}{m:Mm}{B:List Blk}{call:wL}
def GOk (M:List Nat)(W:World)(G:List Blk):Prop:=∀ w,Own M W w []→∀ x∈G,w.heap[x.b]?=some (.cells x.cs x.ty)
def d7 (P:Program)(M:List Nat)(W:World)(call:wL):Prop:=∀ B k args e m kf,(∀ e',agE m.i e e'->(call B k args e' m (kf e')).good)→∀ K,Kon M W B e m kf K→∀ w,Own M W w (m.all B)->Calls P k args w λen w'=>∃ v,en= .returned v/\K v w'
theorem val_ok {k:FuncId}{args:Array Value}{xs:List Value}{kk:Value->Mm->Res}(h:(valA pr k args xs m kk).good):∃ v,pr.val k args xs=some v/\(kk v m).good:=by
 unfold valA at h
 simp only [n7] at h
 split at h
 ·rename_i v hv;exact ⟨v,hv,h⟩
 ·exact h.elim
theorem val_is {k:FuncId}{args:Array Value}{xs:List Value}{v:Value}{kk:Value->Mm->Res}(hv:pr.val k args xs=some v)(h:(valA pr k args xs m kk).good):(kk v m).good:=by
 obtain ⟨u,hu,h1⟩:=val_ok h
 rw [hv] at hu
 exact (Option.some.inj hu)▸h1
theorem enter_ok (hG:GOk M W G)(hP:PrOk P pr M W)(hC:d7 P M W call){k:FuncId}{args:Array Value}{kf:Env->Value->Mm->Res}{K:Value->World->Prop}
  (H:∀ e',agE m.i e e'->(bY G pr sh call B k args e' m (kf e')).good) (HK:Kon M W B e m kf K) {w:World} (hO:Own M W w (m.all B)):Calls P k args w λen w'=>∃ v,en= .returned v/\K v w':=by
 have h0:=H e (agE.refl _ _)
 have fin:∀ {v:Value} {m':Mm},m'.i=m.i->m'.all B=m.all B->(∀ e',agE m.i e e'->(kf e' v m').good)->(Calls P k args w λen w'=>en= .returned v/\YB w w')->Calls P k args w λen w'=>∃ v,en= .returned v/\K v w':=λ{v m'} hi hm hg hc=>hc.mono λen w' ⟨e1,e2⟩=>⟨v,e1,HK.here hi hg (hm▸hO.on e2)⟩
 unfold bY at h0 H
 simp only [n7,fL] at h0 H
 cases hs:pr.sa k with
 |some a=>
  rw [hs] at h0 H
  dsimp only at h0 H
  split at h0
  ·rename_i ha
   rw [ha] at H
   obtain ⟨v,hv,_⟩:=val_ok h0
   exact fin rfl rfl (λe' he=>val_is hv (H e' he)) (hP.vn hs ha hv w hO.no)
  ·rename_i b o n c ha
   rw [ha] at H
   obtain ⟨x,hx,hb,h1⟩:=gW h0
   obtain ⟨hl,h1⟩:=y3 h1
   rw [Bool.and_eq_true] at hl
   have hh:=fQ hG hO hx
   have hnews:=news_at (o2:=o) (k:=n) hh
   obtain ⟨v,hv,_⟩:=val_ok h1
   refine fin (m':=m.nx) rfl rfl (λe' he=> ?_) (hP.vs hs ha (Nat.le_of_ble_eq_true hl.2) (Nat.eq_of_beq_eq_true hl.1) hv w hO.no (hb▸(Array.getElem?_eq_some_iff.1 hh).1) λj u hj=> ?_)
   ·obtain ⟨x',hx',_,h2⟩:=gW (H e' he)
    rw [hx] at hx'
    obtain rfl:=Option.some.inj hx'
    exact val_is hv (y3 h2).2
   ·rw [hb,←yI];exact hnews j u hj
  ·exact h0.elim
 |none=>
  rw [hs] at h0 H
  dsimp only at h0 H
  cases hv:pr.val k args [] with
  |some v=>exact fin rfl rfl (λe' he=>by have:=H e' he;rw [hv] at this;exact this) (hP.v0 hs hv w hO.no)
  |none=>
   rw [hv] at h0 H
   dsimp only at h0 H
   cases hl:pr.lst k args with
   |none=>
    rw [hl] at H
    exact hC B k args e m kf H K HK w hO
   |some y=>
    obtain ⟨T,xs⟩:=y
    rw [hl] at h0 H
    dsimp only at h0 H
    obtain ⟨hn,_⟩:=y3 h0
    refine (hP.ls hl w hO.no).mono λen w' ⟨v,ob,e1,h2,h3⟩=> ?_
    obtain ⟨nm,rfl,rfl⟩:=Rc.of h2 (Nat.le_of_ble_eq_true hn)
    refine ⟨_,e1,HK (updE e m.i nm) _ (m.own ⟨nm,xs.length,1,xs,T⟩) (jG _ _ _) (Nat.le_succ _) (λe' he=> ?_) _ ?_⟩
    ·have q1:e' m.i=nm:=by rw [←he m.i (Nat.lt_succ_self _),updE_at]
     have:=(y3 (H e' ((jG e m.i _).trans (λj hj=>he j (Nat.lt_succ_of_lt hj)) (Nat.le_refl _)))).2
     rw [q1] at this;exact this
    ·have h4:=Own.joinN hO h3
     exact h4.perm (List.perm_middle (l₁:=m.L)).symm
theorem pure_ok (hG:GOk M W G)(hP:PrOk P pr M W)(hC:d7 P M W call){kf:Env->Value->Mm->Res}{K:Value->World->Prop}{Q0:Exit->Act->World->Prop}{K0:Act->World->Prop}
  (H:∀ e',agE m.i e e'->(pureA P G pr sh call B n f o e' m (kf e')).good) (HK:Kon M W B e m kf K) (hK:∀ v w,K v w->K0 (Fr n (upd f o.dst v)) w) {w:World} (hO:Own M W w (m.all B)):o.wp P (Fr n f) w K0 Q0:=by
 unfold pureA at H
 simp only [n7,nfA_eq] at H
 have h0:=H e (agE.refl _ _)
 cases hp:fW P (execOp (ev n f) o) with
 |none=>rw [hp] at h0;exact h0.elim
 |some y=>
  rw [hp] at h0 H
  cases y with
  |value v=>exact xB v (fJ hp w) (hK v w (HK.here rfl H hO))
  |enter g args=>exact wU (fJ hp w) ((enter_ok hG hP hC H HK hO).mono λen w' ⟨v,e1,e2⟩=>⟨v,e1,hK v w' e2⟩)
  |_=>exact h0.elim
theorem sli_ok {t:TypeId}{x y:Operand}{b o2 l c:Nat}{kf:Env->Value->Mm->Res}{K:Value->World->Prop}(ho:o.op= .slice t x (some y) none none)(hq:sliQ (ev n f x) (ev n f y)=some (b,o2,l,c))
  (H:∀ e',agE m.i e e'->(sliA P t b o2 l c m (kf e')).good) (HK:Kon M W B e m kf K) {w:World} (hO:Own M W w (m.all B)):∃ v w',(execOp (ev n f) o).run P w= .ok (.value v) w'/\K v w':=by
 unfold sliA at H
 have h0:=H e (agE.refl _ _)
 obtain ⟨hx,k,hy⟩:=sliQ_ok hq
 split at h0
 ·rename_i el hu
  rw [hu] at H
  dsimp only at h0 H
  split at h0
  ·rename_i sz hs
   rw [hs] at H
   have hr:=run_slE (P:=P) ho hx hy hu hs w
   by_cases hc:c=l
   ·rw [if_pos hc] at hr
    exact ⟨_,w,hr,HK.here (m':=⟨m.L,m.O,m.i,m.h.l1⟩) rfl (λe' he=>(H e' he).1) hO⟩
   ·rw [if_neg hc] at hr
    exact ⟨_,w,hr,HK.here (m':=⟨m.L,m.O,m.i,m.h.l2⟩) rfl (λe' he=>(H e' he).2) hO⟩
  ·exact h0.elim
 ·exact h0.elim
theorem op_ok (hG:GOk M W G)(hP:PrOk P pr M W)(hC:d7 P M W call){kf:Env->(Nat->Value)->Mm->Res}{Q0:Exit->Act->World->Prop}{K0:Act->World->Prop}
  (H:∀ e',agE m.i e e'->(opA P G pr sh call B n f o e' m (kf e')).good) (HK:Kon M W B e m kf (λf' w=>K0 (Fr n f') w)) {w:World} (hO:Own M W w (m.all B)):o.wp P (Fr n f) w K0 Q0:=by
 have key:∀ v w,(λv w=>K0 (Fr n (upd f o.dst v)) w) v w->K0 (Fr n (upd f o.dst v)) w:=λ_ _ h=>h
 have HKv:Kon M W B e m (λe' v m=>kf e' (upd f o.dst v) m) (λv w=>K0 (Fr n (upd f o.dst v)) w):=λe1 v m' h1 h2 h3 w hw=>HK e1 _ m' h1 h2 h3 w hw
 have mk:(∀ e',agE m.i e e'->(makeA P (execOp (ev n f) o) e' m λv m=>kf e' (upd f o.dst v) m).good)->o.wp P (Fr n f) w K0 Q0:=λH=>by
  obtain ⟨v,w',h1,h2⟩:=makeA_ok H HKv hO
  exact xB v h1 h2
 have pu:(∀ e',agE m.i e e'->(pureA P G pr sh call B n f o e' m λv m=>kf e' (upd f o.dst v) m).good)->o.wp P (Fr n f) w K0 Q0:=λH=>pure_ok hG hP hC H HKv key hO
 unfold opA at H
 cases ho:o.op with
 |load ty q=>
  rw [ho] at H
  obtain ⟨v,w',h1,h2⟩:=load_ok (hG:=hG) ho H HKv hO
  exact xB v h1 h2
 |store T q y=>
  rw [ho] at H
  dsimp only at H
  cases hd:o.dst with
  |some d=>rw [hd] at H;exact (H e (agE.refl _ _)).elim
  |none=>
   rw [hd] at H
   obtain ⟨w',h1,h2⟩:=store_ok (kf:=λe' _ m=>kf e' f m) (K:=λ_ w=>K0 (Fr n f) w) ho H (λe1 v m' h1 h2 h3 w hw=>HK e1 _ m' h1 h2 h3 w hw) hO
   unfold Oper.wp
   rw [gU,h1]
   show K0 ((Fr n f).put o.dst undef) w'
   rw [jB,hd];exact h2
 |alloc T=>rw [ho] at H;exact mk H
 |box T x=>rw [ho] at H;exact mk H
 |buildSlice t l ps=>rw [ho] at H;exact mk H
 |makeSlice t x y=>rw [ho] at H;exact mk H
 |convert s d x=>
  rw [ho] at H
  dsimp only at H
  split at H
  ·obtain ⟨v,w',h1,h2⟩:=conv_ok (hG:=hG) ho H HKv hO
   exact xB v h1 h2
  ·exact pu H
 |slice t x lo hi mx=>
  rw [ho] at H
  cases lo with
  |none=>exact pu H
  |some y=>cases hi with
   |some z=>exact pu H
   |none=>cases mx with
    |some z=>exact pu H
    |none=>
     dsimp only at H
     cases hq:sliQ (ev n f x) (ev n f y) with
     |none=>rw [hq] at H;exact pu H
     |some q=>
      obtain ⟨b,o2,l,c⟩:=q
      rw [hq] at H
      obtain ⟨v,w',h1,h2⟩:=sli_ok ho hq H HKv hO
      exact xB v h1 h2
 |call c=>
  rw [ho] at H
  dsimp only at H
  cases hq:appQ c with
  |none=>rw [hq] at H;exact pu H
  |some y=>
   obtain ⟨s,x,t⟩:=y
   rw [hq] at H
   obtain ⟨v,w',h1,h2⟩:=app_ok (hG:=hG) (by rw [ho,appQ_op hq]) H HKv hO
   exact xB v h1 h2
 |_=>rw [ho] at H;exact pu H
theorem ops_ok (hG:GOk M W G)(hP:PrOk P pr M W)(hC:d7 P M W call){a:Array Oper}{kf:Env->(Nat->Value)->Mm->Res}:∀ (r:List Oper) (f:Nat->Value) (m:Mm) (e:Env),
  (∀ e',agE m.i e e'->(aOps P G pr sh call B n a e' r f m (kf e')).good)->Kon M W B e m kf (λf' w=>Q .normal (Fr n f') w)->Seg M P n a W Q r (m.all B) f
 | [],f,m,e,H,HK=>⟨λw hO=>HK.here rfl H hO⟩
 |o::r,f,m,e,H,HK=>by
  cases hw:zT a n f o with
  |false=>exact s_skip hw (ops_ok hG hP hC r _ m e (λe' he=>by have:=H e' he;rw [aOps,hw] at this;exact this) HK)
  |true=>
   refine kW hw λw hO=>op_ok (kf:=λe' f' m'=>aOps P G pr sh call B n a e' r f' m' (kf e')) hG hP hC (λe' he=>by have:=H e' he;rw [aOps,hw] at this;exact this) (λe1 f' m' h1 h2 h3 w' hO'=> ?_) hO
   exact (ops_ok hG hP hC r f' m' e1 h3 (λe2 f2 m2 g1 g2 g3 w2 hw2=>HK e2 f2 m2 (h1.trans g1 h2) (Nat.le_trans h2 g2) g3 w2 hw2)).go w' hO'
end
section
variable (P:Program)(G:List Blk)(pr:Prm)(sh:Bool)
noncomputable def takeA (B:List Blk)(n:Nat)(f:Nat->Value)(a:Array Oper)(o:Oper)(m:Mm)(k:(Nat->Value)->Mm->Res):Res:=
 bif zT a n f o then (match o.op with
  | .load ty p=>match ev n f p with
   | .pointer (some ⟨b,off,none⟩)=>seeA sh (B++G) b m λx m=>match yQ P ty x.cs off with
    |some v=>k (upd f o.dst v) m
    |none=> .bad
   |_=> .bad
  |_=>match fW P (execOp (ev n f) o) with
   |some (.value v)=>k (upd f o.dst v) m
   |_=> .bad)
 else k (upd f o.dst undef) m
noncomputable def aH (call:wL)(B:List Blk)(n:Nat)(a:Array Oper)(e:Env):Nat->Array Bool->(Nat->Value)->Mm->((Nat->Value)->Mm->Res)->Res
 |u,s,f,m,k=>match Region.ready .any a s with
  | []=>k f m
  |i0::rs=>match u with
   |0=> .bad
   |u+1=>match (i0::rs).find? (λi=>xTak n a f i && Region.free .any a s i) with
    |some i=>match a[i]? with
     |some o=>bif Region.noSelect a && Region.free .any a s i && (Region.ready .any a s).contains i then takeA P G sh B n f a o m (λf m=>aH call B n a e u (s.setIfInBounds i true) f m k) else .bad
     |none=> .bad
    |none=>match rs with
     | []=>match a[i0]? with
      |some o=>bif zT a n f o then opA P G pr sh call B n f o e m (λf m=>aH call B n a e u (s.setIfInBounds i0 true) f m k) else .bad
      |none=> .bad
     | [j0]=>match a[i0]?,a[j0]? with
      |some o,some q=>bif zT a n f o && zT a n f q then .two (opA P G pr sh call B n f o e ⟨m.L,m.O,m.i,m.h.l1⟩ (λf m=>aH call B n a e u (s.setIfInBounds i0 true) f m k)) (opA P G pr sh call B n f q e ⟨m.L,m.O,m.i,m.h.l2⟩ (λf m=>aH call B n a e u (s.setIfInBounds j0 true) f m k)) else .bad
      |_,_=> .bad
     |_=> .bad
end
section
variable {M:List Nat}{P:Program}{G:List Blk}{pr:Prm}{sh:Bool}{W:World}{n:Nat}{Q:Exit->Act->World->Prop}{f:Nat->Value}{o:Oper}{e:Env}{m:Mm}{B:List Blk}{call:wL}
theorem f9 {w:World}(hO:Own M W w (m.all B)):Own M W w B:=Own.sub _ (by have:=hO;unfold Mm.all at this;rw [←List.append_assoc] at this;exact this)
theorem take_ok (hG:GOk M W G){a:Array Oper}{i u:Nat}{s:Array Bool}(hi:a[i]?=some o)(hs:Region.noSelect a=true)(hf:Region.free .any a s i=true)(hr:(Region.ready .any a s).contains i=true)(hQ:PQ Q){kf:Env->(Nat->Value)->Mm->Res}
  (H:∀ e',agE m.i e e'->(takeA P G sh B n f a o m (kf e')).good) (HK:∀ f' m',m'.i=m.i->m'.all B=m.all B->(∀ e',agE m.i e e'->(kf e' f' m').good)->v8 M P n a W B Q u (s.setIfInBounds i true) (m'.all B) f'):v8 M P n a W B Q (u+1) s (m.all B) f:=by
 unfold takeA at H
 have h0:=H e (agE.refl _ _)
 cases hw:zT a n f o with
 |false=>
  rw [hw] at H
  exact hl_skip i o hi hs hf hr hQ (λw=>f9) hw (HK _ m rfl rfl H)
 |true=>
  rw [hw] at h0 H
  dsimp only [cond_true] at h0 H
  have pu:(∀ e',agE m.i e e'->(match fW P (execOp (ev n f) o) with
   |some (.value v)=>kf e' (upd f o.dst v) m
   |_=>Res.bad:Res).good)->v8 M P n a W B Q (u+1) s (m.all B) f:=λH=>by
   have h0:=H e (agE.refl _ _)
   cases hp:fW P (execOp (ev n f) o) with
   |none=>rw [hp] at h0;exact h0.elim
   |some y=>cases y with
    |value v=>rw [hp] at H;exact fP i o v hi hs hf hr hQ (λw=>f9) hw (λw _=>fJ hp w) (HK _ m rfl rfl H)
    |_=>rw [hp] at h0;exact h0.elim
  cases ho:o.op with
  |load ty q=>
   rw [ho] at h0 H
   dsimp only at h0 H
   split at h0
   ·rename_i b off hq
    rw [hq] at H
    obtain ⟨x,hx,hb,h1⟩:=gW h0
    cases hv:yQ P ty x.cs off with
    |none=>rw [hv] at h1;exact h1.elim
    |some v=>
     refine hl_old i o (a:=⟨b,off,none⟩) v hi hs hf hr hQ (λw=>f9) hw ho hq (λw hO=> ?_) (HK _ m.nx rfl rfl λe' he=> ?_)
     ·rw [hb]
      refine y7 (T:=x.ty) hv ?_
      rcases List.mem_append.1 (List.mem_of_getElem? hx) with hx|hx
      ·exact hO.held x hx
      ·exact hG w hO.no x hx
     ·obtain ⟨y,hy,_,h2⟩:=gW (H e' he)
      rw [hx] at hy
      obtain rfl:=Option.some.inj hy
      rw [hv] at h2;exact h2
   ·exact h0.elim
  |_=>rw [ho] at H;exact pu H
theorem h_ok (hG:GOk M W G)(hP:PrOk P pr M W)(hC:d7 P M W call)(hQ:PQ Q){a:Array Oper}{kf:Env->(Nat->Value)->Mm->Res}:∀ (u:Nat) (s:Array Bool) (f:Nat->Value) (m:Mm) (e:Env),
  (∀ e',agE m.i e e'->(aH P G pr sh call B n a e' u s f m (kf e')).good)->Kon M W B e m kf (λf' w=>Q .normal (Fr n f') w)->v8 M P n a W B Q u s (m.all B) f:=by
 intro u
 induction u with
 |zero=>
  intro s f m e H HK
  have h0:=H e (agE.refl _ _)
  unfold aH at h0 H
  cases hr:Region.ready .any a s with
  |nil=>rw [hr] at H;exact h_done hr ⟨λw hO=>HK.here rfl H hO⟩
  |cons i rs=>rw [hr] at h0;exact h0.elim
 |succ u ih=>
  intro s f m e H HK
  have h0:=H e (agE.refl _ _)
  unfold aH at h0 H
  have one:∀ {i:Nat} {o:Oper} {m0:Mm},m0.i=m.i->m0.all B=m.all B->a[i]?=some o->zT a n f o=true->(∀ e',agE m.i e e'->(opA P G pr sh call B n f o e' m0 (λf m=>aH P G pr sh call B n a e' u (s.setIfInBounds i true) f m (kf e'))).good)->wK M P n a W B Q u s i (m.all B) f:=λ{i o m0} hmi hma hi hw H1=>by
   refine fO hi hw λw hO=>op_ok (m:=m0) (e:=e) (kf:=λe' f' m'=>aH P G pr sh call B n a e' u (s.setIfInBounds i true) f' m' (kf e')) hG hP hC (hmi▸H1) (λe1 f' m' h1 h2 h3 w' hO'=> ?_) (hma▸hO)
   rw [hmi] at h1 h2
   exact ⟨f9 hO',(ih _ f' m' e1 h3 (λe2 f2 m2 g1 g2 g3 w2 hw2=>HK e2 f2 m2 (h1.trans g1 h2) (Nat.le_trans h2 g2) g3 w2 hw2)).go w' hO'⟩
  cases hr:Region.ready .any a s with
  |nil=>rw [hr] at H;exact h_done hr ⟨λw hO=>HK.here rfl H hO⟩
  |cons i0 rs=>
   rw [hr] at h0 H
   dsimp only at h0 H
   cases hf:(i0::rs).find? (λi=>xTak n a f i && Region.free .any a s i) with
   |some i=>
    rw [hf] at h0 H
    dsimp only at h0 H
    cases hi:a[i]? with
    |none=>rw [hi] at h0;exact h0.elim
    |some o=>
     rw [hi] at h0 H
     obtain ⟨hc,_⟩:=y3 h0
     rw [Bool.and_eq_true,Bool.and_eq_true] at hc
     exact take_ok hG hi hc.1.1 hc.1.2 (by rw [hr];exact hc.2) hQ (λe' he=>(y3 (H e' he)).2) λf' m' h1 h2 h3=>(ih _ f' m' e (h1▸h3) λe2 f2 m2 g1 g2 g3 w2 hw2=>HK e2 f2 m2 (h1▸g1) (h1▸g2) g3 w2 hw2)
   |none=>
    rw [hf] at h0 H
    dsimp only at h0 H
    match rs,h0,H,hr with
    | [],h0,H,hr=>
     dsimp only at h0 H
     cases hi:a[i0]? with
     |none=>rw [hi] at h0;exact h0.elim
     |some o=>
      rw [hi] at h0 H
      obtain ⟨hw,_⟩:=y3 h0
      exact h_one i0 hr (one rfl rfl hi hw λe' he=>(y3 (H e' he)).2)
    | [j0],h0,H,hr=>
     dsimp only at h0 H
     cases hi:a[i0]? with
     |none=>rw [hi] at h0;exact h0.elim
     |some o=>cases hj:a[j0]? with
      |none=>rw [hi,hj] at h0;exact h0.elim
      |some q=>
       rw [hi,hj] at h0 H
       obtain ⟨hw,_⟩:=y3 h0
       rw [Bool.and_eq_true] at hw
       exact h_two i0 j0 hr (one (m0:=⟨m.L,m.O,m.i,m.h.l1⟩) rfl rfl hi hw.1 λe' he=>(y3 (H e' he)).2.1) (one (m0:=⟨m.L,m.O,m.i,m.h.l2⟩) rfl rfl hj hw.2 λe' he=>(y3 (H e' he)).2.2)
    |_::_::_,h0,H,hr=>exact h0.elim
end
def pW {α:Type}(d:List Nat)(l:List α):List α×List α:=((l.zipIdx.filter λp=>d.contains p.2).map Prod.fst,(l.zipIdx.filter λp=> !d.contains p.2).map Prod.fst)
theorem splA_perm {α:Type}(d:List Nat)(l:List α):((pW d l).1++(pW d l).2).Perm l:=by
 unfold pW
 dsimp only
 rw [←List.map_append]
 have:=(List.filter_append_perm (λp=>d.contains p.2) l.zipIdx).map Prod.fst
 rw [List.zipIdx_map_fst] at this
 exact this
def posA (r l:List Nat):List Nat:=(l.zipIdx.filter λp=>r.contains p.1).map Prod.snd
def stF:List Oper->Nat
 | []=>0
 |o::r=>match o.op with
  | .store _ _ _=>0
  |_=>stF r+1
def stG (l:List Oper):Nat->Nat
 |0=>0
 |m+1=>bif preB .any l (m+1) then m+1 else stG l m
def stA (l:List Oper):Nat:=stG l (stF l)
theorem perm_in {L D R O D' R' B:List Blk}(h1:(D++R).Perm L)(h2:(D'++R').Perm O):(L++(O++B)).Perm (D++(D'++(R++(R'++B)))):=
 (h1.symm.append (h2.symm.append_right B)).trans (by
  rw [List.append_assoc,List.append_assoc]
  exact (List.perm_append_comm_assoc R D' (R'++B)).append_left D)
theorem perm_out (L O R R' B:List Blk):(L++(O++(R++(R'++B)))).Perm ((L++R)++((O++R')++B)):=by
 rw [List.append_assoc,List.append_assoc]
 exact (List.perm_append_comm_assoc O R (R'++B)).append_left L
section
variable (P:Program)(G:List Blk)(pr:Prm)(sh:Bool)
noncomputable def regA (call:wL)(B:List Blk)(n:Nat)(a:Array Oper)(e:Env)(dl dO:List Nat)(f:Nat->Value)(m:Mm)(k:(Nat->Value)->Mm->Res):Res:=
 bif P.follows .mixedOrders && preB .any a.toList (stA a.toList) then
  .dr dl dO (aH P G pr sh call ((pW dl m.L).2++((pW dO m.O).2.map Rc.blk++B)) n (a.toList.take (stA a.toList)).toArray e (stA a.toList) (Array.replicate (stA a.toList) false) f ⟨(pW dl m.L).1,(pW dO m.O).1,m.i,m.h.tl⟩ λf m'=>
   aOps P G pr sh call B n a e (a.toList.drop (stA a.toList)) f ⟨m'.L++(pW dl m.L).2,m'.O++(pW dO m.O).2,m'.i,m'.h⟩ k)
 else .bad
def quA (o:Oper):Bool:=xQuiet o && match o.op with
 | .call c=>match c.callee with
  | .builtin _=>true
  |_=>match P.underlying o.type with
   |some (.int _)=>true
   |some .string=>true
   |some .bool=>true
   |_=>false
 |_=>true
noncomputable def aQ (call:wL)(B:List Blk)(n:Nat)(a:Array Oper)(e:Env):List Oper->(Nat->Value)->Mm->((Nat->Value)->Mm->Res)->Res
 | [],f,m,k=>k f m
 |o::r,f,m,k=>bif zT a n f o then (match o.op with
  | .load ty p=>dX P G sh B ty (ev n f p) m λv m=>aQ call B n a e r (upd f o.dst v) m k
  |_=>match fW P (execOp (ev n f) o) with
   |some (.value v)=>aQ call B n a e r (upd f o.dst v) m k
   |some (.enter g args)=>bif sh then
     .vl (bY G pr sh call (m.all B) g args e ⟨[],[],m.i,m.h⟩ (λv _=> .vl v .fin)).vv (.two (bY G pr sh call (m.all B) g args e ⟨[],[],m.i,m.h⟩ (λv _=> .vl v .fin)) (aQ call B n a e r (upd f o.dst (bY G pr sh call (m.all B) g args e ⟨[],[],m.i,m.h⟩ (λv _=> .vl v .fin)).vv) m k))
    else .two (bY G pr sh call (m.all B) g args e ⟨[],[],m.i,m.h.tl.l1⟩ (λv _=>bif flEq v m.h.vv then .fin else .bad)) (aQ call B n a e r (upd f o.dst m.h.vv) ⟨m.L,m.O,m.i,m.h.tl.l2⟩ k)
   |_=> .bad) else aQ call B n a e r (upd f o.dst undef) m k
noncomputable def regB (call:wL)(B:List Blk)(n:Nat)(a:Array Oper)(e:Env)(f:Nat->Value)(m:Mm)(k:(Nat->Value)->Mm->Res):Res:=
 bif a.toList.all (quA P) then (bif P.follows .mixedOrders && Region.lexB .any a then aQ P G pr sh call B n a e a.toList f m k else .bad)
 else bif sh then regA P G pr sh call B n a e (posA (aOps P G pr sh call B n a e (a.toList.take (stA a.toList)) f m λ_ _=> .fin).md' (m.L.map Blk.b)) (posA (aOps P G pr sh call B n a e (a.toList.take (stA a.toList)) f m λ_ _=> .fin).md' (m.O.map λr=>r.x.b)) f m k
 else regA P G pr sh call B n a e m.h.ls m.h.lo f m k
noncomputable def bP (call:wL)(B:List Blk)(n:Nat)(e:Env):Fuel1->Code->(Nat->Value)->Mm->(Exit->(Nat->Value)->Mm->Res)->Res
 | .z,_,_,_,_=> .bad
 | .s u,c,f,m,k=>match c with
  | .skip=>k .normal f m
  | .label _=>k .normal f m
  | .exit id=>k (.exit id) f m
  | .ret=>k .ret f m
  | .seq x y=>bP call B n e u x f m λex f m=>match ex with
   | .normal=>bP call B n e u y f m k
   |ex=>k ex f m
  | .cond o x y=>match ev n f o with
   | .bool true=>bP call B n e u x f m k
   | .bool false=>bP call B n e u y f m k
   |_=> .bad
  | .block id x=>bP call B n e u x f m λex f m=>match ex with
   | .exit id'=>bif Nat.beq id' id then k .normal f m else k (.exit id') f m
   |ex=>k ex f m
  | .loop x=>bP call B n e u x f m λex f m=>match ex with
   | .normal=>bP call B n e u (.loop x) f m k
   |ex=>k ex f m
  | .scope x=>bP call B n e u x f m λex f m=>match ex with
   | .goto _=> .bad
   |ex=>k ex f m
  | .region _ a false=>aOps P G pr sh call B n a e a.toList f m (k .normal)
  | .region _ a true=>regB P G pr sh call B n a e f m (k .normal)
  |_=> .bad
noncomputable def cellA (B:List Blk)(ty:TypeId)(p:Value)(m:Mm)(k:Value->Mm->Res):Res:=dX P G sh B ty p m k
noncomputable def resA' (B:List Blk)(n:Nat)(rs:List ResultVar)(f:Nat->Value)(m:Mm)(k:Value->Mm->Res):Res:=match rs with
 | []=>k (.tuple #[]) m
 | [.tmp t]=>k (ev n f (.tmp t)) m
 | [.tmp t,.tmp u]=>k (.tuple #[ev n f (.tmp t),ev n f (.tmp u)]) m
 | [.cell p ty]=>dX P [] sh B ty (ev n f (.tmp p)) m k
 | [.cell p ty,.tmp u]=>dX P [] sh B ty (ev n f (.tmp p)) m λv m=>k (.tuple #[v,ev n f (.tmp u)]) m
 |_=> .bad
noncomputable def aFun:Nat->wL
 |0=>λ_ _ _ _ _ _=> .bad
 |u+1=>λB k args e m kk=>match P.funcs[k]? with
  |some fn=>match fn.body with
   |some c=>bif Nat.ble args.size fn.ntmps then bP P G pr sh (aFun u) B fn.ntmps e fuelA c (λt=>args.getD t undef) m (λex f m=>match ex with
    | .ret=>resA' P sh B fn.ntmps fn.results.toList f m kk
    | .normal=>(match fn.results.toList with
     | []=>kk (.tuple #[]) m
     |_=> .bad)
    |_=> .bad) else .bad
   |none=> .bad
  |none=> .bad
end
def LoopWp (P:Program)(c:Code)(Q:Exit->Act->World->Prop)(a:Act)(w:World):Prop:=∀ b k cs,∃ e a' w',Q e a' w'/\Arrives P (lone (b.at a (.inLoop c::k)) cs w) b k cs e a' w'
theorem loop_in {P:Program}{c:Code}{Q:Exit->Act->World->Prop}{a:Act}{w:World}(h:c.wp P (Exit.then (LoopWp P c Q) Q) a w):(Code.loop c).wp P Q a w/\LoopWp P c Q a w:=by
 have key:∀ b k cs,∃ e a' w',Q e a' w'/\Arrives P (lone (b.at a (.code c:: .inLoop c::k)) cs w) b k cs e a' w':=λb k cs=>by
  obtain ⟨e,a₁,w₁,hq,harr⟩:=h b (.inLoop c::k) cs
  cases e with
  |normal=>
   obtain ⟨e₂,a₂,w₂,hq₂,harr₂⟩:=hq b k cs
   exact ⟨e₂,a₂,w₂,hq₂,.of_steps harr harr₂⟩
  |exit id=>exact ⟨_,a₁,w₁,hq,.pass (x:= .inLoop c) rfl (λ_ _=> .inl (by simp)) harr⟩
  |goto l=>exact ⟨_,a₁,w₁,hq,.pass (x:= .inLoop c) rfl (λ_ _=> .inl (by simp)) harr⟩
  |ret=>exact ⟨_,a₁,w₁,hq,.pass (x:= .inLoop c) rfl (λ_ _=> .inl (by simp)) harr⟩
  |panic ch=>exact ⟨_,a₁,w₁,hq,.pass (x:= .inLoop c) rfl (λ_ _=> .inl (by simp)) harr⟩
  |outgrown=>exact ⟨_,a₁,w₁,hq,.pass (x:= .inLoop c) rfl (λ_ _=> .inl (by simp)) harr⟩
 refine ⟨λb k cs=> ?_,λb k cs=> ?_⟩
 ·obtain ⟨e,a',w',hq,harr⟩:=key b k cs
  exact ⟨e,a',w',hq,.of_steps (.one step_loop) harr⟩
 ·obtain ⟨e,a',w',hq,harr⟩:=key b k cs
  exact ⟨e,a',w',hq,.of_steps (.one step_inLoop) harr⟩
section
variable {M:List Nat}{P:Program}{G:List Blk}{pr:Prm}{sh:Bool}{W:World}{n:Nat}{Q:Exit->Act->World->Prop}{f:Nat->Value}{e:Env}{m:Mm}{B:List Blk}{call:wL}
theorem regA_ok (hG:GOk M W G)(hP:PrOk P pr M W)(hC:d7 P M W call)(hQ:PQ Q){a:Array Oper}{id:Nat}{dl dO:List Nat}{kf:Env->(Nat->Value)->Mm->Res}
  (H:∀ e',agE m.i e e'->(regA P G pr sh call B n a e' dl dO f m (kf e')).good) (HK:Kon M W B e m kf (λf' w=>Q .normal (Fr n f') w)):Ok M P n W Q (.region id a true) (m.all B) f:=by
 unfold regA at H
 obtain ⟨hc,_⟩:=y3 (H e (agE.refl _ _))
 rw [Bool.and_eq_true] at hc
 obtain ⟨l,rfl⟩:∃ l:List Oper,a=l.toArray:=⟨a.toList,by simp⟩
 dsimp only at H hc
 refine p7 (stA l) ((pW dl m.L).2++((pW dO m.O).2.map Rc.blk++B)) hc.1 hc.2 ?_
 have hp1:=splA_perm dl m.L
 have hp2:=(splA_perm dO m.O).map Rc.blk
 rw [List.map_append] at hp2
 generalize pW dl m.L=d1 at*
 generalize pW dO m.O=d2 at*
 refine h_take14 (L':=Mm.all ⟨d1.1,d2.1,m.i,m.h.tl⟩ (d1.2++(d2.2.map Rc.blk++B))) (λw hO=>hO.perm (perm_in hp1 hp2)) (h_ok (m:=⟨d1.1,d2.1,m.i,m.h.tl⟩) (e:=e) (kf:=λe' f' m'=>aOps P G pr sh call B n l.toArray e' (l.drop (stA l)) f' ⟨m'.L++d1.2,m'.O++d2.2,m'.i,m'.h⟩ (kf e')) hG hP hC (pZ hQ) _ _ _ (λe' he=>(y3 (H e' he)).2) λe1 f' m' h1 h2 h3 w hO=> ?_)
 have:=(ops_ok (M:=M) (W:=W) (B:=B) (n:=n) (Q:=Q) (a:=l.toArray) (kf:=kf) hG hP hC (l.drop (stA l)) f' ⟨m'.L++d1.2,m'.O++d2.2,m'.i,m'.h⟩ e1 h3 λe2 f2 m2 g1 g2 g3 w2 hw2=>HK e2 f2 m2 (h1.trans g1 h2) (Nat.le_trans h2 g2) g3 w2 hw2).go w
 refine this ?_
 have h4:=hO.perm (perm_out m'.L (m'.O.map Rc.blk) d1.2 (d2.2.map Rc.blk) B)
 unfold Mm.all
 rw [List.map_append]
 exact h4
def KonX (M:List Nat)(W:World)(n:Nat)(B:List Blk)(e:Env)(m:Mm)(kf:Env->Exit->(Nat->Value)->Mm->Res)(Q:Exit->Act->World->Prop):Prop:=
 Kon (α:=Exit×(Nat->Value)) M W B e m (λe' p m=>kf e' p.1 p.2 m) (λp w=>Q p.1 (Fr n p.2) w)
theorem dP (hG:GOk M W G)(hP:PrOk P pr M W)(hC:d7 P M W call){a:Array Oper}{kf:Env->(Nat->Value)->Mm->Res}:∀ (r:List Oper) (f:Nat->Value) (m:Mm) {L:List Blk},m.all B=L→
  (∀ e',agE m.i e e'->(aQ P G pr false call B n a e' r f m (kf e')).good)->Kon M W B e m kf (λf' w=>Q .normal (Fr n f') w)->v7 M P n a W (Fin M n W Q .normal) r L f
 | [],f,m,L,hL,H,HK=>q_nil ⟨λw hO=>HK.here rfl H (hL▸hO)⟩
 |o::r,f,m,L,hL,H,HK=>by
  cases hw:zT a n f o with
  |false=>exact q_skip hw (dP hG hP hC r _ m hL (λe' he=>by have:=H e' he;rw [aQ,hw] at this;exact this) HK)
  |true=>
   have pu:(∀ e',agE m.i e e'->(match fW P (execOp (ev n f) o) with
    |some (.value v)=>aQ P G pr false call B n a e' r (upd f o.dst v) m (kf e')
    |some (.enter g args)=> .two (bY G pr false call (m.all B) g args e' ⟨[],[],m.i,m.h.tl.l1⟩ (λv _=>bif flEq v m.h.vv then .fin else .bad)) (aQ P G pr false call B n a e' r (upd f o.dst m.h.vv) ⟨m.L,m.O,m.i,m.h.tl.l2⟩ (kf e'))
    |_=>Res.bad:Res).good)->v7 M P n a W (Fin M n W Q .normal) (o::r) L f:=λH=>by
    have h0:=H e (agE.refl _ _)
    cases hp:fW P (execOp (ev n f) o) with
    |none=>rw [hp] at h0;exact h0.elim
    |some y=>cases y with
     |value v=>
      rw [hp] at H
      exact nW v hw (λw=>fJ hp w) (dP hG hP hC r _ m hL H HK)
     |enter g args=>
      rw [hp] at H
      refine ⟨?_⟩
      have h2:=(dP (L:=L) hG hP hC r (upd f o.dst m.h.vv) ⟨m.L,m.O,m.i,m.h.tl.l2⟩ hL (λe' he=>(H e' he).2) HK).go
      refine BigFrame.wpQuiet_want (by rw [jF];exact hw) λK hK=>⟨m.h.vv,λw hO=> ?_,hK _ ?_⟩
      ·unfold Oper.quietAt
       rw [gU,fJ hp w]
       refine ⟨rfl,(enter_ok (B:=m.all B) (m:=⟨[],[],m.i,m.h.tl.l1⟩) (e:=e) (kf:=λ_ v _=>bif flEq v m.h.vv then .fin else .bad) (K:=λv w'=>v=m.h.vv/\Own M W w' L) hG hP hC (λe' he=>(H e' he).1) (λe1 v m' _ _ h3 w' hO'=> ?_) (show Own M W w (m.all B) from hL▸hO)).mono λen w' ⟨v,e1,e2,e3⟩=>⟨by rw [e1,e2],e3⟩⟩
       exact ⟨flEq_ok (y3 (h3 e1 (agE.refl _ _))).1,hL▸f9 hO'⟩
      ·rw [jB];exact h2
     |_=>rw [hp] at h0;exact h0.elim
   have H1:∀ e',agE m.i e e'->(match o.op with
    | .load ty p=>dX P G false B ty (ev n f p) m λv m=>aQ P G pr false call B n a e' r (upd f o.dst v) m (kf e')
    |_=>match fW P (execOp (ev n f) o) with
     |some (.value v)=>aQ P G pr false call B n a e' r (upd f o.dst v) m (kf e')
     |some (.enter g args)=> .two (bY G pr false call (m.all B) g args e' ⟨[],[],m.i,m.h.tl.l1⟩ (λv _=>bif flEq v m.h.vv then .fin else .bad)) (aQ P G pr false call B n a e' r (upd f o.dst m.h.vv) ⟨m.L,m.O,m.i,m.h.tl.l2⟩ (kf e'))
     |_=>Res.bad:Res).good:=λe' he=>by have:=H e' he;rw [aQ,hw] at this;exact this
   cases ho:o.op with
   |load ty q=>
    rw [ho] at H1
    dsimp only at H1
    unfold dX at H1
    simp only [n7] at H1
    have h0:=H1 e (agE.refl _ _)
    split at h0
    ·rename_i b off hq
     rw [hq] at H1
     obtain ⟨x,hx,hb,h1⟩:=gW h0
     cases hv:yQ P ty x.cs off with
     |none=>rw [hv] at h1;exact h1.elim
     |some v=>
      refine q_old (a:=⟨b,off,none⟩) v hw ho hq (λw hO=> ?_) (dP hG hP hC r _ m.nx hL (λe' he=> ?_) HK)
      ·rw [hb];exact y7 hv (fQ hG (hL▸hO) hx)
      ·obtain ⟨y,hy,_,h2⟩:=gW (H1 e' he)
       rw [hx] at hy
       obtain rfl:=Option.some.inj hy
       rw [hv] at h2;exact h2
    ·exact h0.elim
   |_=>rw [ho] at H1;exact pu H1
theorem code_ok (hG:GOk M W G)(hP:PrOk P pr M W)(hC:d7 P M W call):∀ (u:Fuel1),
  (∀ (c:Code) (f:Nat->Value) (m:Mm) (e:Env) (Q:Exit->Act->World->Prop) (kf:Env->Exit->(Nat->Value)->Mm->Res),PQ Q->(∀ e',agE m.i e e'->(bP P G pr false call B n e' u c f m (kf e')).good)->KonX M W n B e m kf Q→∀ w,Own M W w (m.all B)->c.wp P Q (Fr n f) w)∧
  (∀ (c:Code) (f:Nat->Value) (m:Mm) (e:Env) (Q:Exit->Act->World->Prop) (kf:Env->Exit->(Nat->Value)->Mm->Res),PQ Q->(∀ e',agE m.i e e'->(bP P G pr false call B n e' u (.loop c) f m (kf e')).good)->KonX M W n B e m kf Q→∀ w,Own M W w (m.all B)->LoopWp P c Q (Fr n f) w)
 | .z=>⟨λc f m e Q kf hQ H HK w hO=>(H e (agE.refl _ _)).elim,λc f m e Q kf hQ H HK w hO=>(H e (agE.refl _ _)).elim⟩
 | .s u=>by
  have ih:=code_ok hG hP hC u
  have lp:∀ (c:Code) (f:Nat->Value) (m:Mm) (e:Env) (Q:Exit->Act->World->Prop) (kf:Env->Exit->(Nat->Value)->Mm->Res),PQ Q->(∀ e',agE m.i e e'->(bP P G pr false call B n e' (.s u) (.loop c) f m (kf e')).good)->KonX M W n B e m kf Q→∀ w,Own M W w (m.all B)->(Code.loop c).wp P Q (Fr n f) w/\LoopWp P c Q (Fr n f) w:=λc f m e Q kf hQ H HK w hO=>by
   refine loop_in (ih.1 c f m e (Exit.then (LoopWp P c Q) Q) _ (pZ hQ) H (λe1 p m' h1 h2 h3 w' hO'=> ?_) w hO)
   obtain ⟨ex,f'⟩:=p
   cases ex with
   |normal=>exact ih.2 c f' m' e1 Q kf hQ h3 (λe2 p2 m2 g1 g2 g3 w2 hw2=>HK e2 p2 m2 (h1.trans g1 h2) (Nat.le_trans h2 g2) g3 w2 hw2) w' hO'
   |_=>exact HK e1 (_,f') m' h1 h2 h3 w' hO'
  refine ⟨λc f m e Q kf hQ H HK w hO=> ?_,λc f m e Q kf hQ H HK w hO=>(lp c f m e Q kf hQ H HK w hO).2⟩
  have h0:=H e (agE.refl _ _)
  cases c with
  |skip=>exact (ok_skip ⟨λw hO=>HK.here (a:=(.normal,f)) rfl H hO⟩).go w hO
  |label l=>exact wp_label (HK.here (a:=(.normal,f)) rfl H hO)
  |exit id=>exact (ok_exit ⟨λw hO=>HK.here (a:=(.exit id,f)) rfl H hO⟩).go w hO
  |ret=>exact (qK ⟨λw hO=>HK.here (a:=(.ret,f)) rfl H hO⟩).go w hO
  |seq x y=>
   refine wp_seq (ih.1 x f m e (Exit.then (Code.wp P y Q) Q) _ (pZ hQ) H (λe1 p m' h1 h2 h3 w' hO'=> ?_) w hO)
   obtain ⟨ex,f'⟩:=p
   cases ex with
   |normal=>exact ih.1 y f' m' e1 Q kf hQ h3 (λe2 p2 m2 g1 g2 g3 w2 hw2=>HK e2 p2 m2 (h1.trans g1 h2) (Nat.le_trans h2 g2) g3 w2 hw2) w' hO'
   |_=>exact HK e1 (_,f') m' h1 h2 h3 w' hO'
  |cond o x y=>
   unfold bP at h0 H
   dsimp only at h0 H
   split at h0
   ·rename_i hb
    rw [hb] at H
    exact wp_cond_true (by rw [gU];exact hb) (ih.1 x f m e Q kf hQ H HK w hO)
   ·rename_i hb
    rw [hb] at H
    exact wp_cond_false (by rw [gU];exact hb) (ih.1 y f m e Q kf hQ H HK w hO)
   ·exact h0.elim
  |block id x=>
   refine wp_block (ih.1 x f m e (Exit.inBlock id Q) _ (pq_block hQ) H (λe1 p m' h1 h2 h3 w' hO'=> ?_) w hO)
   obtain ⟨ex,f'⟩:=p
   cases ex with
   |exit id'=>
    show if id'=id then Q .normal _ _ else Q (.exit id') _ _
    have h3':∀ e',agE m'.i e1 e'->(bif Nat.beq id' id then kf e' .normal f' m' else kf e' (.exit id') f' m').good:=h3
    cases hb:Nat.beq id' id with
    |true=>
     rw [hb] at h3'
     rw [if_pos (Nat.eq_of_beq_eq_true hb)];exact HK e1 (.normal,f') m' h1 h2 h3' w' hO'
    |false=>
     rw [hb] at h3'
     rw [if_neg (λq=>by rw [q,Nat.beq_refl] at hb;cases hb)];exact HK e1 (.exit id',f') m' h1 h2 h3' w' hO'
   |_=>exact HK e1 (_,f') m' h1 h2 h3 w' hO'
  |loop x=>exact (lp x f m e Q kf hQ H HK w hO).1
  |scope x=>
   refine wp_scope_straight (ih.1 x f m e (Exit.noGoto Q) _ (λc a d v w h=>hQ c a d v w h) H (λe1 p m' h1 h2 h3 w' hO'=> ?_) w hO)
   obtain ⟨ex,f'⟩:=p
   cases ex with
   |goto l=>exact (h3 e1 (agE.refl _ _)).elim
   |_=>exact HK e1 (_,f') m' h1 h2 h3 w' hO'
  |region id a d=>
   cases d with
   |false=>exact (ok_regA (id:=id) (ops_ok hG hP hC a.toList f m e H (λe1 f' m' h1 h2 h3 w' hO'=>HK e1 (.normal,f') m' h1 h2 h3 w' hO'))).go w hO
   |true=>
    have HK':Kon M W B e m (λe' f' m'=>kf e' .normal f' m') (λf' w=>Q .normal (Fr n f') w):=λe1 f' m' h1 h2 h3 w' hO'=>HK e1 (.normal,f') m' h1 h2 h3 w' hO'
    have H':∀ e',agE m.i e e'->(regB P G pr false call B n a e' f m (kf e' .normal)).good:=H
    unfold regB at H'
    cases hq:a.toList.all (quA P) with
    |true=>
     rw [hq] at H'
     have h1:=(y3 (H' e (agE.refl _ _))).1
     rw [Bool.and_eq_true] at h1
     exact (ok_drawA (id:=id) h1.1 h1.2 (dP hG hP hC a.toList f m rfl (λe' he=>(y3 (H' e' he)).2) HK')).go w hO
    |false=>
     rw [hq] at H'
     exact (regA_ok (id:=id) hG hP hC hQ H' HK').go w hO
  |_=>exact h0.elim
theorem res_ok {fn:Func}{kf:Env->Value->Mm->Res}{K:Value->World->Prop}(H:∀ e',agE m.i e e'->(resA' P sh B n fn.results.toList f m (kf e')).good)(HK:Kon M W B e m kf K){w:World}(hO:Own M W w (m.all B)):bodyPost P fn (λen w'=>∃ v,en= .returned v/\K v w') .ret (Fr n f) w:=by
 have hA:∀ l,fn.results.toList=l->fn.results=l.toArray:=λl h=>by rw [←h]
 have cell:∀ {ty:TypeId} {q:Tmp} {kv:Env->Value->Mm->Res} {R:Value->World->Prop},(∀ e',agE m.i e e'->(dX P [] sh B ty (ev n f (.tmp q)) m (kv e')).good)->Kon M W B e m kv R→∃ (j:Nat) (x:Blk) (off:Nat) (v:Value),(m.all B)[j]?=some x/\ev n f (.tmp q)= .pointer (some ⟨x.b,off,none⟩)/\yQ P ty x.cs off=some v∧∀ w,Own M W w (m.all B)->R v w:=λ{ty q kv R} H HK=>by
  unfold dX at H
  simp only [n7] at H
  rw [List.append_nil] at H
  split at H
  ·rename_i b off hq
   obtain ⟨x,hx,hb,h1⟩:=gW (H e (agE.refl _ _))
   cases hv:yQ P ty x.cs off with
   |none=>rw [hv] at h1;exact h1.elim
   |some v=>
    refine ⟨_,x,off,v,hx,by rw [hq,hb],hv,λw hO=>HK.here (m':=m.nx) rfl (λe' he=> ?_) hO⟩
    obtain ⟨y,hy,_,h2⟩:=gW (H e' he)
    rw [hx] at hy
    obtain rfl:=Option.some.inj hy
    rw [hv] at h2;exact h2
  ·exact (H e (agE.refl _ _)).elim
 unfold resA' at H
 split at H
 ·rename_i h
  exact (pJ (hA _ h) λw hO=>⟨_,rfl,HK.here rfl H hO⟩).go w hO
 ·rename_i h
  exact (fin_ret _ (hA _ h) rfl λw hO=>⟨_,rfl,HK.here rfl H hO⟩).go w hO
 ·rename_i h
  exact (fin_ret2 _ _ (hA _ h) rfl rfl λw hO=>⟨_,rfl,HK.here rfl H hO⟩).go w hO
 ·rename_i h
  obtain ⟨j,x,off,v,h1,h2,h3,h4⟩:=cell H HK
  exact (fin_cell j x v (hA _ h) h1 h2 h3 λw hO=>⟨_,rfl,h4 w hO⟩).go w hO
 ·rename_i q ty u h
  obtain ⟨j,x,off,v,h1,h2,h3,h4⟩:=cell (R:=λv w=>K (.tuple #[v,ev n f (.tmp u)]) w) H (λe1 v m' g1 g2 g3 w hw=>HK e1 _ m' g1 g2 g3 w hw)
  exact (tH j x v _ (hA _ h) h1 h2 h3 rfl λw hO=>⟨_,rfl,h4 w hO⟩).go w hO
 ·exact (H e (agE.refl _ _)).elim
theorem calls_wpA {k:FuncId}{fn:Func}{c:Code}{args:Array Value}{R:Ending->World->Prop}{w:World}(hf:P.funcs[k]?=some fn)(hb:fn.body=some c)(hle:Nat.ble args.size fn.ntmps=true)
  (h:c.wp P (bodyPost P fn R) (Fr fn.ntmps λt=>args.getD t undef) w):Calls P k args w R:=by
 refine calls_of_wp hf hb ?_
 have hle':args.size<=fn.ntmps:=Nat.le_of_ble_eq_true hle
 have e:({tmps:=args++Array.replicate (fn.ntmps-args.size) undef,defers:=[]}:Act)=Fr fn.ntmps (λt=>args.getD t undef):=by
  unfold Fr
  congr 1
  apply Array.ext_getElem?
  intro i
  rw [Array.getElem?_ofFn,Array.getElem?_append,Array.getElem?_replicate]
  by_cases hi:i<args.size
  ·rw [if_pos hi,dif_pos Om,Array.getElem?_eq_getElem hi]
   simp [Array.getD,hi]
  ·rw [if_neg hi]
   by_cases hin:i<fn.ntmps
   ·rw [if_pos Om,dif_pos hin]
    simp [Array.getD,hi]
   ·rw [if_neg Om,dif_neg hin]
 rw [e];exact h
theorem fun_ok (hG:GOk M W G)(hP:PrOk P pr M W):∀ u:Nat,d7 P M W (aFun P G pr false u)
 |0,B,k,args,e,m,kf,H,K,HK,w,hO=>(H e (agE.refl _ _)).elim
 |u+1,B,k,args,e,m,kf,H,K,HK,w,hO=>by
  unfold aFun at H
  have h0:=H e (agE.refl _ _)
  cases hf:P.funcs[k]? with
  |none=>rw [hf] at h0;exact h0.elim
  |some fn=>
   rw [hf] at h0 H
   dsimp only at h0 H
   cases hb:fn.body with
   |none=>rw [hb] at h0;exact h0.elim
   |some c=>
    rw [hb] at h0 H
    dsimp only at h0 H
    obtain ⟨hle,_⟩:=y3 h0
    refine calls_wpA hf hb hle ((code_ok hG hP (fun_ok hG hP u) fuelA).1 c _ m e _ (λe' ex f m=>match ex with
     | .ret=>resA' P false B fn.ntmps fn.results.toList f m (kf e')
     | .normal=>(match fn.results.toList with
      | []=>kf e' (.tuple #[]) m
      |_=> .bad)
     |_=> .bad) pq_body (λe' he=>(y3 (H e' he)).2) (λe1 p m' h1 h2 h3 w' hO'=> ?_) w hO)
    obtain ⟨ex,f'⟩:=p
    have HK':Kon M W B e1 m' kf K:=λe2 p2 m2 g1 g2 g3 w2 hw2=>HK e2 p2 m2 (h1.trans g1 h2) (Nat.le_trans h2 g2) g3 w2 hw2
    cases ex with
    |ret=>exact res_ok h3 HK' hO'
    |normal=>
     have h3':∀ e',agE m'.i e1 e'->(match fn.results.toList with
      | []=>kf e' (.tuple #[]) m'
      |_=>Res.bad:Res).good:=h3
     cases hr:fn.results.toList with
     |nil=>
      rw [hr] at h3'
      exact (fin_none (by rw [←Array.toArray_toList (xs:=fn.results),hr]) λw hO=>⟨_,rfl,HK'.here rfl h3' hO⟩).go w' hO'
     |cons r rs=>rw [hr] at h3';exact (h3' e1 (agE.refl _ _)).elim
    |_=>exact (h3 e1 (agE.refl _ _)).elim
def finT (v:Value)(_:Mm):Res:=match v with
 | .bool true=> .fin
 |_=> .bad
noncomputable def hintA (P:Program)(G:List Blk)(pr:Prm)(k:FuncId)(args:Array Value):Hs:=(aFun P G pr true 60 [] k args (λi=>⟨1000000+i,0,[]⟩) ⟨[],[],0,.no⟩ finT).hs
noncomputable def runA (P:Program)(G:List Blk)(pr:Prm)(k:FuncId)(args:Array Value)(e:Env):Res:=aFun P G pr false 60 [] k args e ⟨[],[],0,hintA P G pr k args⟩ finT
end
theorem run_true {P:Program}{G:List Blk}{pr:Prm}{W:World}{k:FuncId}{args:Array Value}(hG:GOk [] W G)(hP:PrOk P pr [] W)(h:∀ e,(runA P G pr k args e).l=(runA P G pr k args e).r):Calls P k args W λen w'=>en= .returned (.bool true)/\YB W w':=by
 refine (fun_ok (M:=[]) hG hP 60 [] k args (λ_=>⟨0,0,[]⟩) ⟨[],[],0,hintA P G pr k args⟩ (λ_=>finT) (λe' _=>Res.good_of _ (h e')) (λv w=>v= .bool true/\YB W w) (λe1 v m' h1 h2 h3 w hO=> ?_) W (Own.start [] W)).mono λen w' ⟨v,e1,e2,e3⟩=>⟨by rw [e1,e2],e3⟩
 have h3:(finT v m').good:=h3 e1 (agE.refl _ _)
 unfold finT at h3
 split at h3
 ·exact ⟨rfl,hO.below⟩
 ·exact h3.elim
end
section
theorem below_moved {B:Nat}{a w:World}(h:Below B a w){k:Nat}(hk:B<=k)(s:ByteArray)(pos:Nat):Below B a (w.iterAt k s pos):=
 h.trans ⟨rfl,rfl,rfl,by rw [Lib.iterAt_size];exact Nat.le_refl _,Nat.le_refl _,λi hi=>Lib.iterAt_other w k i s pos Om⟩
theorem piece_any (s:ByteArray)(f k:Nat)(w:World)(hs:s.size<=1000000)(hfk:f<=k)(hk:k<=s.size):
  YC 178 #[.string s,YI f,YI k] w (YR (.string (s.extract f k)) w):=by
 have hz:(s.extract f k).size<=281474976710656:=by
  rw [ByteArray.size_extract];omega
 go_enter Tryz.func178,Tryz.ntmps178
 go_wp2_with (go_at_call 147;refine (fU _ _ hz).mono ?_;rintro e w' ⟨rfl,hb⟩)
 go_ret
 exact ⟨rfl,hb⟩
theorem width_any (t:ByteArray)(r n:Nat)(hne:t.data.toList≠[])(hd:Lib.decodeL t.data.toList=(r,n))(w:World):
  YC 177 #[.string t,.int .i32 r] w λe w'=>e= .returned (YI n)/\w=w':=by
 have HD:=Lib.hid hd
 clear hd
 have HNE:=Lib.hid hne
 clear hne
 by_cases h:r=65533
 ·by_cases hp:Lib.hasPrefix t.data.toList [239,191,189]=true
  ·have HP:=Lib.hid hp
   clear hp
   have hb:((r:Int)==65533)=true:=by simp [h]
   have HR:=Lib.hid h
   clear h
   go_enter Tryz.func177,Tryz.ntmps177
   go_wp2_with (first|(go_at_call 225;refine (Tryz.strings_HasPrefix t ⟨#[239,191,189]⟩ _).mono ?_;rw [HP.out];rintro e w' ⟨rfl,rfl⟩)|(go_at_call 226;refine (Tryz.utf8_RuneLen _ _).mono ?_;rintro e w' ⟨rfl,rfl⟩))
   go_ret
   refine ⟨qV ?_,rfl⟩
   have h3:=wide_err _ HP.out
   rw [HD.out] at h3
   rw [HR.out,show n=3 from h3]
   decide
  ·have HP:=Lib.hid (Bool.eq_false_iff.2 hp)
   clear hp
   have hb:((r:Int)==65533)=true:=by simp [h]
   have HR:=Lib.hid h
   clear h
   go_enter Tryz.func177,Tryz.ntmps177
   go_wp2_with (go_at_call 225;refine (Tryz.strings_HasPrefix t ⟨#[239,191,189]⟩ _).mono ?_;rw [HP.out];rintro e w' ⟨rfl,rfl⟩)
   go_ret
   refine ⟨qV ?_,rfl⟩
   have h1:=wide_bad _ HNE.out (by rw [HD.out];exact HR.out) HP.out
   rw [HD.out] at h1
   rw [show n=1 from h1]
   rfl
 ·have hb:((r:Int)==65533)=false:=qA Om
  go_enter Tryz.func177,Tryz.ntmps177
  go_wp2_with (go_at_call 226;refine (Tryz.utf8_RuneLen _ _).mono ?_;rintro e w' ⟨rfl,rfl⟩)
  go_ret
  refine ⟨qV ?_,rfl⟩
  have h2:=wide_other t.data.toList (by rw [HD.out];exact h)
  rw [HD.out] at h2
  exact h2
theorem split_any (s:ByteArray)(b:UInt8)(w:World)(hs:s.size<=1000000):
  YC 131 #[.string s,.int .u8 b.toNat] w λe w'=>∃ v,e= .returned v/\w'.ownsRow w.heap.size 9 1 v (g0 s b).length (vH (g0 s b))/\YB w w':=by
 obtain ⟨i0,hi,hz0,hz1,hz2⟩:=info_parts infoStr
 go_enter Tryz.func131,Tryz.ntmps131
 go_wp2
 go_loopw [5,6] (λv fv wr=>∃ (pos f:Nat) (P:List YL),fv=YI f/\f<=pos/\pos<=s.size/\P.length<=pos/\wr.heap[w.heap.size]?=some (.stringIter s pos)/\wr.ownsRow w.heap.size 9 1 v P.length (vH P)/\YB w wr/\Hid (P++zJ b ((s.data.toList.drop f).take (pos-f)) (s.data.toList.drop pos)=g0 s b)) (λ_ _ wr=>s.size-wr.iterPos w.heap.size)
 case atStart=>exact ⟨0,0,[],rfl,Nat.le_refl _,Nat.zero_le _,Nat.zero_le _,World.iter_heap _ _ _,⟨rfl,Or.inl ⟨rfl,rfl⟩⟩,zV _ _ _,rfl⟩
 case round=>
  obtain ⟨pos,f,P,rfl,hfp,hple,hP,hit,hown,hb,HR⟩:=hrel
  have hsz:=hb.size
  by_cases hp:pos<s.size
  ·obtain ⟨r,n,hdec⟩:∃ r n,Utf8.decode s pos=(r,n):=⟨_,_,rfl⟩
   have hnx:∀ ty,(Instr.next (.pointer (some ⟨w.heap.size,0,none⟩)) true ty).run YP wr=_:=λty=>Lib.run_next_any_at wr w.heap.size s pos ty hit hp
   rw [hdec] at hnx
   have hn1:1<=n:=by
    by_cases ha:(s[pos]'hp).toNat<128
    ·have:=decode_ascii s pos hp ha
     rw [hdec] at this
     have:n=1:=congrArg Prod.snd this
     omega
    ·have:=(decode_high s pos hp Om).2
     rw [hdec] at this
     exact this
   have hdl:Lib.decodeL (s.extract pos s.size).data.toList=(r,n):=by rw [Lib.extract_to_end,Lib.decodeL_drop,hdec]
   have hne:(s.extract pos s.size).data.toList≠[]:=by
    rw [Lib.extract_to_end];intro h;have:=congrArg List.length h;simp at this;omega
   have hnle:pos+n<=s.size:=by
    have:=Lib.decodeL_le _ hne
    rw [hdl,Lib.extract_to_end] at this
    simp at this;omega
   have HDL:=Lib.hid hdl
   have HNE:=Lib.hid hne
   have HIT:=Lib.hid hit
   have hown1:=ownsRow_iterAt hown hit (pos+n)
   have hit1:=Lib.iterAt_heap wr w.heap.size s pos (pos+n) hit
   have hb1:Below w.heap.size w (wr.iterAt w.heap.size s (pos+n)):=below_moved hb (Nat.le_refl _) s (pos+n)
   have HIT1:=Lib.hid hit1
   clear hdl hne hdec hit1
   obtain ⟨wo,rfl⟩:∃ wo:World,wo=wr:=⟨_,rfl⟩
   go_wp2_with (go_at_call 177;refine (width_any _ r n HNE.out HDL.out _).mono ?_;rintro e w' ⟨rfl,rfl⟩)
   go_loopw [5,6,10] (λv fv iv wi=>∃ (k f:Nat) (P:List YL),iv=YI k/\fv=YI f/\f<=k/\pos<=k/\k<=pos+n/\P.length<=k/\wi.heap[w.heap.size]?=some (.stringIter s (pos+n))/\wi.ownsRow w.heap.size 9 1 v P.length (vH P)/\YB w wi/\Hid (P++zJ b ((s.data.toList.drop f).take (k-f)) (s.data.toList.drop k)=g0 s b)) (λ_ _ iv _=>pos+n-(intOf iv).toNat)
   case atStart=>exact ⟨pos,f,P,rfl,rfl,hfp,Nat.le_refl _,by omega,hP,HIT1.out,hown1,hb1,HR⟩
   case round=>
    clear HR hown hb hit hsz hnx hown1 hb1
    obtain ⟨k,f2,P2,rfl,rfl,hfk,hpk,hkn,hP2,hit2,hown2,hb2,HR2⟩:=hrel
    have hsz2:=hb2.size
    have HIT2:=Lib.hid hit2
    clear hit2
    by_cases hlt:k<pos+n
    ·have hks:k<s.size:=by omega
     have HD:=Lib.hid (kB s k hks)
     by_cases hc:s[k]=b
     ·have HC:=Lib.hid hc
      have hcb:((s[k].toNat:Int)==(b.toNat:Int))=true:=by rw [hc];simp
      clear hc
      go_wp2_with (go_at_call 178;refine (piece_any s f2 k _ hs hfk Om).mono ?_)
      rintro e w3 ⟨rfl,hb3⟩
      have hown3:=wN hown2 hb3
      have hsz3:=hb3.size
      have hb4:YB w w3:=hb2.trans (hb3.mono hsz2)
      have HIT3:=Lib.hid (iter_below HIT2.out hb3)
      go_wp2_with (at_builtin;refine xK _ rfl _ _ 85 rfl w.heap.size 9 i0 (.string ByteArray.empty) 1 16 Tryz.underlying85 hi hz0 hz1 hz2 rfl (by decide) _ _ _ rfl (hown3.alloc _) ⟨w3.heap.size,0,none⟩ 1 1 [.string (s.extract f2 k)] rfl rfl ?c1 ?c2 ?c3 ?c4 ?c5 ?_)
      case c1=>
       intro j u hj
       match j,hj with
       |0,hj=>simp at hj;subst hj;simp [Addr.add]
      case c2=>intro u hu;simp at hu;subst hu;rfl
      case c3=>unfold maxLen;omega
      case c4=>omega
      case c5=>simp;omega
      intro v' w5 hown' hgrow _
      go_wp2
      go_roundw
      case rel=>
       refine ⟨k+1,k+1,P2++[(s.data.toList.drop f2).take (k-f2)],by go_num,by go_num,Nat.le_refl _,by omega,by omega,by simp;omega, ?_, ?_,(hb4.alloc (by omega) _).grown hgrow (by simp;omega) (λk hk=>(hown3.lt k hk).1), ?_⟩
       ·have ha:(w3.alloc (.cells #[.string (s.extract f2 k)] 9)).heap[w.heap.size]?=some (.stringIter s (pos+n)):=by
         rw [Below.heap_alloc _ _ _ (Array.getElem?_eq_some_iff.1 HIT3.out).1];exact HIT3.out
        rw [hgrow.1.block _ (Array.getElem?_eq_some_iff.1 ha).1 (ownsRow_ne (hown3.alloc _) ha)]
        exact ha
       ·rw [wX,←wA,List.length_append];exact hown'
       ·show _=_
        rw [←HR2.out,HD.out,split_hit _ _ _ _ HC.out,List.append_assoc,Nat.sub_self,List.take_zero];rfl
      case measure=>simp [intOf];omega
     ·have hcb:((s[k].toNat:Int)==(b.toNat:Int))=false:=qA (λe=>hc (UInt8.toNat_inj.1 Om))
      go_wp2
      go_roundw
      case rel=>exact ⟨k+1,f2,P2,by go_num,rfl,by omega,by omega,by omega,by omega,HIT2.out,hown2,hb2,by show _=_;rw [←HR2.out,HD.out,split_miss _ _ _ _ hc,take_more s f2 k hfk hks]⟩
      case measure=>simp [intOf];omega
    ·obtain rfl:k=pos+n:=by omega
     go_wp2
     go_roundw
     case rel=>exact ⟨pos+n,f2,P2,rfl,hfk,hnle,hP2,HIT2.out,hown2,hb2,HR2⟩
     case measure=>
      simp only [World.iterPos,HIT2.out,HIT.out]
      omega
  ·have hnx:∀ ty,(Instr.next (.pointer (some ⟨w.heap.size,0,none⟩)) true ty).run YP wr=_:=λty=>Lib.run_next_end_at wr w.heap.size s pos ty hit hp
   have HD:=Lib.hid (gM s pos hp)
   have hk2:pos=s.size:=by omega
   have HE:Hid (P++[(s.data.toList.drop f).take (s.size-f)]=g0 s b):=by
    show _=_
    rw [←HR.out,HD.out,hk2];rfl
   clear hk2
   have hfs:f<=s.size:=by omega
   go_wp2_with (go_at_call 178;refine (piece_any s f s.size _ hs hfs (Nat.le_refl _)).mono ?_)
   rintro e w3 ⟨rfl,hb3⟩
   have hown3:=wN hown hb3
   have hsz3:=hb3.size
   have hb4:YB w w3:=hb.trans (hb3.mono hsz)
   go_wp2_with (at_builtin;refine xK _ rfl _ _ 85 rfl w.heap.size 9 i0 (.string ByteArray.empty) 1 16 Tryz.underlying85 hi hz0 hz1 hz2 rfl (by decide) _ _ _ rfl (hown3.alloc _) ⟨w3.heap.size,0,none⟩ 1 1 [.string (s.extract f s.size)] rfl rfl ?c1 ?c2 ?c3 ?c4 ?c5 ?_)
   case c1=>
    intro j u hj
    match j,hj with
    |0,hj=>simp at hj;subst hj;simp [Addr.add]
   case c2=>intro u hu;simp at hu;subst hu;rfl
   case c3=>unfold maxLen;omega
   case c4=>omega
   case c5=>simp;omega
   intro v' w2 hown' hgrow _
   go_wp2
   go_ret
   refine ⟨v',rfl, ?_,(hb4.alloc Om _).grown hgrow (by simp;omega) (λk hk=>(hown3.lt k hk).1)⟩
   rw [←HE.out,wX,←wA,List.length_append];exact hown'
end
section
set_option linter.unnecessarySimpa false
theorem vM (s:YL)(W:World)(hs:s.length<=1000000):YC 162 #[.string (mkS s)] W (YR (.bool (wdL s)) W):=
 (word_any (mkS s) W (by rw [y4];unfold maxLen;omega)).mono λe w' ⟨h,e2⟩=>⟨by rw [h];unfold tR wdL;rw [y4,mk_data],e2⟩
theorem vN (s:YL)(W:World)(hs:s.length<=1000000):YC 69 #[.string (mkS s)] W (YR (.bool (nmL s)) W):=
 name_any (mkS s) W (by rw [y4];unfold maxLen;omega)
theorem vO (s:YL)(W:World)(hs:s.length<=1000000):YC 147 #[.string (mkS s)] W (YR (.string (mkS s)) W):=fU (mkS s) W (by rw [y4];omega)
theorem iCut_any (s:YL)(w:World):YC 213 #[.string (mkS s),.string ⟨#[63]⟩] w (YR (.tuple #[.string (mkS (if s.head?=some 63 then s.drop 1 else s)),.bool (decide (s.head?=some 63))]) w):=
 (Tryz.strings_CutPrefix (mkS s) ⟨#[63]⟩ w).mono λe w' ⟨he,hw⟩=>by
  subst hw
  refine ⟨?_,Below.refl _ _⟩
  rw [he,mk_data]
  show Ending.returned (Value.tuple #[.string ⟨(Lib.trimPrefix s [63]).toArray⟩,.bool (Lib.hasPrefix s [63])])=_
  unfold Lib.trimPrefix Lib.hasPrefix
  cases s with
  |nil=>rfl
  |cons c r=>
   by_cases h:c=63
   ·subst h;simp [List.isPrefixOf,mkS]
   ·have h2:¬ 63=c:=λq=>h q.symm
    simp [List.isPrefixOf,mkS,h,h2]
theorem kind_cut {s:YL}(h:wdL s=false)(hno:¬ (s.head?=some 63/\wdL (s.drop 1)=true)):zI s=if (zA 47 s).2.2 && nmL (zA 47 s).1 && wdL (zA 47 s).2.1 then (3,(zA 47 s).1,(zA 47 s).2.1) else (0,[],[]):=by
 unfold zI
 rw [if_neg (by rw [h];simp),if_neg (by rw [Bool.and_eq_true,decide_eq_true_eq];exact hno),qP 47 s [],List.nil_append]
 cases hc:(zA 47 s).2.2 with
 |false=>simp
 |true=>
  rw [if_pos rfl]
  cases hw:wdL (zA 47 s).2.1 with
  |true=>
   have hf:(47:UInt8)∉(zA 47 s).2.1:=wdL_no (by decide) hw
   rw [qP 47 _ [],cutAt_miss 47 _ hf]
   simp [hw]
  |false=>
   rw [qP 47 _ [],List.nil_append]
   cases hc2:(zA 47 (zA 47 s).2.1).2.2 with
   |true=>
    rw [if_pos rfl]
    cases hs:zJ 47 [] (zA 47 (zA 47 s).2.1).2.1 with
    |nil=>exact absurd hs (splitL_ne 47 _ _)
    |cons y t=>simp
   |false=>
    have hb:=cutAt_back 47 (zA 47 s).2.1
    rw [hc2,if_neg (by simp),List.append_nil] at hb
    rw [←hb]
    simp [hw]
theorem fItem_at (s:YL)(W:World)(hs:s.length<=1000000):YC 164 #[.string (mkS s)] W (YR (.tuple #[YI (zI s).1,.string (mkS (zI s).2.1),.string (mkS (zI s).2.2)]) W):=by
 have hcl:=cutAt_le 47 s
 refine z8 Tryz.func164 (z6 (v:= .bool (wdL s)) [] (λw _=>vM s w hs) (zL 11 (wdL s) (λh1=> ?_) (λh1=> ?_)))
 ·refine z6 (v:= .string (mkS s)) [] (λw _=>vO s w hs) (gA [] (YI 1) (.string (mkS s)) (.string ⟨#[]⟩) λw hO=>⟨?_,hO.below⟩)
  rw [show zI s=(1,s,[]) from by unfold zI;rw [if_pos h1]];rfl
 have zero:∀ {w:World} {L:List Blk},¬ (s.head?=some 63/\wdL (s.drop 1)=true)->((zA 47 s).2.2 && nmL (zA 47 s).1 && wdL (zA 47 s).2.1)=false->Own [] W w L->(Ending.returned (.tuple #[YI 0,.string ⟨#[]⟩,.string ⟨#[]⟩])= .returned (.tuple #[YI (zI s).1,.string (mkS (zI s).2.1),.string (mkS (zI s).2.2)]))/\YB W w:=λh2 h3 hO=>by
  refine ⟨?_,hO.below⟩
  rw [kind_cut h1 h2,h3];rfl
 have three:∀ {w:World} {L:List Blk},¬ (s.head?=some 63/\wdL (s.drop 1)=true)->((zA 47 s).2.2 && nmL (zA 47 s).1 && wdL (zA 47 s).2.1)=true->Own [] W w L->(Ending.returned (.tuple #[YI 3,.string (mkS (zA 47 s).1),.string (mkS (zA 47 s).2.1)])= .returned (.tuple #[YI (zI s).1,.string (mkS (zI s).2.1),.string (mkS (zI s).2.2)]))/\YB W w:=λh2 h3 hO=>by
  refine ⟨?_,hO.below⟩
  rw [kind_cut h1 h2,h3];rfl
 by_cases hq:s.head?=some 63
 ·have hcp:∀ w,YC 213 #[.string (mkS s),.string ⟨#[63]⟩] w (YR (.tuple #[.string (mkS (s.drop 1)),.bool true]) w):=λw=>(iCut_any s w).mono λe w' ⟨e1,e2⟩=>⟨by rw [e1,if_pos hq,decide_eq_true hq],e2⟩
  refine z6 (v:= .tuple #[.string (mkS (s.drop 1)),.bool true]) [] (λw _=>hcp w) (z6 (v:= .bool (wdL (s.drop 1))) [] (λw _=>vM _ w (by rw [List.length_drop];omega)) (x_bb 23 [] (wdL (s.drop 1)) (λh2=> ?_) (λh2=> ?_)))
  ·refine z6 (v:= .string (mkS (s.drop 1))) [] (λw _=>vO _ w (by rw [List.length_drop];omega)) (gA [] (YI 2) (.string (mkS (s.drop 1))) (.string ⟨#[]⟩) λw hO=>⟨?_,hO.below⟩)
   rw [show zI s=(2,s.drop 1,[]) from by unfold zI;rw [if_neg (by rw [h1];simp),if_pos (by rw [hq,h2];rfl)]];rfl
  have hno:¬ (s.head?=some 63/\wdL (s.drop 1)=true):=λq=>by rw [h2] at q;cases q.2
  refine z6 (v:= .tuple #[.string (mkS (zA 47 s).1),.string (mkS (zA 47 s).2.1),.bool (zA 47 s).2.2]) [] (λw _=>cutb_any s 47 w (by omega)) (x_bb 33 [] (zA 47 s).2.2 (λh3=> ?_) (λh3=> ?_))
  ·refine z6 (v:= .bool (nmL (zA 47 s).1)) [] (λw _=>vN _ w (by omega)) (x_bb 37 [] (nmL (zA 47 s).1) (λh4=> ?_) (λh4=> ?_))
   ·refine z6 (v:= .bool (wdL (zA 47 s).2.1)) [] (λw _=>vM _ w (by omega)) (x_bb 40 [] (wdL (zA 47 s).2.1) (λh5=> ?_) (λh5=> ?_))
    ·exact z6 (v:= .string (mkS (zA 47 s).1)) [] (λw _=>vO _ w Om) (z6 (v:= .string (mkS (zA 47 s).2.1)) [] (λw _=>vO _ w Om) (gA [] (YI 3) (.string (mkS (zA 47 s).1)) (.string (mkS (zA 47 s).2.1)) λw hO=>three hno (by rw [h3,h4,h5];rfl) hO))
    ·exact gA [] (YI 0) (.string ⟨#[]⟩) (.string ⟨#[]⟩) λw hO=>zero hno (by rw [h3,h4,h5];rfl) hO
   ·exact gA [] (YI 0) (.string ⟨#[]⟩) (.string ⟨#[]⟩) λw hO=>zero hno (by rw [h3,h4];rfl) hO
  ·exact gA [] (YI 0) (.string ⟨#[]⟩) (.string ⟨#[]⟩) λw hO=>zero hno (by rw [h3];rfl) hO
 ·have hcp:∀ w,YC 213 #[.string (mkS s),.string ⟨#[63]⟩] w (YR (.tuple #[.string (mkS s),.bool false]) w):=λw=>(iCut_any s w).mono λe w' ⟨e1,e2⟩=>⟨by rw [e1,if_neg hq,decide_eq_false hq],e2⟩
  have hno:¬ (s.head?=some 63/\wdL (s.drop 1)=true):=λq=>hq q.1
  refine z6 (v:= .tuple #[.string (mkS s),.bool false]) [] (λw _=>hcp w) (z6 (v:= .tuple #[.string (mkS (zA 47 s).1),.string (mkS (zA 47 s).2.1),.bool (zA 47 s).2.2]) [] (λw _=>cutb_any s 47 w (by omega)) (x_bb 33 [] (zA 47 s).2.2 (λh3=> ?_) (λh3=> ?_)))
  ·refine z6 (v:= .bool (nmL (zA 47 s).1)) [] (λw _=>vN _ w (by omega)) (x_bb 37 [] (nmL (zA 47 s).1) (λh4=> ?_) (λh4=> ?_))
   ·refine z6 (v:= .bool (wdL (zA 47 s).2.1)) [] (λw _=>vM _ w (by omega)) (x_bb 40 [] (wdL (zA 47 s).2.1) (λh5=> ?_) (λh5=> ?_))
    ·exact z6 (v:= .string (mkS (zA 47 s).1)) [] (λw _=>vO _ w Om) (z6 (v:= .string (mkS (zA 47 s).2.1)) [] (λw _=>vO _ w Om) (gA [] (YI 3) (.string (mkS (zA 47 s).1)) (.string (mkS (zA 47 s).2.1)) λw hO=>three hno (by rw [h3,h4,h5];rfl) hO))
    ·exact gA [] (YI 0) (.string ⟨#[]⟩) (.string ⟨#[]⟩) λw hO=>zero hno (by rw [h3,h4,h5];rfl) hO
   ·exact gA [] (YI 0) (.string ⟨#[]⟩) (.string ⟨#[]⟩) λw hO=>zero hno (by rw [h3,h4];rfl) hO
  ·exact gA [] (YI 0) (.string ⟨#[]⟩) (.string ⟨#[]⟩) λw hO=>zero hno (by rw [h3];rfl) hO
end
section
structure PV (W:World) where
 k:FuncId
 f:List Value->Option Value
 ok:∀ args v,f args=some v→∀ w,YB W w->Calls YP k args.toArray w λen w'=>en= .returned v/\YB w w'
structure PS (W:World) where
 k:FuncId
 f:List YL->List Value->Option Value
 ok:∀ l A cap rest v,f l rest=some v->l.length<=cap→∀ w,YB W w->Reads y9 w w.heap.size A l->Calls YP k (Value.slice A l.length cap::rest).toArray w λen w'=>en= .returned v/\YB w w'
structure PL (W:World) where
 k:FuncId
 f:List Value->Option (List YL)
 ok:∀ args l,f args=some l→∀ w,YB W w->Calls YP k args.toArray w λen w'=>∃ v ob,en= .returned v/\SlT v l ob/\Own [] w w' ob
def strsQ:List Value->Option (List YL)
 | []=>some []
 | .string s::r=>match strsQ r with
  |some l=>some (s.data.toList::l)
  |none=>none
 |_=>none
theorem strsQ_ok:∀ {xs:List Value} {l:List YL},strsQ xs=some l->xs=l.flatMap y9/\xs.length=l.length
 | [],l,h=>by cases h;exact ⟨rfl,rfl⟩
 |x::r,l,h=>by
  cases x with
  |string s=>
   unfold strsQ at h
   cases hr:strsQ r with
   |none=>rw [hr] at h;cases h
   |some l'=>
    rw [hr] at h;cases h
    obtain ⟨h1,h2⟩:=strsQ_ok hr
    refine ⟨?_,by simp [h2]⟩
    rw [List.flatMap_cons,←h1];rfl
  |_=>unfold strsQ at h;cases h
section
variable {W:World}
def prL (vs:List (PV W))(ss:List (PS W))(ls:List (PL W)):Prm where
 sa k:=bif ss.any λp=>Nat.beq p.k k then some 0 else none
 val k args xs:=match ss.find? λp=>Nat.beq p.k k with
  |some p=>match strsQ xs,args.toList with
   |some l,_::rest=>p.f l rest
   |_,_=>none
  |none=>match vs.find? λp=>Nat.beq p.k k with
   |some p=>p.f args.toList
   |none=>none
 lst k args:=match ls.find? λp=>Nat.beq p.k k with
  |some p=>match p.f args.toList with
   |some l=>some (9,l.map λs=> .string (mkS s))
   |none=>none
  |none=>none
theorem prL_ok (vs:List (PV W))(ss:List (PS W))(ls:List (PL W)):PrOk YP (prL vs ss ls) [] W:=by
 have hsa:∀ {k:FuncId} {a:Nat},(prL vs ss ls).sa k=some a->a=0:=λ{k a} h=>by
  unfold prL at h
  dsimp only at h
  cases hb:ss.any λp=>Nat.beq p.k k with
  |true=>rw [hb] at h;exact (Option.some.inj h).symm
  |false=>rw [hb] at h;cases h
 have key:∀ {k:FuncId} {args:Array Value} {v:Value} {xs:List Value} {A:Option Addr} {n cap:Nat},(prL vs ss ls).sa k=some 0->args.getD 0 undef= .slice A n cap->n<=cap->xs.length=n->(prL vs ss ls).val k args xs=some v→∀ w,Own [] W w []->(0<n→∃ b o,A=some ⟨b,o,none⟩/\b<w.heap.size∧∀ j u,xs[j]?=some u->w.cell? ⟨b,o+j,none⟩=some u)->Calls YP k args w λen w'=>en= .returned v/\YB w w':=λ{k args v xs A n cap} hs ha hcap hl hv w hO hc=>by
  obtain ⟨ar⟩:=args
  unfold prL at hv hs
  dsimp only at hv hs
  cases hf:ss.find? λp=>Nat.beq p.k k with
  |none=>
   rw [List.find?_eq_none] at hf
   cases hb:ss.any λp=>Nat.beq p.k k with
   |true=>
    obtain ⟨p,hp,hq⟩:=List.any_eq_true.1 hb
    exact absurd hq (hf p hp)
   |false=>rw [hb] at hs;cases hs
  |some p=>
   rw [hf] at hv
   dsimp only at hv
   have hk:=Nat.eq_of_beq_eq_true (List.find?_some (p:=λp:PS W=>Nat.beq p.k k) hf)
   cases h1:strsQ xs with
   |none=>rw [h1] at hv;cases hv
   |some l=>
    rw [h1] at hv
    cases ar with
    |nil=>cases hv
    |cons a0 rest=>
     obtain ⟨e1,e2⟩:=strsQ_ok h1
     have ha:a0= .slice A n cap:=ha
     subst ha
     have hln:l.length=n:=by rw [←e2,hl]
     subst hln
     rw [←hk]
     exact p.ok l A cap rest v hv hcap w hO.below λh0=>by
      obtain ⟨b,o,q1,q2,q3⟩:=hc h0
      exact ⟨b,o,q1,q2,by rw [←e1];exact q3⟩
 refine ⟨λ{k args v} hs hv w hO=> ?_,λ{k a args v} hs ha hv w hO=> ?_,λ{k a args v b o n c xs} hs ha hnc hl hv w hO hb hc=> ?_,λ{k args T xs} hv w hO=> ?_⟩
 ·obtain ⟨ar⟩:=args
  unfold prL at hv hs
  dsimp only at hv hs
  have hn:ss.find? (λp=>Nat.beq p.k k)=none:=by
   rw [List.find?_eq_none]
   intro p hp hq
   rw [List.any_eq_true.2 ⟨p,hp,hq⟩] at hs;cases hs
  rw [hn] at hv
  dsimp only at hv
  cases hf:vs.find? λp=>Nat.beq p.k k with
  |none=>rw [hf] at hv;cases hv
  |some p=>
   rw [hf] at hv
   rw [←Nat.eq_of_beq_eq_true (List.find?_some (p:=λp:PV W=>Nat.beq p.k k) hf)]
   exact p.ok ar v hv w hO.below
 ·obtain rfl:=hsa hs
  exact key (xs:=[]) hs ha (Nat.le_refl _) rfl hv w hO λh=>absurd h (by decide)
 ·obtain rfl:=hsa hs
  exact key (n:=n) hs ha hnc hl hv w hO λ_=>⟨b,o,rfl,hb,hc⟩
 ·obtain ⟨ar⟩:=args
  unfold prL at hv
  dsimp only at hv
  cases hf:ls.find? λp=>Nat.beq p.k k with
  |none=>rw [hf] at hv;cases hv
  |some p=>
   rw [hf] at hv
   dsimp only at hv
   cases hl:p.f ar with
   |none=>rw [hl] at hv;cases hv
   |some l=>
    rw [hl] at hv
    cases hv
    rw [←Nat.eq_of_beq_eq_true (List.find?_some (p:=λp:PL W=>Nat.beq p.k k) hf)]
    refine (p.ok ar l hl w hO.below).mono λen w' ⟨v,ob,e1,e2,e3⟩=>⟨v,ob,e1, ?_,e3⟩
    rw [List.length_map]
    exact e2
end
def bsQ (s:ByteArray):YL:=s.data.toList
theorem bs_mk (s:ByteArray):mkS (bsQ s)=s:=rfl
section
variable (W:World)
def peTrim:PV W:=⟨279,fun
 | [.string s,.string ⟨⟨[32]⟩⟩]=>bif Nat.ble s.size 1000 then some (.string (mkS (bareL (bsQ s)))) else none
 |_=>none,λargs v h w hb=>by
  split at h
  ·rename_i s
   cases hc:Nat.ble s.size 1000 with
   |false=>rw [hc] at h;cases h
   |true=>
    rw [hc] at h;cases h
    exact trim_any (bsQ s) w (by have:=Nat.le_of_ble_eq_true hc;rw [←y4,bs_mk];omega)
  ·cases h⟩
def peCutPre:PV W:=⟨213,fun
 | [.string s,.string t]=>some (.tuple #[.string (mkS (cpL (bsQ s) (bsQ t))),.bool (kL (bsQ s) (bsQ t))])
 |_=>none,λargs v h w hb=>by
  split at h
  ·rename_i s t
   cases h
   exact cutpre_any (bsQ s) (bsQ t) w
  ·cases h⟩
def peCut:PV W:=⟨132,fun
 | [.string s,.string ⟨⟨[c]⟩⟩]=>bif Nat.ble s.size 1000 then some (.tuple #[.string (mkS (zA c (bsQ s)).1),.string (mkS (zA c (bsQ s)).2.1),.bool (zA c (bsQ s)).2.2]) else none
 |_=>none,λargs v h w hb=>by
  split at h
  ·rename_i s c
   cases hc:Nat.ble s.size 1000 with
   |false=>rw [hc] at h;cases h
   |true=>
    rw [hc] at h;cases h
    refine (cut_any (bsQ s) c w (by have:=Nat.le_of_ble_eq_true hc;rw [←y4,bs_mk];omega)).mono λen w' ⟨e1,n,e2⟩=>⟨e1, ?_⟩
    subst e2
    exact ⟨rfl,rfl,rfl,Nat.le_refl _,Nat.le_add_right _ _,λ_ _=>rfl⟩
  ·cases h⟩
def peClone:PV W:=⟨147,fun
 | [.string s]=>bif Nat.ble s.size 1000 then some (.string s) else none
 |_=>none,λargs v h w hb=>by
  split at h
  ·rename_i s
   cases hc:Nat.ble s.size 1000 with
   |false=>rw [hc] at h;cases h
   |true=>
    rw [hc] at h;cases h
    exact fU s w (by have:=Nat.le_of_ble_eq_true hc;omega)
  ·cases h⟩
def peNumber:PV W:=⟨187,fun
 | [.string s]=>bif Nat.ble s.size 1000 then some (.tuple #[.int .i64 (numV s),.bool (pA s)]) else none
 |_=>none,λargs v h w hb=>by
  split at h
  ·rename_i s
   cases hc:Nat.ble s.size 1000 with
   |false=>rw [hc] at h;cases h
   |true=>
    rw [hc] at h;cases h
    exact number_any s w (by have:=Nat.le_of_ble_eq_true hc;unfold maxLen;omega)
  ·cases h⟩
def peWord:PV W:=⟨162,fun
 | [.string s]=>bif Nat.ble s.size 1000 then some (.bool (tR s)) else none
 |_=>none,λargs v h w hb=>by
  split at h
  ·rename_i s
   cases hc:Nat.ble s.size 1000 with
   |false=>rw [hc] at h;cases h
   |true=>
    rw [hc] at h;cases h
    exact word_any s w (by have:=Nat.le_of_ble_eq_true hc;unfold maxLen;omega)
  ·cases h⟩
def peDigits (ht:HasTab W)(on:∀ w,YB W w->HasTab w):PV W:=⟨168,fun
 | [.int .i64 (.ofNat n)]=>bif Nat.ble n 100000 then some (.string (digS (.ofNat n))) else none
 |_=>none,λargs v h w hb=>by
  split at h
  ·rename_i n
   cases hc:Nat.ble n 100000 with
   |false=>rw [hc] at h;cases h
   |true=>
    rw [hc] at h;cases h
    have:=Nat.le_of_ble_eq_true hc
    exact digits_any (.ofNat n) (by show _<=(n:Int);omega) (by show (n:Int)<=_;omega) w (on w hb)
  ·cases h⟩
def peMayV:PV W:=⟨91,fun
 | [.agg ⟨[.int .i64 a,.int .i64 b,.int .i64 c,.string p,.string q]⟩]=>bif Nat.ble p.size 1000 && Nat.ble q.size 1000 then some (.bool (Ver.may ⟨a,b,c,bsQ p,bsQ q⟩)) else none
 |_=>none,λargs v h w hb=>by
  split at h
  ·rename_i a b c p q
   cases hc:(Nat.ble p.size 1000 && Nat.ble q.size 1000) with
   |false=>rw [hc] at h;cases h
   |true=>
    rw [hc] at h;cases h
    rw [Bool.and_eq_true] at hc
    have h1:=Nat.le_of_ble_eq_true hc.1
    have h2:=Nat.le_of_ble_eq_true hc.2
    exact bT ⟨a,b,c,bsQ p,bsQ q⟩ w (by rw [←y4,bs_mk];omega) (by rw [←y4,bs_mk];omega)
  ·cases h⟩
def peGen:PL W:=⟨300,fun
 | [.string s,.string ⟨⟨[c]⟩⟩,.int .i64 0,.int .i64 n]=>bif Nat.ble s.size 1000 && (decide (n= -1)||decide (1<=n/\n<=1000)) then some (if n<0 then zJ c [] (bsQ s) else dS c (n.toNat-1) (bsQ s)) else none
 |_=>none,λargs l h w hb=>by
  split at h
  ·rename_i s c n
   cases hc:(Nat.ble s.size 1000 && (decide (n= -1)||decide (1<=n/\n<=1000))) with
   |false=>rw [hc] at h;cases h
   |true=>
    rw [hc] at h;cases h
    rw [Bool.and_eq_true,Bool.or_eq_true,decide_eq_true_eq,decide_eq_true_eq] at hc
    exact splitC_any c (bsQ s) n w (by have:=Nat.le_of_ble_eq_true hc.1;rw [←y4,bs_mk];omega) hc.2
  ·cases h⟩
def peBars (ht:∀ w,YB W w->HasLib w):PL W:=⟨277,fun
 | [.string s,.string ⟨⟨[124,124]⟩⟩]=>bif Nat.ble s.size 1000 then some (j6 [] (bsQ s)) else none
 |_=>none,λargs l h w hb=>by
  split at h
  ·rename_i s
   cases hc:Nat.ble s.size 1000 with
   |false=>rw [hc] at h;cases h
   |true=>
    rw [hc] at h;cases h
    exact split_bars (bsQ s) w (by have:=Nat.le_of_ble_eq_true hc;rw [←y4,bs_mk];omega) (ht w hb)
  ·cases h⟩
def peSplit:PL W:=⟨131,fun
 | [.string s,.int .u8 (.ofNat b)]=>bif Nat.ble s.size 1000 && Nat.ble b 255 then some (zJ (UInt8.ofNat b) [] (bsQ s)) else none
 |_=>none,λargs l h w hb=>by
  split at h
  ·rename_i s b
   cases hc:(Nat.ble s.size 1000 && Nat.ble b 255) with
   |false=>rw [hc] at h;cases h
   |true=>
    rw [hc] at h;cases h
    rw [Bool.and_eq_true] at hc
    have h1:=Nat.le_of_ble_eq_true hc.1
    have h2:=Nat.le_of_ble_eq_true hc.2
    have e:(UInt8.ofNat b).toNat=b:=by rw [UInt8.toNat_ofNat'];omega
    have:=split_any s (UInt8.ofNat b) w Om
    rw [e] at this
    refine this.mono λen w' ⟨v,q1,q2,q3⟩=> ?_
    obtain ⟨ob,k1,k2⟩:=Own.row q2 q3
    unfold g0 at k1
    exact ⟨v,ob,q1,k1,k2⟩
  ·cases h⟩
def peJoin:PS W:=⟨72,λl r=>match r with
 | [.int .u8 (.ofNat b)]=>bif Nat.ble b 255 && Nat.ble (zE (UInt8.ofNat b) l).length 10000 && Nat.ble l.length 10000 && !(zE (UInt8.ofNat b) l).isEmpty then some (.string (mkS (zE (UInt8.ofNat b) l))) else none
 |_=>none,λl A cap rest v h hcp w hb hv=>by
  split at h
  ·rename_i b
   cases hc:(Nat.ble b 255 && Nat.ble (zE (UInt8.ofNat b) l).length 10000 && Nat.ble l.length 10000 && !(zE (UInt8.ofNat b) l).isEmpty) with
   |false=>rw [hc] at h;cases h
   |true=>
    rw [hc] at h;cases h
    simp only [Bool.and_eq_true] at hc
    obtain ⟨⟨⟨h1,h2⟩,h3⟩,h4⟩:=hc
    have h1:=Nat.le_of_ble_eq_true h1
    have h2:=Nat.le_of_ble_eq_true h2
    have h3:=Nat.le_of_ble_eq_true h3
    have e:(UInt8.ofNat b).toNat=b:=by rw [UInt8.toNat_ofNat'];omega
    have:=jW (.slice A l.length cap) l (UInt8.ofNat b) w ⟨A,cap,rfl,λh0=>by
     obtain ⟨b,o,q1,q2,q3⟩:=hv h0
     refine ⟨⟨b,o,none⟩,q1,q2,λj hj=> ?_⟩
     rw [yI]
     refine q3 j _ ?_
     rw [←x5]
     unfold vH
     rw [List.getElem?_map,List.getElem?_eq_getElem hj];rfl⟩ (by omega) (by omega) (by intro q;rw [q] at h4;exact absurd h4 (by decide))
    rw [e] at this
    exact this
  ·cases h⟩
def peSJoin:PS W:=⟨136,λl r=>match r with
 | [.string ⟨⟨c::t⟩⟩]=>bif Nat.ble t.length 50 && Nat.ble l.length 1000 && l.all (λx=>Nat.ble x.length 1000) then some (.string (mkS (dB (c::t) l))) else none
 |_=>none,λl A cap rest v h hcp w hb hv=>by
  split at h
  ·rename_i c t
   cases hc:(Nat.ble t.length 50 && Nat.ble l.length 1000 && l.all (λx=>Nat.ble x.length 1000)) with
   |false=>rw [hc] at h;cases h
   |true=>
    rw [hc] at h;cases h
    simp only [Bool.and_eq_true] at hc
    obtain ⟨⟨h1,h2⟩,h3⟩:=hc
    exact sjoin_any (c::t) l A cap w hv (by simp) (by have:=Nat.le_of_ble_eq_true h1;simp only [List.length_cons];omega) (Nat.le_of_ble_eq_true h2) (λx hx=>Nat.le_trans (Nat.le_of_ble_eq_true (List.all_eq_true.1 h3 x hx)) (by decide)) hcp
  ·cases h⟩
end
end
section
set_option linter.unnecessarySimpa false
def rt (st:List (Nat×Tr)):List Int:=(st.map λp=>((p.1:Nat):Int)).reverse
def treeB (l:List Nd):Bool:=match runT 0 [] l with|some s=>decide (l=[])||decide (s.length=1)|none=>false
end
section
set_option linter.unnecessarySimpa false
def Tr.opc:Tr->Int
 | .is _ _=>1
 | .no _=>2
 | .both _ _=>3
 | .one _ _=>4
def TextAt (A:Option Addr)(cap:Nat)(l:List Nd)(a:Nat)(t:Tr):Prop:=∀ W:World,Reads nC W W.heap.size A l->YC 327 #[.slice A l.length cap,YI (a:Int)] W (YR (.string (mkS t.text)) W)
def Stands (l:List Nd)(o:Nat)(t:Tr):Prop:=∀ i x,(t.enc o)[i]?=some x->l[o+i]?=some x
def whole10 (l:List Nd):YL:=match pV l with|some t=>t.text|none=>[]
end
section
set_option linter.unnecessarySimpa false
def valN (e:Pf)(n:Nd)(vs:List Int):Int:=
 if n.op=1 then (if e n.key.toNat=[] then 1 else if e n.key.toNat=n.text then 2 else 0)
 else if n.op=2 then 2-vs.getD n.a.toNat 0
 else if n.op=3 then min (vs.getD n.a.toNat 0) (vs.getD n.b.toNat 0) else max (vs.getD n.a.toNat 0) (vs.getD n.b.toNat 0)
structure NdOk (n:Nd)(m:Nat):Prop where
 is:n.op=1->0<=n.key/\n.key<3
 a:n.op≠1->0<=n.a/\n.a<m
 b:n.op≠1->n.op≠2->0<=n.b/\n.b<m
end
section
set_option linter.unnecessarySimpa false
theorem Own.lentR {ob R:List Blk}{M:List Nat}{W w:World}(h:Own M W w (R++ob)):Own (ob.map Blk.b) w w ob:=Own.lend (h.sublist (List.sublist_append_right _ _))
end
section
set_option linter.unnecessarySimpa false
def VStands (e:Pf)(vs:List Int)(o:Nat)(t:Tr):Prop:=∀ i z,(vlT e t)[i]?=some z->vs[o+i]?=some z
end
section
set_option linter.unnecessarySimpa false
def Rd (b:Nat)(A:Option Addr)(cap:Nat)(ws:List Tok)(ts:List Tok)(nd:List Nd)(bad:Bool)(ob:List Blk):Prop:=
 ∃ pre C cc g,ws=pre++ts/\ob=⟨b, #[.slice A ws.length cap,YI ((pre.length:Nat):Int),.slice C nd.length cc,.bool bad],314⟩::g/\SlN (.slice C nd.length cc) nd g
structure Lent (B b:Nat)(A:Option Addr)(cap:Nat)(ws ts:List Tok)(nd:List Nd)(bad:Bool)(ob:List Blk)(W:World):Prop where
 rd:Rd b A cap ws ts nd bad ob
 own:Own (ob.map Blk.b) W W ob
 ge:∀ x∈ob,B<=x.b
 le:B<=W.heap.size
 words:Reads y9 W B A ws
 short:∀ x∈ws,x.length<=1000000
 few:ws.length<=10000
 small:nd.length+ts.length<=10000
structure Back (b:Nat)(A:Option Addr)(cap:Nat)(ws ts:List Tok)(nd:List Nd)(bad:Bool)(ob ob':List Blk)(W w':World):Prop where
 rd:Rd b A cap ws ts nd bad ob'
 own:Own (ob.map Blk.b) W w' ob'
def nextB (x:Tok)(ts:List Tok):Bool:=decide (ts.head?=some x)
def nextR (x:Tok)(ts:List Tok):List Tok:=if nextB x ts then ts.tail else ts
end
section
set_option linter.unnecessarySimpa false
def Got (part:List Tok->Option (Tr×List Tok))(ts:List Tok)(nd:List Nd)(z:Int)(ts':List Tok)(nd':List Nd)(bad':Bool):Prop:=
 nd'.length+ts'.length<=nd.length+ts.length/\ts'.length<=ts.length∧
  match part ts with
  |some (t,r)=>bad'=false/\ts'=r/\nd'=nd++t.enc nd.length/\z=((nd.length+t.sz-1:Nat):Int)
  |none=>bad'=true
def ChI (part:List Tok->Option (Tr×List Tok))(c:Tok)(mk:Tr->Tr->Tr)(ts:List Tok)(nd:List Nd)(z:Int)(tq:List Tok)(nq:List Nd)(bq:Bool):Prop:=
 nq.length+tq.length<=nd.length+ts.length/\tq.length<=ts.length∧
  (if bq=true then dT part c mk ts=none else ∃ t,dT part c mk ts=pLoop part c mk tq.length t tq/\nq=nd++t.enc nd.length/\z=((nd.length+t.sz-1:Nat):Int))
structure MkOf (op:Int)(mk:Tr->Tr->Tr):Prop where
 enc:∀ a b o,(mk a b).enc o=a.enc o++b.enc (o+a.sz)++[⟨op,((o+a.sz-1:Nat):Int),((o+a.sz+b.sz-1:Nat):Int),0,[]⟩]
 sz:∀ a b,(mk a b).sz=a.sz+b.sz+1
structure PartC (f:FuncId)(n:Nat)(part:List Tok->Option (Tr×List Tok)):Prop where
 go:∀ {B b:Nat} {A:Option Addr} {cap:Nat} {ws ts:List Tok} {nd:List Nd} {ob:List Blk} {W:World},Lent B b A cap ws ts nd false ob W->ts.length<=n→
  Calls YP f #[.pointer (some ⟨b,0,none⟩)] W λe w'=>∃ z ts' nd' bad' ob',e= .returned (YI z)/\Back b A cap ws ts' nd' bad' ob ob' W w'/\Got part ts nd z ts' nd' bad'
end
section
set_option linter.unnecessarySimpa false
def keyZ (c:Tok):Nat->Int
 |0=> -1
 |i+1=>if bV i=c then (i:Int) else keyZ c i
end
section
set_option linter.unnecessarySimpa false
end
section
set_option linter.unnecessarySimpa false
def Tr.sts:Nat->Tr->List Nat
 |o,.is _ _=>[o]
 |o,.no x=>x.sts o++[o]
 |o,.both x y=>x.sts o++y.sts (o+x.sz)++[o]
 |o,.one x y=>x.sts o++y.sts (o+x.sz)++[o]
def FS:List (Nat×Tr)->Nat->List Nat->Prop
 | [],i,F=>i=0/\F=[]
 |p::r,i,F=>∃ i0 F0,FS r i0 F0/\i=i0+p.2.sz/\p.1=i-1/\F=F0++p.2.sts i0
def treeOk (l:List Nd):Bool:=decide (l.length<=15) && (pV l).isSome
def keyI (c:Tok):Int:=match keyN c with|some n=>(n:Int)|none=> -1
def Bd (nd:List Nd)(bad:Bool):Prop:=bad=true∨∃ n∈nd,n.op=1/\leafB n=false
def GotL (part:List Tok->Option (Tr×List Tok))(ts:List Tok)(nd:List Nd)(bad:Bool)(ts':List Tok)(nd':List Nd)(bad':Bool):Prop:=
 nd'.length+ts'.length<=nd.length+ts.length/\ts'.length<=ts.length/\(Bd nd bad->Bd nd' bad')∧
  match part ts with
  |some (t,r)=>ts'=r/\nd'=nd++t.enc nd.length/\bad'=bad
  |none=>Bd nd' bad'
def ChL (part:List Tok->Option (Tr×List Tok))(c:Tok)(mk:Tr->Tr->Tr)(ts:List Tok)(nd:List Nd)(bad:Bool)(tq:List Tok)(nq:List Nd)(bq:Bool):Prop:=
 nq.length+tq.length<=nd.length+ts.length/\tq.length<=ts.length/\(Bd nd bad->Bd nq bq)∧
  ((dT part c mk ts=none/\Bd nq bq)∨∃ t,dT part c mk ts=pLoop part c mk tq.length t tq/\nq=nd++t.enc nd.length/\bq=bad)
end
section
set_option linter.unnecessarySimpa false
structure MkAt (B:Nat)(W:World):Prop where
 lt:2<B
 held:∃ T,W.heap[(2:Nat)]?=some (.cells #[.string ⟨#[111,115]⟩,.string ⟨#[97,114,99,104]⟩,.string ⟨#[97,98,105]⟩] T)
def MkLib (W:World):Prop:=MkAt W.heap.size W
theorem MkAt.on {B B':Nat}{W w:World}(h:MkAt B W)(hb:Below B W w)(hB:B<=B'):MkAt B' w:=
 ⟨Nat.lt_of_lt_of_le h.lt hB,by obtain ⟨T,q⟩:=h.held;exact ⟨T,by rw [hb.block _ h.lt];exact q⟩⟩
theorem MkLib.on {W w:World}(h:MkLib W)(hb:YB W w):MkLib w:=MkAt.on h hb hb.size
end
section
set_option linter.unnecessarySimpa false
def intA (zs:List Int):Array Value:=(zs.flatMap zC).toArray
def padF (F:List Nat)(n:Nat):List Int:=F.map (λ(k:Nat)=>(k:Int))++List.replicate (n-F.length) 0
end
section
set_option linter.unnecessarySimpa false
def Nb (b:Nat)(nd:List Nd)(ob:List Blk):Prop:=∃ C cc g,ob=⟨b, #[.slice C nd.length cc],271⟩::g/\SlN (.slice C nd.length cc) nd g
def Rb (b:Nat)(A:Option Addr)(m cap:Nat)(bad:Bool)(nd:List Nd)(ob:List Blk):Prop:=∃ C cc g,ob=⟨b, #[.slice C nd.length cc,.slice A m cap,.bool bad],273⟩::g/\SlN (.slice C nd.length cc) nd g
end
section
set_option linter.unnecessarySimpa false
theorem flat_len10 {α:Type}{g:α->List Value}{sz:Nat}(hg:∀ x,(g x).length=sz):∀ l:List α,(l.flatMap g).length=l.length*sz
 | []=>by simp
 |a::l=>by rw [List.flatMap_cons,List.length_append,flat_len10 hg l,hg,List.length_cons,Nat.succ_mul];omega
theorem Reads.from_ {α:Type}{g:α->List Value}{sz:Nat}(hg:∀ x,(g x).length=sz){w:World}{B b off c:Nat}{l:List α}(h:Reads g w B (some ⟨b,off,none⟩) l)(hc:l.length<=c)(k:Nat):Reads g w B (some ⟨b,off+(if c=k then 0 else k*sz),none⟩) (l.drop k):=λh0=>by
 rw [List.length_drop] at h0
 obtain ⟨b',off',e,hlt,hcell⟩:=h Om
 obtain ⟨rfl,rfl⟩:b=b'/\off=off':=by simp at e;exact e
 refine ⟨b,_,rfl,hlt,λj u hj=> ?_⟩
 rw [if_neg Om]
 have e2:l.flatMap g=(l.take k).flatMap g++(l.drop k).flatMap g:=by rw [←List.flatMap_append,List.take_append_drop]
 have hl:((l.take k).flatMap g).length=k*sz:=by rw [flat_len10 hg,List.length_take,Nat.min_eq_left Om]
 have:=hcell (k*sz+j) u (by rw [e2,List.getElem?_append_right Om,hl,Nat.add_sub_cancel_left];exact hj)
 rw [←Nat.add_assoc] at this;exact this
def Rdr (W:World)(B b:Nat)(ts:List Tok)(nd:List Nd)(bad:Bool)(ob:List Blk):Prop:=∃ A cap,Reads y9 W B A ts/\ts.length<=cap/\Rb b A ts.length cap bad nd ob
structure LentL (B b:Nat)(ts:List Tok)(nd:List Nd)(bad:Bool)(ob:List Blk)(W:World):Prop where
 rd:Rdr W B b ts nd bad ob
 own:Own (ob.map Blk.b) W W ob
 ge:∀ x∈ob,B<=x.b
 le:B<=W.heap.size
 short:∀ x∈ts,x.length<=1000000
 texts:∀ n∈nd,n.text.length<=1000000
 small:nd.length+ts.length<=10000
 lib:MkAt B W
structure BackL (B b:Nat)(ts:List Tok)(nd:List Nd)(bad:Bool)(ob ob':List Blk)(W w':World):Prop where
 rd:Rdr W B b ts nd bad ob'
 own:Own (ob.map Blk.b) W w' ob'
 short:∀ x∈ts,x.length<=1000000
 texts:∀ n∈nd,n.text.length<=1000000
structure PartL (f:FuncId)(n:Nat)(part:List Tok->Option (Tr×List Tok)):Prop where
 go:∀ {B b:Nat} {ts:List Tok} {nd:List Nd} {bad:Bool} {ob:List Blk} {W:World},LentL B b ts nd bad ob W->ts.length<=n→
  Calls YP f #[.pointer (some ⟨b,0,none⟩)] W λe w'=>∃ ts' nd' bad' ob',e= .returned (.tuple #[])/\BackL B b ts' nd' bad' ob ob' W w'/\GotL part ts nd bad ts' nd' bad'
end
section
set_option linter.unnecessarySimpa false
def Wr (b:Nat)(A:Option Addr)(n cap:Nat)(ws:List Tok)(ob:List Blk):Prop:=∃ C cc g,ob=⟨b, #[.slice A n cap,.slice C ws.length cc],277⟩::g/\SlT (.slice C ws.length cc) ws g
structure LentW (B b:Nat)(A:Option Addr)(cap:Nat)(l:List Nd)(ws:List Tok)(ob:List Blk)(W:World):Prop where
 rd:Wr b A l.length cap ws ob
 own:Own (ob.map Blk.b) W W ob
 ge:∀ x∈ob,B<=x.b
 le:B<=W.heap.size
 nodes:Reads nC W B A l
 lib:MkAt B W
structure BackW (b:Nat)(A:Option Addr)(n cap:Nat)(ws:List Tok)(ob ob':List Blk)(W w':World):Prop where
 rd:Wr b A n cap ws ob'
 own:Own (ob.map Blk.b) W w' ob'
def NodeW (A:Option Addr)(cap:Nat)(l:List Nd)(a:Nat)(X:List Tok):Prop:=∀ (B b:Nat) (ws:List Tok) (ob:List Blk) (W:World),LentW B b A cap l ws ob W->ws.length+X.length<=100000→
 YC 250 #[.pointer (some ⟨b,0,none⟩),YI (a:Int)] W λe w'=>∃ ob',e= .returned (.tuple #[])/\BackW b A l.length cap (ws++X) ob ob' W w'
def OperW (A:Option Addr)(cap:Nat)(l:List Nd)(a:Nat)(z:Int)(X:List Tok):Prop:=∀ (B b:Nat) (ws:List Tok) (ob:List Blk) (W:World),LentW B b A cap l ws ob W->ws.length+X.length<=100000→
 YC 284 #[.pointer (some ⟨b,0,none⟩),YI (a:Int),YI z] W λe w'=>∃ ob',e= .returned (.tuple #[])/\BackW b A l.length cap (ws++X) ob ob' W w'
end
section
set_option linter.unnecessarySimpa false
end
section
set_option linter.unnecessarySimpa false
def padV (xs:List Int)(n:Nat):List Int:=xs++List.replicate (n-xs.length) 0
end
section
set_option linter.unnecessarySimpa false
def ReadsA {α:Type}(M:List Nat)(g:α->List Value)(W:World)(A:Option Addr)(l:List α):Prop:=
 0<l.length→∃ b off,A=some ⟨b,off,none⟩/\b<W.heap.size/\b∉M∧∀ k u,(l.flatMap g)[k]?=some u->W.cell? ⟨b,off+k,none⟩=some u
structure LentN (b:Nat)(A V:Option Addr)(l:List Nd)(vs:List Int)(nd:List Nd)(ob:List Blk)(W:World):Prop where
 rd:Nb b nd ob
 own:Own (ob.map Blk.b) W W ob
 nodes:ReadsA (ob.map Blk.b) nC W A l
 vals:ReadsA (ob.map Blk.b) zC W V vs
structure BackN (b:Nat)(nd:List Nd)(ob ob':List Blk)(W w':World):Prop where
 rd:Nb b nd ob'
 own:Own (ob.map Blk.b) W w' ob'
end
section
set_option linter.unnecessarySimpa false
structure ChainL (n:Nat)(word:Tok)(op:Int)(k:FuncId)(part:List Tok->Option (Tr×List Tok)):Prop where
 go:∀ {B b:Nat} {ts:List Tok} {nd:List Nd} {bad:Bool} {ob:List Blk} {W:World},LentL B b ts nd bad ob W->ts.length<=n→
  YC 281 #[.pointer (some ⟨b,0,none⟩),.string (mkS word),YI op,.func (.func k) #[] #[]] W λe w'=>∃ ts' nd' bad' ob',e= .returned (.tuple #[])/\BackL B b ts' nd' bad' ob ob' W w'/\GotL part ts nd bad ts' nd' bad'
end
section
set_option linter.unnecessarySimpa false
end
section
structure RecLib (W:World):Prop where
 lib:HasLib W
 keys:MkLib W
theorem RecLib.on {W w:World}(h:RecLib W)(hb:YB W w):RecLib w:=⟨h.lib.on hb,h.keys.on hb⟩
noncomputable def prF (W:World)(ht:∀ w,YB W w->HasLib w):Prm:=prL [peTrim W,peCutPre W,peCut W,peClone W,peNumber W,peWord W,peDigits W (ht W (Below.refl _ _)).tab (λw h=>(ht w h).tab),peMayV W] [peJoin W,peSJoin W] [peGen W,peBars W ht,peSplit W]
def kyB (T:TypeId):Blk:=⟨2, #[.string ⟨#[111,115]⟩,.string ⟨#[97,114,99,104]⟩,.string ⟨#[97,98,105]⟩],T⟩
theorem zG {k:FuncId}{s:YL}{W:World}(hK:RecLib W)(h:∀ T ht e,(runA YP [kyB T] (prF W ht) k #[.string (mkS s)] e).l=(runA YP [kyB T] (prF W ht) k #[.string (mkS s)] e).r):Calls YP k #[.string (mkS s)] W λen w'=>en= .returned (.bool true)/\YB W w':=by
 obtain ⟨T,q⟩:=hK.keys.held
 refine run_true (G:=[kyB T]) (pr:=prF W (λw hb=>hK.lib.on hb)) (λw hO x hx=> ?_) (prL_ok _ _ _) (h T _)
 rw [List.mem_singleton.1 hx]
 exact (hO.kept 2 hK.keys.lt (by simp)).trans q
end
end Go.Proofs.YtflhcaljcoekpaaGreatDoor
