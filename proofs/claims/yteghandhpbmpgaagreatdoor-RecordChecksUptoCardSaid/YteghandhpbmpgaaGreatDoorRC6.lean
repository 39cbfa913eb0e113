/-
 What the statement's proof leans on: the ways of walking, plain mathematics, and what the program's functions return; each theorem says on what conditions.
-/
import Derived.Laws.IdiomStrings
import Derived.Laws.IdiomCopy
import Derived.Laws.BitsAllLaws
import Derived.Lib.ConvBytes
import Derived.Lib.Builder
import Derived.Laws.Entries
import Derived.RangeFuncIn
import Derived.RangeFuncLeaves
import Derived.RangeFuncCalls
import Derived.RangeFuncNested
import Derived.Test.YteghandhpbmpgaaGreatDoorRC5
set_option maxRecDepth 1000000
set_option maxHeartbeats 8000000
set_option linter.unusedVariables false
set_option linter.unusedSimpArgs false
set_option linter.unnecessarySimpa false
namespace Go.Proofs.YteghandhpbmpgaaGreatDoor
open Go.RowKit

section
set_option linter.unnecessarySimpa false
def laV (l:La):Value:= .agg #[YI (l.kind:Int),.string (mkS l.word),YI (l.lo:Int),YI (l.hi:Int),YI (l.parts:Int),.bool l.opn,.bool l.more]
def laB (l:La)(b:Nat):Blk:=⟨b,(laV l).cells,156⟩
theorem laPs_ne (l:La)(s:List UInt8):0<(xE l s).length:=by
 unfold xE
 split
 ·exact (dP 32 _ s).1
 ·exact List.length_pos_iff.2 (qR 32 _ _)
theorem laPs_few (l:La)(s:List UInt8)(hp:l.parts<=1000):(xE l s).length<=s.length+1001:=by
 unfold xE
 split
 ·have:=(dP 32 (l.parts-1) s).2;omega
 ·have:=tF 32 s;omega
theorem qCut_any (l:La)(s:List UInt8)(W:World)(hs:s.length<=1000000)(hp:1<=l.parts/\l.parts<=1000):YC 125 #[laV l,.string (mkS s)] W λe w'=>∃ v' ob',e= .returned (.tuple #[v',.bool (dV l s)])/\SlT v' (xE l s) ob'/\Own [] W w' ob':=by
 obtain ⟨z0,hz0⟩:∃ z:Int,z=if l.opn then (l.parts:Int) else-1:=⟨_,rfl⟩
 have hsp:∀ w,YC 182 #[.string (mkS s),.string ⟨#[32]⟩,YI z0] w λe w'=>∃ v ob,e= .returned v/\SlT v (xE l s) ob/\Own [] w w' ob:=λw=>by
  have h:=splitN32_any s z0 w hs (by rw [hz0];split<;>omega)
  have e:(if z0<0 then zD 32 [] s else bH 32 (z0.toNat-1) s)=xE l s:=by
   unfold xE
   rw [hz0]
   cases l.opn with
   |true=>rw [if_pos rfl,if_pos rfl,if_neg Om,Int.toNat_natCast]
   |false=>rw [if_neg Bool.false_ne_true,if_neg Bool.false_ne_true,if_pos (by decide)]
  rw [e] at h
  exact h
 refine zE Tryz.func125 (yN [] λb2=>dB 10 (α:=Int) (λz=>[(1,.string (mkS s)),(2,Zp b2 0),(6,YI z)]) (λ_=>[laB l b2]) (λz=>z=z0) [0] (λnj=>zU 10 l.opn (λh=>nj (l.parts:Int) [0] (by rw [hz0,h];rfl) Kr) (λh=>nj (-1) [] (by rw [hz0,h];rfl) Kr)) (λz g hz=> ?_))
 subst hz
 refine kP (R:=λv ob=>SlT v (xE l s) ob) [] (λw hO=>hsp w) λv ob hR=> ?_
 have hne:=laPs_ne l s
 have hfew:=laPs_few l s hp.2
 obtain ⟨g1,cap,cur,rfl,rfl,hcap⟩:∃ g cap cur,v= .slice (some ⟨g,0,none⟩) (xE l s).length cap/\ob=[⟨g,cur,9⟩]/\True:=by
  rcases hR.2 with ⟨_,h,_⟩|⟨g,cap,cur,h1,h2,_⟩
  ·omega
  ·exact ⟨g,cap,cur,h1,h2,trivial⟩
 have hrd:∀ w,Own [] W w [laB l b2,⟨g1,cur,9⟩]->Reads yV w w.heap.size (some ⟨g1,0,none⟩) (xE l s):=λw hO=>SlT.reads hR rfl hO λx hx=>List.mem_cons_of_mem _ hx
 obtain ⟨a,ha⟩:∃ a,(xE l s)[0]=a:=⟨_,rfl⟩
 have ha0:(xE l s).getD 0 []=a:=by rw [List.getD_eq_getElem?_getD,List.getElem?_eq_getElem hne,ha];rfl
 have hld:∀ w,Own [] W w [laB l b2,⟨g1,cur,9⟩]->(loadVar 9 ⟨g1,0+0*1+0,none⟩).run Tryz.prog w= .ok (.string (mkS a)) w:=λw hO=>by
  obtain ⟨b,off,e,hel⟩:=(hrd w hO).elem zX 0 hne
  obtain ⟨rfl,rfl⟩:g1=b/\0=off:=by cases e;exact ⟨rfl,rfl⟩
  exact hel w (Below.refl _ _) _ 0 _ (by rw [ha];kernel_rfl)
 have hno:∀ w,Own [] W w [laB l b2,⟨g1,cur,9⟩]->YC 183 #[.slice (some ⟨g1,0,none⟩) (xE l s).length cap,.string ⟨#[]⟩] w (YR (.bool (!noE (xE l s))) w):=λw hO=>qHole_any _ cap (xE l s) w (hrd w hO) Om
 have hE:dV l s=((decide (((xE l s).length:Int)=(l.parts:Int))||(l.more && decide (((xE l s).length:Int)>(l.parts:Int)))) && decide (a=l.word) && noE (xE l s)):=by
  unfold dV
  rw [ha0]
  congr 3
  ·exact decide_eq_decide.2 Om
  ·congr 1;exact decide_eq_decide.2 Om
 have bad:∀ w,dV l s=false->Own [] W w [laB l b2,⟨g1,cur,9⟩]→∃ v' ob',Ending.returned (.tuple #[.slice (some ⟨g1,0,none⟩) (xE l s).length cap,.bool false])= .returned (.tuple #[v',.bool (dV l s)])/\SlT v' (xE l s) ob'/\Own [] W w ob':=λw h hO=>⟨_,_,by rw [h],hR,hO.past 1 _⟩
 generalize xE l s=ps at*
 refine zB 20 [0] ((ps.length:Int)=(l.parts:Int)) (λh20=> ?_) (λh20=>x_bb 23 [0] l.more (λh23=>zB 29 [0] ((ps.length:Int)>(l.parts:Int)) (λh29=> ?_) (λh29=> ?_)) (λh23=> ?_))
 case refine_3=>exact yI [] (.slice (some ⟨g1,0,none⟩) ps.length cap) (.bool false) λw hO=>bad w (by rw [hE,decide_eq_false h20,decide_eq_false h29];simp) (hO.past 0 _)
 case refine_4=>exact yI [] (.slice (some ⟨g1,0,none⟩) ps.length cap) (.bool false) λw hO=>bad w (by rw [hE,decide_eq_false h20,h23];simp) (hO.past 0 _)
 all_goals
  have hN:(decide ((ps.length:Int)=(l.parts:Int))||(l.more && decide ((ps.length:Int)>(l.parts:Int))))=true:=by
   first|(rw [decide_eq_true h20];rfl)|(rw [h23,decide_eq_true h29];simp)
  rw [hN,Bool.true_and] at hE
  refine zJ 36 [] (A:=some ⟨g1,0,none⟩) rfl ps.length cap 0 1 hne (zH 37 [] 9 g1 (0+0*1+0) (.string (mkS a)) (λw hO=>hld w (hO.past 0 _)) (x2 40 [0] a l.word (λh40=> ?_) (λh40=> ?_)))
  rotate_left
  ·exact yI [] (.slice (some ⟨g1,0,none⟩) ps.length cap) Z5 λw hO=>bad w (by rw [hE,decide_eq_false h40];rfl) (hO.past 0 _)
  refine z8 (v:= .bool (!noE ps)) [] (λw hO=>hno w (hO.past 0 _)) (zU 44 (!noE ps) (λh44=> ?_) (λh44=> ?_))
  ·exact yI [] (.slice (some ⟨g1,0,none⟩) ps.length cap) Z5 λw hO=>bad w (by rw [hE,show noE ps=false by simpa using h44];simp) (hO.past 0 _)
  ·exact yI [] (.slice (some ⟨g1,0,none⟩) ps.length cap) Z4 λw hO=>⟨_,_,by rw [hE,decide_eq_true h40,show noE ps=true by simpa using h44];rfl,hR,hO.past 1 _⟩
theorem qFeats_any (s:List UInt8)(W:World)(hs:s.length<=1000000)(hK:HasLib W):YC 186 #[.string (mkS s)] W λe w'=>∃ v' ob',e= .returned v'/\SlT v' (if s=[45] then [] else zD 44 [] s) ob'/\Own [] W w' ob':=by
 have hc:∀ w,Below W.heap.size W w->YC 239 #[.string (mkS s),.string ⟨#[44]⟩] w λe w'=>∃ v ob,e= .returned v/\SlT v (zD 44 [] s) ob/\Own [] w w' ob:=λw hb=>split_comma s w hs (hK.on hb)
 refine zE Tryz.func186 (x2 4 [] s [45] (λh=> ?_) (λh=> ?_))
 ·exact z7 [] (.slice none 0 0) λw hO=>⟨_,[],rfl,by rw [if_pos h];exact Sl.nil _ _,hO.past 0 _⟩
 ·exact kP (R:=λv ob=>SlT v (zD 44 [] s) ob) [] (λw hO=>hc w hO.below) λv ob hR=>(z7 [] v λw hO=>⟨v,ob,rfl,by rw [if_neg h];exact hR,hO.past 0 _⟩)
theorem qLastN_any (g n cap:Nat)(W:World)(hn:n+1<=1000000):YC 185 #[.slice (some ⟨g,0,none⟩) (n+1) cap] W (YR (.pointer (some ⟨g,n*3,none⟩)) W):=by
 refine zE Tryz.func185 (dF 6 [] (YI (IntKind.i64.wrap (((n+1:Nat):Int) -1))) (YI (n:Int)) (by rw [show (((n+1:Nat):Int) -1)=(n:Int) by omega,IntWalk.i64_in _ Om]) ?_)
 refine zJ 7 [] (A:=some ⟨g,0,none⟩) rfl (n+1) cap n 3 (Nat.lt_succ_self _) (z7 [] (Zp g (0+(n:Int).toNat*3)) λw hO=>⟨?_,hO.below⟩)
 rw [Nat.zero_add,Int.toNat_natCast]
theorem qLastB_any (g n cap:Nat)(W:World)(hn:n+1<=1000000):YC 187 #[.slice (some ⟨g,0,none⟩) (n+1) cap] W (YR (.pointer (some ⟨g,n*3,none⟩)) W):=by
 refine zE Tryz.func187 (dF 6 [] (YI (IntKind.i64.wrap (((n+1:Nat):Int) -1))) (YI (n:Int)) (by rw [show (((n+1:Nat):Int) -1)=(n:Int) by omega,IntWalk.i64_in _ Om]) ?_)
 refine zJ 7 [] (A:=some ⟨g,0,none⟩) rfl (n+1) cap n 3 (Nat.lt_succ_self _) (z7 [] (Zp g (0+(n:Int).toNat*3)) λw hO=>⟨?_,hO.below⟩)
 rw [Nat.zero_add,Int.toNat_natCast]
end
section
set_option linter.unnecessarySimpa false
theorem Sl.putLast {α:Type}{gC:α->List Value}{T sz g cap:Nat}(hg:∀ x,(gC x).length=sz){cur:Array Value}{ini:List α}{n:α}(h:Sl T sz (.slice (some ⟨g,0,none⟩) (ini.length+1) cap) (ini.length+1) ((ini++[n]).flatMap gC) [⟨g,cur,T⟩])(n':α)(fo:Nat)(vs:Array Value)(hfit:fo+vs.size<=sz)(hy:gC n'=(gC n).take fo++vs.toList++(gC n).drop (fo+vs.size)):
  Sl T sz (.slice (some ⟨g,0,none⟩) (ini.length+1) cap) (ini.length+1) ((ini++[n']).flatMap gC) [⟨g,zR cur (ini.length*sz+fo) vs,T⟩]/\ini.length*sz+fo+vs.size<=cur.size:=by
 obtain ⟨h1,h2⟩:=h
 rcases h2 with ⟨e,_⟩|⟨g',cap',cur',e1,e2,e3,e4,e5,e6⟩
 ·cases e
 ·obtain ⟨rfl,rfl⟩:g=g'/\cap=cap':=by cases e1;exact ⟨rfl,rfl⟩
  obtain rfl:cur=cur':=by cases e2;rfl
  have hk:ini.length<(ini++[n]).length:=by simp
  have hs:=store_elem hg (cur:=cur) (l:=ini++[n]) (by rw [List.length_append];exact e6) ini.length fo hk vs n' hfit (by rw [List.getElem_append_right (Nat.le_refl _)];simpa using hy)
  have hset:(ini++[n]).set ini.length n'=ini++[n']:=by simp
  rw [hset,List.length_append,List.length_singleton] at hs
  have hcap:(ini.length+1)*sz<=cap*sz:=Nat.mul_le_mul_right _ e3
  have hm:(ini.length+1)*sz=ini.length*sz+sz:=Nat.succ_mul ..
  refine ⟨⟨?_,.inr ⟨g,cap,_,rfl,rfl,e3,e4,by rw [hs.2];exact e5,hs.1⟩⟩,by omega⟩
  rw [jF hg];simp
theorem Sl.lastAt {α:Type}{gC:α->List Value}{T sz g cap:Nat}(hg:∀ x,(gC x).length=sz){cur:Array Value}{ini:List α}{n:α}(h:Sl T sz (.slice (some ⟨g,0,none⟩) (ini.length+1) cap) (ini.length+1) ((ini++[n]).flatMap gC) [⟨g,cur,T⟩])(j:Nat)(u:Value)(hj:(gC n)[j]?=some u):cur[ini.length*sz+j]?=some u:=by
 obtain ⟨h1,h2⟩:=h
 rcases h2 with ⟨e,_⟩|⟨g',cap',cur',e1,e2,e3,e4,e5,e6⟩
 ·cases e
 ·obtain rfl:cur=cur':=by cases e2;rfl
  have hjs:j<sz:=by have:=(List.getElem?_eq_some_iff.1 hj).1;rwa [hg] at this
  have hm:(ini.length+1)*sz=ini.length*sz+sz:=Nat.succ_mul ..
  have h3:(cur.toList.take ((ini.length+1)*sz))[ini.length*sz+j]?=some u:=by
   rw [e6,List.flatMap_append,List.getElem?_append_right (by rw [jF hg];omega),jF hg,show ini.length*sz+j-ini.length*sz=j by omega,List.flatMap_singleton]
   exact hj
  rw [List.getElem?_take,if_pos Om] at h3
  simpa using h3
structure NdL (A:Option Addr)(c:Nat)(xs:List Nv)(o1 oa og oi:List Blk):Prop where
 top:Sl 74 3 (.slice A xs.length c) xs.length (xs.flatMap nvC) o1
 split:(xs=[]/\oa=[]/\og=[])∨∃ ini n,xs=ini++[n]/\(∀ x∈ini,∃ o,WsO x.A x.cap x.any o∧∀ b∈o,b∈oi)/\Sl 77 4 (.slice n.A n.any.length n.cap) n.any.length (n.any.flatMap wvC) oa∧∀ u∈n.any,∃ o,SlT (.slice u.A u.fs.length u.cap) u.fs o∧∀ b∈o,b∈og
def rdC (x:Rv)(k:Nat):List Value:=rvC x++[YI (k:Int)]
def rdB (x:Rv)(k rb:Nat):Blk:=⟨rb,(rdC x k).toArray,92⟩
structure RdQ (x:Rv)(o1 oa og oi o4 o7 o8:List Blk):Prop where
 needs:NdL x.nA x.nc x.needs o1 oa og oi
 bars:Sl 80 3 (.slice x.bA x.bars.length x.bc) x.bars.length (x.bars.flatMap bvC) o4
 fts:FtO x.fA x.fc x.fts o7 o8
def zY (oa og oi o4 o7 o8:List Blk):List Blk:=oa++(og++(oi++(o4++(o7++o8))))
def RdR (rb k:Nat)(x:Rv)(ob:List Blk):Prop:=∃ o1 oa og oi o4 o7 o8,ob=rdB x k rb::(o1++zY oa og oi o4 o7 o8)/\RdQ x o1 oa og oi o4 o7 o8
structure Few (x:Rv):Prop where
 n:x.needs.length<=5000
 b:x.bars.length<=5000
 f:x.fts.length<=5000
 a:∀ n∈x.needs,n.any.length<=5000
theorem m6 {M:List Nat}{A:Option Addr}{ps:List (List UInt8)}{W:World}(hv:ReadsA M yV W A ps)(h0:0<ps.length):∃ pb po,A=some ⟨pb,po,none⟩∧∀ (w:World),Own M W w []→∀ j,j<ps.length->(loadVar 9 ⟨pb,po+j*1+0,none⟩).run Tryz.prog w= .ok (.string (mkS (ps.getD j []))) w:=by
 obtain ⟨pb,po,e,hlt,hm,hc⟩:=hv h0
 refine ⟨pb,po,e,λw hO j hj=> ?_⟩
 obtain ⟨b,off,e2,hel⟩:=(hv.at hO).elem zX j hj
 obtain ⟨rfl,rfl⟩:pb=b/\po=off:=by rw [e] at e2;cases e2;exact ⟨rfl,rfl⟩
 exact hel w (Below.refl _ _) _ 0 _ (by rw [show ps.getD j []=ps[j] by rw [List.getD_eq_getElem?_getD,List.getElem?_eq_getElem hj];rfl];kernel_rfl)
structure AddB (rb kd:Nat)(x:Rv)(ps:List (List UInt8))(ob:List Blk)(W:World)(e:Ending)(w':World):Prop where
 ex:∃ x' ob',e= .returned (.bool (mH x.rt kd ps).2)/\x'.rt=(mH x.rt kd ps).1/\RdR rb kd x' ob'/\Own (ob.map Blk.b) W w' ob'
section
variable {M:List Nat}{P:Program}{n:Nat}{W:World}{Q:Exit->Act->World->Prop}{c:Xc}
theorem x_hold (L1 L2:List Blk)(hs:∀ w,Own M W w L1->Own M W w L2)(hg:zF M P n W Q {c with L:=L2})(hkt:(c.L,xQ c)=(L1,false):=by kernel_rfl):zF M P n W Q c:=by
 simp only [Prod.mk.injEq] at hkt
 obtain ⟨f1,hqq⟩:=hkt
 obtain ⟨top,kk,L,f⟩:=c
 dsimp only at f1
 subst f1
 cases top with
 |ops a r=>exact ⟨λhq=>m4 hs (hg.go hq)⟩
 |code x=>exact ⟨λhq=>ok_take hs (hg.go hq)⟩
 |fin e=>exact ⟨λhq=>fin_take hs (hg.go hq)⟩
 |_=>cases hqq
end
theorem lastN_at (g m cap N:Nat)(hN:N=m+1)(hm:m<=5000):∀ w,YC 185 #[.slice (some ⟨g,0,none⟩) N cap] w (YR (.pointer (some ⟨g,m*3,none⟩)) w):=λw=>by subst hN;exact qLastN_any g m cap w Om
theorem lastB_at (g m cap N:Nat)(hN:N=m+1)(hm:m<=5000):∀ w,YC 187 #[.slice (some ⟨g,0,none⟩) N cap] w (YR (.pointer (some ⟨g,m*3,none⟩)) w):=λw=>by subst hN;exact qLastB_any g m cap w Om
theorem sl_addr {T sz N c:Nat}{A:Option Addr}{xs:List Value}{o1:List Blk}(h:Sl T sz (.slice A N c) N xs o1)(h0:0<N):∃ g cur,A=some ⟨g,0,none⟩/\o1=[⟨g,cur,T⟩]:=by
 rcases h.2 with ⟨_,q,_⟩|⟨g,cap,cur,e1,e2,_⟩
 ·omega
 ·cases e1;exact ⟨g,cur,rfl,e2⟩
theorem rd_lastN {x:Rv}{ini:List Nv}{n n':Nv}(hx:x.needs=ini++[n]){k rb:Nat}:rdB {x with needs:=ini++[n']} k rb=rdB x k rb:=by
 have:(ini++[n']).length=x.needs.length:=by rw [hx];simp
 unfold rdB rdC rvC
 simp only [this]
theorem rt_lastN {x:Rv}{ini:List Nv}{n n':Nv}{f:Nt->Nt}(hx:x.needs=ini++[n])(hn:n'.nt=f n.nt):Rv.rt {x with needs:=ini++[n']}={x.rt with needs:=yW f x.rt.needs}:=by
 have e:x.rt.needs=ini.map Nv.nt++[n.nt]:=by show x.needs.map Nv.nt=_;rw [hx];simp
 rw [e,pD,←hn]
 unfold Rv.rt
 simp [Rv.ver]
theorem sl_len {α:Type}{gC:α->List Value}{T sz c:Nat}{A:Option Addr}{ini:List α}{y:α}{o:List Blk}(h:Sl T sz (.slice A (ini.length+1) c) (ini.length+1) ((ini++[y]).flatMap gC) o):Sl T sz (.slice A (ini++[y]).length c) (ini++[y]).length ((ini++[y]).flatMap gC) o:=by
 rw [List.length_append,List.length_singleton];exact h
theorem add_when (rb:Nat)(x:Rv)(ps:List (List UInt8))(A:Option Addr)(cap:Nat)(ob:List Blk)(W:World)(hR:RdR rb 4 x ob)(hO:Own (ob.map Blk.b) W W ob)(hv:ReadsA (ob.map Blk.b) yV W A ps)(hp:2<=ps.length)(hF:Few x)(hne:x.needs≠[]):YC 126 #[.pointer (some ⟨rb,0,none⟩),.slice A ps.length cap] W (AddB rb 4 x ps ob W):=by
 obtain ⟨o1,oa,og,oi,o4,o7,o8,rfl,hN,hB,hT⟩:=hR
 obtain ⟨pb,po,hA,hld⟩:=m6 hv Om
 rcases hN.split with ⟨e,_⟩|⟨ini,n,hx,hi,hw,hf⟩
 ·exact absurd e hne
 have hlen:x.needs.length=ini.length+1:=by rw [hx];simp
 obtain ⟨g,cur,hg,rfl⟩:=sl_addr hN.top Om
 have hS:Sl 74 3 (.slice (some ⟨g,0,none⟩) (ini.length+1) x.nc) (ini.length+1) ((ini++[n]).flatMap nvC) [⟨g,cur,74⟩]:=by have:=hN.top;rw [hlen,hx,hg] at this;exact this
 have hFn:=hF.n
 have hput:=Sl.putLast jO hS {n with wh:=ps.getD 1 []} 1 #[.string (mkS (ps.getD 1 []))] (by simp) rfl
 have hlast:=lastN_at g ini.length x.nc x.needs.length hlen Om
 rw [←hg] at hlast
 refine zN hO Tryz.func126 (gY 8 [0] [rdB x 4 rb] (λw hO=>(hO.past 0 (rdB x 4 rb::([⟨g,cur,74⟩]++zY oa og oi o4 o7 o8))).sublist (by simp)) ?_)
 refine wL 50098 [0] 6 hA ps.length cap 1 1 Om (jU 50099 [] 7 9 pb (po+1*1+0) (.string (mkS (ps.getD 1 []))) (λw hO=>hld w hO.no 1 Om) (kY [] 4 (z8 (v:=Zp g (ini.length*3)) [] (λw hO=>hlast w) ?_)))
 refine dF 101 [] (Zp g (ini.length*3+1)) (Zp g (ini.length*3+1)) rfl (x_sto 1 ⟨g,cur,74⟩ (ini.length*3+1) 1 (.string (mkS (ps.getD 1 []))) (rdB x 4 rb::⟨g,cur,74⟩::zY oa og oi o4 o7 o8) hput.2 ?_)
 refine z7 [] Z4 λw hO=>⟨{x with needs:=ini++[{n with wh:=ps.getD 1 []}]},rdB {x with needs:=ini++[{n with wh:=ps.getD 1 []}]} 4 rb::([⟨g,zR cur (ini.length*3+1) #[.string (mkS (ps.getD 1 []))],74⟩]++zY oa og oi o4 o7 o8),rfl, ?_,⟨[⟨g,zR cur (ini.length*3+1) #[.string (mkS (ps.getD 1 []))],74⟩],oa,og,oi,o4,o7,o8,rfl,⟨⟨?_,.inr ⟨ini,{n with wh:=ps.getD 1 []},rfl,hi,hw,hf⟩⟩,hB,hT⟩⟩, ?_⟩
 ·exact rt_lastN hx (f:=λn=>{n with wh:=ps.getD 1 []}) rfl
 ·exact hg▸sl_len hput.1
 ·rw [rd_lastN hx]
  exact hO.past 0 (rdB x 4 rb::⟨g,zR cur (ini.length*3+1) #[.string (mkS (ps.getD 1 []))],74⟩::zY oa og oi o4 o7 o8)
theorem add_opt (rb:Nat)(x:Rv)(ps:List (List UInt8))(A:Option Addr)(cap:Nat)(ob:List Blk)(W:World)(hR:RdR rb 5 x ob)(hO:Own (ob.map Blk.b) W W ob)(hv:ReadsA (ob.map Blk.b) yV W A ps)(hp:2<=ps.length)(hF:Few x)(hne:x.needs≠[]):YC 126 #[.pointer (some ⟨rb,0,none⟩),.slice A ps.length cap] W (AddB rb 5 x ps ob W):=by
 obtain ⟨o1,oa,og,oi,o4,o7,o8,rfl,hN,hB,hT⟩:=hR
 obtain ⟨pb,po,hA,hld⟩:=m6 hv Om
 rcases hN.split with ⟨e,_⟩|⟨ini,n,hx,hi,hw,hf⟩
 ·exact absurd e hne
 have hlen:x.needs.length=ini.length+1:=by rw [hx];simp
 obtain ⟨g,cur,hg,rfl⟩:=sl_addr hN.top Om
 have hS:Sl 74 3 (.slice (some ⟨g,0,none⟩) (ini.length+1) x.nc) (ini.length+1) ((ini++[n]).flatMap nvC) [⟨g,cur,74⟩]:=by have:=hN.top;rw [hlen,hx,hg] at this;exact this
 have hFn:=hF.n
 have hput:=Sl.putLast jO hS {n with opt:=ps.getD 1 []} 2 #[.string (mkS (ps.getD 1 []))] (by simp) rfl
 have hlast:=lastN_at g ini.length x.nc x.needs.length hlen Om
 rw [←hg] at hlast
 refine zN hO Tryz.func126 (gY 8 [0] [rdB x 5 rb] (λw hO=>(hO.past 0 (rdB x 5 rb::([⟨g,cur,74⟩]++zY oa og oi o4 o7 o8))).sublist (by simp)) ?_)
 refine wL 50110 [0] 6 hA ps.length cap 1 1 Om (jU 50111 [] 7 9 pb (po+1*1+0) (.string (mkS (ps.getD 1 []))) (λw hO=>hld w hO.no 1 Om) (kY [] 4 (z8 (v:=Zp g (ini.length*3)) [] (λw hO=>hlast w) ?_)))
 refine dF 113 [] (Zp g (ini.length*3+2)) (Zp g (ini.length*3+2)) rfl (x_sto 1 ⟨g,cur,74⟩ (ini.length*3+2) 1 (.string (mkS (ps.getD 1 []))) (rdB x 5 rb::⟨g,cur,74⟩::zY oa og oi o4 o7 o8) hput.2 ?_)
 refine z7 [] Z4 λw hO=>⟨{x with needs:=ini++[{n with opt:=ps.getD 1 []}]},rdB {x with needs:=ini++[{n with opt:=ps.getD 1 []}]} 5 rb::([⟨g,zR cur (ini.length*3+2) #[.string (mkS (ps.getD 1 []))],74⟩]++zY oa og oi o4 o7 o8),rfl, ?_,⟨[⟨g,zR cur (ini.length*3+2) #[.string (mkS (ps.getD 1 []))],74⟩],oa,og,oi,o4,o7,o8,rfl,⟨⟨?_,.inr ⟨ini,{n with opt:=ps.getD 1 []},rfl,hi,hw,hf⟩⟩,hB,hT⟩⟩, ?_⟩
 ·exact rt_lastN hx (f:=λn=>{n with opt:=ps.getD 1 []}) rfl
 ·exact hg▸sl_len hput.1
 ·rw [rd_lastN hx]
  exact hO.past 0 (rdB x 5 rb::⟨g,zR cur (ini.length*3+2) #[.string (mkS (ps.getD 1 []))],74⟩::zY oa og oi o4 o7 o8)
end
section
set_option linter.unnecessarySimpa false
theorem rd_lastB {x:Rv}{ini:List Bv}{n n':Bv}(hx:x.bars=ini++[n]){k rb:Nat}:rdB {x with bars:=ini++[n']} k rb=rdB x k rb:=by
 have:(ini++[n']).length=x.bars.length:=by rw [hx];simp
 unfold rdB rdC rvC
 simp only [this]
theorem add_bwhen (rb:Nat)(x:Rv)(ps:List (List UInt8))(A:Option Addr)(cap:Nat)(ob:List Blk)(W:World)(hR:RdR rb 7 x ob)(hO:Own (ob.map Blk.b) W W ob)(hv:ReadsA (ob.map Blk.b) yV W A ps)(hp:2<=ps.length)(hF:Few x)(hne:x.bars≠[]):YC 126 #[.pointer (some ⟨rb,0,none⟩),.slice A ps.length cap] W (AddB rb 7 x ps ob W):=by
 obtain ⟨o1,oa,og,oi,o4,o7,o8,rfl,hN,hB,hT⟩:=hR
 obtain ⟨pb,po,hA,hld⟩:=m6 hv Om
 obtain ⟨ini,n,hx⟩:∃ ini n,x.bars=ini++[n]:=⟨x.bars.dropLast,x.bars.getLast hne,(List.dropLast_concat_getLast hne).symm⟩
 have hlen:x.bars.length=ini.length+1:=by rw [hx];simp
 obtain ⟨g,cur,hg,rfl⟩:=sl_addr hB Om
 have hS:Sl 80 3 (.slice (some ⟨g,0,none⟩) (ini.length+1) x.bc) (ini.length+1) ((ini++[n]).flatMap bvC) [⟨g,cur,80⟩]:=by rw [hlen,hx,hg] at hB;exact hB
 have hFb:=hF.b
 have hput:=Sl.putLast pR hS {n with wh:=ps.getD 1 []} 2 #[.string (mkS (ps.getD 1 []))] (by simp) rfl
 have hlast:=lastB_at g ini.length x.bc x.bars.length hlen Om
 rw [←hg] at hlast
 refine zN hO Tryz.func126 (gY 8 [0] [rdB x 7 rb] (λw hO=>(hO.past 0 (rdB x 7 rb::(o1++zY oa og oi [⟨g,cur,80⟩] o7 o8))).sublist (by simp)) ?_)
 refine wL 50140 [0] 6 hA ps.length cap 1 1 Om (jU 50141 [] 7 9 pb (po+1*1+0) (.string (mkS (ps.getD 1 []))) (λw hO=>hld w hO.no 1 Om) (kY [] 4 (z8 (v:=Zp g (ini.length*3)) [] (λw hO=>hlast w) ?_)))
 refine dF 143 [] (Zp g (ini.length*3+2)) (Zp g (ini.length*3+2)) rfl (x_hold (rdB x 7 rb::(o1++zY oa og oi [⟨g,cur,80⟩] o7 o8)) (rdB x 7 rb::⟨g,cur,80⟩::(o1++zY oa og oi [] o7 o8)) (λw hO=>vS [] hO λp=>by
  simp only [zY,List.countP_append,List.countP_cons,List.countP_nil,List.cons_append,List.nil_append];omega) ?_)
 refine x_sto 1 ⟨g,cur,80⟩ (ini.length*3+2) 1 (.string (mkS (ps.getD 1 []))) (rdB x 7 rb::⟨g,cur,80⟩::(o1++zY oa og oi [] o7 o8)) hput.2 (z7 [] Z4 λw hO=>⟨{x with bars:=ini++[{n with wh:=ps.getD 1 []}]},rdB {x with bars:=ini++[{n with wh:=ps.getD 1 []}]} 7 rb::(o1++zY oa og oi [⟨g,zR cur (ini.length*3+2) #[.string (mkS (ps.getD 1 []))],80⟩] o7 o8),rfl, ?_,⟨o1,oa,og,oi,[⟨g,zR cur (ini.length*3+2) #[.string (mkS (ps.getD 1 []))],80⟩],o7,o8,rfl,⟨hN, ?_,hT⟩⟩, ?_⟩)
 ·have e:x.rt.bars=ini.map Bv.bt++[n.bt]:=by show x.bars.map Bv.bt=_;rw [hx];simp
  show Rv.rt _={x.rt with bars:=yW (λb=>{b with wh:=ps.getD 1 []}) x.rt.bars}
  rw [e,pD]
  unfold Rv.rt
  simp [Rv.ver,Bv.bt]
 ·exact hg▸sl_len hput.1
 ·rw [rd_lastB hx]
  exact vS [] (hO.past 0 (rdB x 7 rb::⟨g,zR cur (ini.length*3+2) #[.string (mkS (ps.getD 1 []))],80⟩::(o1++zY oa og oi [] o7 o8))) λp=>by
   simp only [zY,List.countP_append,List.countP_cons,List.countP_nil,List.cons_append,List.nil_append];omega
end
section
set_option linter.unnecessarySimpa false
def hd (x:Rv)(p2:List UInt8)(ps:List (List UInt8)):Rv:={x with name:=ps.getD 1 [],maj:=(dR p2).maj,min:=(dR p2).min,pat:=(dR p2).pat,pre:=(dR p2).pre,bld:=(dR p2).build}
theorem add_head (rb:Nat)(x:Rv)(ps:List (List UInt8))(A:Option Addr)(cap:Nat)(ob:List Blk)(W:World)(hR:RdR rb 1 x ob)(hO:Own (ob.map Blk.b) W W ob)(hv:ReadsA (ob.map Blk.b) yV W A ps)(hp:3<=ps.length)(hs:∀ s∈ps,s.length<=1000000)(hK:∀ w,Own (ob.map Blk.b) W w []->HasTab w):YC 126 #[.pointer (some ⟨rb,0,none⟩),.slice A ps.length cap] W (AddB rb 1 x ps ob W):=by
 obtain ⟨o1,oa,og,oi,o4,o7,o8,rfl,hN,hB,hT⟩:=hR
 obtain ⟨pb,po,hA,hld⟩:=m6 hv Om
 obtain ⟨p2,hp2⟩:∃ p,ps.getD 2 []=p:=⟨_,rfl⟩
 have hs2:p2.length<=1000000:=by
  rw [←hp2,List.getD_eq_getElem?_getD,List.getElem?_eq_getElem (by omega)];exact hs _ (List.getElem_mem _)
 have hld2:∀ (w:World),Own ((rdB x 1 rb::(o1++zY oa og oi o4 o7 o8)).map Blk.b) W w []->(loadVar 9 ⟨pb,po+2*1+0,none⟩).run Tryz.prog w= .ok (.string (mkS p2)) w:=λw hO=>by have:=hld w hO 2 Om;rw [hp2] at this;exact this
 have hc:∀ w,Own ((rdB x 1 rb::(o1++zY oa og oi o4 o7 o8)).map Blk.b) W w []->YC 184 #[.string (mkS p2)] w (YR (.tuple #[k8 (dR p2),YI (parE p2)]) w):=λw hO=>parse_any p2 w Om (hK w hO)
 refine zN hO Tryz.func126 (zJ 20 [0] hA ps.length cap 2 1 Om (zH 21 [] 9 pb (po+2*1+0) (.string (mkS p2)) (λw hO=>hld2 w hO.no) ?_))
 refine z8 (v:= .tuple #[k8 (dR p2),YI (parE p2)]) [] (λw hO=>hc w hO.no) (zL [] λb6=>(gY 9 [0] [⟨b6,(k8 (dR p2)).cells,23⟩] (λw hO=>Own.nth 0 ⟨b6,(k8 (dR p2)).cells,23⟩ hO) (wL 50028 [] 3 hA ps.length cap 1 1 Om (jU 50029 [] 4 9 pb (po+1*1+0) (.string (mkS (ps.getD 1 []))) (λw hO=>hld w hO.no 1 Om) (kY [0] 8 ?_)))))
 refine xh_sto 1 (rdB x 1 rb) 0 1 (.string (mkS (ps.getD 1 []))) (⟨b6,(k8 (dR p2)).cells,23⟩::rdB x 1 rb::(o1++zY oa og oi o4 o7 o8)) [⟨b6,(k8 (dR p2)).cells,23⟩] (by show 0+1<=10;omega) (λw hO=>Own.nth 0 ⟨b6,(k8 (dR p2)).cells,23⟩ hO) (z7 [1] (.bool (decide (parE p2=0))) λw hO=>⟨hd x p2 ps,rdB (hd x p2 ps) 1 rb::(o1++zY oa og oi o4 o7 o8),by rw [←hp2];rfl, ?_,⟨o1,oa,og,oi,o4,o7,o8,rfl,⟨hN,hB,hT⟩⟩,hO.past 1 _⟩)
 rw [←hp2];rfl
end
section
set_option linter.unnecessarySimpa false
theorem r7Plain_any (s:List UInt8)(W:World)(hs:s.length<=1000000):YC 173 #[.string (mkS s)] W (YR (.bool (kA s)) W):=by
 have hp:∀ w,Below W.heap.size W w->YC 228 #[.string (mkS s)] w λe w'=>∃ v ob,e= .returned v/\(∃ A cap xs o1 o2,v= .tuple #[.agg #[.slice A xs.length cap],YI (bK s)]/\ob=o1++o2/\yU xs=(kM s).getD []/\RgA (.slice A xs.length cap) xs o1 o2)/\Own [] w w' ob:=λw hb=>by
  refine (rsParse_tup s w hs).mono λe w' ⟨v',ob',k1,⟨rv,k2,xs,u,o1,o2,k3,k4,k5,k6⟩,k7⟩=> ?_
  obtain ⟨A,cap,rfl⟩:∃ A cap,u= .slice A xs.length cap:=by
   rcases k6.top.2 with ⟨h1,h2,_⟩|⟨g,cap,_,h1,_⟩
   ·exact ⟨none,0,by rw [h1,h2]⟩
   ·exact ⟨_,cap,h1⟩
  exact ⟨v',ob',k1,⟨A,cap,xs,o1,o2,by rw [k2,k3],k4,k5,k6⟩,k7⟩
 refine zE Tryz.func173 (kP (R:=λv ob=>∃ A cap xs o1 o2,v= .tuple #[.agg #[.slice A xs.length cap],YI (bK s)]/\ob=o1++o2/\yU xs=(kM s).getD []/\RgA (.slice A xs.length cap) xs o1 o2) [] (λw hO=>hp w hO.below) ?_)
 rintro v ob ⟨A,cap,xs,o1,o2,rfl,rfl,hx,hR⟩
 refine zL [] λb=>zB 11 [0] (bK s=0) (λh11=> ?_) (λh11=> ?_)
 rotate_left
 ·exact z7 [] Z5 λw hO=>⟨by unfold kA;rw [decide_eq_false h11];rfl,hO.below⟩
 have hf:=fine_get h11
 rw [←hx] at hf
 have hq:∀ w,Own [] W w (o1++o2)->YC 229 #[.agg #[.slice A xs.length cap]] w (YR (.string (mkS (jN (yU xs)))) w):=λw hO=>rsPrint_any A cap xs w (hR.inn rfl hO (λx hx=>List.mem_append_left _ hx) (λx hx=>List.mem_append_right _ hx) hf)
 refine z8 (v:= .string (mkS (jN (yU xs)))) [0] (λw hO=>hq w (hO.past 1 _)) (x2 16 [] (jN (yU xs)) s (λh=> ?_) (λh=> ?_))
 ·exact z7 [] Z4 λw hO=>⟨by unfold kA;rw [decide_eq_true h11,←hx,decide_eq_true h];rfl,hO.below⟩
 ·exact z7 [] Z5 λw hO=>⟨by unfold kA;rw [decide_eq_true h11,←hx,decide_eq_false h];rfl,hO.below⟩
theorem printM_is (l:List Nd):qF l=if dU l then vD l else []:=rfl
theorem r10Print_any (A:Option Addr)(cap:Nat)(l:List Nd)(W:World)(hv:Reads nC W W.heap.size A l)(hn:l.length<=1000)(ht:∀ n∈l,n.text.length<=1000000):YC 227 #[.agg #[.slice A l.length cap]] W (YR (.string (mkS (qF l))) W):=by
 have hm:∀ w,Below W.heap.size W w->YC 270 #[.agg #[.slice A l.length cap]] w (YR (.bool (dU l)) w):=λw hb=>r10May_any A cap l w (hv.on hb hb.size) hn ht
 refine zE Tryz.func227 (yN [] λb1=>z8 (v:= .bool (dU l)) [0] (λw hO=>hm w hO.below) (zU 4 (dU l) (λh=> ?_) (λh=> ?_)))
 rotate_left
 ·exact z7 [] (.string ⟨#[]⟩) λw hO=>⟨by rw [printM_is,h];rfl,hO.below⟩
 have hw:∀ w,Below W.heap.size W w->YC 271 #[.slice A l.length cap] w (YR (.string (mkS (vD l))) w):=λw hb=>r10whole_any A cap l w (hv.on hb hb.size) hn (by
  rw [tO] at h;simp only [Bool.and_eq_true] at h;exact h.2.1)
 exact z8 (v:= .string (mkS (vD l))) [0] (λw hO=>hw w hO.below) (z7 [] (.string (mkS (vD l))) λw hO=>⟨by rw [printM_is,h];rfl,hO.below⟩)
theorem nodR_cases (s:List UInt8):gI s=[]∨∃ t:Tr,t.ok=true/\t.fit=true/\gI s=t.enc 0:=by
 unfold gI
 split
 ·exact .inl rfl
 ·split
  ·exact .inl rfl
  ·cases h:gG s with
   |none=>exact .inl rfl
   |some t=>have:=readM_ok h;exact .inr ⟨t,this.1,this.2,rfl⟩
theorem nodR_fine (s:List UInt8):(gI s).length<=1000∧∀ n∈gI s,n.text.length<=1000000:=by
 rcases nodR_cases s with e|⟨t,ho,hf,e⟩
 ·rw [e];simp
 ·rw [e,Tr.enc_len]
  have h15:t.sz<=15:=by unfold Tr.fit at hf;simp at hf;exact hf.1
  exact ⟨by omega,λn hn=>by have:=bB t 0 ho n hn;omega⟩
theorem r10Plain_any (s:List UInt8)(W:World)(hs:s.length<=1000000):YC 171 #[.string (mkS s)] W (YR (.bool (x4 s)) W):=by
 have hp:∀ w,Below W.heap.size W w->YC 226 #[.string (mkS s)] w λe w'=>∃ v ob,e= .returned v/\(∃ A cap,v= .tuple #[.agg #[.slice A (gI s).length cap],YI (nW s)]/\SlN (.slice A (gI s).length cap) (gI s) ob)/\Own [] w w' ob:=λw hb=>by
  refine (r10Parse_any s w hs).mono λe w' ⟨v',ob',k1,k2,k3⟩=> ?_
  obtain ⟨A,cap,rfl⟩:∃ A cap,v'= .slice A (gI s).length cap:=by
   rcases k2.2 with ⟨h1,h2,_⟩|⟨g,cap,_,h1,_⟩
   ·exact ⟨none,0,by rw [h1,h2]⟩
   ·exact ⟨_,cap,h1⟩
  exact ⟨_,ob',k1,⟨A,cap,rfl,k2⟩,k3⟩
 have hfi:=nodR_fine s
 refine zE Tryz.func171 (kP (R:=λv ob=>∃ A cap,v= .tuple #[.agg #[.slice A (gI s).length cap],YI (nW s)]/\SlN (.slice A (gI s).length cap) (gI s) ob) [] (λw hO=>hp w hO.below) ?_)
 rintro v ob ⟨A,cap,rfl,hR⟩
 refine zL [] λb=>zB 11 [0] (nW s=0) (λh11=> ?_) (λh11=> ?_)
 rotate_left
 ·exact z7 [] Z5 λw hO=>⟨by unfold x4;rw [decide_eq_false h11];rfl,hO.below⟩
 have hq:∀ w,Own [] W w ob->YC 227 #[.agg #[.slice A (gI s).length cap]] w (YR (.string (mkS (qF (gI s)))) w):=λw hO=>r10Print_any A cap (gI s) w (Sl.reads hR rfl hO λx hx=>hx) hfi.1 hfi.2
 refine z8 (v:= .string (mkS (qF (gI s)))) [0] (λw hO=>hq w (hO.past 1 _)) (x2 16 [] (qF (gI s)) s (λh=> ?_) (λh=> ?_))
 ·exact z7 [] Z4 λw hO=>⟨by unfold x4;rw [decide_eq_true h11,decide_eq_true h];rfl,hO.below⟩
 ·exact z7 [] Z5 λw hO=>⟨by unfold x4;rw [decide_eq_true h11,decide_eq_false h];rfl,hO.below⟩
theorem r12feats_any (A:Option Addr)(cap:Nat)(l:List (List UInt8))(al:Bool)(W:World)(hv:Reads yV W W.heap.size A l)(hn:l.length<=5000)(ht:∀ s∈l,s.length<=1000000):YC 225 #[.slice A l.length cap,.bool al] W (YR (.bool (dG l al)) W):=by
 refine zE Tryz.func225 (zO (α:=Nat) (λi=>[(0,.slice A l.length cap),(1,.bool al),(5,YI (i:Int))]) (λ_=>[]) (λi m=>(i<=l.length∧∀ s∈l.take i,wdL s=true)/\m=l.length-i) 0 l.length [] ⟨⟨Nat.zero_le _,λy h=>by simp at h⟩,rfl⟩ ?_)
 rintro i mm g kk ⟨⟨hi,hno⟩,hmm⟩ nx hkk
 subst hkk
 refine zB 9 [] ((i:Int)<(l.length:Int)) (λh9=> ?_) (λh9=> ?_)
 ·have hj:i<l.length:=by omega
  obtain ⟨eb,eo,hA,hel⟩:=hv.elem zX i hj
  have hgo:=y9 (p:=λs:List UInt8=>wdL s=true) hj hno
  have hsm:l[i]∈l:=List.getElem_mem hj
  have hel0:∀ w,Below W.heap.size W w->(loadVar 9 ⟨eb,eo+i*1+0,none⟩).run Tryz.prog w= .ok (.string (mkS l[i])) w:=λw hw=>hel w hw _ 0 _ Kr
  generalize l[i]=s at hel0 hgo hsm
  have hW:∀ w,Below W.heap.size W w->YC 172 #[.string (mkS s)] w (YR (.bool (wdL s)) w):=λw hb=>j8 s w (ht s hsm)
  refine zJ 14 [] hA l.length cap i 1 hj (zH 15 [] 9 eb (eo+i*1+0) (.string (mkS s)) (λw hO=>hel0 w hO.below) (z8 (v:= .bool (wdL s)) [] (λw hO=>hW w hO.below) (zU 16 (wdL s) (λh=> ?_) (λh=> ?_))))
  ·exact x_i 11 [] ((i+1:Nat):Int) (nx (i+1) (l.length-(i+1)) [] Om ⟨⟨hj,hgo h⟩,rfl⟩ Kr Kr)
  ·refine z7 [] Z5 λw hO=>⟨?_,hO.below⟩
   unfold dG
   rw [show l.all wdL=false from by rw [List.all_eq_false];exact ⟨s,hsm,by simp [h]⟩];rfl
 have hall:=yQ (p:=λs:List UInt8=>wdL s=true) (show l.length<=i by omega) hno
 have hal:l.all wdL=true:=List.all_eq_true.2 hall
 have hR:∀ w,Below W.heap.size W w->YC 230 #[.slice A l.length cap] w (YR (.bool (qK l)) w):=λw hb=>r1Rising_any A cap l w (hv.on hb hb.size) Om
 refine zB 20 [] ((l.length:Int)<=6) (λh20=> ?_) (λh20=> ?_)
 rotate_left
 ·exact z7 [] Z5 λw hO=>⟨by unfold dG;rw [hal,decide_eq_false (show ¬ l.length<=6 by omega)];rfl,hO.below⟩
 have h6:decide (l.length<=6)=true:=decide_eq_true Om
 refine z8 (v:= .bool (qK l)) [] (λw hO=>hR w hO.below) (zU 23 (qK l) (λh=> ?_) (λh=> ?_))
 rotate_left
 ·exact z7 [] Z5 λw hO=>⟨by unfold dG;rw [hal,h6,h];rfl,hO.below⟩
 cases al with
 |true=>exact z7 [] (.bool true) λw hO=>⟨by unfold dG;rw [hal,h6,h];rfl,hO.below⟩
 |false=>
  refine zB 30 [] ((l.length:Int)=0) (λh30=> ?_) (λh30=> ?_)
  ·exact z7 [] Z4 λw hO=>⟨by unfold dG;rw [hal,h6,h,decide_eq_true (List.eq_nil_of_length_eq_zero Om)];rfl,hO.below⟩
  ·exact z7 [] Z5 λw hO=>⟨by unfold dG;rw [hal,h6,h,decide_eq_false (λe=>h30 (by rw [e];rfl))];rfl,hO.below⟩
theorem r12wish_any (r:Rv)(x:Wv)(al:Bool)(W:World)(hv:Reads yV W W.heap.size x.A x.fs)(hn:x.fs.length<=5000)(ht:x.name.length<=1000000/\x.rng.length<=1000000∧∀ s∈x.fs,s.length<=1000000):YC 170 #[rvV r,wvV x,.bool al] W (YR (YI (gM r.name x.wt al)) W):=by
 have h1:∀ w,Below W.heap.size W w->YC 59 #[.string (mkS x.name)] w (YR (.bool (nmL x.name)) w):=λw hb=>pH x.name w ht.1
 have h2:∀ w,Below W.heap.size W w->YC 173 #[.string (mkS x.rng)] w (YR (.bool (kA x.rng)) w):=λw hb=>r7Plain_any x.rng w ht.2.1
 have h3:∀ w,Below W.heap.size W w->YC 225 #[.slice x.A x.fs.length x.cap,.bool al] w (YR (.bool (dG x.fs al)) w):=λw hb=>r12feats_any x.A x.cap x.fs al w (hv.on hb hb.size) hn ht.2.2
 have hE:gM r.name x.wt al=if nmL x.name=false then 4 else if x.name=r.name then 8 else if kA x.rng=false then 6 else if dG x.fs al=false then 11 else 0:=rfl
 refine zE Tryz.func170 (yN [] λb3=>yN [] λb4=>z8 (v:= .bool (nmL x.name)) [0] (λw hO=>h1 w hO.below) (zU 10 (nmL x.name) (λe1=> ?_) (λe1=> ?_)))
 rotate_left
 ·exact z7 [] (YI 4) λw hO=>⟨by rw [hE,if_pos e1],hO.below⟩
 refine x2 17 [0,1] x.name r.name (λe2=> ?_) (λe2=> ?_)
 ·exact z7 [] (YI 8) λw hO=>⟨by rw [hE,if_neg (by simp [e1]),if_pos e2],hO.below⟩
 refine z8 (v:= .bool (kA x.rng)) [0] (λw hO=>h2 w hO.below) (zU 21 (kA x.rng) (λe3=> ?_) (λe3=> ?_))
 rotate_left
 ·exact z7 [] (YI 6) λw hO=>⟨by rw [hE,if_neg (by simp [e1]),if_neg e2,if_pos e3],hO.below⟩
 refine z8 (v:= .bool (dG x.fs al)) [0] (λw hO=>h3 w hO.below) (zU 27 (dG x.fs al) (λe4=> ?_) (λe4=> ?_))
 ·exact z7 [] (YI 0) λw hO=>⟨by rw [hE,if_neg (by simp [e1]),if_neg e2,if_neg (by simp [e3]),if_neg (by simp [e4])],hO.below⟩
 ·exact z7 [] (YI 11) λw hO=>⟨by rw [hE,if_neg (by simp [e1]),if_neg e2,if_neg (by simp [e3]),if_pos e4],hO.below⟩
theorem r12bar_any (r:Rv)(x:Bv)(W:World)(ht:x.name.length<=1000000/\x.rng.length<=1000000/\x.wh.length<=1000000):YC 113 #[rvV r,bvV x] W (YR (YI (wR r.name x.bt)) W):=by
 have h1:∀ w,Below W.heap.size W w->YC 59 #[.string (mkS x.name)] w (YR (.bool (nmL x.name)) w):=λw hb=>pH x.name w ht.1
 have h2:∀ w,Below W.heap.size W w->YC 173 #[.string (mkS x.rng)] w (YR (.bool (kA x.rng)) w):=λw hb=>r7Plain_any x.rng w ht.2.1
 have h3:∀ w,Below W.heap.size W w->YC 171 #[.string (mkS x.wh)] w (YR (.bool (x4 x.wh)) w):=λw hb=>r10Plain_any x.wh w ht.2.2
 have hE:wR r.name x.bt=if nmL x.name=false then 4 else if x.name=r.name then 8 else if kA x.rng=false then 6 else if x4 x.wh=false then 7 else 0:=rfl
 refine zE Tryz.func113 (yN [] λb3=>yN [] λb4=>z8 (v:= .bool (nmL x.name)) [0] (λw hO=>h1 w hO.below) (zU 8 (nmL x.name) (λe1=> ?_) (λe1=> ?_)))
 rotate_left
 ·exact z7 [] (YI 4) λw hO=>⟨by rw [hE,if_pos e1],hO.below⟩
 refine x2 15 [0,1] x.name r.name (λe2=> ?_) (λe2=> ?_)
 ·exact z7 [] (YI 8) λw hO=>⟨by rw [hE,if_neg (by simp [e1]),if_pos e2],hO.below⟩
 refine z8 (v:= .bool (kA x.rng)) [0] (λw hO=>h2 w hO.below) (zU 19 (kA x.rng) (λe3=> ?_) (λe3=> ?_))
 rotate_left
 ·exact z7 [] (YI 6) λw hO=>⟨by rw [hE,if_neg (by simp [e1]),if_neg e2,if_pos e3],hO.below⟩
 refine z8 (v:= .bool (x4 x.wh)) [0] (λw hO=>h3 w hO.below) (zU 24 (x4 x.wh) (λe4=> ?_) (λe4=> ?_))
 ·exact z7 [] (YI 0) λw hO=>⟨by rw [hE,if_neg (by simp [e1]),if_neg e2,if_neg (by simp [e3]),if_neg (by simp [e4])],hO.below⟩
 ·exact z7 [] (YI 7) λw hO=>⟨by rw [hE,if_neg (by simp [e1]),if_neg e2,if_neg (by simp [e3]),if_pos e4],hO.below⟩
end
section
set_option linter.unnecessarySimpa false
def SuW (x:Wv):Prop:=x.name.length<=1000000/\x.rng.length<=1000000∧∀ s∈x.fs,s.length<=1000000
theorem needE_is (own:List UInt8)(x:Nv):gN own x.nt=if x.any=[] then 9 else if 3<x.any.length then 3 else if yR (λu:Wv=>gM own u.wt (decide (x.any.length=1))) x.any≠0 then yR (λu:Wv=>gM own u.wt (decide (x.any.length=1))) x.any
 else if x4 x.wh=false then 7 else if x.opt≠[]/\wdL x.opt=false then 14 else 0:=by
 unfold gN
 simp only [Nv.nt,firstE_map,List.length_map,List.map_eq_nil_iff]
 rfl
theorem r12need_any (r:Rv)(x:Nv)(W:World)(hv:Reads wvC W W.heap.size x.A x.any)(hf:∀ u∈x.any,Reads yV W W.heap.size u.A u.fs)(hn:x.any.length<=5000)(hnf:∀ u∈x.any,u.fs.length<=5000)(hs:x.wh.length<=1000000/\x.opt.length<=1000000)(hsu:∀ u∈x.any,SuW u):YC 112 #[rvV r,nvV x] W (YR (YI (gN r.name x.nt)) W):=by
 have hE:=needE_is r.name x
 refine zE Tryz.func112 (yN [] λb2=>yN [] λb3=>zB 10 [0] ((x.any.length:Int)=0) (λh10=> ?_) (λh10=> ?_))
 ·exact z7 [] (YI 9) λw hO=>⟨by rw [hE,if_pos (List.eq_nil_of_length_eq_zero Om)],hO.below⟩
 have h10':¬ x.any=[]:=λe=>h10 (by rw [e];rfl)
 rw [if_neg h10'] at hE
 refine zB 14 [0] ((x.any.length:Int)>3) (λh14=> ?_) (λh14=> ?_)
 ·exact z7 [] (YI 3) λw hO=>⟨by rw [hE,if_pos Om],hO.below⟩
 rw [if_neg (show ¬ 3<x.any.length by omega)] at hE
 refine zO (α:=Nat) (λi=>[(2,Zp b2 0),(3,Zp b3 0),(5,YI (i:Int))]) (λ_=>[⟨b3, #[.slice x.A x.any.length x.cap,.string (mkS x.wh),.string (mkS x.opt)],74⟩,⟨b2,(rvC r).toArray,28⟩]) (λi m=>(i<=x.any.length∧∀ u∈x.any.take i,gM r.name u.wt (decide (x.any.length=1))=0)/\m=x.any.length-i) 0 x.any.length [] ⟨⟨Nat.zero_le _,λy h=>by simp at h⟩,rfl⟩ ?_
 rintro i mm g kk ⟨⟨hi,hno⟩,hmm⟩ nx hkk
 subst hkk
 refine zB 19 [0] ((i:Int)<(x.any.length:Int)) (λh19=> ?_) (λh19=> ?_)
 ·have hj:i<x.any.length:=by omega
  obtain ⟨eb,eo,hA,hel⟩:=hv.elem p9 i hj
  have hgo:=y9 (p:=λu:Wv=>gM r.name u.wt (decide (x.any.length=1))=0) hj hno
  have hat:=nT (f:=λu:Wv=>gM r.name u.wt (decide (x.any.length=1))) hj hno
  have hsm:x.any[i]∈x.any:=List.getElem_mem hj
  have hel0:∀ w,Below W.heap.size W w->(loadVar 77 ⟨eb,eo+i*4+0,none⟩).run Tryz.prog w= .ok (wvV x.any[i]) w:=λw hw=>hel w hw _ 0 _ Kr
  have hru:=hf _ hsm;have hnu:=hnf _ hsm;have hlu:=hsu _ hsm
  generalize x.any[i]=u at hel0 hgo hat hru hnu hlu
  have hc:∀ w,Below W.heap.size W w->YC 170 #[rvV r,wvV u,.bool (decide ((x.any.length:Int)=1))] w (YR (YI (gM r.name u.wt (decide (x.any.length=1)))) w):=λw hb=>by
   rw [show decide (x.any.length=1)=decide ((x.any.length:Int)=1) from decide_eq_decide.2 Om]
   exact r12wish_any r u _ w (hru.on hb hb.size) hnu hlu
  refine zJ 26 [1,0] hA x.any.length x.cap i 4 hj (zH 27 [] 77 eb (eo+i*4+0) (wvV u) (λw hO=>hel0 w hO.below) (z8 (v:=YI (gM r.name u.wt (decide (x.any.length=1)))) [0] (λw hO=>hc w hO.below) (jW 34 [] (gM r.name u.wt (decide (x.any.length=1))=0) (λh=> ?_) (λh=> ?_))))
  ·exact x_i 21 [] ((i+1:Nat):Int) (nx (i+1) (x.any.length-(i+1)) [] Om ⟨⟨hj,hgo h⟩,rfl⟩ Kr Kr)
  ·refine z7 [] (YI (gM r.name u.wt (decide (x.any.length=1)))) λw hO=>⟨?_,hO.below⟩
   rw [hE,hat h,if_pos h]
 have hall:=dZ (yQ (p:=λu:Wv=>gM r.name u.wt (decide (x.any.length=1))=0) (show x.any.length<=i by omega) hno)
 rw [hall,if_neg (by simp)] at hE
 have h2:∀ w,Below W.heap.size W w->YC 171 #[.string (mkS x.wh)] w (YR (.bool (x4 x.wh)) w):=λw hb=>r10Plain_any x.wh w hs.1
 have h3:∀ w,Below W.heap.size W w->YC 172 #[.string (mkS x.opt)] w (YR (.bool (wdL x.opt)) w):=λw hb=>j8 x.opt w hs.2
 refine z8 (v:= .bool (x4 x.wh)) [0] (λw hO=>h2 w hO.below) (zU 38 (x4 x.wh) (λe3=> ?_) (λe3=> ?_))
 rotate_left
 ·exact z7 [] (YI 7) λw hO=>⟨by rw [hE,if_pos e3],hO.below⟩
 rw [if_neg (by simp [e3])] at hE
 refine gX 42 [0] x.opt [] (λe4=> ?_) (λe4=> ?_)
 ·exact z7 [] (YI 0) λw hO=>⟨by rw [hE,if_neg (λh=>h.1 e4)],hO.below⟩
 refine z8 (v:= .bool (wdL x.opt)) [0] (λw hO=>h3 w hO.below) (zU 46 (wdL x.opt) (λe5=> ?_) (λe5=> ?_))
 ·exact z7 [] (YI 0) λw hO=>⟨by rw [hE,if_neg (λh=>by rw [e5] at h;simp at h)],hO.below⟩
 ·exact z7 [] (YI 14) λw hO=>⟨by rw [hE,if_pos ⟨e4,e5⟩],hO.below⟩
theorem optR_is (r:Rv)(s:List UInt8):optR r.rt.needs s=r.needs.any λn=>decide (n.opt=s):=by
 unfold optR;simp only [Rv.rt,List.any_map];rfl
theorem r12option_any (r:Rv)(s:List UInt8)(W:World)(hv:Reads nvC W W.heap.size r.nA r.needs)(hn:r.needs.length<=5000):YC 176 #[rvV r,.string (mkS s)] W (YR (.bool (optR r.rt.needs s)) W):=by
 rw [optR_is]
 refine zE Tryz.func176 (yN [] λb2=>zO (α:=Nat) (λi=>[(1,.string (mkS s)),(2,Zp b2 0),(5,YI (i:Int))]) (λ_=>[⟨b2,(rvC r).toArray,28⟩]) (λi m=>(i<=r.needs.length∧∀ n∈r.needs.take i,n.opt≠s)/\m=r.needs.length-i) 0 r.needs.length [] ⟨⟨Nat.zero_le _,λy h=>by simp at h⟩,rfl⟩ ?_)
 rintro i mm g kk ⟨⟨hi,hno⟩,hmm⟩ nx hkk
 subst hkk
 refine zB 10 [0] ((i:Int)<(r.needs.length:Int)) (λh10=> ?_) (λh10=> ?_)
 rotate_left
 ·refine z7 [] Z5 λw hO=>⟨?_,hO.below⟩
  have hall:=yQ (p:=λn:Nv=>n.opt≠s) (show r.needs.length<=i by omega) hno
  rw [show (r.needs.any λn=>decide (n.opt=s))=false from by rw [List.any_eq_false];exact λn h=>by simpa using hall n h]
 have hj:i<r.needs.length:=by omega
 obtain ⟨eb,eo,hA,hel⟩:=hv.elem jO i hj
 have hgo:=y9 (p:=λn:Nv=>n.opt≠s) hj hno
 have hsm:r.needs[i]∈r.needs:=List.getElem_mem hj
 have hel0:∀ w,Below W.heap.size W w->(loadVar 9 ⟨eb,eo+i*3+2,none⟩).run Tryz.prog w= .ok (.string (mkS r.needs[i].opt)) w:=λw hw=>hel w hw _ 2 _ Kr
 generalize r.needs[i]=n at hel0 hgo hsm
 refine zJ 16 [0] hA r.needs.length r.nc i 3 hj (zH 18 [] 9 eb (eo+i*3+2) (.string (mkS n.opt)) (λw hO=>hel0 w hO.below) (x2 20 [] n.opt s (λh=> ?_) (λh=> ?_)))
 ·refine z7 [] Z4 λw hO=>⟨?_,hO.below⟩
  rw [show (r.needs.any λn=>decide (n.opt=s))=true from List.any_eq_true.2 ⟨n,hsm,decide_eq_true h⟩]
 ·exact x_i 12 [] ((i+1:Nat):Int) (nx (i+1) (r.needs.length-(i+1)) [] Om ⟨⟨hj,hgo h⟩,rfl⟩ Kr Kr)
theorem pulR_is (r:Rv)(s:List UInt8):pulR r.rt.needs s=r.needs.any λn=>pulN s n.nt:=by
 unfold pulR;simp only [Rv.rt,List.any_map];rfl
theorem pulN_one (s:List UInt8)(n:Nv)(h0:0<n.any.length)(h1:n.any.length=1):pulN s n.nt=decide (n.any[0].name=s):=by
 obtain ⟨A,cap,any,wh,opt⟩:=n
 match any,h0,h1 with
 | [u],_,_=>rfl
theorem r12pulled_any (r:Rv)(s:List UInt8)(W:World)(hv:Reads nvC W W.heap.size r.nA r.needs)(hf:∀ n∈r.needs,Reads wvC W W.heap.size n.A n.any)(hn:r.needs.length<=5000):YC 177 #[rvV r,.string (mkS s)] W (YR (.bool (pulR r.rt.needs s)) W):=by
 rw [pulR_is]
 refine zE Tryz.func177 (yN [] λb2=>zO (α:=Nat) (λi=>[(1,.string (mkS s)),(2,Zp b2 0),(5,YI (i:Int))]) (λ_=>[⟨b2,(rvC r).toArray,28⟩]) (λi m=>(i<=r.needs.length∧∀ n∈r.needs.take i,pulN s n.nt=false)/\m=r.needs.length-i) 0 r.needs.length [] ⟨⟨Nat.zero_le _,λy h=>by simp at h⟩,rfl⟩ ?_)
 rintro i mm g kk ⟨⟨hi,hno⟩,hmm⟩ nx hkk
 subst hkk
 refine zB 10 [0] ((i:Int)<(r.needs.length:Int)) (λh10=> ?_) (λh10=> ?_)
 rotate_left
 ·refine z7 [] Z5 λw hO=>⟨?_,hO.below⟩
  have hall:=yQ (p:=λn:Nv=>pulN s n.nt=false) (show r.needs.length<=i by omega) hno
  rw [show (r.needs.any λn=>pulN s n.nt)=false from by rw [List.any_eq_false];exact λn h=>by simpa using hall n h]
 have hj:i<r.needs.length:=by omega
 obtain ⟨eb,eo,hA,hel⟩:=hv.elem jO i hj
 have hgo:=y9 (p:=λn:Nv=>pulN s n.nt=false) hj hno
 have hsm:r.needs[i]∈r.needs:=List.getElem_mem hj
 have hel0:∀ w,Below W.heap.size W w->(loadVar 72 ⟨eb,eo+i*3+0,none⟩).run Tryz.prog w= .ok (.slice r.needs[i].A r.needs[i].any.length r.needs[i].cap) w:=λw hw=>hel w hw _ 0 _ Kr
 have hra:=hf _ hsm
 generalize r.needs[i]=n at hel0 hgo hsm hra
 refine zJ 16 [0] hA r.needs.length r.nc i 3 hj (zH 18 [] 72 eb (eo+i*3+0) (.slice n.A n.any.length n.cap) (λw hO=>hel0 w hO.below) (zB 20 [] ((n.any.length:Int)=1) (λh20=> ?_) (λh20=> ?_)))
 rotate_left
 ·have hp0:pulN s n.nt=false:=by
   unfold pulN Nv.nt
   match hm:n.any with
   | []=>rfl
   | [_]=>rw [hm] at h20;simp at h20
   |_::_::_=>rfl
  exact x_i 12 [] ((i+1:Nat):Int) (nx (i+1) (r.needs.length-(i+1)) [] Om ⟨⟨hj,hgo hp0⟩,rfl⟩ Kr Kr)
 have h0:0<n.any.length:=by omega
 obtain ⟨fb,fo,hA2,hel2⟩:=hra.elem p9 0 h0
 have hpu:=pulN_one s n h0 Om
 have l0:∀ w,Below W.heap.size W w->(loadVar 9 ⟨fb,fo+0*4+0,none⟩).run Tryz.prog w= .ok (.string (mkS n.any[0].name)) w:=λw hw=>hel2 w hw _ 0 _ Kr
 generalize n.any[0]=u at hpu l0
 refine zJ 25 [0] hA r.needs.length r.nc i 3 hj (zH 27 [] 72 eb (eo+i*3+0) (.slice n.A n.any.length n.cap) (λw hO=>hel0 w hO.below) (zJ 28 [] hA2 n.any.length n.cap 0 4 h0 (zH 30 [] 9 fb (fo+0*4+0) (.string (mkS u.name)) (λw hO=>l0 w hO.below) (x2 32 [] u.name s (λh=> ?_) (λh=> ?_)))))
 ·refine z7 [] Z4 λw hO=>⟨?_,hO.below⟩
  rw [show (r.needs.any λn=>pulN s n.nt)=true from List.any_eq_true.2 ⟨n,hsm,by rw [hpu];exact decide_eq_true h⟩]
 ·exact x_i 12 [] ((i+1:Nat):Int) (nx (i+1) (r.needs.length-(i+1)) [] Om ⟨⟨hj,hgo (by rw [hpu];exact decide_eq_false h)⟩,rfl⟩ Kr Kr)
theorem r12items_any (r:Rv)(A:Option Addr)(cap:Nat)(l:List (List UInt8))(W:World)(hr:RcIn W W.heap.size r)(hv:Reads yV W W.heap.size A l)(hn:l.length<=5000)(ht:∀ s∈l,s.length<=1000000):YC 115 #[rvV r,.slice A l.length cap] W (YR (YI (yR (xK r.rt.needs) l)) W):=by
 refine zE Tryz.func115 (yN [] λb2=>zO (α:=Nat) (λi=>[(1,.slice A l.length cap),(2,Zp b2 0),(5,YI (i:Int))]) (λ_=>[⟨b2,(rvC r).toArray,28⟩]) (λi m=>(i<=l.length∧∀ s∈l.take i,xK r.rt.needs s=0)/\m=l.length-i) 0 l.length [] ⟨⟨Nat.zero_le _,λy h=>by simp at h⟩,rfl⟩ ?_)
 rintro i mm g kk ⟨⟨hi,hno⟩,hmm⟩ nx hkk
 subst hkk
 refine zB 12 [] ((i:Int)<(l.length:Int)) (λh12=> ?_) (λh12=> ?_)
 rotate_left
 ·refine z7 [] (YI 0) λw hO=>⟨?_,hO.below⟩
  rw [dZ (yQ (p:=λs=>xK r.rt.needs s=0) (show l.length<=i by omega) hno)]
 have hj:i<l.length:=by omega
 obtain ⟨eb,eo,hA,hel⟩:=hv.elem zX i hj
 have hgo:=y9 (p:=λs=>xK r.rt.needs s=0) hj hno
 have hat:=nT (f:=xK r.rt.needs) hj hno
 have hsm:l[i]∈l:=List.getElem_mem hj
 have hel0:∀ w,Below W.heap.size W w->(loadVar 9 ⟨eb,eo+i*1+0,none⟩).run Tryz.prog w= .ok (.string (mkS l[i])) w:=λw hw=>hel w hw _ 0 _ Kr
 have hls:=ht _ hsm
 generalize l[i]=s at hel0 hgo hat hls
 have hE:xK r.rt.needs s=if (zM s).1=2/\optR r.rt.needs (zM s).2.1=false then 14 else if (zM s).1=3/\pulR r.rt.needs (zM s).2.1=false then 16 else 0:=rfl
 have hI:∀ w,Below W.heap.size W w->YC 175 #[.string (mkS s)] w (YR (.tuple #[YI (zM s).1,.string (mkS (zM s).2.1),.string (mkS (zM s).2.2)]) w):=λw hb=>r11Item_any s w hls
 generalize zM s=q at hE hI
 obtain ⟨kd,nm,sf⟩:=q
 have hO1:∀ w,Below W.heap.size W w->YC 176 #[rvV r,.string (mkS nm)] w (YR (.bool (optR r.rt.needs nm)) w):=λw hb=>r12option_any r nm w (hr.needs.on hb hb.size) hr.nn
 have hP1:∀ w,Below W.heap.size W w->YC 177 #[rvV r,.string (mkS nm)] w (YR (.bool (pulR r.rt.needs nm)) w):=λw hb=>r12pulled_any r nm w (hr.needs.on hb hb.size) (λn h=>(hr.any n h).on hb hb.size) hr.nn
 refine zJ 18 [] hA l.length cap i 1 hj (zH 19 [] 9 eb (eo+i*1+0) (.string (mkS s)) (λw hO=>hel0 w hO.below) (z8 (v:= .tuple #[YI kd,.string (mkS nm),.string (mkS sf)]) [] (λw hO=>hI w hO.below) (zB 25 [] (kd=2) (λh25=> ?_) (λh25=> ?_))))
 ·subst h25
  refine z8 (v:= .bool (optR r.rt.needs nm)) [0] (λw hO=>hO1 w hO.below) (zU 29 (optR r.rt.needs nm) (λe1=> ?_) (λe1=> ?_))
  ·exact x_i 14 [] ((i+1:Nat):Int) (nx (i+1) (l.length-(i+1)) [] Om ⟨⟨hj,hgo (by rw [hE,if_neg (λh=>by have:=h.2;rw [e1] at this;simp at this),if_neg (λh=>by simp at h)])⟩,rfl⟩ Kr Kr)
  ·have h14:xK r.rt.needs s=14:=by rw [hE,if_pos ⟨rfl,e1⟩]
   exact z7 [] (YI 14) λw hO=>⟨by rw [hat (by rw [h14];decide),h14],hO.below⟩
 refine zB 33 [] (kd=3) (λh33=> ?_) (λh33=> ?_)
 ·subst h33
  refine z8 (v:= .bool (pulR r.rt.needs nm)) [0] (λw hO=>hP1 w hO.below) (zU 37 (pulR r.rt.needs nm) (λe1=> ?_) (λe1=> ?_))
  ·exact x_i 14 [] ((i+1:Nat):Int) (nx (i+1) (l.length-(i+1)) [] Om ⟨⟨hj,hgo (by rw [hE,if_neg (λh=>by simp at h),if_neg (λh=>by have:=h.2;rw [e1] at this;simp at this)])⟩,rfl⟩ Kr Kr)
  ·have h16:xK r.rt.needs s=16:=by rw [hE,if_neg (λh=>by simp at h),if_pos ⟨rfl,e1⟩]
   exact z7 [] (YI 16) λw hO=>⟨by rw [hat (by rw [h16];decide),h16],hO.below⟩
 ·exact x_i 14 [] ((i+1:Nat):Int) (nx (i+1) (l.length-(i+1)) [] Om ⟨⟨hj,hgo (by rw [hE,if_neg (λh=>h25 h.1),if_neg (λh=>h33 h.1)])⟩,rfl⟩ Kr Kr)
end
section
set_option linter.unnecessarySimpa false
theorem wishE_targ (own:List UInt8)(u:Wt)(al:Bool):gM own u al=if j0 own u.name u.rng≠0 then j0 own u.name u.rng else if dG u.fs al=false then 11 else 0:=by
 unfold gM j0
 split
 ·simp
 ·split
  ·simp
  ·split<;>simp
def needC (n:Nv)(b:Nat):Blk:=⟨b, #[.slice n.A n.any.length n.cap,.string (mkS n.wh),.string (mkS n.opt)],74⟩
theorem qNeed_any (own:List UInt8)(n:Nv)(W:World)(hv:Reads wvC W W.heap.size n.A n.any)(hf:∀ u∈n.any,Reads yV W W.heap.size u.A u.fs)(hn:n.any.length<=5000)(hnf:∀ u∈n.any,u.fs.length<=5000)(hs:n.wh.length<=1000000/\n.opt.length<=1000000)(hsu:∀ u∈n.any,SuW u)(hK:RecLib W):YC 54 #[nvV n,.string (mkS own)] W (YR (YI (gN own n.nt)) W):=by
 have hE:=needE_is own n
 refine zE Tryz.func54 (yN [] λb2=>zB 11 [0] ((n.any.length:Int)=0) (λh11=> ?_) (λh11=> ?_))
 ·exact z7 [] (YI 9) λw hO=>⟨by rw [hE,if_pos (List.eq_nil_of_length_eq_zero Om)],hO.below⟩
 have h11':¬ n.any=[]:=λe=>h11 (by rw [e];rfl)
 rw [if_neg h11'] at hE
 refine zB 15 [0] ((n.any.length:Int)>3) (λh15=> ?_) (λh15=> ?_)
 ·exact z7 [] (YI 3) λw hO=>⟨by rw [hE,if_pos Om],hO.below⟩
 rw [if_neg (show ¬ 3<n.any.length by omega)] at hE
 refine zO (α:=Nat) (λi=>[(1,.string (mkS own)),(2,Zp b2 0),(17,.slice n.A n.any.length n.cap),(18,YI (n.any.length:Int)),(19,YI (i:Int))]) (λ_=>[needC n b2]) (λi m=>(i<=n.any.length∧∀ u∈n.any.take i,gM own u.wt (decide (n.any.length=1))=0)/\m=n.any.length-i) 0 n.any.length [0] ⟨⟨Nat.zero_le _,λy h=>by simp at h⟩,rfl⟩ ?_
 rintro i mm g kk ⟨⟨hi,hno⟩,hmm⟩ nx hkk
 subst hkk
 refine zB 20 [] ((i:Int)<(n.any.length:Int)) (λh20=> ?_) (λh20=> ?_)
 ·have hj:i<n.any.length:=by omega
  obtain ⟨eb,eo,hA,hel⟩:=hv.elem p9 i hj
  have hgo:=y9 (p:=λu:Wv=>gM own u.wt (decide (n.any.length=1))=0) hj hno
  have hat:=nT (f:=λu:Wv=>gM own u.wt (decide (n.any.length=1))) hj hno
  have hsm:n.any[i]∈n.any:=List.getElem_mem hj
  have hel0:∀ w,Below W.heap.size W w->(loadVar 77 ⟨eb,eo+i*4+0,none⟩).run Tryz.prog w= .ok (wvV n.any[i]) w:=λw hw=>hel w hw _ 0 _ Kr
  have hru:=hf _ hsm;have hnu:=hnf _ hsm;have hlu:=hsu _ hsm
  generalize n.any[i]=u at hel0 hgo hat hru hnu hlu
  have hW:gM own u.wt (decide (n.any.length=1))=if j0 own u.name u.rng≠0 then j0 own u.name u.rng else if (askB u.fs && (decide (n.any.length=1)||decide (u.fs=[])))=false then 11 else 0:=wishE_targ own u.wt _
  have c1:∀ w,Below W.heap.size W w->YC 94 #[.string (mkS u.name),.string (mkS u.rng),.string (mkS own)] w (YR (YI (j0 own u.name u.rng)) w):=λw h=>qTarget_any u.name u.rng own w hlu.1 hlu.2.1 (hK.on h)
  have c2:∀ w,Below W.heap.size W w->YC 95 #[.slice u.A u.fs.length u.cap] w (YR (.bool (askB u.fs)) w):=λw hb=>qAsk_any u.A u.cap u.fs w (hru.on hb hb.size) hnu hlu.2.2
  refine zJ 21 [] hA n.any.length n.cap i 4 hj (zH 22 [] 77 eb (eo+i*4+0) (wvV u) (λw hO=>hel0 w hO.below) (zL [] λb6=>z8 (v:=YI (j0 own u.name u.rng)) [0,0,0] (λw hO=>c1 w hO.below) (jW 30 [] (j0 own u.name u.rng=0) (λh1=> ?_) (λh1=> ?_))))
  rotate_left
  ·rw [if_pos h1] at hW
   refine z7 [] (YI (j0 own u.name u.rng)) λw hO=>⟨?_,hO.below⟩
   rw [hE,hat (by rw [hW];exact h1),hW,if_pos h1]
  rw [if_neg (λq=>q h1)] at hW
  have fin:askB u.fs=false->gM own u.wt (decide (n.any.length=1))=11:=λh=>by rw [hW,h];rfl
  have out:gM own u.wt (decide (n.any.length=1))=11->gN own n.nt=11:=λh=>by
   rw [hE,hat (by rw [h];decide),h];rfl
  refine zB 35 [0] ((u.fs.length:Int)>0) (λh35=> ?_) (λh35=> ?_)
  ·refine zB 40 [1] ((n.any.length:Int)>1) (λh40=> ?_) (λh40=> ?_)
   ·refine z7 [] (YI 11) λw hO=>⟨?_,hO.below⟩
    rw [out (by rw [hW,decide_eq_false (show ¬ n.any.length=1 by omega),decide_eq_false (λe=>by rw [e] at h35;simp at h35)];simp)]
   ·refine z8 (v:= .bool (askB u.fs)) [0] (λw hO=>c2 w hO.below) (zU 45 (askB u.fs) (λh45=> ?_) (λh45=> ?_))
    ·have hz:gM own u.wt (decide (n.any.length=1))=0:=by rw [hW,h45,decide_eq_true (show n.any.length=1 by omega)];rfl
     exact x_i 19 [] ((i+1:Nat):Int) (yT [] [needC n b2] (λw hO=>hO.past 1 _) (nx (i+1) (n.any.length-(i+1)) [] Om ⟨⟨hj,hgo hz⟩,rfl⟩ Kr Kr))
    ·exact z7 [] (YI 11) λw hO=>⟨by rw [out (fin h45)],hO.below⟩
  ·refine z8 (v:= .bool (askB u.fs)) [0] (λw hO=>c2 w hO.below) (zU 45 (askB u.fs) (λh45=> ?_) (λh45=> ?_))
   ·have hz:gM own u.wt (decide (n.any.length=1))=0:=by
     rw [hW,h45,decide_eq_true (show u.fs=[] from List.eq_nil_of_length_eq_zero Om)];simp
    exact x_i 19 [] ((i+1:Nat):Int) (yT [] [needC n b2] (λw hO=>hO.past 1 _) (nx (i+1) (n.any.length-(i+1)) [] Om ⟨⟨hj,hgo hz⟩,rfl⟩ Kr Kr))
   ·exact z7 [] (YI 11) λw hO=>⟨by rw [out (fin h45)],hO.below⟩
 have hall:=dZ (yQ (p:=λu:Wv=>gM own u.wt (decide (n.any.length=1))=0) (show n.any.length<=i by omega) hno)
 rw [hall,if_neg (by simp)] at hE
 have h2:∀ w,Below W.heap.size W w->YC 96 #[.string (mkS n.wh)] w (YR (.bool (x4 n.wh)) w):=λw hb=>qMark_any n.wh w hs.1 (hK.on hb)
 have h3:∀ w,Below W.heap.size W w->YC 97 #[.string (mkS n.opt)] w (YR (.bool (wdL n.opt)) w):=λw hb=>d7 n.opt w hs.2
 refine z8 (v:= .bool (x4 n.wh)) [0] (λw hO=>h2 w hO.below) (zU 51 (x4 n.wh) (λe3=> ?_) (λe3=> ?_))
 rotate_left
 ·exact z7 [] (YI 7) λw hO=>⟨by rw [hE,if_pos e3],hO.below⟩
 rw [if_neg (by simp [e3])] at hE
 refine gX 55 [0] n.opt [] (λe4=> ?_) (λe4=> ?_)
 ·exact z7 [] (YI 0) λw hO=>⟨by rw [hE,if_neg (λh=>h.1 e4)],hO.below⟩
 refine z8 (v:= .bool (wdL n.opt)) [0] (λw hO=>h3 w hO.below) (zU 59 (wdL n.opt) (λe5=> ?_) (λe5=> ?_))
 ·exact z7 [] (YI 0) λw hO=>⟨by rw [hE,if_neg (λh=>by rw [e5] at h;simp at h)],hO.below⟩
 ·exact z7 [] (YI 14) λw hO=>⟨by rw [hE,if_pos ⟨e4,e5⟩],hO.below⟩
def pulB (s:List UInt8)(n:Nv):Bool:=pulN s n.nt
theorem qOpt_any (n:Nv)(s:List UInt8)(b:Nat)(W:World)(hc:W.heap[b]?=some (.cells #[.string (mkS s)] 9)):YC 100 #[nvV n,.pointer (some ⟨b,0,none⟩)] W (YR (.bool (decide (n.opt=s))) W):=by
 have hb:b<W.heap.size:=(Array.getElem?_eq_some_iff.1 hc).1
 refine zE Tryz.func100 (yN [] λb2=>zH 6 [0] 9 b 0 (.string (mkS s)) (λw hO=>yX Kr ((hO.below.block b hb).trans hc)) (x2 7 [] n.opt s (λh=> ?_) (λh=> ?_)))
 ·exact z7 [] Z4 λw hO=>⟨by rw [decide_eq_true h],hO.below⟩
 ·exact z7 [] Z5 λw hO=>⟨by rw [decide_eq_false h],hO.below⟩
theorem qPul_any (n:Nv)(s:List UInt8)(b:Nat)(W:World)(hv:Reads wvC W W.heap.size n.A n.any)(hc:W.heap[b]?=some (.cells #[.string (mkS s)] 9)):YC 102 #[nvV n,.pointer (some ⟨b,0,none⟩)] W (YR (.bool (pulB s n)) W):=by
 have hb:b<W.heap.size:=(Array.getElem?_eq_some_iff.1 hc).1
 refine zE Tryz.func102 (yN [] λb2=>zB 7 [0] ((n.any.length:Int)=1) (λh7=> ?_) (λh7=> ?_))
 rotate_left
 ·refine z7 [] Z5 λw hO=>⟨?_,hO.below⟩
  have:pulB s n=false:=by
   unfold pulB pulN
   split
   ·rename_i x h
    have:=congrArg List.length h
    simp only [Nv.nt,List.length_map,List.length_cons,List.length_nil] at this
    omega
   ·rfl
  rw [this]
 have h1:n.any.length=1:=by omega
 obtain ⟨eb,eo,hA,hel⟩:=hv.elem p9 0 Om
 have hel0:∀ w,Below W.heap.size W w->(loadVar 9 ⟨eb,eo+0*4+0,none⟩).run Tryz.prog w= .ok (.string (mkS (n.any[0]'Om).name)) w:=λw hw=>hel w hw _ 0 _ Kr
 have hp:pulB s n=decide ((n.any[0]'Om).name=s):=by
  obtain ⟨x,hx⟩:=List.length_eq_one_iff.1 h1
  have e:n.any[0]'Om=x:=by simp only [hx,List.getElem_cons_zero]
  rw [e]
  unfold pulB pulN
  rw [show n.nt.any=[x.wt] from by show n.any.map Wv.wt=_;rw [hx];rfl];rfl
 generalize n.any[0]=u at hel0 hp
 refine zJ 11 [0] hA n.any.length n.cap 0 4 (by omega) (zH 13 [] 9 eb (eo+0*4+0) (.string (mkS u.name)) (λw hO=>hel0 w hO.below) (zH 14 [] 9 b 0 (.string (mkS s)) (λw hO=>yX Kr ((hO.below.block b hb).trans hc)) (x2 15 [] u.name s (λh=> ?_) (λh=> ?_))))
 ·exact z7 [] Z4 λw hO=>⟨by rw [hp,decide_eq_true h],hO.below⟩
 ·exact z7 [] Z5 λw hO=>⟨by rw [hp,decide_eq_false h],hO.below⟩
theorem qHas1_any (p:Nv->Bool)(A:Option Addr)(cap:Nat)(l:List Nv)(b:Nat)(W:World)(hv:Reads nvC W W.heap.size A l)(hn:l.length<=5000)(hp:∀ n∈l,∀ w,Below W.heap.size W w->YC 100 #[nvV n,.pointer (some ⟨b,0,none⟩)] w (YR (.bool (p n)) w)):YC 101 #[.slice A l.length cap,.func (.func 100) #[] #[.pointer (some ⟨b,0,none⟩)]] W (YR (.bool (l.any p)) W):=by
 have key:∀ w,Below W.heap.size W w->YC 162 #[.slice A l.length cap,.func (.func 100) #[] #[.pointer (some ⟨b,0,none⟩)]] w λe w'=>∃ v,e= .returned v/\(∃ z:Int,v=YI z/\decide (0<=z)=l.any p)/\Below w.heap.size w w':=λw0 hb0=>by
  have hv0:=hv.on hb0 hb0.size
  have hp0:∀ n∈l,∀ w,Below w0.heap.size w0 w->YC 100 #[nvV n,.pointer (some ⟨b,0,none⟩)] w (YR (.bool (p n)) w):=λn hn w hb=>hp n hn w (hb0.trans (hb.mono hb0.size))
  clear hp hv hb0
  refine zE Tryz.func162 (zO (α:=Nat) (λi=>[(0,.slice A l.length cap),(1,.func (.func 100) #[] #[Zp b 0]),(7,YI (l.length:Int)),(8,YI (i:Int))]) (λ_=>[]) (λi m=>(i<=l.length∧∀ y∈l.take i,p y=false)/\m=l.length-i) 0 l.length [] ⟨⟨Nat.zero_le _,λy h=>by simp at h⟩,rfl⟩ ?_)
  rintro i mm g kk ⟨⟨hi,hno⟩,hmm⟩ nx hkk
  subst hkk
  refine zB 9 [] ((i:Int)<(l.length:Int)) (λh9=> ?_) (λh9=> ?_)
  rotate_left
  ·refine z7 [] (YI (-1)) λw hO=>⟨_,rfl,⟨-1,rfl, ?_⟩,hO.below⟩
   have hall:=yQ (p:=λy:Nv=>p y=false) (show l.length<=i by omega) hno
   rw [show l.any p=false from List.any_eq_false.2 λy hy=>by rw [hall y hy];decide];rfl
  have hj:i<l.length:=by omega
  obtain ⟨eb,eo,hA,hel⟩:=hv0.elem jO i hj
  have hgo:=y9 (p:=λy:Nv=>p y=false) hj hno
  have hsm:l[i]∈l:=List.getElem_mem hj
  have hel0:∀ w,Below w0.heap.size w0 w->(loadVar 74 ⟨eb,eo+i*3+0,none⟩).run Tryz.prog w= .ok (nvV l[i]) w:=λw hw=>hel w hw _ 0 _ Kr
  have hcf:=hp0 _ hsm
  generalize l[i]=n at hel0 hgo hcf hsm
  refine zJ 14 [] hA l.length cap i 3 hj (zH 15 [] 74 eb (eo+i*3+0) (nvV n) (λw hO=>hel0 w hO.below) (z8 (v:= .bool (p n)) [] (λw hO=>hcf w hO.below) (zU 16 (p n) (λh16=> ?_) (λh16=> ?_))))
  ·refine z7 [] (YI (i:Int)) λw hO=>⟨_,rfl,⟨(i:Int),rfl, ?_⟩,hO.below⟩
   rw [show l.any p=true from List.any_eq_true.2 ⟨n,hsm,h16⟩,decide_eq_true Om]
  ·exact x_i 18 [] ((i+1:Nat):Int) (nx (i+1) (l.length-(i+1)) [] Om ⟨⟨hj,hgo h16⟩,rfl⟩ Kr Kr)
 refine zE Tryz.func101 (x_callE (R:=λv=>∃ z:Int,v=YI z/\decide (0<=z)=l.any p) [] (λw hO=>key w hO.below) ?_)
 rintro v ⟨z,rfl,hz⟩
 exact z7 [] (.bool (decide (0<=z))) λw hO=>⟨by rw [hz],hO.below⟩
theorem qHas2_any (p:Nv->Bool)(A:Option Addr)(cap:Nat)(l:List Nv)(b:Nat)(W:World)(hv:Reads nvC W W.heap.size A l)(hn:l.length<=5000)(hp:∀ n∈l,∀ w,Below W.heap.size W w->YC 102 #[nvV n,.pointer (some ⟨b,0,none⟩)] w (YR (.bool (p n)) w)):YC 101 #[.slice A l.length cap,.func (.func 102) #[] #[.pointer (some ⟨b,0,none⟩)]] W (YR (.bool (l.any p)) W):=by
 have key:∀ w,Below W.heap.size W w->YC 162 #[.slice A l.length cap,.func (.func 102) #[] #[.pointer (some ⟨b,0,none⟩)]] w λe w'=>∃ v,e= .returned v/\(∃ z:Int,v=YI z/\decide (0<=z)=l.any p)/\Below w.heap.size w w':=λw0 hb0=>by
  have hv0:=hv.on hb0 hb0.size
  have hp0:∀ n∈l,∀ w,Below w0.heap.size w0 w->YC 102 #[nvV n,.pointer (some ⟨b,0,none⟩)] w (YR (.bool (p n)) w):=λn hn w hb=>hp n hn w (hb0.trans (hb.mono hb0.size))
  clear hp hv hb0
  refine zE Tryz.func162 (zO (α:=Nat) (λi=>[(0,.slice A l.length cap),(1,.func (.func 102) #[] #[Zp b 0]),(7,YI (l.length:Int)),(8,YI (i:Int))]) (λ_=>[]) (λi m=>(i<=l.length∧∀ y∈l.take i,p y=false)/\m=l.length-i) 0 l.length [] ⟨⟨Nat.zero_le _,λy h=>by simp at h⟩,rfl⟩ ?_)
  rintro i mm g kk ⟨⟨hi,hno⟩,hmm⟩ nx hkk
  subst hkk
  refine zB 9 [] ((i:Int)<(l.length:Int)) (λh9=> ?_) (λh9=> ?_)
  rotate_left
  ·refine z7 [] (YI (-1)) λw hO=>⟨_,rfl,⟨-1,rfl, ?_⟩,hO.below⟩
   have hall:=yQ (p:=λy:Nv=>p y=false) (show l.length<=i by omega) hno
   rw [show l.any p=false from List.any_eq_false.2 λy hy=>by rw [hall y hy];decide];rfl
  have hj:i<l.length:=by omega
  obtain ⟨eb,eo,hA,hel⟩:=hv0.elem jO i hj
  have hgo:=y9 (p:=λy:Nv=>p y=false) hj hno
  have hsm:l[i]∈l:=List.getElem_mem hj
  have hel0:∀ w,Below w0.heap.size w0 w->(loadVar 74 ⟨eb,eo+i*3+0,none⟩).run Tryz.prog w= .ok (nvV l[i]) w:=λw hw=>hel w hw _ 0 _ Kr
  have hcf:=hp0 _ hsm
  generalize l[i]=n at hel0 hgo hcf hsm
  refine zJ 14 [] hA l.length cap i 3 hj (zH 15 [] 74 eb (eo+i*3+0) (nvV n) (λw hO=>hel0 w hO.below) (z8 (v:= .bool (p n)) [] (λw hO=>hcf w hO.below) (zU 16 (p n) (λh16=> ?_) (λh16=> ?_))))
  ·refine z7 [] (YI (i:Int)) λw hO=>⟨_,rfl,⟨(i:Int),rfl, ?_⟩,hO.below⟩
   rw [show l.any p=true from List.any_eq_true.2 ⟨n,hsm,h16⟩,decide_eq_true Om]
  ·exact x_i 18 [] ((i+1:Nat):Int) (nx (i+1) (l.length-(i+1)) [] Om ⟨⟨hj,hgo h16⟩,rfl⟩ Kr Kr)
 refine zE Tryz.func101 (x_callE (R:=λv=>∃ z:Int,v=YI z/\decide (0<=z)=l.any p) [] (λw hO=>key w hO.below) ?_)
 rintro v ⟨z,rfl,hz⟩
 exact z7 [] (.bool (decide (0<=z))) λw hO=>⟨by rw [hz],hO.below⟩
theorem qItems_any (A:Option Addr)(cap:Nat)(of:List (List UInt8))(B:Option Addr)(capb:Nat)(l:List Nv)(W:World)(hu:Reads yV W W.heap.size A of)(ho:of.length<=5000)(ht:∀ s∈of,s.length<=1000000)(hv:Reads nvC W W.heap.size B l)(hn:l.length<=5000)(hva:∀ n∈l,Reads wvC W W.heap.size n.A n.any):YC 57 #[.slice A of.length cap,.slice B l.length capb] W (YR (YI (yR (xK (l.map Nv.nt)) of)) W):=by
 refine zE Tryz.func57 (zO (α:=Nat) (λi=>[(1,.slice B l.length capb),(12,.slice A of.length cap),(13,YI (of.length:Int)),(14,YI (i:Int))]) (λ_=>[]) (λi m=>(i<=of.length∧∀ s∈of.take i,xK (l.map Nv.nt) s=0)/\m=of.length-i) 0 of.length [] ⟨⟨Nat.zero_le _,λy h=>by simp at h⟩,rfl⟩ ?_)
 rintro i mm g kk ⟨⟨hi,hno⟩,hmm⟩ nx hkk
 subst hkk
 refine zB 15 [] ((i:Int)<(of.length:Int)) (λh15=> ?_) (λh15=> ?_)
 rotate_left
 ·refine z7 [] (YI 0) λw hO=>⟨?_,hO.below⟩
  rw [dZ (yQ (p:=λs=>xK (l.map Nv.nt) s=0) (show of.length<=i by omega) hno)]
 have hj:i<of.length:=by omega
 obtain ⟨eb,eo,hA,hel⟩:=hu.elem zX i hj
 have hgo:=y9 (p:=λs=>xK (l.map Nv.nt) s=0) hj hno
 have hat:=nT (f:=xK (l.map Nv.nt)) hj hno
 have hsh:=ht _ (List.getElem_mem hj)
 have hel0:∀ w,Below W.heap.size W w->(loadVar 9 ⟨eb,eo+i*1+0,none⟩).run Tryz.prog w= .ok (.string (mkS of[i])) w:=λw hw=>hel w hw _ 0 _ Kr
 generalize of[i]=s at hel0 hgo hat hsh
 have hI:xK (l.map Nv.nt) s=if (zM s).1=2/\(l.any λn=>decide (n.opt=(zM s).2.1))=false then 14 else if (zM s).1=3/\l.any (pulB (zM s).2.1)=false then 16 else 0:=by
  unfold xK optR pulR
  simp only [List.any_map];rfl
 refine zJ 16 [] hA of.length cap i 1 hj (zH 17 [] 9 eb (eo+i*1+0) (.string (mkS s)) (λw hO=>hel0 w hO.below) (z8 (v:= .tuple #[YI (zM s).1,.string (mkS (zM s).2.1),.string (mkS (zM s).2.2)]) [] (λw hO=>fItem_at s w hsh) (zL [] λb8=> ?_)))
 have hc1:∀ w,Own [] W w [⟨b8, #[.string (mkS (zM s).2.1)],9⟩]->YC 101 #[.slice B l.length capb,.func (.func 100) #[] #[.pointer (some ⟨b8,0,none⟩)]] w (YR (.bool (l.any λn=>decide (n.opt=(zM s).2.1))) w):=λw hO=>by
  have hg:w.heap[b8]?=some (.cells #[.string (mkS (zM s).2.1)] 9):=hO.get (i:=0) rfl
  exact qHas1_any _ B capb l b8 w (hv.on hO.below hO.size) hn λn hn w2 hb=>qOpt_any n (zM s).2.1 b8 w2 ((hb.block b8 (Array.getElem?_eq_some_iff.1 hg).1).trans hg)
 have hc2:∀ w,Own [] W w [⟨b8, #[.string (mkS (zM s).2.1)],9⟩]->YC 101 #[.slice B l.length capb,.func (.func 102) #[] #[.pointer (some ⟨b8,0,none⟩)]] w (YR (.bool (l.any (pulB (zM s).2.1))) w):=λw hO=>by
  have hg:w.heap[b8]?=some (.cells #[.string (mkS (zM s).2.1)] 9):=hO.get (i:=0) rfl
  exact qHas2_any _ B capb l b8 w (hv.on hO.below hO.size) hn λn hn w2 hb=>qPul_any n (zM s).2.1 b8 w2 (((hva n hn).on hO.below hO.size).on hb hb.size) ((hb.block b8 (Array.getElem?_eq_some_iff.1 hg).1).trans hg)
 have next:xK (l.map Nv.nt) s=0→∀ m',m'=of.length-(i+1)->m'<mm/\(i+1<=of.length∧∀ s∈of.take (i+1),xK (l.map Nv.nt) s=0)/\m'=of.length-(i+1):=λh m' e=>⟨by omega,⟨hj,hgo h⟩,e⟩
 refine x_val 24 [0] (.func (.func 100) #[] #[Zp b8 0]) (λw=>Kr) (zB 26 [] ((zM s).1=2) (λh26=> ?_) (λh26=> ?_))
 ·refine z8 (v:= .bool (l.any λn=>decide (n.opt=(zM s).2.1))) [] (λw hO=>hc1 w (hO.past 0 _)) (zU 30 (l.any λn=>decide (n.opt=(zM s).2.1)) (λh30=> ?_) (λh30=> ?_))
  rotate_left
  ·refine z7 [] (YI 14) λw hO=>⟨?_,hO.below⟩
   have:xK (l.map Nv.nt) s=14:=by rw [hI,if_pos ⟨h26,h30⟩]
   rw [hat (by rw [this];decide),this]
  have hz:xK (l.map Nv.nt) s=0:=by rw [hI,if_neg (by rw [h30];simp),if_neg (λq=>by rw [h26] at q;exact absurd q.1 (by decide))]
  obtain ⟨q1,q2,q3⟩:=next hz _ rfl
  exact x_val 33 [] (.func (.func 102) #[] #[Zp b8 0]) (λw=>Kr) (zB 35 [] ((zM s).1=3) (λh=>absurd (h26.symm.trans h) (by decide)) (λh=>x_i 14 [] ((i+1:Nat):Int) (yT [] [] (λw hO=>hO.no) (nx (i+1) _ [] q1 ⟨q2,q3⟩ Kr Kr))))
 ·refine x_val 33 [] (.func (.func 102) #[] #[Zp b8 0]) (λw=>Kr) (zB 35 [] ((zM s).1=3) (λh35=> ?_) (λh35=> ?_))
  rotate_left
  ·have hz:xK (l.map Nv.nt) s=0:=by rw [hI,if_neg (λq=>h26 q.1),if_neg (λq=>h35 q.1)]
   obtain ⟨q1,q2,q3⟩:=next hz _ rfl
   exact x_i 14 [] ((i+1:Nat):Int) (yT [] [] (λw hO=>hO.no) (nx (i+1) _ [] q1 ⟨q2,q3⟩ Kr Kr))
  refine z8 (v:= .bool (l.any (pulB (zM s).2.1))) [] (λw hO=>hc2 w (hO.past 0 _)) (zU 39 (l.any (pulB (zM s).2.1)) (λh39=> ?_) (λh39=> ?_))
  ·have hz:xK (l.map Nv.nt) s=0:=by rw [hI,if_neg (λq=>h26 q.1),if_neg (by rw [h39];simp)]
   obtain ⟨q1,q2,q3⟩:=next hz _ rfl
   exact x_i 14 [] ((i+1:Nat):Int) (yT [] [] (λw hO=>hO.no) (nx (i+1) _ [] q1 ⟨q2,q3⟩ Kr Kr))
  ·refine z7 [] (YI 16) λw hO=>⟨?_,hO.below⟩
   have:xK (l.map Nv.nt) s=16:=by rw [hI,if_neg (λq=>h26 q.1),if_pos ⟨h35,h39⟩]
   rw [hat (by rw [this];decide),this]
end
section
set_option linter.unnecessarySimpa false
theorem strC_one (s:List UInt8):∀ u∈yV s,u.oneCell'=true:=λu hu=>by rw [List.mem_singleton.1 hu];rfl
theorem r12text_any (r:Rv)(W:World)(hr:RcIn W W.heap.size r)(ht:(xH r.rt).length<=100000000):YC 62 #[rvV r] W (YR (.string (mkS (xH r.rt))) W):=by
 have hT:xH r.rt=wZ r.rt++r.needs.flatMap (λn=>kN n.nt)++r.bars.flatMap (λb=>wQ b.bt)++r.fts.flatMap (λf=>vB f.ft):=by
  unfold xH;simp only [Rv.rt,yO,List.flatMap_map]
 have hl:=congrArg List.length hT
 simp only [List.length_append] at hl
 have hp8:txPack.length=8:=rfl
 have hn5:txNeed.length=5:=rfl
 have ho7:txOpt.length=7:=rfl
 have hb4:txBar.length=4:=rfl
 have hsn:=hr.sn
 have hnn:=hr.nn;have hnb:=hr.nb;have hfn:=hr.fts.n
 have hH:(wZ r.rt).length=8+r.name.length+1+r.ver.print.length+1:=by
  show (txPack++r.name++[32]++r.ver.print++[10]).length=_
  simp only [List.length_append,List.length_cons,List.length_nil,hp8]
 have hP:∀ w,Below W.heap.size W w->YC 116 #[k8 r.ver] w (YR (.string (mkS r.ver.print)) w):=λw hb=>rprint_any r.ver w hsn.2.1 hsn.2.2
 refine zE Tryz.func62 (yN [] λb1=>zW 10 [0] txPack r.name (zW 11 [] (txPack++r.name) [32] (z8 (v:= .string (mkS r.ver.print)) [0] (λw hO=>hP w hO.below) (zW 15 [] (txPack++r.name++[32]) r.ver.print (zW 16 [] (txPack++r.name++[32]++r.ver.print) [10] ?_)))))
 refine zO (α:=Nat×List UInt8) (λx=>[(1,Zp b1 0),(3,.string (mkS x.2)),(4,YI (x.1:Int))]) (λ_=>[⟨b1,(rvC r).toArray,28⟩]) (λx m=>(x.1<=r.needs.length/\x.2=wZ r.rt++(r.needs.take x.1).flatMap (λn=>kN n.nt))/\m=r.needs.length-x.1) (0,txPack++r.name++[32]++r.ver.print++[10]) r.needs.length [] ⟨⟨Nat.zero_le _,by show _=wZ r.rt++[];rw [List.append_nil];rfl⟩,rfl⟩ ?_
 rintro ⟨i,s⟩ mm g kk ⟨⟨hi,hs⟩,hmm⟩ nx hkk
 subst hkk
 replace hi:i<=r.needs.length:=hi
 replace hs:s=wZ r.rt++(r.needs.take i).flatMap (λn=>kN n.nt):=hs
 have hsl:s.length<=100000000:=by
  have:=fP (λn:Nv=>kN n.nt) (l:=r.needs) i
  rw [hs,List.length_append];omega
 refine zB 21 [0] ((i:Int)<(r.needs.length:Int)) (λh21=> ?_) (λh21=> ?_)
 ·have hj:i<r.needs.length:=by omega
  obtain ⟨eb,eo,hA,hel⟩:=hr.needs.elem jO i hj
  have hst:=wJ (λn:Nv=>kN n.nt) hj
  have hmem:r.needs[i]∈r.needs:=List.getElem_mem hj
  have hone:=fm_one (λn:Nv=>kN n.nt) hmem
  have la:∀ w,Below W.heap.size W w->(loadVar 72 ⟨eb,eo+i*3+0,none⟩).run Tryz.prog w= .ok (.slice r.needs[i].A r.needs[i].any.length r.needs[i].cap) w:=λw hw=>hel w hw _ 0 _ Kr
  have lw:∀ w,Below W.heap.size W w->(loadVar 9 ⟨eb,eo+i*3+1,none⟩).run Tryz.prog w= .ok (.string (mkS r.needs[i].wh)) w:=λw hw=>hel w hw _ 1 _ Kr
  have lo:∀ w,Below W.heap.size W w->(loadVar 9 ⟨eb,eo+i*3+2,none⟩).run Tryz.prog w= .ok (.string (mkS r.needs[i].opt)) w:=λw hw=>hel w hw _ 2 _ Kr
  have hra:=hr.any _ hmem;have hrf:=hr.wfs _ hmem;have hna:=hr.na _ hmem;have hnf:=hr.nf _ hmem;have hsw:=hr.sw _ hmem
  have hs2:s++kN r.needs[i].nt=wZ r.rt++(r.needs.take (i+1)).flatMap (λn=>kN n.nt):=by rw [hst,hs,List.append_assoc]
  generalize r.needs[i]=n at la lw lo hone hra hrf hna hnf hsw hs2
  have hnT:kN n.nt=txNeed++n.any.flatMap (λu=>kI u.wt)++v8 n.wh++tM n.opt:=by
   unfold kN;simp only [Nv.nt,List.flatMap_map]
  have hnl:=congrArg List.length hnT
  simp only [List.length_append] at hnl
  rw [hnT] at hs2
  have hWh:∀ w,Below W.heap.size W w->YC 118 #[.string (mkS n.wh)] w (YR (.string (mkS (v8 n.wh))) w):=λw hb=>r12when_any n.wh w hsw.1
  refine zW 25 [] s txNeed (zO (α:=Nat×List UInt8) (λx=>[(1,Zp b1 0),(3,.string (mkS x.2)),(4,YI (i:Int)),(5,YI (x.1:Int))]) (λ_=>[⟨b1,(rvC r).toArray,28⟩]) (λx m=>(x.1<=n.any.length/\x.2=s++txNeed++(n.any.take x.1).flatMap (λu=>kI u.wt))/\m=n.any.length-x.1) (0,s++txNeed) n.any.length [] ⟨⟨Nat.zero_le _,by show _=s++txNeed++[];rw [List.append_nil]⟩,rfl⟩ ?_)
  rintro ⟨k,y⟩ mk gk kk ⟨⟨hk,hy⟩,hmk⟩ ny hkk
  subst hkk
  replace hk:k<=n.any.length:=hk
  replace hy:y=s++txNeed++(n.any.take k).flatMap (λu=>kI u.wt):=hy
  have hyl:y.length<=300000000:=by
   have:=fP (λu:Wv=>kI u.wt) (l:=n.any) k
   rw [hy,List.length_append,List.length_append];omega
  refine zJ 30 [0] hA r.needs.length r.nc i 3 hj (zH 32 [] 72 eb (eo+i*3+0) (.slice n.A n.any.length n.cap) (λw hO=>la w hO.below) (zB 34 [] ((k:Int)<(n.any.length:Int)) (λh34=> ?_) (λh34=> ?_)))
  ·have hkj:k<n.any.length:=by omega
   obtain ⟨fb,fo,hA2,hel2⟩:=hra.elem p9 k hkj
   have hst2:=wJ (λu:Wv=>kI u.wt) hkj
   have hmem2:n.any[k]∈n.any:=List.getElem_mem hkj
   have hone2:=fm_one (λu:Wv=>kI u.wt) hmem2
   have lu:∀ w,Below W.heap.size W w->(loadVar 77 ⟨fb,fo+k*4+0,none⟩).run Tryz.prog w= .ok (wvV n.any[k]) w:=λw hw=>hel2 w hw _ 0 _ Kr
   have hru:=hrf _ hmem2;have hnu:=hnf _ hmem2
   have hy2:y++kI n.any[k].wt=s++txNeed++(n.any.take (k+1)).flatMap (λu=>kI u.wt):=by rw [hst2,hy,List.append_assoc]
   generalize n.any[k]=u at lu hone2 hru hnu hy2
   have hc:∀ w,Below W.heap.size W w->YC 117 #[wvV u] w (YR (.string (mkS (kI u.wt))) w):=λw hb=>r12wished_any u w (hru.on hb hb.size) hnu Om
   refine zJ 41 [0] hA r.needs.length r.nc i 3 hj (zH 43 [] 72 eb (eo+i*3+0) (.slice n.A n.any.length n.cap) (λw hO=>la w hO.below) (zJ 45 [] hA2 n.any.length n.cap k 4 hkj (zH 46 [] 77 fb (fo+k*4+0) (wvV u) (λw hO=>lu w hO.below) (z8 (v:= .string (mkS (kI u.wt))) [] (λw hO=>hc w hO.below) (zW 48 [] y (kI u.wt) (x_i 36 [] ((k+1:Nat):Int) (ny (k+1,y++kI u.wt) (n.any.length-(k+1)) [] Om ⟨⟨hkj,hy2⟩,rfl⟩ Kr Kr)))))))
  have hy2:y=s++txNeed++n.any.flatMap (λu=>kI u.wt):=by rw [hy,List.take_of_length_le Om]
  clear ny
  refine zJ 53 [0] hA r.needs.length r.nc i 3 hj (zH 55 [] 9 eb (eo+i*3+1) (.string (mkS n.wh)) (λw hO=>lw w hO.below) (z8 (v:= .string (mkS (v8 n.wh))) [] (λw hO=>hWh w hO.below) (zW 57 [] y (v8 n.wh) (zJ 61 [0] hA r.needs.length r.nc i 3 hj (zH 63 [] 9 eb (eo+i*3+2) (.string (mkS n.opt)) (λw hO=>lo w hO.below) (gX 64 [] n.opt [] (λh64=> ?_) (λh64=> ?_)))))))
  ·exact x_i 23 [] ((i+1:Nat):Int) (nx (i+1,y++v8 n.wh) (r.needs.length-(i+1)) [] Om ⟨⟨hj,by
    rw [←hs2,show tM n.opt=[] from if_pos h64,hy2,List.append_nil];simp only [List.append_assoc]⟩,rfl⟩ Kr Kr)
  ·have hol:(tM n.opt).length=7+n.opt.length+1:=by
    rw [show tM n.opt=txOpt++n.opt++[10] from if_neg h64];simp only [List.length_append,List.length_cons,List.length_nil,ho7]
   refine zW 66 [] (y++v8 n.wh) txOpt (zJ 70 [0] hA r.needs.length r.nc i 3 hj (zH 72 [] 9 eb (eo+i*3+2) (.string (mkS n.opt)) (λw hO=>lo w hO.below) (zW 73 [] (y++v8 n.wh++txOpt) n.opt (zW 74 [] (y++v8 n.wh++txOpt++n.opt) [10] ?_))))
   exact x_i 23 [] ((i+1:Nat):Int) (nx (i+1,y++v8 n.wh++txOpt++n.opt++[10]) (r.needs.length-(i+1)) [] Om ⟨⟨hj,by
    rw [←hs2,show tM n.opt=txOpt++n.opt++[10] from if_neg h64,hy2];simp only [List.append_assoc]⟩,rfl⟩ Kr Kr)
 have hs':s=wZ r.rt++r.needs.flatMap (λn=>kN n.nt):=by rw [hs,List.take_of_length_le Om]
 clear nx hs
 refine zO (α:=Nat×List UInt8) (λx=>[(1,Zp b1 0),(3,.string (mkS x.2)),(6,YI (x.1:Int))]) (λ_=>[⟨b1,(rvC r).toArray,28⟩]) (λx m=>(x.1<=r.bars.length/\x.2=s++(r.bars.take x.1).flatMap (λb=>wQ b.bt))/\m=r.bars.length-x.1) (0,s) r.bars.length [] ⟨⟨Nat.zero_le _,by show _=s++[];rw [List.append_nil]⟩,rfl⟩ ?_
 rintro ⟨i2,z⟩ m2 g2 kk ⟨⟨hi2,hz⟩,hm2⟩ nx hkk
 subst hkk
 replace hi2:i2<=r.bars.length:=hi2
 replace hz:z=s++(r.bars.take i2).flatMap (λb=>wQ b.bt):=hz
 have hzl:z.length<=200000000:=by
  have:=fP (λb:Bv=>wQ b.bt) (l:=r.bars) i2
  rw [hz,List.length_append];omega
 refine zB 79 [0] ((i2:Int)<(r.bars.length:Int)) (λh79=> ?_) (λh79=> ?_)
 ·have hj:i2<r.bars.length:=by omega
  obtain ⟨eb,eo,hA,hel⟩:=hr.bars.elem pR i2 hj
  have hst:=wJ (λb:Bv=>wQ b.bt) hj
  have hmem:r.bars[i2]∈r.bars:=List.getElem_mem hj
  have hone:=fm_one (λb:Bv=>wQ b.bt) hmem
  have l0:∀ w,Below W.heap.size W w->(loadVar 9 ⟨eb,eo+i2*3+0,none⟩).run Tryz.prog w= .ok (.string (mkS r.bars[i2].name)) w:=λw hw=>hel w hw _ 0 _ Kr
  have l1:∀ w,Below W.heap.size W w->(loadVar 9 ⟨eb,eo+i2*3+1,none⟩).run Tryz.prog w= .ok (.string (mkS r.bars[i2].rng)) w:=λw hw=>hel w hw _ 1 _ Kr
  have l2:∀ w,Below W.heap.size W w->(loadVar 9 ⟨eb,eo+i2*3+2,none⟩).run Tryz.prog w= .ok (.string (mkS r.bars[i2].wh)) w:=λw hw=>hel w hw _ 2 _ Kr
  have hsb:=hr.sb _ hmem
  have hz2:z++wQ r.bars[i2].bt=s++(r.bars.take (i2+1)).flatMap (λb=>wQ b.bt):=by rw [hst,hz,List.append_assoc]
  generalize r.bars[i2]=b at l0 l1 l2 hone hsb hz2
  have hbT:wQ b.bt=txBar++b.name++[32]++b.rng++[10]++v8 b.wh:=rfl
  have hbl:=congrArg List.length hbT
  simp only [List.length_append,List.length_cons,List.length_nil] at hbl
  rw [hbT] at hz2
  have hWh:∀ w,Below W.heap.size W w->YC 118 #[.string (mkS b.wh)] w (YR (.string (mkS (v8 b.wh))) w):=λw hb=>r12when_any b.wh w hsb.2.2
  refine zW 83 [] z txBar (zJ 87 [0] hA r.bars.length r.bc i2 3 hj (zH 89 [] 9 eb (eo+i2*3+0) (.string (mkS b.name)) (λw hO=>l0 w hO.below) (zW 90 [] (z++txBar) b.name (zW 91 [] (z++txBar++b.name) [32] (zJ 95 [0] hA r.bars.length r.bc i2 3 hj (zH 97 [] 9 eb (eo+i2*3+1) (.string (mkS b.rng)) (λw hO=>l1 w hO.below) (zW 98 [] (z++txBar++b.name++[32]) b.rng (zW 99 [] (z++txBar++b.name++[32]++b.rng) [10] (zJ 103 [0] hA r.bars.length r.bc i2 3 hj (zH 105 [] 9 eb (eo+i2*3+2) (.string (mkS b.wh)) (λw hO=>l2 w hO.below) (z8 (v:= .string (mkS (v8 b.wh))) [] (λw hO=>hWh w hO.below) (zW 107 [] (z++txBar++b.name++[32]++b.rng++[10]) (v8 b.wh) ?_))))))))))))
  exact x_i 81 [] ((i2+1:Nat):Int) (nx (i2+1,z++txBar++b.name++[32]++b.rng++[10]++v8 b.wh) (r.bars.length-(i2+1)) [] Om ⟨⟨hj,by rw [←hz2];simp only [List.append_assoc]⟩,rfl⟩ Kr Kr)
 have hz':z=s++r.bars.flatMap (λb=>wQ b.bt):=by rw [hz,List.take_of_length_le Om]
 clear nx hz
 refine zO (α:=Nat×List UInt8) (λx=>[(1,Zp b1 0),(3,.string (mkS x.2)),(7,YI (x.1:Int))]) (λ_=>[⟨b1,(rvC r).toArray,28⟩]) (λx m=>(x.1<=r.fts.length/\x.2=z++(r.fts.take x.1).flatMap (λf=>vB f.ft))/\m=r.fts.length-x.1) (0,z) r.fts.length [] ⟨⟨Nat.zero_le _,by show _=z++[];rw [List.append_nil]⟩,rfl⟩ ?_
 rintro ⟨i3,q⟩ m3 g3 kk ⟨⟨hi3,hq⟩,hm3⟩ nx hkk
 subst hkk
 replace hi3:i3<=r.fts.length:=hi3
 replace hq:q=z++(r.fts.take i3).flatMap (λf=>vB f.ft):=hq
 have hql:q.length<=300000000:=by
  have:=fP (λf:Fv=>vB f.ft) (l:=r.fts) i3
  rw [hq,List.length_append];omega
 refine zB 112 [0] ((i3:Int)<(r.fts.length:Int)) (λh112=> ?_) (λh112=> ?_)
 rotate_left
 ·refine z7 [] (.string (mkS q)) λw hO=>⟨?_,hO.below⟩
  rw [hT,hq,List.take_of_length_le Om,hz',hs']
 have hj:i3<r.fts.length:=by omega
 obtain ⟨eb,eo,hA,hel⟩:=hr.fts.top.elem vU i3 hj
 have hst:=wJ (λf:Fv=>vB f.ft) hj
 have hmem:r.fts[i3]∈r.fts:=List.getElem_mem hj
 have hone:=fm_one (λf:Fv=>vB f.ft) hmem
 have l0:∀ w,Below W.heap.size W w->(loadVar 9 ⟨eb,eo+i3*2+0,none⟩).run Tryz.prog w= .ok (.string (mkS r.fts[i3].name)) w:=λw hw=>hel w hw _ 0 _ Kr
 have l1:∀ w,Below W.heap.size W w->(loadVar 75 ⟨eb,eo+i3*2+1,none⟩).run Tryz.prog w= .ok (.slice r.fts[i3].A r.fts[i3].of.length r.fts[i3].cap) w:=λw hw=>hel w hw _ 1 _ Kr
 have hru:=hr.fts.each _ hmem;have hmu:=hr.fts.m _ hmem
 have hq2:q++vB r.fts[i3].ft=z++(r.fts.take (i3+1)).flatMap (λf=>vB f.ft):=by rw [hst,hq,List.append_assoc]
 generalize r.fts[i3]=u at l0 l1 hone hru hmu hq2
 have hfT:vB u.ft=zG 32 (xB::u.name::u.of)++[10]:=rfl
 have hfl:=congrArg List.length hfT
 simp only [List.length_append,List.length_cons,List.length_nil] at hfl
 rw [hfT] at hq2
 refine x_draw 18 [] (wL 50119 [0] 4 hA r.fts.length r.fc i3 2 hj (jU 50121 [] 6 9 eb (eo+i3*2+0) (.string (mkS u.name)) (λw hO=>l0 w hO.below) (wL 50126 [0] 11 hA r.fts.length r.fc i3 2 hj (jU 50128 [] 13 75 eb (eo+i3*2+1) (.slice u.A u.of.length u.cap) (λw hO=>l1 w hO.below) ?_))))
 refine kY [] 7 (fE 2 9 #[.string (mkS xB),.string (mkS u.name)] λb3=>kY [] 14 (xh_appR (g:=yV) u.of [] [⟨b3, #[.string (mkS xB),.string (mkS u.name)],9⟩] [⟨b1,(rvC r).toArray,28⟩] [⟨b3, #[.string (mkS xB),.string (mkS u.name)],9⟩,⟨b1,(rvC r).toArray,28⟩] [⟨b1,(rvC r).toArray,28⟩] (cp:=u.cap) (λw hO=>by simpa using hO) (λo w hO=>Own.sub o (by simpa using hO)) zX strC_one (λw hO=>hru.on hO.below hO.below.size) (sl_block (N:=2) rfl (by unfold maxLen;omega)) Om λv' ob' h=> ?_))
 have hS:SlT v' (xB::u.name::u.of) ob':=by
  unfold SlT
  rw [kS,show (xB::u.name::u.of).length=2+u.of.length by simp only [List.length_cons];omega]
  exact h
 have hJ:∀ w,Own [] W w (ob'++[⟨b1,(rvC r).toArray,28⟩])->YC 119 #[v',.int .u8 32] w (YR (.string (mkS (zG 32 (xB::u.name::u.of)))) w):=λw hO=>rjoin_any v' _ 32 w (hS.readsT hO λx hx=>List.mem_append_left _ hx) Om (by simp only [List.length_cons];omega)
 refine kY [] 15 (z8 (v:= .string (mkS (zG 32 (xB::u.name::u.of)))) [] (λw hO=>hJ w (hO.past 0 _)) (xh_cat 50131 [] 16 q (zG 32 (xB::u.name::u.of)) (xh_cat 50132 [] 17 (q++zG 32 (xB::u.name::u.of)) [10] ?_)))
 refine x_i 114 [] ((i3+1:Nat):Int) (yT [] [⟨b1,(rvC r).toArray,28⟩] (λw hO=>Own.sub ob' (hO.past 0 _)) ?_)
 exact (nx (i3+1,q++zG 32 (xB::u.name::u.of)++[10]) (r.fts.length-(i3+1)) [] Om ⟨⟨hj,by rw [←hq2];simp only [List.append_assoc]⟩,rfl⟩ Kr Kr)
end
section
def BuR (b:Nat)(l:List UInt8)(ob:List Blk):Prop:=
 ∃ p v g,ob=⟨b, #[p,v],133⟩::g/\(p= .pointer none\/p= .pointer (some ⟨b,0,none⟩))/\Sl 5 1 v l.length (Lib.byteCells l) g
theorem BuR.new (b:Nat):BuR b [] [⟨b, #[.pointer none,.slice none 0 0],133⟩]:=⟨_,_,[],rfl,.inl rfl,Sl.nil _ _⟩
theorem sizeWriterR:(Tryz.prog.info? 131).map (·.size)=some 2:=by kernel_rfl
theorem liesWriterR:liesAt Tryz.prog Tryz.prog.depth 133 (2/Tryz.prog.cellsOf 133) 0 131 1=true:=by kernel_rfl
theorem copyCheck_newR (b:Nat)(w:World)(h0:w.cell? ⟨b,0,none⟩=some (.pointer none))(hsh:w.shape? b=some (133,2))(hfz:w.frozen? ⟨b,0,none⟩=false):
  YC 223 #[.pointer (some ⟨b,0,none⟩)] w λe w'=>e= .returned (.tuple #[])/\w'=w.setCell ⟨b,0,none⟩ (.pointer (some ⟨b,0,none⟩)):=by
 obtain ⟨j,hj,hjs⟩:=Option.map_eq_some_iff.1 sizeWriterR
 go_enter Tryz.func223,Tryz.ntmps223
 go_wp2
 rw [Lib.run_to_unsafe w ⟨b,0,none⟩ Tryz.underlying129 Tryz.underlying281 hj (by rw [hjs];decide) hsh (Nat.zero_lt_succ 1)]
 simp only [Result.andThen]
 rw [Oper.upon_value]
 go_wp2
 rw [run_callFunc_extern Tryz.func267 Kr Kr Kr (e:=Extern.AbiNoEscape.same) Kr]
 rw [Lib.run_noEscape]
 simp only [Result.andThen]
 rw [Oper.upon_value]
 go_wp2
 rw [Lib.run_from_unsafe w ⟨b,0,none⟩ Tryz.underlying281 Tryz.underlying129 hj hsh liesWriterR]
 simp only [Result.andThen]
 rw [Oper.upon_value]
 go_wp2
 go_end0
 exact ⟨rfl,rfl⟩
theorem rcheck_any (b:Nat)(p v:Value)(R:List Blk)(M:List Nat)(W w:World)(hp:p= .pointer none\/p= .pointer (some ⟨b,0,none⟩))(hO:Own M W w (⟨b, #[p,v],133⟩::R)):
  YC 223 #[.pointer (some ⟨b,0,none⟩)] w λe w'=>e= .returned (.tuple #[])/\Own M W w' (⟨b, #[.pointer (some ⟨b,0,none⟩),v],133⟩::R):=by
 have hb:w.heap[b]?=some (.cells #[p,v] 133 (0,0)):=hO.held ⟨b, #[p,v],133⟩ (List.mem_cons_self ..)
 have c0:w.cell? ⟨b,0,none⟩=some p:=by rw [Lib.cell_of_heap hb];rfl
 rcases hp with rfl|rfl
 ·refine (copyCheck_newR b w c0 (by simp [World.shape?,hb]) (Lib.frozen_of_heap hb 0)).mono λe w' ⟨he,hw⟩=>⟨he, ?_⟩
  rw [hw,setCell_eq_setRow w b 0 _ _ _ _ hb]
  exact hO.put (i:=0) (x:=⟨b, #[.pointer none,v],133⟩) rfl _
 ·exact (tW b w c0).mono λe w' ⟨he,hw⟩=>⟨he,hw▸hO⟩
theorem infoU8R:∃ i,Tryz.prog.info? 5=some i/\i.zero=some (.int .u8 0)/\i.size=1/\i.bytes=1:=info_parts infoByte
theorem buR_own {B b:Nat}{l:List UInt8}{ob:List Blk}{M:List Nat}{W w:World}(hB:BuR b l ob)(hO:Own M W w ob)(hM:∀ x∈ob,B<=x.b):Lib.IsBuilder 133 5 B b (Lib.byteCells l) w:=by
 obtain ⟨p,v,g,rfl,hp,hv⟩:=hB
 have hb:w.heap[b]?=some (.cells #[p,v] 133 (0,0)):=hO.held ⟨b, #[p,v],133⟩ (List.mem_cons_self ..)
 have key:Lib.BuilderAt 133 5 B b p (Lib.byteCells l) w:=by
  refine ⟨hM ⟨b, #[p,v],133⟩ (List.mem_cons_self ..),v,hb, ?_, ?_⟩
  ·rw [Lib.byteCells_length]
   refine ⟨hv.1, ?_⟩
   rcases hv.2 with ⟨h1,h2,_⟩|⟨k,cap,cur,h1,rfl,h3,h4,h5,h6⟩
   ·exact .inl ⟨h1,h2⟩
   ·exact .inr ⟨k,cap,cur,h1,hM ⟨k,cur,5⟩ (by simp),hO.held ⟨k,cur,5⟩ (by simp),h3,h4,h5,h6⟩
  ·rcases hv.2 with ⟨rfl,_,_⟩|⟨k,cap,cur,rfl,rfl,_⟩
   ·simp [Value.ownBlock]
   ·intro e
    have hk:k=b:=by simpa [Value.ownBlock] using e
    have:=hO.apart
    simp [hk] at this
 rcases hp with rfl|rfl
 ·exact .inl key
 ·exact .inr key
theorem rstring_any0 (B b:Nat)(l:List UInt8)(w:World)(h:Lib.IsBuilder 133 5 B b (Lib.byteCells l) w)(h0:l≠[]):
  YC 107 #[.pointer (some ⟨b,0,none⟩)] w λe w'=>e= .returned (.string ⟨l.toArray⟩)/\Below B w w':=by
 obtain ⟨p,hB,v,hbk,hown,hne⟩:∃ p,Lib.BuilderAt 133 5 B b p (Lib.byteCells l) w:=h.elim (λq=>⟨_,q⟩) (λq=>⟨_,q⟩)
 rcases hown.2 with ⟨_,hz⟩|⟨g,cap,cur,rfl,hbg,hg,hnc,hcm,hcs,htake⟩
 ·exact absurd hz (byteCells_ne h0)
 rw [Lib.byteCells_length] at hown hnc hbk htake
 have hl0:l.length≠0:=λe=>h0 (List.eq_nil_of_length_eq_zero e)
 have hg':w.drew.heap[g]?=some (.cells cur 5 (0,0)):=hg
 have c1:w.drew.cell? ⟨b,1,none⟩=some (.slice (some ⟨g,0,none⟩) l.length cap):=by
  rw [Lib.cell_of_heap (show w.drew.heap[b]?=_ from hbk)];rfl
 have hSD:=Lib.run_unsafeSliceData_row (P:=Tryz.prog) w.drew #[90] 197 ⟨g,0,none⟩ l.length cap Om
 have hUS:=Lib.run_unsafeString_row (P:=Tryz.prog) w.drew 197 3 9 5 Tryz.underlying197 Kr g cur.size (by unfold World.shape?;rw [hg']) l h0 Om (by unfold maxLen at hcm;omega)
  (λj x hx=>hown.cells (g:=g) rfl j (.int .u8 x.toNat) (by simp [Lib.byteCells,hx]))
 go_enter Tryz.func107,Tryz.ntmps107
 go_wp2
 have mixed:Tryz.prog.follows .mixedOrders=true:=by kernel_rfl
 go_region_o
 all_goals
  go_wp2
  go_ret
  have hf:=Lib.below_freeze (Go.RowKit.Below.drew (Go.RowKit.Below.refl B w)) (p:=⟨g,0,none⟩) hbg l.length
  exact ⟨rfl,hf.os,hf.tape,hf.output,hf.size,by rw [freeze_draws];exact Nat.le_succ _,hf.block⟩
theorem rstring_any (b:Nat)(l:List UInt8)(ob:List Blk)(W w:World)(hB:BuR b l ob)(hO:Own [] W w ob)(h0:l≠[]):
  YC 107 #[.pointer (some ⟨b,0,none⟩)] w λe w'=>e= .returned (.string (mkS l))/\Own [] W w' []:=
 (rstring_any0 W.heap.size b l w (buR_own hB hO λx hx=>(hO.base x hx).elim id λq=>by simp at q) h0).mono λe w' ⟨he,hb⟩=>by
  have hb2:=hO.below.trans hb
  exact ⟨he,hb2.os,hb2.tape,hb2.output,hb2.size,hb2.drawn,λk hk _=>hb2.block k hk,by simp,by simp,by simp⟩
theorem rWrite_any (b:Nat)(l:List UInt8)(s:List UInt8)(ob:List Blk)(W:World)(hB:BuR b l ob)(hO:Own (ob.map Blk.b) W W ob)(hl:l.length<=1000000000000)(hs:s.length<=1000000000000):
  YC 163 #[.pointer (some ⟨b,0,none⟩),.string (mkS s)] W λe w'=>∃ ob',e= .returned (.tuple #[YI ((mkS s).size:Int),.nilIface])/\BuR b (l++s) ob'/\Own (ob.map Blk.b) W w' ob':=by
 obtain ⟨p,v,g,rfl,hp,hv⟩:=hB
 obtain ⟨A,cap,rfl⟩:=Sl.form hv
 have hsz:=zQ s
 refine calls_okL (n:=19) hO Tryz.func163 rfl Kr Kr (ZO (Zv (YI 0) (Zv (.nilIface) (ZR (Zv (Zp b 0) (Zr (k:=223) (args:= #[Zp b 0]) (λv' L'=>v'= .tuple #[]/\L'=⟨b, #[Zp b 0,.slice A l.length cap],133⟩::g) (λw hO=>(rcheck_any b p _ _ _ _ w hp hO).mono λe w' ⟨k1,k2⟩=>⟨_,_,k1,⟨rfl,rfl⟩,k2⟩) (λv0 L0 hv0=> ?_)))))))
 obtain ⟨rfl,rfl⟩:=hv0
 refine ZR (Zv (Zp b 0) (Zv (Zp b 0) (Zv (Zp b 0) (Zv (Zp b 1) (Zl 0 ⟨b, #[Zp b 0,.slice A l.length cap],133⟩ (off:=1) (.slice A l.length cap) (Zv (.string (mkS s)) ?_))))))
 obtain ⟨i0,e1,e2,e3,e4⟩:=infoU8R
 refine fH (L':=[⟨b, #[Zp b 0,.slice A l.length cap],133⟩]++g++[]) (by simp) (s_appstr Kr rfl Tryz.underlying90 Tryz.underlying9 e1 e2 e3 e4 Kr hv (s:=mkS s) Kr (by rw [hsz];unfold maxLen;omega) (by rw [hsz];omega) (λv2 g2 hv2=> ?_))
 have hv3:Sl 5 1 v2 (l++s).length (Lib.byteCells (l++s)) g2:=by rw [List.length_append,Lib.byteCells_append];rw [hsz,dH] at hv2;exact hv2
 obtain ⟨A2,cap2,rfl⟩:=Sl.form hv3
 refine fH (L':=⟨b, #[Zp b 0,.slice A l.length cap],133⟩::(g2)) (by simp) (Zv (Zp b 0) (Zv (Zp b 1) (Zs 0 ⟨b, #[Zp b 0,.slice A l.length cap],133⟩ (off:=1) (.slice A2 ((l++s).length) cap2) (ZR (Zv (.string (mkS s)) (Zv (YI ((mkS s).size)) (Zv (YI ((mkS s).size)) (Zv (.nilIface) ?_))))))))
 exact ZN (kG (ZG (YI ((mkS s).size)) (.nilIface) Tryz.results163 (λw hO=>⟨_,rfl,⟨_,_,g2,rfl,.inr rfl,hv3⟩,hO⟩)))
theorem rByte_any (b:Nat)(l:List UInt8)(c:UInt8)(z:Int)(ob:List Blk)(W:World)(hB:BuR b l ob)(hO:Own (ob.map Blk.b) W W ob)(hl:l.length<=1000000000000)(hz:(c.toNat:Int)=z):
  YC 165 #[.pointer (some ⟨b,0,none⟩),.int .u8 z] W λe w'=>∃ ob',e= .returned (.nilIface)/\BuR b (l++[c]) ob'/\Own (ob.map Blk.b) W w' ob':=by
 obtain ⟨p,v,g,rfl,hp,hv⟩:=hB
 obtain ⟨A,cap,rfl⟩:=Sl.form hv
 subst hz
 refine calls_okL (n:=17) hO Tryz.func165 rfl Kr Kr (ZO (Zv (.nilIface) (ZR (Zv (Zp b 0) (Zr (k:=223) (args:= #[Zp b 0]) (λv' L'=>v'= .tuple #[]/\L'=⟨b, #[Zp b 0,.slice A l.length cap],133⟩::g) (λw hO=>(rcheck_any b p _ _ _ _ w hp hO).mono λe w' ⟨k1,k2⟩=>⟨_,_,k1,⟨rfl,rfl⟩,k2⟩) (λv0 L0 hv0=> ?_))))))
 obtain ⟨rfl,rfl⟩:=hv0
 refine ZR (Zv (Zp b 0) (Zv (Zp b 0) (Zv (Zp b 0) (Zv (Zp b 1) (Zl 0 ⟨b, #[Zp b 0,.slice A l.length cap],133⟩ (off:=1) (.slice A l.length cap) (Zv (.int .u8 (c.toNat:Int)) (s_lit 5 #[.int .u8 (c.toNat:Int)] Kr rfl (λ_=>Kr) (λb1=> ?_))))))))
 obtain ⟨i0,e1,e2,e3,e4⟩:=infoU8R
 refine fH (L':=[⟨b1, #[.int .u8 (c.toNat:Int)],5⟩,⟨b, #[Zp b 0,.slice A l.length cap],133⟩]++g++[]) (by simp) (s_append (sz:=1) Kr rfl Tryz.underlying90 e1 e2 e3 rfl Kr hv (a:=⟨b1,0,none⟩) (m:=1) (c:=1) (news:=Lib.byteCells [c]) Kr rfl (λw hO j u hj=> ?_) (λu hu=>by rw [List.mem_singleton.1 hu];rfl) (by unfold maxLen;omega) (by rw [e4];omega) (λv2 g2 hv2=> ?_))
 ·rw [xG,cell_of_row w b1 (0+j) (Lib.byteCells [c]).toArray 5 _ (hO.held ⟨b1,(Lib.byteCells [c]).toArray,5⟩ (List.mem_append_left _ (List.mem_append_left _ (List.mem_cons_self ..))))];simpa using hj
 have hv3:Sl 5 1 v2 (l++[c]).length (Lib.byteCells (l++[c])) g2:=by rw [List.length_append,Lib.byteCells_append];exact hv2
 obtain ⟨A2,cap2,rfl⟩:=Sl.form hv3
 refine fH (L':=⟨b1, #[.int .u8 (c.toNat:Int)],5⟩::(⟨b, #[Zp b 0,.slice A l.length cap],133⟩::(g2))) (by simp) (Zv (Zp b 0) (Zv (Zp b 1) (Zs 1 ⟨b, #[Zp b 0,.slice A l.length cap],133⟩ (off:=1) (.slice A2 ((l++[c]).length) cap2) (ZR (Zv (.nilIface) (ZN (kG ?_)))))))
 exact ZF (.nilIface) Tryz.results165 (λw hO=>⟨_,rfl,⟨_,_,g2,rfl,.inr rfl,hv3⟩,Own.sub [⟨b1, #[.int .u8 (c.toNat:Int)],5⟩] hO⟩)
end
section
set_option linter.unnecessarySimpa false
theorem rq_write (b:Nat)(l s:List UInt8)(R ob:List Blk){M:List Nat}{W:World}(hB:BuR b l ob)(hl:l.length<=1000000000000)(hs:s.length<=1000000000000):∀ w,Own M W w (R++ob)->YC 163 #[.pointer (some ⟨b,0,none⟩),.string (mkS s)] w λe w'=>∃ v ob',e= .returned v/\BuR b (l++s) ob'/\Own (ob.map Blk.b) w w' ob':=
 λw hO=>(rWrite_any b l s ob w hB (Own.lentR hO) hl hs).mono λe w' ⟨ob',k1,k2,k3⟩=>⟨_,ob',k1,k2,k3⟩
theorem qLine_any (b:Nat)(l:List UInt8)(ws:List (List UInt8))(v:Value)(wb ob:List Blk)(W:World)(hB:BuR b l ob)(hw:SlT v ws wb)(hO:Own ((wb++ob).map Blk.b) W W (wb++ob))(hl:l.length<=1000000000)(hj:(zG 32 ws).length<=400000000)(hn:ws.length<=1000000)(hne:zG 32 ws≠[]):YC 103 #[.pointer (some ⟨b,0,none⟩),v] W λe w'=>∃ ob',e= .returned (.tuple #[])/\BuR b (l++(zG 32 ws++[10])) ob'/\Own ((wb++ob).map Blk.b) W w' (wb++ob'):=by
 obtain ⟨A,cap,rfl⟩:=SlT.form hw
 have hJ:∀ w,Own ((wb++ob).map Blk.b) W w (wb++ob)->YC 164 #[.slice A ws.length cap,.int .u8 32] w (YR (.string (mkS (zG 32 ws))) w):=λw hO=>bJ _ ws 32 w (hw.readsT hO λx hx=>List.mem_append_left _ hx) Om Om hne
 refine zN hO Tryz.func103 (x_drawLF (.s .z) 6 [] wb (λw hO=>(hO.past 0 (wb++ob)).sublist (List.sublist_append_left _ _)) (kY [] 4 (z8 (v:= .string (mkS (zG 32 ws))) [] (λw hO=>hJ w (hO.past 0 _)) (kY [] 5 ?_))))
 exact xh_callL (Rr:=λ_ ob'=>BuR b (l++zG 32 ws) ob') (wb++ob) wb ob wb (λw hO=>hO) (λo w hO=>hO.sublist (List.sublist_append_left _ _)) (rq_write b l (zG 32 ws) wb ob hB Om Om) λv1 o1 h1=>(x8 (k:=165) (args:= #[Zp b 0,.int .u8 10]) (Rr:=λ_ ob'=>BuR b (l++zG 32 ws++[10]) ob') [] (wb++o1) wb o1 (λw hO=>hO) (λw hO=>(rByte_any b (l++zG 32 ws) 10 10 o1 w h1 (Own.lentR hO) (by simp only [List.length_append];omega) rfl).mono λe w' ⟨ob',k1,k2,k3⟩=>⟨_,ob',k1,k2,k3⟩) λv2 o2 h2=>(xN [] λw hO=>⟨o2,rfl,by rw [←List.append_assoc];exact h2,hO.past 0 _⟩))
def n6 (w s:List UInt8):List UInt8:=if s=[] then [] else w++[32]++s++[10]
theorem qlit (b N:Nat)(cs:Array Value)(ws:List (List UInt8))(hc:cs.toList=jM ws)(hN:ws.length=N)(hM:N<=1000):SlT (.slice (some ⟨b,0,none⟩) N N) ws [⟨b,cs,9⟩]:=by
 subst hN
 unfold SlT
 rw [←hc]
 refine sl_block ?_ (by unfold maxLen;omega)
 rw [←Array.length_toList,hc,kS]
 have:=jF zX ws
 omega
theorem q_line {M:List Nat}{W:World}(b:Nat)(l:List UInt8)(ws:List (List UInt8))(v:Value)(R wb ob:List Blk)(hB:BuR b l ob)(hw:SlT v ws wb)(hl:l.length<=1000000000)(hj:(zG 32 ws).length<=400000000)(hn:ws.length<=1000000)(hne:zG 32 ws≠[]):∀ w,Own M W w (R++(wb++ob))->YC 103 #[.pointer (some ⟨b,0,none⟩),v] w λe w'=>∃ v' o,e= .returned v'/\(∃ ob',BuR b (l++(zG 32 ws++[10])) ob'/\o=wb++ob')/\Own ((wb++ob).map Blk.b) w w' o:=
 λw hO=>(qLine_any b l ws v wb ob w hB hw (Own.lentR hO) hl hj hn hne).mono λe w' ⟨ob',k1,k2,k3⟩=>⟨_,_,k1,⟨ob',k2,rfl⟩,k3⟩
theorem qMaybe_any (b:Nat)(l wd s:List UInt8)(ob:List Blk)(W:World)(hB:BuR b l ob)(hO:Own (ob.map Blk.b) W W ob)(hl:l.length<=900000000)(hw:wd≠[]/\wd.length<=100)(hs:s.length<=100000000):YC 106 #[.pointer (some ⟨b,0,none⟩),.string (mkS wd),.string (mkS s)] W λe w'=>∃ ob',e= .returned (.tuple #[])/\BuR b (l++n6 wd s) ob'/\Own (ob.map Blk.b) W w' ob':=by
 have hT:zG 32 [wd,s]=wd++32::s:=rfl
 refine zN hO Tryz.func106 (gX 7 [] s [] (λh=> ?_) (λh=> ?_))
 ·exact xN [] λw hO=>⟨ob,rfl,by rw [n6,if_pos h,List.append_nil];exact hB,hO.past 0 _⟩
 refine qO [] 2 9 #[.string (mkS wd),.string (mkS s)] λg=>(x8 [] ([⟨g, #[.string (mkS wd),.string (mkS s)],9⟩]++ob) [] ([⟨g, #[.string (mkS wd),.string (mkS s)],9⟩]++ob) (λw hO=>hO) (q_line b l [wd,s] _ [] _ ob hB (qlit g 2 _ [wd,s] rfl rfl Om) Om (by rw [hT];simp only [List.length_append,List.length_cons];omega) (by simp) (by rw [hT];simp [hw.1])) λv1 o1 ⟨ob',k1,k2⟩=> ?_)
 subst k2
 have hz:l++(zG 32 [wd,s]++[10])=l++n6 wd s:=by rw [n6,if_neg h,hT];simp
 rw [hz] at k1
 exact xN [] λw hO=>⟨ob',rfl,k1,hO.past 1 _⟩
theorem q_maybe {M:List Nat}{W:World}(b:Nat)(l wd s:List UInt8)(R ob:List Blk)(hB:BuR b l ob)(hl:l.length<=900000000)(hw:wd≠[]/\wd.length<=100)(hs:s.length<=100000000):∀ w,Own M W w (R++ob)->YC 106 #[.pointer (some ⟨b,0,none⟩),.string (mkS wd),.string (mkS s)] w λe w'=>∃ v' o,e= .returned v'/\BuR b (l++n6 wd s) o/\Own (ob.map Blk.b) w w' o:=
 λw hO=>(qMaybe_any b l wd s ob w hB (Own.lentR hO) hl hw hs).mono λe w' ⟨ob',k1,k2,k3⟩=>⟨_,_,k1,k2,k3⟩
theorem maybe_when (s:List UInt8):n6 vQ s=v8 s:=by
 unfold n6 v8
 split
 ·rfl
 ·simp [vQ,pA]
theorem maybe_opt (s:List UInt8):n6 wOpt s=tM s:=by
 unfold n6 tM
 split
 ·rfl
 ·simp [wOpt,txOpt]
theorem joinL_ne (b:UInt8):∀ {l:List (List UInt8)},l≠[]->(∀ s∈l,s≠[])->zG b l≠[]
 | [],h,_=>absurd rfl h
 | [x],_,h=>h x (List.mem_singleton.2 rfl)
 |x::y::r,_,_=>by rw [zG];simp
theorem own_rot3 {M:List Nat}{W w:World}{x y z:Blk}{L:List Blk}(h:Own M W w (x::y::z::L)):Own M W w (y::z::x::L):=h.perm ((List.Perm.swap ..).trans (List.Perm.cons _ (List.Perm.swap ..)))
def ndB (n:Nv)(b:Nat):Blk:=⟨b, #[.slice n.A n.any.length n.cap,.string (mkS n.wh),.string (mkS n.opt)],74⟩
def wsB (u:Wv)(b:Nat):Blk:=⟨b, #[.string (mkS u.name),.string (mkS u.rng),.slice u.A u.fs.length u.cap,.bool u.bare],77⟩
theorem qNeedW_any (B b:Nat)(l:List UInt8)(n:Nv)(ob:List Blk)(W:World)(hB:BuR b l ob)(hO:Own (ob.map Blk.b) W W ob)(hge:∀ x∈ob,B<=x.b)(hBW:B<=W.heap.size)(hv:Reads wvC W B n.A n.any)(hf:∀ u∈n.any,Reads yV W B u.A u.fs)(hn:n.any.length<=5000)(hnf:∀ u∈n.any,u.fs.length<=5000)(hfe:∀ u∈n.any,∀ s∈u.fs,s≠[])(hs:n.wh.length<=1000000/\n.opt.length<=1000000)(hl:l.length+(kN n.nt).length<=300000000):YC 105 #[.pointer (some ⟨b,0,none⟩),nvV n] W λe w'=>∃ ob',e= .returned (.tuple #[])/\BuR b (l++kN n.nt) ob'/\Own (ob.map Blk.b) W w' ob':=by
 have hM':∀ k∈ob.map Blk.b,B<=k:=λk hk=>by obtain ⟨x,hx,rfl⟩:=List.mem_map.1 hk;exact hge x hx
 have hnT:kN n.nt=txNeed++n.any.flatMap (λu=>kI u.wt)++v8 n.wh++tM n.opt:=by
  unfold kN;simp only [Nv.nt,List.flatMap_map]
 have hnl:=congrArg List.length hnT
 simp only [List.length_append] at hnl
 have hn5:txNeed.length=5:=rfl
 refine zN hO Tryz.func105 (yN [] λb3=>qO [] 1 9 #[.string (mkS bQ)] λg=> ?_)
 refine x8 [] (⟨g, #[.string (mkS bQ)],9⟩::ndB n b3::ob) [ndB n b3] ([⟨g, #[.string (mkS bQ)],9⟩]++ob) (λw hO=>hO.swap) (q_line b l [bQ] _ _ _ ob hB (qlit g 1 _ [bQ] rfl rfl Om) Om (by decide) (by simp) (by decide)) λv1 o1 ⟨ob1,k1,k2⟩=> ?_
 subst k2
 refine yT [0] (ndB n b3::ob1) (λw hO=>(hO.past 0 (ndB n b3::⟨g, #[.string (mkS bQ)],9⟩::ob1)).swap.past 1 _) (zO (α:=Nat×List Blk) (λx=>[(0,Zp b 0),(3,Zp b3 0),(12,.slice n.A n.any.length n.cap),(13,YI (n.any.length:Int)),(14,YI (x.1:Int))]) (λx=>ndB n b3::x.2) (λx m=>(x.1<=n.any.length/\BuR b (l++txNeed++(n.any.take x.1).flatMap (λu=>kI u.wt)) x.2)/\m=n.any.length-x.1) (0,ob1) n.any.length [] ⟨⟨Nat.zero_le _,by simp only [List.take_zero,List.flatMap_nil,List.append_nil];exact k1⟩,rfl⟩ ?_)
 rintro ⟨i,o⟩ mm gg kk ⟨⟨hi,ho⟩,hmm⟩ nx hkk
 subst hkk
 replace hi:i<=n.any.length:=hi
 replace ho:BuR b (l++txNeed++(n.any.take i).flatMap (λu=>kI u.wt)) o:=ho
 have hpt:=fP (λu:Wv=>kI u.wt) (l:=n.any) i
 have hpl:(l++txNeed++(n.any.take i).flatMap (λu=>kI u.wt)).length<=300000000:=by simp only [List.length_append];omega
 refine zB 15 [] ((i:Int)<(n.any.length:Int)) (λh15=> ?_) (λh15=> ?_)
 ·have hj:i<n.any.length:=by omega
  obtain ⟨eb,eo,hA,hel⟩:=hv.elem p9 i hj
  have hst:=wJ (λu:Wv=>kI u.wt) hj
  have hsm:n.any[i]∈n.any:=List.getElem_mem hj
  have hone:=fm_one (λu:Wv=>kI u.wt) hsm
  have hel0:∀ w,Below B W w->(loadVar 77 ⟨eb,eo+i*4+0,none⟩).run Tryz.prog w= .ok (wvV n.any[i]) w:=λw hw=>hel w hw _ 0 _ Kr
  have hru:=hf _ hsm;have hnu:=hnf _ hsm;have hfu:=hfe _ hsm
  have hw2:l++txNeed++(n.any.take i).flatMap (λu=>kI u.wt)++kI n.any[i].wt=l++txNeed++(n.any.take (i+1)).flatMap (λu=>kI u.wt):=by rw [hst,←List.append_assoc]
  generalize n.any[i]=u at hel0 hone hru hnu hfu hw2
  generalize l++txNeed++(n.any.take i).flatMap (λu=>kI u.wt)=done at*
  have huT:kI u.wt=zG 32 [nD,u.name,bF u.fs,dW u.bare,u.rng]++[10]:=(wishL_text u.wt).symm
  have hul:=congrArg List.length huT
  rw [List.length_append] at hul
  have hfl:(bF u.fs).length<=(zG 32 [nD,u.name,bF u.fs,dW u.bare,u.rng]).length:=jn_part 32 (by simp)
  have hJ:∀ w,Below B W w->u.fs≠[]->YC 164 #[.slice u.A u.fs.length u.cap,.int .u8 44] w (YR (.string (mkS (bF u.fs))) w):=λw hb hne=>by
   have hw:bF u.fs=zG 44 u.fs:=if_neg hne
   rw [hw]
   exact bJ _ u.fs 44 w (reads_t (hru.on hb (Nat.le_trans hBW hb.size)) (Nat.le_refl _)) (by rw [←hw];omega) Om (joinL_ne 44 hne hfu)
  refine zJ 16 [] hA n.any.length n.cap i 4 hj (zH 17 [] 77 eb (eo+i*4+0) (wvV u) (λw hO=>hel0 w (hO.belowB hM' hBW)) (zL [] λb5=>dB 21 (α:=List UInt8) (λfl=>[(0,Zp b 0),(3,Zp b3 0),(5,Zp b5 0),(6,.string (mkS fl)),(7,.string (mkS fG)),(12,.slice n.A n.any.length n.cap),(13,YI (n.any.length:Int)),(14,YI (i:Int))]) (λ_=>wsB u b5::ndB n b3::o) (λfl=>fl=bF u.fs) [0,0] (λnj=>x_now 21 ((u.fs.length:Int)>0) (λh=> ?_) (λh=> ?_)) (λfl g1 hfl1=> ?_)))
  ·exact z8 (v:= .string (mkS (bF u.fs))) [0] (λw hO=>hJ w (hO.belowB hM' hBW) (λe=>by rw [e] at h;simp at h)) (nj (bF u.fs) [] rfl Kr)
  ·exact nj [45] [] (show [45]=bF u.fs from by unfold bF;rw [if_pos (List.eq_nil_of_length_eq_zero Om)]) Kr
  refine dB 26 (α:=List UInt8) (λkd=>[(0,Zp b 0),(3,Zp b3 0),(5,Zp b5 0),(6,.string (mkS fl)),(7,.string (mkS kd)),(12,.slice n.A n.any.length n.cap),(13,YI (n.any.length:Int)),(14,YI (i:Int))]) (λ_=>wsB u b5::ndB n b3::o) (λkd=>kd=dW u.bare) [0] (λnj=>zU 26 u.bare (λh=>nj vN [] (by rw [h];rfl) Kr) (λh=>nj fG [] (by rw [h];rfl) Kr)) (λkd g2 hkd=> ?_)
  subst hfl1;subst hkd
  refine qO [0,0] 5 9 #[.string (mkS nD),.string (mkS u.name),.string (mkS (bF u.fs)),.string (mkS (dW u.bare)),.string (mkS u.rng)] λg3=>(x8 [] (⟨g3, #[.string (mkS nD),.string (mkS u.name),.string (mkS (bF u.fs)),.string (mkS (dW u.bare)),.string (mkS u.rng)],9⟩::wsB u b5::ndB n b3::o) [wsB u b5,ndB n b3] ([⟨g3, #[.string (mkS nD),.string (mkS u.name),.string (mkS (bF u.fs)),.string (mkS (dW u.bare)),.string (mkS u.rng)],9⟩]++o) (λw hO=>own_rot3 hO) (q_line b done [nD,u.name,bF u.fs,dW u.bare,u.rng] _ _ _ o ho (qlit g3 5 _ _ rfl rfl Om) Om Om (by simp) (by simp [zG,nD])) λv2 o2 ⟨ob2,q1,q2⟩=> ?_)
  subst q2
  rw [←huT,hw2] at q1
  exact x_i 14 [] ((i+1:Nat):Int) (yT [] (ndB n b3::ob2) (λw hO=>(hO.past 1 (ndB n b3::⟨g3, #[.string (mkS nD),.string (mkS u.name),.string (mkS (bF u.fs)),.string (mkS (dW u.bare)),.string (mkS u.rng)],9⟩::ob2)).swap.past 1 _) (nx (i+1,ob2) (n.any.length-(i+1)) [] Om ⟨⟨hj,q1⟩,rfl⟩ Kr Kr))
 rw [List.take_of_length_le (show n.any.length<=i by omega)] at ho
 clear nx
 have hwl:(v8 n.wh).length<=300000000:=by omega
 refine x8 [0] (ndB n b3::o) [ndB n b3] o (λw hO=>hO) (q_maybe b _ vQ n.wh [ndB n b3] o ho (by simp only [List.length_append];omega) (by decide) Om) λv3 o3 h3=> ?_
 rw [maybe_when] at h3
 refine x8 [0] (ndB n b3::o3) [ndB n b3] o3 (λw hO=>hO) (q_maybe b _ wOpt n.opt [ndB n b3] o3 h3 (by simp only [List.length_append];omega) (by decide) Om) λv4 o4 h4=> ?_
 rw [maybe_opt] at h4
 refine xN [] λw hO=>⟨o4,rfl, ?_,hO.past 1 _⟩
 rw [hnT]
 simpa only [List.append_assoc] using h4
end
section
set_option linter.unnecessarySimpa false
theorem partsE_is (r:Rv):kZ r.rt=if (kW (λn:Nv=>gN r.name n.nt) 0 r.needs).1≠0 then kW (λn:Nv=>gN r.name n.nt) 0 r.needs
 else if (kW (λb:Bv=>wR r.name b.bt) 0 r.bars).1≠0 then kW (λb:Bv=>wR r.name b.bt) 0 r.bars
 else if d4 (yO r.fts)=false then (11,0)
 else kW (λf:Fv=>yR (xK r.rt.needs) f.of) 0 r.fts:=by
 unfold kZ
 rw [show r.rt.needs=r.needs.map Nv.nt from rfl,show r.rt.bars=r.bars.map Bv.bt from rfl,show r.rt.fts=r.fts.map Fv.ft from rfl,pQ,pQ,pQ];rfl
theorem r12parts_any (r:Rv)(W:World)(hr:RcIn W W.heap.size r):YC 61 #[rvV r] W (YR (.tuple #[YI (kZ r.rt).1,YI (kZ r.rt).2]) W):=by
 have hE:=partsE_is r
 have hnn:=hr.nn;have hnb:=hr.nb;have hfn:=hr.fts.n
 refine zE Tryz.func61 (yN [] λb1=>zO (α:=Nat) (λi=>[(1,Zp b1 0),(4,YI (i:Int))]) (λ_=>[⟨b1,(rvC r).toArray,28⟩]) (λi m=>(i<=r.needs.length∧∀ n∈r.needs.take i,gN r.name n.nt=0)/\m=r.needs.length-i) 0 r.needs.length [] ⟨⟨Nat.zero_le _,λy h=>by simp at h⟩,rfl⟩ ?_)
 rintro i mm g kk ⟨⟨hi,hno⟩,hmm⟩ nx hkk
 subst hkk
 refine zB 14 [0] ((i:Int)<(r.needs.length:Int)) (λh14=> ?_) (λh14=> ?_)
 ·have hj:i<r.needs.length:=by omega
  obtain ⟨eb,eo,hA,hel⟩:=hr.needs.elem jO i hj
  have hgo:=y9 (p:=λn:Nv=>gN r.name n.nt=0) hj hno
  have hat:=d8 (f:=λn:Nv=>gN r.name n.nt) 0 hj hno
  have hsm:r.needs[i]∈r.needs:=List.getElem_mem hj
  have hel0:∀ w,Below W.heap.size W w->(loadVar 74 ⟨eb,eo+i*3+0,none⟩).run Tryz.prog w= .ok (nvV r.needs[i]) w:=λw hw=>hel w hw _ 0 _ Kr
  have hra:=hr.any _ hsm;have hrf:=hr.wfs _ hsm;have hna:=hr.na _ hsm;have hnf:=hr.nf _ hsm;have hsw:=hr.sw _ hsm;have hsu:=hr.su _ hsm
  generalize r.needs[i]=n at hel0 hgo hat hra hrf hna hnf hsw hsu
  have hc:∀ w,Below W.heap.size W w->YC 112 #[rvV r,nvV n] w (YR (YI (gN r.name n.nt)) w):=λw hb=>r12need_any r n w (hra.on hb hb.size) (λu hu=>(hrf u hu).on hb hb.size) hna hnf hsw hsu
  refine zJ 21 [0,0] hA r.needs.length r.nc i 3 hj (zH 22 [] 74 eb (eo+i*3+0) (nvV n) (λw hO=>hel0 w hO.below) (z8 (v:=YI (gN r.name n.nt)) [] (λw hO=>hc w hO.below) (jW 25 [] (gN r.name n.nt=0) (λh=> ?_) (λh=> ?_))))
  ·exact x_i 16 [] ((i+1:Nat):Int) (nx (i+1) (r.needs.length-(i+1)) [] Om ⟨⟨hj,hgo h⟩,rfl⟩ Kr Kr)
  ·refine yI [] (YI (gN r.name n.nt)) (YI (i:Int)) λw hO=>⟨?_,hO.below⟩
   rw [hE,hat h,if_pos h];simp only [Nat.zero_add]
 have h1:=jG (k:=0) (yQ (p:=λn:Nv=>gN r.name n.nt=0) (show r.needs.length<=i by omega) hno)
 rw [h1,if_neg (by simp)] at hE
 clear nx
 refine zO (α:=Nat) (λi=>[(1,Zp b1 0),(6,YI (i:Int))]) (λ_=>[⟨b1,(rvC r).toArray,28⟩]) (λi m=>(i<=r.bars.length∧∀ b∈r.bars.take i,wR r.name b.bt=0)/\m=r.bars.length-i) 0 r.bars.length [] ⟨⟨Nat.zero_le _,λy h=>by simp at h⟩,rfl⟩ ?_
 rintro i2 m2 g2 kk ⟨⟨hi2,hno2⟩,hmm2⟩ nx hkk
 subst hkk
 refine zB 32 [0] ((i2:Int)<(r.bars.length:Int)) (λh32=> ?_) (λh32=> ?_)
 ·have hj:i2<r.bars.length:=by omega
  obtain ⟨eb,eo,hA,hel⟩:=hr.bars.elem pR i2 hj
  have hgo:=y9 (p:=λb:Bv=>wR r.name b.bt=0) hj hno2
  have hat:=d8 (f:=λb:Bv=>wR r.name b.bt) 0 hj hno2
  have hsm:r.bars[i2]∈r.bars:=List.getElem_mem hj
  have hel0:∀ w,Below W.heap.size W w->(loadVar 80 ⟨eb,eo+i2*3+0,none⟩).run Tryz.prog w= .ok (bvV r.bars[i2]) w:=λw hw=>hel w hw _ 0 _ Kr
  have hsb:=hr.sb _ hsm
  generalize r.bars[i2]=b at hel0 hgo hat hsb
  have hc:∀ w,Below W.heap.size W w->YC 113 #[rvV r,bvV b] w (YR (YI (wR r.name b.bt)) w):=λw hb=>r12bar_any r b w hsb
  refine zJ 39 [0,0] hA r.bars.length r.bc i2 3 hj (zH 40 [] 80 eb (eo+i2*3+0) (bvV b) (λw hO=>hel0 w hO.below) (z8 (v:=YI (wR r.name b.bt)) [] (λw hO=>hc w hO.below) (jW 43 [] (wR r.name b.bt=0) (λh=> ?_) (λh=> ?_))))
  ·exact x_i 34 [] ((i2+1:Nat):Int) (nx (i2+1) (r.bars.length-(i2+1)) [] Om ⟨⟨hj,hgo h⟩,rfl⟩ Kr Kr)
  ·refine yI [] (YI (wR r.name b.bt)) (YI (i2:Int)) λw hO=>⟨?_,hO.below⟩
   rw [hE,hat h,if_pos h];simp only [Nat.zero_add]
 have h2:=jG (k:=0) (yQ (p:=λb:Bv=>wR r.name b.bt=0) (show r.bars.length<=i2 by omega) hno2)
 rw [h2,if_neg (by simp)] at hE
 clear nx
 have hM:∀ w,Below W.heap.size W w->YC 114 #[.slice r.fA r.fts.length r.fc] w (YR (.bool (d4 (yO r.fts))) w):=λw hb=>r11May_any r.fA r.fc r.fts w (hr.fts.on hb hb.size)
 refine z8 (v:= .bool (d4 (yO r.fts))) [0] (λw hO=>hM w hO.below) (zU 48 (d4 (yO r.fts)) (λe3=> ?_) (λe3=> ?_))
 rotate_left
 ·exact yI [] (YI 11) (YI 0) λw hO=>⟨by rw [hE,if_pos e3],hO.below⟩
 rw [if_neg (by simp [e3])] at hE
 refine zO (α:=Nat) (λi=>[(1,Zp b1 0),(8,YI (i:Int))]) (λ_=>[⟨b1,(rvC r).toArray,28⟩]) (λi m=>(i<=r.fts.length∧∀ f∈r.fts.take i,yR (xK r.rt.needs) f.of=0)/\m=r.fts.length-i) 0 r.fts.length [] ⟨⟨Nat.zero_le _,λy h=>by simp at h⟩,rfl⟩ ?_
 rintro i3 m3 g3 kk ⟨⟨hi3,hno3⟩,hmm3⟩ nx hkk
 subst hkk
 refine zB 54 [0] ((i3:Int)<(r.fts.length:Int)) (λh54=> ?_) (λh54=> ?_)
 rotate_left
 ·refine yI [] (YI 0) (YI 0) λw hO=>⟨?_,hO.below⟩
  rw [hE,jG (k:=0) (yQ (p:=λf:Fv=>yR (xK r.rt.needs) f.of=0) (show r.fts.length<=i3 by omega) hno3)]
 have hj:i3<r.fts.length:=by omega
 obtain ⟨eb,eo,hA,hel⟩:=hr.fts.top.elem vU i3 hj
 have hgo:=y9 (p:=λf:Fv=>yR (xK r.rt.needs) f.of=0) hj hno3
 have hat:=d8 (f:=λf:Fv=>yR (xK r.rt.needs) f.of) 0 hj hno3
 have hsm:r.fts[i3]∈r.fts:=List.getElem_mem hj
 have hel0:∀ w,Below W.heap.size W w->(loadVar 75 ⟨eb,eo+i3*2+1,none⟩).run Tryz.prog w= .ok (.slice r.fts[i3].A r.fts[i3].of.length r.fts[i3].cap) w:=λw hw=>hel w hw _ 1 _ Kr
 have hru:=hr.fts.each _ hsm;have hmu:=hr.fts.m _ hsm;have htu:=hr.fts.text _ hsm
 generalize r.fts[i3]=u at hel0 hgo hat hru hmu htu
 have hc:∀ w,Below W.heap.size W w->YC 115 #[rvV r,.slice u.A u.of.length u.cap] w (YR (YI (yR (xK r.rt.needs) u.of)) w):=λw hb=>r12items_any r u.A u.cap u.of w (hr.on hb hb.size) (hru.on hb hb.size) Om htu
 refine zJ 61 [0,0] hA r.fts.length r.fc i3 2 hj (zH 63 [] 75 eb (eo+i3*2+1) (.slice u.A u.of.length u.cap) (λw hO=>hel0 w hO.below) (z8 (v:=YI (yR (xK r.rt.needs) u.of)) [] (λw hO=>hc w hO.below) (jW 66 [] (yR (xK r.rt.needs) u.of=0) (λh=> ?_) (λh=> ?_))))
 ·exact x_i 56 [] ((i3+1:Nat):Int) (nx (i3+1) (r.fts.length-(i3+1)) [] Om ⟨⟨hj,hgo h⟩,rfl⟩ Kr Kr)
 ·refine yI [] (YI (yR (xK r.rt.needs) u.of)) (YI (i3:Int)) λw hO=>⟨?_,hO.below⟩
  rw [hE,hat h];simp only [Nat.zero_add]
theorem vprint_short {v:Ver}(hp:v.pre.length<=1000000)(hq:v.build.length<=1000000):v.print.length<=3000000:=by
 unfold Ver.print
 split
 case isTrue h=>
  obtain ⟨n1,n2,n3⟩:=qB h
  have hnl:(bT v).length<=14:=nums_len n1 n2 n3
  have h1:(xR 45 v.pre).length<=1000001:=by unfold xR;split<;>simp<;>omega
  have h2:(xR 43 v.build).length<=1000001:=by unfold xR;split<;>simp<;>omega
  unfold Ver.text
  simp only [List.length_append];omega
 case isFalse=>simp
theorem r12Check_any (r:Rv)(W:World)(hr:RcIn W W.heap.size r):YC 17 #[rvV r] W (YR (.tuple #[YI (zT r.rt).1,YI (zT r.rt).2]) W):=by
 have hE:zT r.rt=if nmL r.name=false then (4,0) else if r.ver.may=false then (5,0) else if 8<r.needs.length\/8<r.bars.length then (3,0) else if (kZ r.rt).1≠0 then kZ r.rt else if 4096<(xH r.rt).length then (3,0) else (0,0):=by
  unfold zT;simp only [Rv.rt,List.length_map]
 have hsn:=hr.sn
 have c1:∀ w,Below W.heap.size W w->YC 59 #[.string (mkS r.name)] w (YR (.bool (nmL r.name)) w):=λw hb=>pH r.name w hsn.1
 have c2:∀ w,Below W.heap.size W w->YC 60 #[k8 r.ver] w (YR (.bool r.ver.may) w):=λw hb=>rmayQ_any r.ver w hsn.2.1 hsn.2.2
 have c3:∀ w,Below W.heap.size W w->YC 61 #[rvV r] w (YR (.tuple #[YI (kZ r.rt).1,YI (kZ r.rt).2]) w):=λw hb=>r12parts_any r w (hr.on hb hb.size)
 refine zE Tryz.func17 (yN [] λb1=>z8 (v:= .bool (nmL r.name)) [0] (λw hO=>c1 w hO.below) (zU 9 (nmL r.name) (λe1=> ?_) (λe1=> ?_)))
 rotate_left
 ·exact yI [] (YI 4) (YI 0) λw hO=>⟨by rw [hE,if_pos e1],hO.below⟩
 rw [if_neg (by simp [e1])] at hE
 refine z8 (v:= .bool r.ver.may) [0] (λw hO=>c2 w hO.below) (zU 14 r.ver.may (λe2=> ?_) (λe2=> ?_))
 rotate_left
 ·exact yI [] (YI 5) (YI 0) λw hO=>⟨by rw [hE,if_pos e2],hO.below⟩
 rw [if_neg (by simp [e2])] at hE
 refine zB 20 [0] ((r.needs.length:Int)>8) (λh20=> ?_) (λh20=> ?_)
 ·exact yI [] (YI 3) (YI 0) λw hO=>⟨by rw [hE,if_pos (.inl Om)],hO.below⟩
 refine zB 25 [0] ((r.bars.length:Int)>8) (λh25=> ?_) (λh25=> ?_)
 ·exact yI [] (YI 3) (YI 0) λw hO=>⟨by rw [hE,if_pos (.inr Om)],hO.below⟩
 rw [if_neg Om] at hE
 refine z8 (v:= .tuple #[YI (kZ r.rt).1,YI (kZ r.rt).2]) [0] (λw hO=>c3 w hO.below) (jW 33 [] ((kZ r.rt).1=0) (λh33=> ?_) (λh33=> ?_))
 rotate_left
 ·exact yI [] (YI (kZ r.rt).1) (YI (kZ r.rt).2) λw hO=>⟨by rw [hE,if_pos h33],hO.below⟩
 rw [if_neg (λh=>h h33)] at hE
 have hs:(xH r.rt).length<=100000000:=rec_small (r:=r.rt) hsn.1 (vprint_short hsn.2.1 hsn.2.2) (by simp only [Rv.rt,List.length_map];omega) (by simp only [Rv.rt,List.length_map];omega) h33 (λf hf s hs=>by
  obtain ⟨y,hy,rfl⟩:=List.mem_map.1 hf
  exact hr.fts.text y hy s hs)
 have c4:∀ w,Below W.heap.size W w->YC 62 #[rvV r] w (YR (.string (mkS (xH r.rt))) w):=λw hb=>r12text_any r w (hr.on hb hb.size) hs
 have hz:(mkS (xH r.rt)).size=(xH r.rt).length:=bI _
 refine z8 (v:= .string (mkS (xH r.rt))) [0] (λw hO=>c4 w hO.below) (zB 39 [] (((mkS (xH r.rt)).size:Int)>4096) (λh39=> ?_) (λh39=> ?_))
 ·exact yI [] (YI 3) (YI 0) λw hO=>⟨by rw [hE,if_pos Om],hO.below⟩
 ·exact yI [] (YI 0) (YI 0) λw hO=>⟨by rw [hE,if_neg Om],hO.below⟩
theorem r12Print_any (r:Rv)(W:World)(hr:RcIn W W.heap.size r):YC 19 #[rvV r] W (YR (.tuple #[.string (mkS (jX r.rt)),YI (zT r.rt).1]) W):=by
 have c1:∀ w,Below W.heap.size W w->YC 17 #[rvV r] w (YR (.tuple #[YI (zT r.rt).1,YI (zT r.rt).2]) w):=λw hb=>r12Check_any r w (hr.on hb hb.size)
 refine zE Tryz.func19 (yN [] λb1=>z8 (v:= .tuple #[YI (zT r.rt).1,YI (zT r.rt).2]) [0] (λw hO=>c1 w hO.below) (jW 12 [] ((zT r.rt).1=0) (λh=> ?_) (λh=> ?_)))
 rotate_left
 ·exact yI [] (.string ⟨#[]⟩) (YI (zT r.rt).1) λw hO=>⟨by rw [show jX r.rt=[] from if_neg h];rfl,hO.below⟩
 have c2:∀ w,Below W.heap.size W w->YC 62 #[rvV r] w (YR (.string (mkS (xH r.rt))) w):=λw hb=>r12text_any r w (hr.on hb hb.size) (by have:=(mE h).2.2.2.2.2;omega)
 exact z8 (v:= .string (mkS (xH r.rt))) [0] (λw hO=>c2 w hO.below) (yI [] (.string (mkS (xH r.rt))) (YI 0) λw hO=>⟨by rw [show jX r.rt=xH r.rt from if_pos h,h],hO.below⟩)
end
section
def BytesAt (w:World)(e:TypeId)(g:Nat)(l:List UInt8):Prop:=
 ∃ row,w.heap[g]?=some (.cells row e (row.size,row.size+1))/\l.length<=row.size∧∀ j (h:j<l.length),row[j]?=some (.int .u8 (l[j].toNat:Int))
theorem BytesAt.lt {w:World}{e:TypeId}{g:Nat}{l:List UInt8}(h:BytesAt w e g l):g<w.heap.size:=by
 obtain ⟨row,h1,_⟩:=h
 exact (Array.getElem?_eq_some_iff.1 h1).1
theorem BytesAt.cell {w:World}{e:TypeId}{g:Nat}{l:List UInt8}(h:BytesAt w e g l){j:Nat}(hj:j<l.length):w.cell? ⟨g,j,none⟩=some (.int .u8 (l[j].toNat:Int)):=by
 obtain ⟨row,h1,_,h3⟩:=h
 rw [Lib.cell_of_heap h1];exact h3 j hj
theorem BytesAt.made (w:World)(e:TypeId)(s:List UInt8):BytesAt (Lib.bytesWorld w e (mkS s)) e w.heap.size s/\Below w.heap.size w (Lib.bytesWorld w e (mkS s))/\w.heap.size<(Lib.bytesWorld w e (mkS s)).heap.size:=by
 have hsz:=Lib.bytesWorld_size w e (mkS s)
 refine ⟨⟨Lib.bytesCells w e (mkS s),Lib.bytesWorld_at_new w e (mkS s), ?_,λj hj=> ?_⟩,⟨?_, ?_, ?_,by omega, ?_,λk hk=>Lib.bytesWorld_at_old w e (mkS s) k hk⟩,by omega⟩
 ·unfold Lib.bytesCells mkS;simp
 ·unfold Lib.bytesCells mkS
  rw [Array.getElem?_append_left (by simpa using hj)]
  simp [hj]
 all_goals
  unfold Lib.bytesWorld World.freeze
  split<;>first|rfl|exact Nat.le_succ _
section
variable {M:List Nat}{P:Program}{n0:Nat}{ops:Array Oper}{W:World}{Q:Exit->Act->World->Prop}{rest:List Oper}{o:Oper}{L:List Blk}{f:Nat->Value}
end
end
section
def u64V (x:UInt64):Value:= .int .u64 (x.toNat:Int)
section
variable {P:Program}{ρ:Operand->Value}{o:Oper}{t t':TypeId}{a b:Operand}
theorem lt64 (x:UInt64):x.toNat<18446744073709551616:=x.toNat_lt
theorem run_xor64 {x y:UInt64}(ho:o.op= .binOp .xor t a b t')(hx:ρ a= .int .u64 (x.toNat:Int))(hy:ρ b= .int .u64 (y.toNat:Int))(w:World):(execOp ρ o).run P w= .ok (.value (.int .u64 ((x^^^y).toNat:Int))) w:=by
 have hb:binOp .xor t (.int .u64 (x.toNat:Int)) (.int .u64 (y.toNat:Int))=pure (.int .u64 ((x^^^y).toNat:Int)):=by
  have e:=u64_xor_nat _ _ (lt64 x) (lt64 y)
  rw [←UInt64.toNat_xor] at e
  rw [←e]
  simp [binOp,intBits_xor]
 have hg:eqGuard .xor t a b (.int .u64 (x.toNat:Int)) (.int .u64 (y.toNat:Int))=pure ():=rfl
 unfold execOp
 simp only [ho,hx,hy,Sem.run_bind,hg,hb,Sem.run_pure,Result.andThen_ok]
theorem run_or64 {x y:UInt64}(ho:o.op= .binOp .or t a b t')(hx:ρ a= .int .u64 (x.toNat:Int))(hy:ρ b= .int .u64 (y.toNat:Int))(w:World):(execOp ρ o).run P w= .ok (.value (.int .u64 ((x|||y).toNat:Int))) w:=by
 have hb:binOp .or t (.int .u64 (x.toNat:Int)) (.int .u64 (y.toNat:Int))=pure (.int .u64 ((x|||y).toNat:Int)):=by
  have e:=u64_or_nat _ _ (lt64 x) (lt64 y)
  rw [←UInt64.toNat_or] at e
  rw [←e]
  simp [binOp,intBits_or]
 have hg:eqGuard .or t a b (.int .u64 (x.toNat:Int)) (.int .u64 (y.toNat:Int))=pure ():=rfl
 unfold execOp
 simp only [ho,hx,hy,Sem.run_bind,hg,hb,Sem.run_pure,Result.andThen_ok]
theorem wrap64_nat (n:Nat):IntKind.u64.wrap (n:Int)=((n % 18446744073709551616:Nat):Int):=by
 simp [IntKind.wrap,IntKind.bits,IntKind.signed]
theorem run_mul64 {x y:UInt64}(ho:o.op= .binOp .mul t a b t')(hx:ρ a= .int .u64 (x.toNat:Int))(hy:ρ b= .int .u64 (y.toNat:Int))(w:World):(execOp ρ o).run P w= .ok (.value (.int .u64 ((x*y).toNat:Int))) w:=by
 unfold execOp
 have h:=wrap64_nat (x.toNat*y.toNat)
 rw [Int.natCast_mul] at h
 simp [ho,hx,hy,eqGuard,binOp,Op.intArith,h,UInt64.toNat_mul]
theorem run_shl64 {x:UInt64}{yk:IntKind}{n:Nat}(ho:o.op= .binOp .shl t a b t')(hx:ρ a= .int .u64 (x.toNat:Int))(hy:ρ b= .int yk (n:Int))(hn:n<64)(w:World):(execOp ρ o).run P w= .ok (.value (.int .u64 ((x<<<UInt64.ofNat n).toNat:Int))) w:=by
 have h1:=shift_shl .u64 yk (x.toNat:Int) (n:Int) Om (by show (n:Int)<=64;omega)
 have h2:IntKind.u64.wrap ((x.toNat:Int)*2^(n:Int).toNat)=((x<<<UInt64.ofNat n).toNat:Int):=by
  have h:=wrap64_nat (x.toNat*2^n)
  rw [Int.toNat_natCast]
  rw [Int.natCast_mul] at h
  rw [show ((2:Int)^n)=((2^n:Nat):Int) from by push_cast;rfl,h,UInt64.toNat_shiftLeft,UInt64.toNat_ofNat',Nat.shiftLeft_eq,show n % 2^64 % 64=n from by omega]
 have hg:eqGuard .shl t a b (.int .u64 (x.toNat:Int)) (.int yk (n:Int))=pure ():=rfl
 unfold execOp
 simp only [ho,hx,hy,Sem.run_bind,hg,binOp,h1,h2,Sem.run_pure,Result.andThen_ok]
theorem run_shr64 {x:UInt64}{yk:IntKind}{n:Nat}(ho:o.op= .binOp .shr t a b t')(hx:ρ a= .int .u64 (x.toNat:Int))(hy:ρ b= .int yk (n:Int))(hn:n<64)(w:World):(execOp ρ o).run P w= .ok (.value (.int .u64 ((x>>>UInt64.ofNat n).toNat:Int))) w:=by
 have h1:=shift_shr .u64 yk (x.toNat:Int) (n:Int) Om (by show (n:Int)<=64;omega)
 have h2:(x.toNat:Int)/2^(n:Int).toNat=((x>>>UInt64.ofNat n).toNat:Int):=by
  rw [Int.toNat_natCast,show ((2:Int)^n)=((2^n:Nat):Int) from by push_cast;rfl,UInt64.toNat_shiftRight,UInt64.toNat_ofNat',Nat.shiftRight_eq_div_pow,show n % 2^64 % 64=n from by omega]
  exact (Int.natCast_ediv _ _).symm
 have hg:eqGuard .shr t a b (.int .u64 (x.toNat:Int)) (.int yk (n:Int))=pure ():=rfl
 unfold execOp
 simp only [ho,hx,hy,Sem.run_bind,hg,binOp,h1,h2,Sem.run_pure,Result.andThen_ok]
theorem run_to64 {src dst:TypeId}{x:UInt8}(ho:o.op= .convert src dst a)(hx:ρ a= .int .u8 (x.toNat:Int))(hs:(P.underlying src).isSome=true)(hd:P.underlying dst=some (.int .u64))(w:World):(execOp ρ o).run P w= .ok (.value (.int .u64 (x.toUInt64.toNat:Int))) w:=by
 have hk:P.intKind dst= .u64:=by unfold Program.intKind;rw [hd]
 have h:=run_convert_int (P:=P) w src dst .u8 (x.toNat:Int) hs (by rw [hk];exact hd)
 rw [hk,wrap64_nat] at h
 have e:x.toNat % 18446744073709551616=x.toUInt64.toNat:=by rw [UInt8.toNat_toUInt64];have:=x.toNat_lt;omega
 rw [e] at h
 unfold execOp
 simp only [ho,hx,Sem.run_bind,h,Sem.run_pure,Result.andThen_ok]
end
end
section
def dK:UInt64:=0xFF51AFD7ED558CCD
def dI:UInt64:=0x9E3779B97F4A7C15
def m5 (x:UInt64):UInt64:=x<<<13|||x>>>51
def dStep (h:UInt64)(b:UInt8):UInt64:=m5 (h^^^b.toUInt64)*dK
def dMix (l:List UInt8):UInt64:=l.foldl dStep dI
def dEnd (h:UInt64):UInt64:=h^^^h>>>29
def dSum (l:List UInt8):UInt64:=dEnd (dMix l)
def dBytes (n:UInt64):List UInt8:=([56,48,40,32,24,16,8,0]:List UInt64).map λk=>(n>>>k).toUInt8
def dPair (a b:UInt64):UInt64:=dSum (dBytes a++dBytes b)
def dRoot (l:List UInt64):UInt64:=l.foldl dPair (dSum [])
end
section
def hexD (d:Nat):UInt8:=if d<10 then UInt8.ofNat (48+d) else UInt8.ofNat (87+d)
def hexV (c:UInt8):Option Nat:=if 48<=c.toNat/\c.toNat<=57 then some (c.toNat-48) else if 97<=c.toNat/\c.toNat<=102 then some (c.toNat-87) else none
def hexT (n:Nat)(k:Nat):List UInt8:=(List.range k).map λi=>hexD (n/16^(15-i) % 16)
def dText (n:UInt64):List UInt8:=hexT n.toNat 16
def hexN:Nat->List UInt8->Option Nat
 |n,[]=>some n
 |n,c::r=>match hexV c with
  |some d=>hexN (n*16+d) r
  |none=>none
def dReadN (s:List UInt8):Option Nat:=if s.length=16 then hexN 0 s else none
def dReadV (s:List UInt8):UInt64:=UInt64.ofNat ((dReadN s).getD 0)
def dReadB (s:List UInt8):Bool:=(dReadN s).isSome
end
section
def u8C (b:UInt8):List Value:=[.int .u8 (b.toNat:Int)]
def u64C (n:UInt64):List Value:=[.int .u64 (n.toNat:Int)]
theorem u8C_len (b:UInt8):(u8C b).length=1:=rfl
def SlB (v:Value)(l:List UInt8)(ob:List Blk):Prop:=Sl 5 1 v l.length (l.flatMap u8C) ob
def SlU (v:Value)(l:List UInt64)(ob:List Blk):Prop:=Sl 36 1 v l.length (l.flatMap u64C) ob
theorem u8_flat (l:List UInt8):l.flatMap u8C=l.map λb=> .int .u8 (b.toNat:Int):=by
 induction l with
 |nil=>rfl
 |cons b l ih=>rw [List.flatMap_cons,List.map_cons,ih];rfl
section
variable {P:Program}{o:Oper}
end
section
variable {P:Program}{n0:Nat}{ops:Array Oper}{W:World}{Q:Exit->Act->World->Prop}{rest:List Oper}{o:Oper}{L0:List Blk}{f:Nat->Value}
end
section
variable {M:List Nat}{P:Program}{n0:Nat}{ops:Array Oper}{W:World}{Q:Exit->Act->World->Prop}{rest:List Oper}{o:Oper}{L0:List Blk}{f:Nat->Value}
end
end
section
theorem BytesAt.reads {w:World}{e:TypeId}{g:Nat}{l:List UInt8}(h:BytesAt w e g l):Reads u8C w w.heap.size (some ⟨g,0,none⟩) l:=λh0=>⟨g,0,rfl,h.lt,λj u hj=>by
 rw [u8_flat,List.getElem?_map] at hj
 cases hl:l[j]? with
 |none=>rw [hl] at hj;cases hj
 |some b=>
  rw [hl] at hj
  obtain ⟨hlt,hb⟩:=List.getElem?_eq_some_iff.1 hl
  have:=h.cell hlt
  rw [Nat.zero_add,this,hb]
  exact hj⟩
section
variable {M:List Nat}{P:Program}{n:Nat}{W:World}{Q:Exit->Act->World->Prop}{c:Xc}
theorem x_bytes (d:Nat)(h:List Nat)(s:List UInt8){src dst e:TypeId}{x:Operand}(hg:∀ w0 w1 cap,Own M W w0 (xgo P n (d+50000) h c).L->BytesAt w1 e w0.heap.size s->Below w0.heap.size w0 w1->w0.heap.size<w1.heap.size->s.length<=cap->zF [] P n w1 Q (xNx (xgo P n (d+50000) h c) [] (.slice (some ⟨w0.heap.size,0,none⟩) s.length cap)))
  (hkt:(xgl P n (d+50000) h c,(xgo P n (d+50000) h c).top,zS (xA (xgo P n (d+50000) h c)) n (xgo P n (d+50000) h c).f (xO (xgo P n (d+50000) h c)),xNl (xgo P n (d+50000) h c).k,(xO (xgo P n (d+50000) h c)).op,ev n (xgo P n (d+50000) h c).f x,P.underlying src,P.underlying dst,P.underlying e)
   =(xgr P n (d+50000) h c,.ops (xA (xgo P n (d+50000) h c)) (xO (xgo P n (d+50000) h c)::xT (xgo P n (d+50000) h c)),true,true,.convert src dst x,.string (mkS s),some .string,some (.slice e),some (.int .u8)):=by kernel_rfl):zF M P n W Q c:=by
 simp only [Prod.mk.injEq] at hkt
 obtain ⟨hk,e1,e2,e3,e4,e5,e6,e7,e8⟩:=hkt
 refine zK h c hk ?_
 generalize xgo P n (d+50000) h c=d at*
 have:d=⟨.ops (xA d) (xO d::xT d),d.k,d.L,d.f⟩:=by rw [←e1]
 rw [this]
 refine ⟨λhq=>vO e2 λw hO=> ?_⟩
 obtain ⟨h1,h2,h3⟩:=BytesAt.made w e s
 have hr:=Lib.run_convert_string_bytes (P:=P) w src dst e (mkS s) e6 e7 e8
 rw [zQ] at hr
 refine qP (.slice (some ⟨w.heap.size,0,none⟩) s.length (grownCap w s.length 0 e)) (w':=Lib.bytesWorld w e (mkS s)) ?_ ?_
 ·unfold execOp
  simp only [e4,e5,Sem.run_bind,Sem.run_pure,Result.andThen_ok,hr]
 ·have:=((hg w _ (grownCap w s.length 0 e) hO h1 h2 h3 (grownCap_ge w s.length 0 e)).go hq).go _ (Own.start [] _)
  rw [n9 (M:=M) (W:=W) (M':=[]) (W':=Lib.bytesWorld w e (mkS s)) e3];exact this
end
end
section
def yH (l:List UInt8)(k:Nat):UInt64:=(l.take k).foldl dStep dI
theorem dMixK_step {l:List UInt8}{k:Nat}(hk:k<l.length):dStep (yH l k) l[k]=yH l (k+1):=by
 unfold yH
 rw [List.take_succ_eq_append_getElem hk,List.foldl_append];rfl
theorem dMixK_all {l:List UInt8}{k:Nat}(hk:k=l.length):yH l k=dMix l:=by unfold yH dMix;rw [hk,List.take_length]
def dRootK (l:List UInt64)(k:Nat):UInt64:=(l.take k).foldl dPair (dSum [])
def dig9S:List UInt8:=[48,49,50,51,52,53,54,55,56,57,97,98,99,100,101,102]
def hexI (c:UInt8):Int:=match hexV c with|some d=>(d:Int)|none=> -1
theorem r9turn_any (x:UInt64)(W:World):YC 121 #[.int .u64 (x.toNat:Int),.int .u64 13] W (YR (.int .u64 ((m5 x).toNat:Int)) W):=by
 refine Z2 (n:=13) Tryz.func121 rfl (ZO (Zv (.int .u64 0) (ZR (Zv (.int .u64 (x.toNat:Int)) (Zv (.int .u64 13) (kC (.int .u64 ((x<<<UInt64.ofNat 13).toNat:Int)) Kr (run_shl64 (x:=x) (yk:= .u64) (n:=13) rfl Kr Kr (by decide)) (Zv (.int .u64 (x.toNat:Int)) ?_)))))))
 exact Zv (.int .u64 13) (Zv (.int .u64 51) (kC (.int .u64 ((x>>>UInt64.ofNat 51).toNat:Int)) Kr (run_shr64 (x:=x) (yk:= .u64) (n:=51) rfl Kr Kr (by decide)) (kC (.int .u64 (((x<<<UInt64.ofNat 13)|||(x>>>UInt64.ofNat 51)).toNat:Int)) Kr (run_or64 (x:=(x<<<UInt64.ofNat 13)) (y:=(x>>>UInt64.ofNat 51)) rfl Kr Kr) (Zv (.int .u64 (((x<<<UInt64.ofNat 13)|||(x>>>UInt64.ofNat 51)).toNat:Int)) (ZN (kG (ZF (.int .u64 (((x<<<UInt64.ofNat 13)|||(x>>>UInt64.ofNat 51)).toNat:Int)) Tryz.results121 (λw hO=>⟨by rw [show m5 x=((x<<<UInt64.ofNat 13)|||(x>>>UInt64.ofNat 51)) from rfl],hO.below⟩))))))))
theorem r9Sum_any (A:Option Addr)(cap:Nat)(l:List UInt8)(W:World)(hv:Reads u8C W W.heap.size A l)(hn:l.length<=1000000):YC 64 #[.slice A l.length cap] W (YR (.int .u64 ((dSum l).toNat:Int)) W):=by
 refine Z2 (n:=24) Tryz.func64 rfl (ZO (Zv (.int .u64 0) (ZR (Zv (.int .u64 11400714819323198485) (ZN (yP ?_))))))
 refine ZO (Zv (YI 0) (ZN (jB (ok_loop (λL f m=>∃ (k:Nat) (j:Nat->Value),(k<=l.length)/\L=[]/\f=bX j [(0,.slice A l.length cap),(3,.int .u64 ((yH l k).toNat:Int)),(4,YI (k:Int))]/\m=l.length-k) (l.length-0) ⟨0,_,Nat.zero_le _,rfl,ZU,rfl⟩ ?_))))
 rintro L f m ⟨k,j,hrel,rfl,rfl,rfl⟩
 refine yP (ZO (Zv (YI (k:Int)) (Zv (.slice A l.length cap) (Zv (YI (l.length:Int)) ?_))))
 by_cases h1:(k:Int)<(l.length:Int)
 ·have hk:k<l.length:=by omega
  obtain ⟨bp,off,hA,hlt,hcell⟩:=hv Om
  obtain ⟨s,hs⟩:∃ s,l[k]=s:=⟨_,rfl⟩
  refine Zg h1 (ZY (ZB (yP (jB (yS (Zv (.int .u64 ((yH l k).toNat:Int)) (Zv (.slice A l.length cap) (Zv (YI (k:Int)) ?_))))))))
  refine kC (Zp bp (off+k*1)) Kr (ZA (b:=bp) (off:=off) (c:=cap) (n:=l.length) (k:= .i64) (j:=(k:Int)) (e:=5) (sz:=1) hA) (Zo (.int .u8 (s.toNat:Int)) (a:=⟨bp,off+k*1,none⟩) (λw hO=>qZ (ty:=5) u8C_len (λj u h=>(hO.below.cell (p:=⟨bp,off+j,none⟩) hlt).trans (hcell j u h)) k 0 hk Om _ (by rw [hs];kernel_rfl)) (kC (.int .u64 (((s).toUInt64).toNat:Int)) Kr (run_to64 (x:=s) rfl Kr (by rw [Tryz.underlying5];rfl) Tryz.underlying36) (kC (.int .u64 (((yH l k)^^^(s).toUInt64).toNat:Int)) Kr (run_xor64 (x:=(yH l k)) (y:=(s).toUInt64) rfl Kr Kr) (Zc (k:=121) (args:= #[.int .u64 (((yH l k)^^^(s).toUInt64).toNat:Int),.int .u64 13]) (.int .u64 ((m5 ((yH l k)^^^(s).toUInt64)).toNat:Int)) (λw _=>r9turn_any ((yH l k)^^^(s).toUInt64) w) (kC (.int .u64 (((m5 ((yH l k)^^^(s).toUInt64))*(18397679294719823053:UInt64)).toNat:Int)) Kr (run_mul64 (x:=(m5 ((yH l k)^^^(s).toUInt64))) (y:=(18397679294719823053:UInt64)) rfl Kr Kr) (Zv (.int .u64 (((m5 ((yH l k)^^^(s).toUInt64))*(18397679294719823053:UInt64)).toNat:Int)) (dN (fV (g7 (yS (Zv (YI (k:Int)) ?_)))))))))))
  refine Zu (k:= .i64) (((k+1:Nat):Int)) (IntWalk.i64_in _ Om) (Zv (YI ((k+1:Nat):Int)) (dN ?_))
  have hstep:((m5 ((yH l k)^^^(s).toUInt64))*(18397679294719823053:UInt64))=yH l (k+1):=by rw [←dMixK_step hk,hs];rfl
  rw [hstep]
  exact fU (m':=l.length-(k+1)) Om ⟨k+1,_,by omega,rfl,ZU,rfl⟩
 refine Zh h1 (ZX (ok_exit (qC (qX (qY (g7 (ZO (Zv (.int .u64 ((yH l k).toNat:Int)) ?_))))))))
 exact Zv (.int .u64 ((yH l k).toNat:Int)) (kC (.int .u64 (((yH l k)>>>UInt64.ofNat 29).toNat:Int)) Kr (run_shr64 (x:=(yH l k)) (yk:= .u64) (n:=29) rfl Kr Kr (by decide)) (kC (.int .u64 (((yH l k)^^^((yH l k)>>>UInt64.ofNat 29)).toNat:Int)) Kr (run_xor64 (x:=(yH l k)) (y:=((yH l k)>>>UInt64.ofNat 29)) rfl Kr Kr) (Zv (.int .u64 (((yH l k)^^^((yH l k)>>>UInt64.ofNat 29)).toNat:Int)) (ZN (kG (ZF (.int .u64 (((yH l k)^^^((yH l k)>>>UInt64.ofNat 29)).toNat:Int)) Tryz.results64 (λw hO=>⟨by rw [show dSum l=((yH l k)^^^((yH l k)>>>UInt64.ofNat 29)) from by unfold dSum dEnd;rw [←dMixK_all (l:=l) (k:=k) Om];rfl],hO.below⟩)))))))
end
section
def sumR (r:Rt):Int:=if (zT r).1=0 then ((dSum (xH r)).toNat:Int) else 0
structure Et where
 rc:Rt
 sum:Int
 yk:Bool
deriving DecidableEq
structure Sh where
 name:List UInt8
 es:List Et
deriving DecidableEq
def nilSh:Sh:=⟨[],[]⟩
def oneV (a v:Ver):Bool:=a.may && v.may && decide (mD a v=0)
def hitE (n:List UInt8)(v:Ver)(e:Et):Bool:=decide (e.rc.name=n) && oneV e.rc.ver v
def placeE (l:List Et)(n:List UInt8)(v:Ver):Int:=match l.findIdx? (hitE n v) with
 |some i=>(i:Int)
 |none=> -1
def okE (e:Et):Prop:=(zT e.rc).1=0/\sumR e.rc=e.sum
structure MayS (s:Sh):Prop where
 name:nmL s.name=true
 few:s.es.length<=64
 ok:∀ e∈s.es,okE e
 apart:s.es.Pairwise λa b=>hitE b.rc.name b.rc.ver a=false
instance:DecidablePred okE:=λe=>by unfold okE;infer_instance
instance:DecidablePred MayS:=λs=>decidable_of_iff (nmL s.name=true/\s.es.length<=64/\(∀ e∈s.es,okE e)/\s.es.Pairwise λa b=>hitE b.rc.name b.rc.ver a=false) ⟨λ⟨a,b,c,d⟩=>⟨a,b,c,d⟩,λh=>⟨h.name,h.few,h.ok,h.apart⟩⟩
def markY:List Et->Nat->Bool->List Et
 | [],_,_=>[]
 |e::r,0,on=>{e with yk:=on}::r
 |e::r,i+1,on=>e::markY r i on
def coreE (e:Et):Rt×Int:=(e.rc,e.sum)
def putS (s:Sh)(r:Rt):Sh×Int:=
 if MayS s then if (zT r).1=0 then if placeE s.es r.name r.ver= -1 then if s.es.length=64 then (nilSh,10) else (⟨s.name,s.es++[⟨r,sumR r,false⟩]⟩,0) else (nilSh,8) else (nilSh,(zT r).1) else (nilSh,1)
def yankS (s:Sh)(n:List UInt8)(v:Ver)(on:Bool):Sh×Int:=
 if MayS s then if placeE s.es n v= -1 then (nilSh,9) else (⟨s.name,markY s.es (placeE s.es n v).toNat on⟩,0) else (nilSh,1)
def findS (s:Sh)(n:List UInt8)(v:Ver):Int:=if MayS s then placeE s.es n v else-1
def GrownS (a b:Sh):Prop:=MayS a/\MayS b/\a.name=b.name/\a.es.length<=b.es.length/\a.es.map Et.rc=(b.es.take a.es.length).map Et.rc
instance (a b:Sh):Decidable (GrownS a b):=by unfold GrownS;infer_instance
end
section
theorem r12Sum_any (r:Rv)(W:World)(hr:RcIn W W.heap.size r):YC 21 #[rvV r] W (YR (.tuple #[.int .u64 (sumR r.rt),YI (zT r.rt).1]) W):=by
 have c1:∀ w,Below W.heap.size W w->YC 19 #[rvV r] w (YR (.tuple #[.string (mkS (jX r.rt)),YI (zT r.rt).1]) w):=λw hb=>r12Print_any r w (hr.on hb hb.size)
 refine zE Tryz.func21 (yN [] λb1=>z8 (v:= .tuple #[.string (mkS (jX r.rt)),YI (zT r.rt).1]) [0] (λw hO=>c1 w hO.below) (jW 12 [] ((zT r.rt).1=0) (λh=> ?_) (λh=> ?_)))
 rotate_left
 ·exact yI [] (.int .u64 0) (YI (zT r.rt).1) λw hO=>⟨by rw [show sumR r.rt=0 from if_neg h],hO.below⟩
 have hl:(xH r.rt).length<=4096:=(mE h).2.2.2.2.2
 have hp:jX r.rt=xH r.rt:=if_pos h
 rw [hp]
 refine x_bytes 15 [] (xH r.rt) (src:=9) (dst:=90) (e:=5) (x:= .tmp 14) λw0 w1 cap hO hB hb hlt hcap=> ?_
 have hb0:=hO.below
 have c2:∀ w,Below w1.heap.size w1 w->YC 64 #[.slice (some ⟨w0.heap.size,0,none⟩) (xH r.rt).length cap] w (YR (.int .u64 ((dSum (xH r.rt)).toNat:Int)) w):=λw hw=>r9Sum_any _ cap (xH r.rt) w (hB.reads.on hw hw.size) Om
 exact z8 (v:= .int .u64 ((dSum (xH r.rt)).toNat:Int)) [] (λw hO=>c2 w hO.below) (yI [] (.int .u64 ((dSum (xH r.rt)).toNat:Int)) (YI 0) λw hO2=>⟨by rw [show sumR r.rt=_ from if_pos h,h],hb0.trans ((hb.mono hb0.size).trans (hO2.below.mono (Nat.le_trans hb0.size (Nat.le_of_lt hlt))))⟩)
end
section
set_option linter.unnecessarySimpa false
theorem fMay_at (A:Option Addr)(cap:Nat)(xs:List Fv)(W:World)(hv:FtIn W W.heap.size A xs):YC 56 #[.slice A xs.length cap] W (YR (.bool (d4 (yO xs))) W):=by
 refine zE Tryz.func56 (zB 8 [] ((8:Int)<(xs.length:Int)) (λh8=> ?_) (λh8=> ?_))
 ·exact z7 [] Z5 λw hO=>⟨by rw [nO (.inl (by rw [wE];omega))],hO.below⟩
 refine zO (α:=Nat) (λi=>[(0,.slice A xs.length cap),(3,.string (mkS (qL (xs.map Fv.name) i))),(9,.slice A xs.length cap),(10,YI (xs.length:Int)),(11,YI (i:Int))]) (λ_=>[]) (λi m=>UpTo xs i/\m=xs.length-i) 0 xs.length [] ⟨UpTo.zero xs,rfl⟩ ?_
 rintro i mm g kk ⟨hup,hmm⟩ nx hkk
 subst hkk
 refine zB 12 [] ((i:Int)<(xs.length:Int)) (λh12=> ?_) (λh12=> ?_)
 rotate_left
 ·exact z7 [] Z4 λw hO=>⟨by rw [hup.may Om Om],hO.below⟩
 have hj:i<xs.length:=by omega
 have hxm:xs[i]∈xs:=List.getElem_mem hj
 have hnl:i<(xs.map Fv.name).length:=by rw [List.length_map];exact hj
 have hl1:qL (xs.map Fv.name) (i+1)=xs[i].name:=by rw [lastT_succ hnl,List.getElem_map]
 have hlast:∀ h0:0<i,qL (xs.map Fv.name) i=(xs[i-1]'Om).name:=λh=>by unfold qL;rw [dif_pos ⟨h,by omega⟩,List.getElem_map]
 obtain ⟨eb,eo,hA,hel⟩:=hv.top.elem vU i hj
 have hnm:=hv.name _ hxm
 refine zJ 13 [] hA xs.length cap i 2 hj (zH 14 [] 82 eb (eo+i*2+0) (fvV xs[i]) (λw hO=>hel w hO.below _ 0 _ Kr) (zL [] λb5=>z8 (v:= .bool (wdL xs[i].name)) [0,0] (λw hO=>d7 _ w hnm) (zU 17 (wdL xs[i].name) (λh17=> ?_) (λh17=> ?_))))
 rotate_left
 ·exact z7 [] Z5 λw hO=>⟨by rw [may_no1 hxm h17],hO.below⟩
 refine x_sle 23 [0] xs[i].name (qL (xs.map Fv.name) i) (zU 23 (!Op.bytesLess (qL (xs.map Fv.name) i) xs[i].name) (λh23=> ?_) (λh23=> ?_))
 ·refine z7 [] Z5 λw hO=>⟨?_,hO.below⟩
  have h0:0<i:=Nat.pos_of_ne_zero λh0=>by
   subst h0
   have:qL (xs.map Fv.name) 0=[]:=by unfold qL;rw [dif_neg Om]
   rw [this,less_nil (λe=>by rw [e] at h17;revert h17;decide)] at h23;cases h23
  rw [hlast h0] at h23
  have e2:xs[i-1+1]'Om=xs[i]:=by congr 1;omega
  rw [may_no2 (z:=i-1) Om (by rw [e2];simpa using h23)]
 have h2:∀ h0:0<i,Op.bytesLess (xs[i-1]'Om).name xs[i].name=true:=λh0=>by rw [←hlast h0];simpa using h23
 have hc:∀ w,Below W.heap.size W w->YC 98 #[.slice xs[i].A xs[i].of.length xs[i].cap,.slice A xs.length cap] w (YR (.bool (kH (yO xs) xs[i].of)) w):=λw hb=>fmayOf_any A cap xs xs[i].A xs[i].cap xs[i].of w (hv.on hb hb.size) ((hv.each _ hxm).on hb hb.size) (hv.m _ hxm) (hv.text _ hxm)
 refine z8 (v:= .bool (kH (yO xs) xs[i].of)) [0] (λw hO=>hc w hO.below) (zU 29 (kH (yO xs) xs[i].of) (λh29=> ?_) (λh29=> ?_))
 rotate_left
 ·exact z7 [] Z5 λw hO=>⟨by rw [may_no3 hxm h29],hO.below⟩
 exact dF 3 [0] (.string (mkS xs[i].name)) (.string (mkS (qL (xs.map Fv.name) (i+1)))) (by rw [hl1]) (x_i 34 [] ((i+1:Nat):Int) (yT [] [] (λw hO=>hO.no) (nx (i+1) (xs.length-(i+1)) [] Om ⟨hup.next hj h17 h2 h29,rfl⟩ Kr Kr)))
end
section
def byK (n:UInt64)(k:Nat):List UInt8:=(List.range k).map λi=>(n>>>UInt64.ofNat (8*(7-i))).toUInt8
end
section
def rot4 (x:UInt64):UInt64:=x<<<4|||x>>>60
def rotN (n:UInt64):Nat->UInt64
 |0=>n
 |k+1=>rot4 (rotN n k)
def padB (xs:List UInt8)(n:Nat):List UInt8:=xs++List.replicate (n-xs.length) 0
end
section
def arrC (bs:List UInt8):Array Value:=(bs.flatMap u8C).toArray
section
variable {P:Program}{o:Oper}
end
end
section
theorem d9rot13_any (x:UInt64)(W:World):YC 120 #[.int .u64 (x.toNat:Int),YI 13] W (YR (.int .u64 ((m5 x).toNat:Int)) W):=by
 refine Z2 (n:=17) Tryz.func120 rfl (ZO (Zv (.int .u64 0) (ZR (Zv (YI 13) (Zv (.int .u64 13) (Zv (.int .u64 13) (Zv (.int .u64 13) ?_)))))))
 refine ZR (Zv (.int .u64 (x.toNat:Int)) (Zv (.int .u64 13) (kC (.int .u64 ((x<<<UInt64.ofNat 13).toNat:Int)) Kr (run_shl64 (x:=x) (yk:= .u64) (n:=13) rfl Kr Kr (by decide)) (Zv (.int .u64 (x.toNat:Int)) (Zv (.int .u64 13) (Zv (.int .u64 51) (kC (.int .u64 ((x>>>UInt64.ofNat 51).toNat:Int)) Kr (run_shr64 (x:=x) (yk:= .u64) (n:=51) rfl Kr Kr (by decide)) (kC (.int .u64 (((x<<<UInt64.ofNat 13)|||(x>>>UInt64.ofNat 51)).toNat:Int)) Kr (run_or64 (x:=(x<<<UInt64.ofNat 13)) (y:=(x>>>UInt64.ofNat 51)) rfl Kr Kr) ?_))))))))
 exact Zv (.int .u64 (((x<<<UInt64.ofNat 13)|||(x>>>UInt64.ofNat 51)).toNat:Int)) (ZN (kG (ZF (.int .u64 (((x<<<UInt64.ofNat 13)|||(x>>>UInt64.ofNat 51)).toNat:Int)) Tryz.results120 (λw hO=>⟨by rw [show m5 x=((x<<<UInt64.ofNat 13)|||(x>>>UInt64.ofNat 51)) from rfl],hO.below⟩))))
theorem d9Sum_any (A:Option Addr)(cap:Nat)(l:List UInt8)(W:World)(hv:Reads u8C W W.heap.size A l)(hn:l.length<=1000000):YC 63 #[.slice A l.length cap] W (YR (.int .u64 ((dSum l).toNat:Int)) W):=by
 refine Z2 (n:=23) Tryz.func63 rfl (ZO (Zv (.int .u64 0) (ZR (Zv (.int .u64 11400714819323198485) (ZN (yP ?_))))))
 refine ZO (Zv (.slice A l.length cap) (Zv (YI (l.length:Int)) (Zv (YI 0) (ZN (jB (ok_loop (λL f m=>∃ (k:Nat) (j:Nat->Value),(k<=l.length)/\L=[]/\f=bX j [(0,.slice A l.length cap),(3,.int .u64 ((yH l k).toNat:Int)),(6,.slice A l.length cap),(7,YI (l.length:Int)),(8,YI (k:Int))]/\m=l.length-k) (l.length-0) ⟨0,_,Nat.zero_le _,rfl,ZU,rfl⟩ ?_))))))
 rintro L f m ⟨k,j,hrel,rfl,rfl,rfl⟩
 refine yP (yS ?_)
 by_cases h1:(k:Int)<(l.length:Int)
 ·have hk:k<l.length:=by omega
  obtain ⟨bp,off,hA,hlt,hcell⟩:=hv Om
  obtain ⟨s,hs⟩:∃ s,l[k]=s:=⟨_,rfl⟩
  refine Zg h1 (ZN (yP (Zt (ZB (yP (jB (ZO (kC (Zp bp (off+k*1)) Kr (ZA (b:=bp) (off:=off) (c:=cap) (n:=l.length) (k:= .i64) (j:=(k:Int)) (e:=5) (sz:=1) hA) ?_))))))))
  refine Zo (.int .u8 (s.toNat:Int)) (a:=⟨bp,off+k*1,none⟩) (λw hO=>qZ (ty:=5) u8C_len (λj u h=>(hO.below.cell (p:=⟨bp,off+j,none⟩) hlt).trans (hcell j u h)) k 0 hk Om _ (by rw [hs];kernel_rfl)) (Zv (.int .u8 (s.toNat:Int)) (ZN (yS (Zv (.int .u64 ((yH l k).toNat:Int)) (Zv (.int .u8 (s.toNat:Int)) (kC (.int .u64 (((s).toUInt64).toNat:Int)) Kr (run_to64 (x:=s) rfl Kr (by rw [Tryz.underlying5];rfl) Tryz.underlying36) (kC (.int .u64 (((yH l k)^^^(s).toUInt64).toNat:Int)) Kr (run_xor64 (x:=(yH l k)) (y:=(s).toUInt64) rfl Kr Kr) (Zc (k:=120) (args:= #[.int .u64 (((yH l k)^^^(s).toUInt64).toNat:Int),YI 13]) (.int .u64 ((m5 ((yH l k)^^^(s).toUInt64)).toNat:Int)) (λw _=>d9rot13_any ((yH l k)^^^(s).toUInt64) w) (kC (.int .u64 (((m5 ((yH l k)^^^(s).toUInt64))*(18397679294719823053:UInt64)).toNat:Int)) Kr (run_mul64 (x:=(m5 ((yH l k)^^^(s).toUInt64))) (y:=(18397679294719823053:UInt64)) rfl Kr Kr) (Zv (.int .u64 (((m5 ((yH l k)^^^(s).toUInt64))*(18397679294719823053:UInt64)).toNat:Int)) ?_))))))))))
  refine dN (fV (g7 (yS (Zu (k:= .i64) (((k+1:Nat):Int)) (IntWalk.i64_in _ Om) (Zv (YI ((k+1:Nat):Int)) (dN ?_))))))
  have hstep:((m5 ((yH l k)^^^(s).toUInt64))*(18397679294719823053:UInt64))=yH l (k+1):=by rw [←dMixK_step hk,hs];rfl
  rw [hstep]
  exact fU (m':=l.length-(k+1)) Om ⟨k+1,_,by omega,rfl,ZU,rfl⟩
 refine Zh h1 (ZN (yP (Zf (ok_exit (qC (qX (qY (g7 (yP (yS ?_))))))))))
 exact Zv (.int .u64 ((yH l k).toNat:Int)) (Zv (.int .u64 ((yH l k).toNat:Int)) (kC (.int .u64 (((yH l k)>>>UInt64.ofNat 29).toNat:Int)) Kr (run_shr64 (x:=(yH l k)) (yk:= .u64) (n:=29) rfl Kr Kr (by decide)) (kC (.int .u64 (((yH l k)^^^((yH l k)>>>UInt64.ofNat 29)).toNat:Int)) Kr (run_xor64 (x:=(yH l k)) (y:=((yH l k)>>>UInt64.ofNat 29)) rfl Kr Kr) (Zv (.int .u64 (((yH l k)^^^((yH l k)>>>UInt64.ofNat 29)).toNat:Int)) (ZN (kG (ZF (.int .u64 (((yH l k)^^^((yH l k)>>>UInt64.ofNat 29)).toNat:Int)) Tryz.results63 (λw hO=>⟨by rw [show dSum l=((yH l k)^^^((yH l k)>>>UInt64.ofNat 29)) from by unfold dSum dEnd;rw [←dMixK_all (l:=l) (k:=k) Om];rfl],hO.below⟩))))))))
end
section
set_option linter.unnecessarySimpa false
theorem wd_ne' {s:List UInt8}(h:wdL s=true):s≠[]:=λe=>by subst e;exact absurd h (by decide)
def rcB (r:Rv)(b:Nat):Blk:=⟨b,(rvC r).toArray,28⟩
def brB (x:Bv)(b:Nat):Blk:=⟨b,(bvC x).toArray,80⟩
def ftB (x:Fv)(b:Nat):Blk:=⟨b,(fvC x).toArray,82⟩
theorem ge_of {W w:World}{R o:List Blk}(h:Own [] W w (R++o)):∀ x∈o,W.heap.size<=x.b:=λx hx=>(h.base x (List.mem_append_right _ hx)).elim id λq=>by simp at q
theorem qText_any (r:Rv)(W:World)(hr:RcIn W W.heap.size r)(hfe:∀ n∈r.needs,∀ u∈n.any,∀ s∈u.fs,s≠[])(ht:(xH r.rt).length<=100000000)(hK:RecLib W):YC 58 #[rvV r] W (YR (.string (mkS (xH r.rt))) W):=by
 have hT:xH r.rt=wZ r.rt++r.needs.flatMap (λn=>kN n.nt)++r.bars.flatMap (λb=>wQ b.bt)++r.fts.flatMap (λf=>vB f.ft):=by
  unfold xH;simp only [Rv.rt,yO,List.flatMap_map]
 have hl:=congrArg List.length hT
 simp only [List.length_append] at hl
 have hsn:=hr.sn
 have hnn:=hr.nn;have hnb:=hr.nb;have hfn:=hr.fts.n
 have hH:wZ r.rt=zG 32 [bG,r.name,r.ver.print]++[10]:=by
  show txPack++r.name++[32]++r.ver.print++[10]=_
  simp [zG,txPack,bG]
 have hHl:=congrArg List.length hH
 simp only [List.length_append,List.length_cons,List.length_nil] at hHl
 have hP:∀ w,Below W.heap.size W w->YC 104 #[k8 r.ver] w (YR (.string (mkS r.ver.print)) w):=λw hb=>vprint_any r.ver w hsn.2.1 hsn.2.2 (hK.on hb).lib.tab
 refine zE Tryz.func58 (yN [] λb1=>zL [] λb3=>gY 7 [] [rcB r b1] (λw hO=>hO.past 1 _) (kY [0,0] 4 (z8 (v:= .string (mkS r.ver.print)) [] (λw hO=>hP w hO.below) (kY [] 5 (fE 3 9 #[.string (mkS bG),.string (mkS r.name),.string (mkS r.ver.print)] λg=>kY [] 6 ?_)))))
 refine xh_callL [⟨g, #[.string (mkS bG),.string (mkS r.name),.string (mkS r.ver.print)],9⟩,⟨b3, #[.pointer none,.slice none 0 0],133⟩,rcB r b1] [rcB r b1] ([⟨g, #[.string (mkS bG),.string (mkS r.name),.string (mkS r.ver.print)],9⟩]++[⟨b3, #[.pointer none,.slice none 0 0],133⟩]) [rcB r b1] (λw hO=>hO.perm ((List.Perm.cons _ (List.Perm.swap ..)).trans (List.Perm.swap ..))) (λo w hO=>hO.sublist (List.sublist_append_left _ _)) (q_line b3 [] [bG,r.name,r.ver.print] _ [rcB r b1] _ _ (BuR.new b3) (qlit g 3 _ _ rfl rfl Om) (by simp) Om (by simp) (by simp [zG,bG])) λv1 o1 ⟨ob1,k1,k2⟩=> ?_
 subst k2
 rw [List.nil_append,←hH] at k1
 refine yT [0] (rcB r b1::ob1) (λw hO=>(hO.past 0 (rcB r b1::⟨g, #[.string (mkS bG),.string (mkS r.name),.string (mkS r.ver.print)],9⟩::ob1)).swap.past 1 _) (zO (α:=Nat×List Blk) (λx=>[(1,Zp b1 0),(3,Zp b3 0),(18,.slice r.nA r.needs.length r.nc),(19,YI (r.needs.length:Int)),(20,YI (x.1:Int))]) (λx=>rcB r b1::x.2) (λx m=>(x.1<=r.needs.length/\BuR b3 (wZ r.rt++(r.needs.take x.1).flatMap (λn=>kN n.nt)) x.2)/\m=r.needs.length-x.1) (0,ob1) r.needs.length [] ⟨⟨Nat.zero_le _,by simp only [List.take_zero,List.flatMap_nil,List.append_nil];exact k1⟩,rfl⟩ ?_)
 rintro ⟨i,o⟩ mm gg kk ⟨⟨hi,ho⟩,hmm⟩ nx hkk
 subst hkk
 replace hi:i<=r.needs.length:=hi
 replace ho:BuR b3 (wZ r.rt++(r.needs.take i).flatMap (λn=>kN n.nt)) o:=ho
 refine zB 21 [] ((i:Int)<(r.needs.length:Int)) (λh21=> ?_) (λh21=> ?_)
 ·have hj:i<r.needs.length:=by omega
  obtain ⟨eb,eo,hA,hel⟩:=hr.needs.elem jO i hj
  have hpt:=fP (λn:Nv=>kN n.nt) (l:=r.needs) (i+1)
  rw [wJ (λn:Nv=>kN n.nt) hj,List.length_append] at hpt
  have hst:=wJ (λn:Nv=>kN n.nt) hj
  have hsm:r.needs[i]∈r.needs:=List.getElem_mem hj
  have hel0:∀ w,Below W.heap.size W w->(loadVar 74 ⟨eb,eo+i*3+0,none⟩).run Tryz.prog w= .ok (nvV r.needs[i]) w:=λw hw=>hel w hw _ 0 _ Kr
  have hra:=hr.any _ hsm;have hrf:=hr.wfs _ hsm;have hna:=hr.na _ hsm;have hnf:=hr.nf _ hsm;have hsw:=hr.sw _ hsm;have hff:=hfe _ hsm
  have hw2:wZ r.rt++(r.needs.take i).flatMap (λn=>kN n.nt)++kN r.needs[i].nt=wZ r.rt++(r.needs.take (i+1)).flatMap (λn=>kN n.nt):=by rw [hst,List.append_assoc]
  have hpl:(wZ r.rt++(r.needs.take i).flatMap (λn=>kN n.nt)).length+(kN r.needs[i].nt).length<=300000000:=by rw [List.length_append];omega
  generalize r.needs[i]=n at hel0 hra hrf hna hnf hsw hff hw2 hpl
  generalize wZ r.rt++(r.needs.take i).flatMap (λn=>kN n.nt)=done at*
  refine zJ 22 [] hA r.needs.length r.nc i 3 hj (zH 23 [] 74 eb (eo+i*3+0) (nvV n) (λw hO=>hel0 w hO.below) (zL [] λb5=> ?_))
  have hc:∀ w,Own [] W w ([ndB n b5,rcB r b1]++o)->YC 105 #[.pointer (some ⟨b3,0,none⟩),nvV n] w λe w'=>∃ v o',e= .returned v/\BuR b3 (done++kN n.nt) o'/\Own (o.map Blk.b) w w' o':=λw hO=>(qNeedW_any W.heap.size b3 done n o w ho (Own.lentR hO) (ge_of hO) hO.size (hra.on hO.below (Nat.le_refl _)) (λu hu=>(hrf u hu).on hO.below (Nat.le_refl _)) hna hnf hff hsw hpl).mono λe w' ⟨o',q1,q2,q3⟩=>⟨_,o',q1,q2,q3⟩
  refine x8 [0,0] (ndB n b5::rcB r b1::o) [ndB n b5,rcB r b1] o (λw hO=>hO) hc λv2 o2 q1=> ?_
  rw [hw2] at q1
  exact x_i 20 [] ((i+1:Nat):Int) (yT [] (rcB r b1::o2) (λw hO=>hO.past 1 _) (nx (i+1,o2) (r.needs.length-(i+1)) [] Om ⟨⟨hj,q1⟩,rfl⟩ Kr Kr))
 rw [List.take_of_length_le (show r.needs.length<=i by omega)] at ho
 clear nx
 have hNl:(wZ r.rt++r.needs.flatMap (λn=>kN n.nt)).length=(wZ r.rt).length+(r.needs.flatMap λn=>kN n.nt).length:=List.length_append
 generalize hN:wZ r.rt++r.needs.flatMap (λn=>kN n.nt)=front at*
 refine zO (α:=Nat×List Blk) (λx=>[(1,Zp b1 0),(3,Zp b3 0),(28,.slice r.bA r.bars.length r.bc),(29,YI (r.bars.length:Int)),(30,YI (x.1:Int))]) (λx=>rcB r b1::x.2) (λx m=>(x.1<=r.bars.length/\BuR b3 (front++(r.bars.take x.1).flatMap (λb=>wQ b.bt)) x.2)/\m=r.bars.length-x.1) (0,o) r.bars.length [0] ⟨⟨Nat.zero_le _,by simp only [List.take_zero,List.flatMap_nil,List.append_nil];exact ho⟩,rfl⟩ ?_
 clear ho
 rintro ⟨i2,o2⟩ m2 g2 kk ⟨⟨hi2,ho⟩,hm2⟩ nx hkk
 subst hkk
 replace hi2:i2<=r.bars.length:=hi2
 replace ho:BuR b3 (front++(r.bars.take i2).flatMap (λb=>wQ b.bt)) o2:=ho
 refine zB 31 [] ((i2:Int)<(r.bars.length:Int)) (λh31=> ?_) (λh31=> ?_)
 ·have hj:i2<r.bars.length:=by omega
  obtain ⟨eb,eo,hA,hel⟩:=hr.bars.elem pR i2 hj
  have hpt:=fP (λb:Bv=>wQ b.bt) (l:=r.bars) (i2+1)
  rw [wJ (λb:Bv=>wQ b.bt) hj,List.length_append] at hpt
  have hst:=wJ (λb:Bv=>wQ b.bt) hj
  have hsm:r.bars[i2]∈r.bars:=List.getElem_mem hj
  have hel0:∀ w,Below W.heap.size W w->(loadVar 80 ⟨eb,eo+i2*3+0,none⟩).run Tryz.prog w= .ok (bvV r.bars[i2]) w:=λw hw=>hel w hw _ 0 _ Kr
  have hsb:=hr.sb _ hsm
  have hw2:front++(r.bars.take i2).flatMap (λb=>wQ b.bt)++wQ r.bars[i2].bt=front++(r.bars.take (i2+1)).flatMap (λb=>wQ b.bt):=by rw [hst,List.append_assoc]
  have hpl:(front++(r.bars.take i2).flatMap (λb=>wQ b.bt)).length+(wQ r.bars[i2].bt).length<=300000000:=by rw [List.length_append];omega
  generalize r.bars[i2]=x at hel0 hsb hw2 hpl
  generalize front++(r.bars.take i2).flatMap (λb=>wQ b.bt)=done at*
  have hbT:wQ x.bt=zG 32 [mZ,x.name,x.rng]++[10]++n6 vQ x.wh:=by
   rw [maybe_when]
   show txBar++x.name++[32]++x.rng++[10]++v8 x.wh=_
   simp [zG,txBar,mZ]
  have hbl:=congrArg List.length hbT
  simp only [List.length_append,List.length_cons,List.length_nil] at hbl
  refine zJ 32 [] hA r.bars.length r.bc i2 3 hj (zH 33 [] 80 eb (eo+i2*3+0) (bvV x) (λw hO=>hel0 w hO.below) (zL [] λb7=>qO [0,0,0] 3 9 #[.string (mkS mZ),.string (mkS x.name),.string (mkS x.rng)] λg3=> ?_))
  refine x8 [] (⟨g3, #[.string (mkS mZ),.string (mkS x.name),.string (mkS x.rng)],9⟩::brB x b7::rcB r b1::o2) [brB x b7,rcB r b1] ([⟨g3, #[.string (mkS mZ),.string (mkS x.name),.string (mkS x.rng)],9⟩]++o2) (λw hO=>own_rot3 hO) (q_line b3 done [mZ,x.name,x.rng] _ _ _ o2 ho (qlit g3 3 _ _ rfl rfl Om) Om Om (by simp) (by simp [zG,mZ])) λv2 o3 ⟨ob3,q1,q2⟩=> ?_
  subst q2
  refine x8 [0] (brB x b7::rcB r b1::⟨g3, #[.string (mkS mZ),.string (mkS x.name),.string (mkS x.rng)],9⟩::ob3) [brB x b7,rcB r b1,⟨g3, #[.string (mkS mZ),.string (mkS x.name),.string (mkS x.rng)],9⟩] ob3 (λw hO=>hO) (q_maybe b3 _ vQ x.wh _ ob3 q1 (by simp only [List.length_append,List.length_cons,List.length_nil];omega) (by decide) Om) λv3 o4 q3=> ?_
  rw [List.append_assoc] at q3
  refine x_i 30 [] ((i2+1:Nat):Int) (yT [] (rcB r b1::o4) (λw hO=>(hO.past 1 (rcB r b1::⟨g3, #[.string (mkS mZ),.string (mkS x.name),.string (mkS x.rng)],9⟩::o4)).swap.past 1 _) (nx (i2+1,o4) (r.bars.length-(i2+1)) [] Om ⟨⟨hj, ?_⟩,rfl⟩ Kr Kr))
  show BuR b3 (front++(r.bars.take (i2+1)).flatMap (λb=>wQ b.bt)) o4
  rw [←hw2,hbT];exact q3
 rw [List.take_of_length_le (show r.bars.length<=i2 by omega)] at ho
 clear nx
 have hBl:(front++r.bars.flatMap (λb=>wQ b.bt)).length=front.length+(r.bars.flatMap λb=>wQ b.bt).length:=List.length_append
 generalize hN2:front++r.bars.flatMap (λb=>wQ b.bt)=fore at*
 refine zO (α:=Nat×List Blk) (λx=>[(1,Zp b1 0),(3,Zp b3 0),(45,.slice r.fA r.fts.length r.fc),(46,YI (r.fts.length:Int)),(47,YI (x.1:Int))]) (λx=>rcB r b1::x.2) (λx m=>(x.1<=r.fts.length/\BuR b3 (fore++(r.fts.take x.1).flatMap (λf=>vB f.ft)) x.2)/\m=r.fts.length-x.1) (0,o2) r.fts.length [0] ⟨⟨Nat.zero_le _,by simp only [List.take_zero,List.flatMap_nil,List.append_nil];exact ho⟩,rfl⟩ ?_
 clear ho
 rintro ⟨i3,o3⟩ m3 g3 kk ⟨⟨hi3,ho⟩,hm3⟩ nx hkk
 subst hkk
 replace hi3:i3<=r.fts.length:=hi3
 replace ho:BuR b3 (fore++(r.fts.take i3).flatMap (λf=>vB f.ft)) o3:=ho
 refine zB 48 [] ((i3:Int)<(r.fts.length:Int)) (λh48=> ?_) (λh48=> ?_)
 rotate_left
 ·rw [List.take_of_length_le (show r.fts.length<=i3 by omega)] at ho
  have hR:fore++r.fts.flatMap (λf=>vB f.ft)=xH r.rt:=hT.symm
  rw [hR] at ho
  refine x_callO [] (rcB r b1::o3) (Rr:=λv L'=>v= .string (mkS (xH r.rt))/\L'=[]) (λw hO=>(rstring_any b3 (xH r.rt) o3 W w ho (hO.past 1 _) (λe=>by rw [e] at hl;simp only [List.length_nil] at hl;omega)).mono λe w' ⟨q1,q2⟩=>⟨_,[],q1,⟨rfl,rfl⟩,q2⟩) λv4 L4 ⟨q1,q2⟩=> ?_
  subst q1;subst q2
  exact z7 [] (.string (mkS (xH r.rt))) λw hO=>⟨rfl,hO.below⟩
 have hj:i3<r.fts.length:=by omega
 obtain ⟨eb,eo,hA,hel⟩:=hr.fts.top.elem vU i3 hj
 have hpt:=fP (λf:Fv=>vB f.ft) (l:=r.fts) (i3+1)
 rw [wJ (λf:Fv=>vB f.ft) hj,List.length_append] at hpt
 have hst:=wJ (λf:Fv=>vB f.ft) hj
 have hsm:r.fts[i3]∈r.fts:=List.getElem_mem hj
 have hel0:∀ w,Below W.heap.size W w->(loadVar 82 ⟨eb,eo+i3*2+0,none⟩).run Tryz.prog w= .ok (fvV r.fts[i3]) w:=λw hw=>hel w hw _ 0 _ Kr
 have hru:=hr.fts.each _ hsm;have hmu:=hr.fts.m _ hsm
 have hw2:fore++(r.fts.take i3).flatMap (λf=>vB f.ft)++vB r.fts[i3].ft=fore++(r.fts.take (i3+1)).flatMap (λf=>vB f.ft):=by rw [hst,List.append_assoc]
 have hpl:(fore++(r.fts.take i3).flatMap (λf=>vB f.ft)).length+(vB r.fts[i3].ft).length<=300000000:=by rw [List.length_append];omega
 generalize r.fts[i3]=x at hel0 hru hmu hw2 hpl
 generalize fore++(r.fts.take i3).flatMap (λf=>vB f.ft)=done at*
 have hfT:vB x.ft=zG 32 (xB::x.name::x.of)++[10]:=rfl
 have hfl:=congrArg List.length hfT
 simp only [List.length_append,List.length_cons,List.length_nil] at hfl
 refine zJ 49 [] hA r.fts.length r.fc i3 2 hj (zH 50 [] 82 eb (eo+i3*2+0) (fvV x) (λw hO=>hel0 w hO.below) (zL [] λb9=>qO [0,0] 2 9 #[.string (mkS xB),.string (mkS x.name)] λg5=> ?_))
 refine x_appR (g:=yV) [1] x.of [] [⟨g5, #[.string (mkS xB),.string (mkS x.name)],9⟩] (ftB x b9::rcB r b1::o3) (⟨g5, #[.string (mkS xB),.string (mkS x.name)],9⟩::ftB x b9::rcB r b1::o3) (cp:=x.cap) (λw hO=>hO) zX strC_one (λw hO=>hru.on hO.below hO.below.size) (sl_block (N:=2) rfl (by unfold maxLen;omega)) Om λv' o' h=> ?_
 have hS:SlT v' (xB::x.name::x.of) o':=by
  unfold SlT
  rw [kS,show (xB::x.name::x.of).length=2+x.of.length by simp only [List.length_cons];omega]
  exact h
 refine x8 [] ([]++o'++(ftB x b9::rcB r b1::o3)) [ftB x b9,rcB r b1] (o'++o3) (λw hO=>hO.perm (by
  have:=List.perm_append_comm_assoc o' [ftB x b9,rcB r b1] o3
  simpa using this)) (q_line b3 done (xB::x.name::x.of) v' _ o' o3 ho hS Om Om (by simp only [List.length_cons];omega) (by simp [zG,xB])) λv2 o4 ⟨ob4,q1,q2⟩=> ?_
 subst q2
 rw [←hfT,hw2] at q1
 exact x_i 47 [] ((i3+1:Nat):Int) (yT [] (rcB r b1::ob4) (λw hO=>(hO.past 1 (rcB r b1::(o'++ob4))).sublist (List.Sublist.cons_cons _ (List.sublist_append_right _ _))) (nx (i3+1,ob4) (r.fts.length-(i3+1)) [] Om ⟨⟨hj,q1⟩,rfl⟩ Kr Kr))
theorem parts_ne {r:Rt}(h:(kZ r).1=0):∀ n∈r.needs,∀ u∈n.any,∀ s∈u.fs,s≠[]:=λn hn u hu s hs=>by
 have h1:=(parts_fine h).1 n hn
 have h2:=(need_fine h1).2.2.1 u hu
 have h3:=(wish_fine h2).2.2
 unfold dG at h3
 simp only [Bool.and_eq_true] at h3
 exact wd_ne' (List.all_eq_true.1 h3.1.1.1 s hs)
theorem qCheck_any (r:Rv)(W:World)(hr:RcIn W W.heap.size r)(hK:RecLib W):YC 16 #[rvV r] W (YR (.tuple #[YI (zT r.rt).1,YI (zT r.rt).2]) W):=by
 have hE:zT r.rt=if nmL r.name=false then (4,0) else if r.ver.may=false then (5,0) else if 8<r.needs.length\/8<r.bars.length then (3,0) else if (kZ r.rt).1≠0 then kZ r.rt else if 4096<(xH r.rt).length then (3,0) else (0,0):=by
  unfold zT;simp only [Rv.rt,List.length_map]
 have hsn:=hr.sn;have hnn:=hr.nn;have hnb:=hr.nb;have hfn:=hr.fts.n
 have c1:∀ w,YC 52 #[.string (mkS r.name)] w (YR (.bool (nmL r.name)) w):=λw=>iName_any r.name w hsn.1
 have c2:∀ w,YC 53 #[k8 r.ver] w (YR (.bool r.ver.may) w):=λw=>may_any r.ver w (by show r.pre.length<_;omega) (by show r.bld.length<_;omega)
 refine zE Tryz.func16 (yN [] λb1=>z8 (v:= .bool (nmL r.name)) [0] (λw hO=>c1 w) (zU 16 (nmL r.name) (λe1=> ?_) (λe1=> ?_)))
 rotate_left
 ·exact yI [] (YI 4) (YI 0) λw hO=>⟨by rw [hE,if_pos e1],hO.below⟩
 rw [if_neg (by simp [e1])] at hE
 refine z8 (v:= .bool r.ver.may) [0] (λw hO=>c2 w) (zU 21 r.ver.may (λe2=> ?_) (λe2=> ?_))
 rotate_left
 ·exact yI [] (YI 5) (YI 0) λw hO=>⟨by rw [hE,if_pos e2],hO.below⟩
 rw [if_neg (by simp [e2])] at hE
 refine zB 27 [0] ((r.needs.length:Int)>8) (λh27=> ?_) (λh27=> ?_)
 ·exact yI [] (YI 3) (YI 0) λw hO=>⟨by rw [hE,if_pos (.inl Om)],hO.below⟩
 refine zB 32 [0] ((r.bars.length:Int)>8) (λh32=> ?_) (λh32=> ?_)
 ·exact yI [] (YI 3) (YI 0) λw hO=>⟨by rw [hE,if_pos (.inr Om)],hO.below⟩
 rw [if_neg Om] at hE
 have hP:=partsE_is r
 refine zO (α:=Nat) (λi=>[(1,Zp b1 0),(35,.slice r.nA r.needs.length r.nc),(36,YI (r.needs.length:Int)),(37,YI (i:Int))]) (λ_=>[rcB r b1]) (λi m=>(i<=r.needs.length∧∀ n∈r.needs.take i,gN r.name n.nt=0)/\m=r.needs.length-i) 0 r.needs.length [0] ⟨⟨Nat.zero_le _,λy h=>by simp at h⟩,rfl⟩ ?_
 rintro i mm g kk ⟨⟨hi,hno⟩,hmm⟩ nx hkk
 subst hkk
 refine zB 38 [] ((i:Int)<(r.needs.length:Int)) (λh38=> ?_) (λh38=> ?_)
 ·have hj:i<r.needs.length:=by omega
  obtain ⟨eb,eo,hA,hel⟩:=hr.needs.elem jO i hj
  have hgo:=y9 (p:=λn:Nv=>gN r.name n.nt=0) hj hno
  have hat:=d8 (f:=λn:Nv=>gN r.name n.nt) 0 hj hno
  have hsm:r.needs[i]∈r.needs:=List.getElem_mem hj
  have hel0:∀ w,Below W.heap.size W w->(loadVar 74 ⟨eb,eo+i*3+0,none⟩).run Tryz.prog w= .ok (nvV r.needs[i]) w:=λw hw=>hel w hw _ 0 _ Kr
  have hra:=hr.any _ hsm;have hrf:=hr.wfs _ hsm;have hna:=hr.na _ hsm;have hnf:=hr.nf _ hsm;have hsw:=hr.sw _ hsm;have hsu:=hr.su _ hsm
  generalize r.needs[i]=n at hel0 hgo hat hra hrf hna hnf hsw hsu
  have hc:∀ w,Below W.heap.size W w->YC 54 #[nvV n,.string (mkS r.name)] w (YR (YI (gN r.name n.nt)) w):=λw hb=>qNeed_any r.name n w (hra.on hb hb.size) (λu hu=>(hrf u hu).on hb hb.size) hna hnf hsw hsu (hK.on hb)
  refine zJ 40 [] hA r.needs.length r.nc i 3 hj (zH 41 [] 74 eb (eo+i*3+0) (nvV n) (λw hO=>hel0 w hO.below) (zL [] λb5=>z8 (v:=YI (gN r.name n.nt)) [0,0,1] (λw hO=>hc w hO.below) (jW 47 [] (gN r.name n.nt=0) (λh=> ?_) (λh=> ?_))))
  ·exact x_i 37 [] ((i+1:Nat):Int) (yT [] [rcB r b1] (λw hO=>hO.past 1 _) (nx (i+1) (r.needs.length-(i+1)) [] Om ⟨⟨hj,hgo h⟩,rfl⟩ Kr Kr))
  ·refine yI [] (YI (gN r.name n.nt)) (YI (i:Int)) λw hO=>⟨?_,hO.below⟩
   rw [hat h] at hP
   rw [if_pos h] at hP
   rw [hE,if_pos (by rw [hP];exact h),hP];simp only [Nat.zero_add]
 have h1:=jG (k:=0) (yQ (p:=λn:Nv=>gN r.name n.nt=0) (show r.needs.length<=i by omega) hno)
 rw [h1,if_neg (by simp)] at hP
 clear nx
 refine zO (α:=Nat) (λi=>[(1,Zp b1 0),(52,.slice r.bA r.bars.length r.bc),(53,YI (r.bars.length:Int)),(54,YI (i:Int))]) (λ_=>[rcB r b1]) (λi m=>(i<=r.bars.length∧∀ b∈r.bars.take i,wR r.name b.bt=0)/\m=r.bars.length-i) 0 r.bars.length [0] ⟨⟨Nat.zero_le _,λy h=>by simp at h⟩,rfl⟩ ?_
 rintro i2 m2 g2 kk ⟨⟨hi2,hno2⟩,hmm2⟩ nx hkk
 subst hkk
 refine zB 55 [] ((i2:Int)<(r.bars.length:Int)) (λh55=> ?_) (λh55=> ?_)
 ·have hj:i2<r.bars.length:=by omega
  obtain ⟨eb,eo,hA,hel⟩:=hr.bars.elem pR i2 hj
  have hgo:=y9 (p:=λb:Bv=>wR r.name b.bt=0) hj hno2
  have hat:=d8 (f:=λb:Bv=>wR r.name b.bt) 0 hj hno2
  have hsm:r.bars[i2]∈r.bars:=List.getElem_mem hj
  have hel0:∀ w,Below W.heap.size W w->(loadVar 80 ⟨eb,eo+i2*3+0,none⟩).run Tryz.prog w= .ok (bvV r.bars[i2]) w:=λw hw=>hel w hw _ 0 _ Kr
  have hsb:=hr.sb _ hsm
  generalize r.bars[i2]=b at hel0 hgo hat hsb
  have hc:∀ w,Below W.heap.size W w->YC 55 #[bvV b,.string (mkS r.name)] w (YR (YI (wR r.name b.bt)) w):=λw hb=>qBar_any b r.name w hsb (hK.on hb)
  refine zJ 57 [] hA r.bars.length r.bc i2 3 hj (zH 58 [] 80 eb (eo+i2*3+0) (bvV b) (λw hO=>hel0 w hO.below) (zL [] λb8=>z8 (v:=YI (wR r.name b.bt)) [0,0,1] (λw hO=>hc w hO.below) (jW 64 [] (wR r.name b.bt=0) (λh=> ?_) (λh=> ?_))))
  ·exact x_i 54 [] ((i2+1:Nat):Int) (yT [] [rcB r b1] (λw hO=>hO.past 1 _) (nx (i2+1) (r.bars.length-(i2+1)) [] Om ⟨⟨hj,hgo h⟩,rfl⟩ Kr Kr))
  ·refine yI [] (YI (wR r.name b.bt)) (YI (i2:Int)) λw hO=>⟨?_,hO.below⟩
   rw [hat h] at hP
   rw [if_pos h] at hP
   rw [hE,if_pos (by rw [hP];exact h),hP];simp only [Nat.zero_add]
 have h2:=jG (k:=0) (yQ (p:=λb:Bv=>wR r.name b.bt=0) (show r.bars.length<=i2 by omega) hno2)
 rw [h2,if_neg (by simp)] at hP
 clear nx
 have hM:∀ w,Below W.heap.size W w->YC 56 #[.slice r.fA r.fts.length r.fc] w (YR (.bool (d4 (yO r.fts))) w):=λw hb=>fMay_at r.fA r.fc r.fts w (hr.fts.on hb hb.size)
 refine z8 (v:= .bool (d4 (yO r.fts))) [0] (λw hO=>hM w hO.below) (zU 70 (d4 (yO r.fts)) (λe3=> ?_) (λe3=> ?_))
 rotate_left
 ·rw [if_pos e3] at hP
  exact yI [] (YI 11) (YI 0) λw hO=>⟨by rw [hE,if_pos (by rw [hP];decide),hP],hO.below⟩
 rw [if_neg (by simp [e3])] at hP
 refine zO (α:=Nat) (λi=>[(1,Zp b1 0),(73,.slice r.fA r.fts.length r.fc),(74,YI (r.fts.length:Int)),(75,YI (i:Int))]) (λ_=>[rcB r b1]) (λi m=>(i<=r.fts.length∧∀ f∈r.fts.take i,yR (xK r.rt.needs) f.of=0)/\m=r.fts.length-i) 0 r.fts.length [0] ⟨⟨Nat.zero_le _,λy h=>by simp at h⟩,rfl⟩ ?_
 rintro i3 m3 g3 kk ⟨⟨hi3,hno3⟩,hmm3⟩ nx hkk
 subst hkk
 refine zB 76 [] ((i3:Int)<(r.fts.length:Int)) (λh76=> ?_) (λh76=> ?_)
 ·have hj:i3<r.fts.length:=by omega
  obtain ⟨eb,eo,hA,hel⟩:=hr.fts.top.elem vU i3 hj
  have hgo:=y9 (p:=λf:Fv=>yR (xK r.rt.needs) f.of=0) hj hno3
  have hat:=d8 (f:=λf:Fv=>yR (xK r.rt.needs) f.of) 0 hj hno3
  have hsm:r.fts[i3]∈r.fts:=List.getElem_mem hj
  have hel0:∀ w,Below W.heap.size W w->(loadVar 82 ⟨eb,eo+i3*2+0,none⟩).run Tryz.prog w= .ok (fvV r.fts[i3]) w:=λw hw=>hel w hw _ 0 _ Kr
  have hru:=hr.fts.each _ hsm;have hmu:=hr.fts.m _ hsm;have htu:=hr.fts.text _ hsm
  generalize r.fts[i3]=u at hel0 hgo hat hru hmu htu
  have hc:∀ w,Below W.heap.size W w->YC 57 #[.slice u.A u.of.length u.cap,.slice r.nA r.needs.length r.nc] w (YR (YI (yR (xK r.rt.needs) u.of)) w):=λw hb=>qItems_any u.A u.cap u.of r.nA r.nc r.needs w (hru.on hb hb.size) Om htu (hr.needs.on hb hb.size) hnn λn hn=>(hr.any n hn).on hb hb.size
  refine zJ 78 [] hA r.fts.length r.fc i3 2 hj (zH 79 [] 82 eb (eo+i3*2+0) (fvV u) (λw hO=>hel0 w hO.below) (zL [] λb9=>z8 (v:=YI (yR (xK r.rt.needs) u.of)) [0,0,1] (λw hO=>hc w hO.below) (jW 86 [] (yR (xK r.rt.needs) u.of=0) (λh=> ?_) (λh=> ?_))))
  ·exact x_i 75 [] ((i3+1:Nat):Int) (yT [] [rcB r b1] (λw hO=>hO.past 1 _) (nx (i3+1) (r.fts.length-(i3+1)) [] Om ⟨⟨hj,hgo h⟩,rfl⟩ Kr Kr))
  ·refine yI [] (YI (yR (xK r.rt.needs) u.of)) (YI (i3:Int)) λw hO=>⟨?_,hO.below⟩
   rw [hat h] at hP
   rw [hE,if_pos (by rw [hP];exact h),hP];simp only [Nat.zero_add]
 rw [jG (k:=0) (yQ (p:=λf:Fv=>yR (xK r.rt.needs) f.of=0) (show r.fts.length<=i3 by omega) hno3)] at hP
 clear nx
 have h33:(kZ r.rt).1=0:=by rw [hP]
 rw [if_neg (λh=>h h33)] at hE
 have hs:(xH r.rt).length<=100000000:=rec_small (r:=r.rt) hsn.1 (vprint_short hsn.2.1 hsn.2.2) (by simp only [Rv.rt,List.length_map];omega) (by simp only [Rv.rt,List.length_map];omega) h33 (λf hf s hs=>by
  obtain ⟨y,hy,rfl⟩:=List.mem_map.1 hf
  exact hr.fts.text y hy s hs)
 have hne:=parts_ne h33
 have c4:∀ w,Below W.heap.size W w->YC 58 #[rvV r] w (YR (.string (mkS (xH r.rt))) w):=λw hb=>qText_any r w (hr.on hb hb.size) (λn hn u hu=>hne n.nt (List.mem_map.2 ⟨n,hn,rfl⟩) u.wt (List.mem_map.2 ⟨u,hu,rfl⟩)) hs (hK.on hb)
 have hz:(mkS (xH r.rt)).size=(xH r.rt).length:=bI _
 refine z8 (v:= .string (mkS (xH r.rt))) [0] (λw hO=>c4 w hO.below) (zB 93 [] (((mkS (xH r.rt)).size:Int)>4096) (λh93=> ?_) (λh93=> ?_))
 ·exact yI [] (YI 3) (YI 0) λw hO=>⟨by rw [hE,if_pos Om],hO.below⟩
 ·exact yI [] (YI 0) (YI 0) λw hO=>⟨by rw [hE,if_neg Om],hO.below⟩
theorem qPrint_any (r:Rv)(W:World)(hr:RcIn W W.heap.size r)(hK:RecLib W):YC 18 #[rvV r] W (YR (.tuple #[.string (mkS (jX r.rt)),YI (zT r.rt).1]) W):=by
 have c1:∀ w,Below W.heap.size W w->YC 16 #[rvV r] w (YR (.tuple #[YI (zT r.rt).1,YI (zT r.rt).2]) w):=λw hb=>qCheck_any r w (hr.on hb hb.size) (hK.on hb)
 refine zE Tryz.func18 (yN [] λb1=>z8 (v:= .tuple #[YI (zT r.rt).1,YI (zT r.rt).2]) [0] (λw hO=>c1 w hO.below) (jW 12 [] ((zT r.rt).1=0) (λh=> ?_) (λh=> ?_)))
 rotate_left
 ·exact yI [] (.string ⟨#[]⟩) (YI (zT r.rt).1) λw hO=>⟨by rw [show jX r.rt=[] from if_neg h];rfl,hO.below⟩
 have hne:=parts_ne (mE h).2.2.2.2.1
 have c2:∀ w,Below W.heap.size W w->YC 58 #[rvV r] w (YR (.string (mkS (xH r.rt))) w):=λw hb=>qText_any r w (hr.on hb hb.size) (λn hn u hu=>hne n.nt (List.mem_map.2 ⟨n,hn,rfl⟩) u.wt (List.mem_map.2 ⟨u,hu,rfl⟩)) (by have:=(mE h).2.2.2.2.2;omega) (hK.on hb)
 exact z8 (v:= .string (mkS (xH r.rt))) [0] (λw hO=>c2 w hO.below) (yI [] (.string (mkS (xH r.rt))) (YI 0) λw hO=>⟨by rw [show jX r.rt=xH r.rt from if_pos h,h],hO.below⟩)
theorem qSum_any (r:Rv)(W:World)(hr:RcIn W W.heap.size r)(hK:RecLib W):YC 20 #[rvV r] W (YR (.tuple #[.int .u64 (sumR r.rt),YI (zT r.rt).1]) W):=by
 have c1:∀ w,Below W.heap.size W w->YC 18 #[rvV r] w (YR (.tuple #[.string (mkS (jX r.rt)),YI (zT r.rt).1]) w):=λw hb=>qPrint_any r w (hr.on hb hb.size) (hK.on hb)
 refine zE Tryz.func20 (yN [] λb1=>z8 (v:= .tuple #[.string (mkS (jX r.rt)),YI (zT r.rt).1]) [0] (λw hO=>c1 w hO.below) (jW 12 [] ((zT r.rt).1=0) (λh=> ?_) (λh=> ?_)))
 rotate_left
 ·exact yI [] (.int .u64 0) (YI (zT r.rt).1) λw hO=>⟨by rw [show sumR r.rt=0 from if_neg h],hO.below⟩
 have hl:(xH r.rt).length<=4096:=(mE h).2.2.2.2.2
 have hp:jX r.rt=xH r.rt:=if_pos h
 rw [hp]
 refine x_bytes 15 [] (xH r.rt) (src:=9) (dst:=90) (e:=5) (x:= .tmp 14) λw0 w1 cap hO hB hb hlt hcap=> ?_
 have hb0:=hO.below
 have c2:∀ w,Below w1.heap.size w1 w->YC 63 #[.slice (some ⟨w0.heap.size,0,none⟩) (xH r.rt).length cap] w (YR (.int .u64 ((dSum (xH r.rt)).toNat:Int)) w):=λw hw=>d9Sum_any _ cap (xH r.rt) w (hB.reads.on hw hw.size) Om
 exact z8 (v:= .int .u64 ((dSum (xH r.rt)).toNat:Int)) [] (λw hO=>c2 w hO.below) (yI [] (.int .u64 ((dSum (xH r.rt)).toNat:Int)) (YI 0) λw hO2=>⟨by rw [show sumR r.rt=_ from if_pos h,h],hb0.trans ((hb.mono hb0.size).trans (hO2.below.mono (Nat.le_trans hb0.size (Nat.le_of_lt hlt))))⟩)
end
section
set_option linter.unnecessarySimpa false
theorem NdL.push {A A':Option Addr}{c c':Nat}{xs:List Nv}{o1 o1' oa og oi:List Blk}(h:NdL A c xs o1 oa og oi)(ht:Sl 74 3 (.slice A' (xs.length+1) c') (xs.length+1) (xs.flatMap nvC++nvC ⟨none,0,[],[],[]⟩) o1'):NdL A' c' (xs++[⟨none,0,[],[],[]⟩]) o1' [] [] (oi++(oa++og)):=by
 refine ⟨by rw [List.length_append,List.length_singleton,List.flatMap_append,List.flatMap_singleton];exact ht,.inr ⟨xs,_,rfl,λy hy=> ?_,Sl.nil _ _,λu hu=>by cases hu⟩⟩
 rcases h.split with ⟨e,_⟩|⟨ini,n,e,hi,hw,hf⟩
 ·rw [e] at hy;cases hy
 ·rw [e] at hy
  rcases List.mem_append.1 hy with hy|hy
  ·obtain ⟨o,q1,q2⟩:=hi y hy
   exact ⟨o,q1,λb hb=>List.mem_append_left _ (q2 b hb)⟩
  ·rw [List.mem_singleton.1 hy]
   exact ⟨oa++og,⟨oa,og,rfl,hw,hf⟩,λb hb=>List.mem_append_right _ hb⟩
def rdL (x:Rv)(n1 n2 n3:Value)(k rb:Nat):Blk:=⟨rb, #[.string (mkS x.name),YI x.maj,YI x.min,YI x.pat,.string (mkS x.pre),.string (mkS x.bld),n1,n2,n3,YI (k:Int)],92⟩
theorem add_need (rb:Nat)(x:Rv)(ps:List (List UInt8))(A:Option Addr)(cap:Nat)(ob:List Blk)(W:World)(hR:RdR rb 2 x ob)(hO:Own (ob.map Blk.b) W W ob)(hF:Few x):YC 126 #[.pointer (some ⟨rb,0,none⟩),.slice A ps.length cap] W (AddB rb 2 x ps ob W):=by
 obtain ⟨o1,oa,og,oi,o4,o7,o8,rfl,hN,hB,hT⟩:=hR
 have hFn:=hF.n
 refine zN hO Tryz.func126 (qO [0,0] 1 74 #[.slice none 0 0,.string (mkS []),.string (mkS [])] λb=> ?_)
 refine bP (m:=1) (cp:=1) [] [⟨b, #[.slice none 0 0,.string (mkS []),.string (mkS [])],74⟩] o1 (rdB x 2 rb::zY oa og oi o4 o7 o8) 0 (⟨b, #[.slice none 0 0,.string (mkS []),.string (mkS [])],74⟩::rdB x 2 rb::(o1++zY oa og oi o4 o7 o8)) (λw hO=>vS [] hO λp=>by
  simp only [List.countP_append,List.countP_cons,List.countP_nil,List.cons_append,List.nil_append];omega) hN.top Om λv' ob' h=> ?_
 obtain ⟨A',c',rfl⟩:=h.form
 refine dF 48 [] (Zp rb 6) (Zp rb 6) rfl (x_hold ([⟨b, #[.slice none 0 0,.string (mkS []),.string (mkS [])],74⟩]++ob'++(rdB x 2 rb::zY oa og oi o4 o7 o8)) (rdB x 2 rb::(ob'++zY [] [] (oi++(oa++og)) o4 o7 o8)) (λw hO=>vS [⟨b, #[.slice none 0 0,.string (mkS []),.string (mkS [])],74⟩] hO λp=>by
  simp only [zY,List.countP_append,List.countP_cons,List.countP_nil,List.cons_append,List.nil_append];omega) ?_)
 have hl:(x.needs++[(⟨none,0,[],[],[]⟩:Nv)]).length=x.needs.length+1:=by simp
 have hrd:rdB {x with nA:=A',nc:=c',needs:=x.needs++[⟨none,0,[],[],[]⟩]} 2 rb=rdL x (.slice A' (x.needs.length+1) c') (.slice x.bA x.bars.length x.bc) (.slice x.fA x.fts.length x.fc) 2 rb:=by
  unfold rdB rdC rvC rdL;simp only [hl];rfl
 refine z7 [0] Z4 λw hO=>⟨{x with nA:=A',nc:=c',needs:=x.needs++[⟨none,0,[],[],[]⟩]},rdB {x with nA:=A',nc:=c',needs:=x.needs++[⟨none,0,[],[],[]⟩]} 2 rb::(ob'++zY [] [] (oi++(oa++og)) o4 o7 o8),rfl, ?_,⟨ob',[],[],oi++(oa++og),o4,o7,o8,rfl,⟨hN.push h,hB,hT⟩⟩, ?_⟩
 ·unfold Rv.rt mH;simp [Nv.nt,Rv.ver]
 ·rw [hrd]
  exact hO.past 0 (rdL x (.slice A' (x.needs.length+1) c') (.slice x.bA x.bars.length x.bc) (.slice x.fA x.fts.length x.fc) 2 rb::(ob'++zY [] [] (oi++(oa++og)) o4 o7 o8))
theorem add_bar (rb:Nat)(x:Rv)(ps:List (List UInt8))(A:Option Addr)(cap:Nat)(ob:List Blk)(W:World)(hR:RdR rb 6 x ob)(hO:Own (ob.map Blk.b) W W ob)(hv:ReadsA (ob.map Blk.b) yV W A ps)(hp:3<=ps.length)(hF:Few x):YC 126 #[.pointer (some ⟨rb,0,none⟩),.slice A ps.length cap] W (AddB rb 6 x ps ob W):=by
 obtain ⟨o1,oa,og,oi,o4,o7,o8,rfl,hN,hB,hT⟩:=hR
 obtain ⟨pb,po,hA,hld⟩:=m6 hv Om
 have hFb:=hF.b
 obtain ⟨p1,hp1⟩:∃ p,ps.getD 1 []=p:=⟨_,rfl⟩
 obtain ⟨p2,hp2⟩:∃ p,ps.getD 2 []=p:=⟨_,rfl⟩
 have hl1:∀ w,Own ((rdB x 6 rb::(o1++zY oa og oi o4 o7 o8)).map Blk.b) W w []->(loadVar 9 ⟨pb,po+1*1+0,none⟩).run Tryz.prog w= .ok (.string (mkS p1)) w:=λw hO=>by have:=hld w hO 1 Om;rw [hp1] at this;exact this
 have hl2:∀ w,Own ((rdB x 6 rb::(o1++zY oa og oi o4 o7 o8)).map Blk.b) W w []->(loadVar 9 ⟨pb,po+2*1+0,none⟩).run Tryz.prog w= .ok (.string (mkS p2)) w:=λw hO=>by have:=hld w hO 2 Om;rw [hp2] at this;exact this
 refine zN hO Tryz.func126 (gY 14 [0] [rdB x 6 rb] (λw hO=>Own.nth 0 (rdB x 6 rb) hO) ?_)
 refine wL 50122 [0] 6 hA ps.length cap 1 1 Om (jU 50123 [] 7 9 pb (po+1*1+0) (.string (mkS p1)) (λw hO=>hl1 w hO.no) (wL 50125 [] 9 hA ps.length cap 2 1 Om (jU 50126 [] 10 9 pb (po+2*1+0) (.string (mkS p2)) (λw hO=>hl2 w hO.no) (kY [] 12 (fE 1 80 #[.string (mkS p1),.string (mkS p2),.string (mkS [])] λb=>kY [] 13 ?_)))))
 refine p7 (m:=1) (cp:=1) [⟨b, #[.string (mkS p1),.string (mkS p2),.string (mkS [])],80⟩] o4 (rdB x 6 rb::(o1++zY oa og oi [] o7 o8)) 0 (⟨b, #[.string (mkS p1),.string (mkS p2),.string (mkS [])],80⟩::rdB x 6 rb::(o1++zY oa og oi o4 o7 o8)) [rdB x 6 rb] (λw hO=>vS [] hO λp=>by
  simp only [zY,List.countP_append,List.countP_cons,List.countP_nil,List.cons_append,List.nil_append];omega) (λo w hO=>hO.take (λy hy=>by rw [List.mem_singleton.1 hy];simp) (by simp)) hB Om λv' ob' h=> ?_
 obtain ⟨A',c',rfl⟩:=h.form
 refine dF 131 [] (Zp rb 7) (Zp rb 7) rfl (x_hold ([⟨b, #[.string (mkS p1),.string (mkS p2),.string (mkS [])],80⟩]++ob'++(rdB x 6 rb::(o1++zY oa og oi [] o7 o8))) (rdB x 6 rb::(o1++zY oa og oi ob' o7 o8)) (λw hO=>vS [⟨b, #[.string (mkS p1),.string (mkS p2),.string (mkS [])],80⟩] hO λp=>by
  simp only [zY,List.countP_append,List.countP_cons,List.countP_nil,List.cons_append,List.nil_append];omega) ?_)
 have hl:(x.bars++[(⟨p1,p2,[]⟩:Bv)]).length=x.bars.length+1:=by simp
 have hrd:rdB {x with bA:=A',bc:=c',bars:=x.bars++[⟨p1,p2,[]⟩]} 6 rb=rdL x (.slice x.nA x.needs.length x.nc) (.slice A' (x.bars.length+1) c') (.slice x.fA x.fts.length x.fc) 6 rb:=by
  unfold rdB rdC rvC rdL;simp only [hl];rfl
 refine z7 [0] Z4 λw hO=>⟨{x with bA:=A',bc:=c',bars:=x.bars++[⟨p1,p2,[]⟩]},rdB {x with bA:=A',bc:=c',bars:=x.bars++[⟨p1,p2,[]⟩]} 6 rb::(o1++zY oa og oi ob' o7 o8),rfl, ?_,⟨o1,oa,og,oi,ob',o7,o8,rfl,⟨hN, ?_,hT⟩⟩, ?_⟩
 ·show Rv.rt _={x.rt with bars:=x.rt.bars++[⟨ps.getD 1 [],ps.getD 2 [],[]⟩]}
  rw [hp1,hp2];unfold Rv.rt;simp [Bv.bt,Rv.ver]
 ·show Sl _ 3 (.slice A' (x.bars++[_]).length c') _ _ _
  rw [hl,List.flatMap_append,List.flatMap_singleton];exact h
 ·rw [hrd]
  exact hO.past 0 (rdL x (.slice x.nA x.needs.length x.nc) (.slice A' (x.bars.length+1) c') (.slice x.fA x.fts.length x.fc) 6 rb::(o1++zY oa og oi ob' o7 o8))
theorem reads_from {w:World}{pb po cap:Nat}{ps:List (List UInt8)}(h:Reads yV w w.heap.size (some ⟨pb,po,none⟩) ps)(h2:2<=ps.length)(hc:ps.length<=cap):Reads yV w w.heap.size (some ⟨pb,po+(if cap=2 then 0 else 2),none⟩) (ps.drop 2):=λh0=>by
 obtain ⟨b,off,e,hlt,hcell⟩:=h Om
 obtain ⟨rfl,rfl⟩:pb=b/\po=off:=by cases e;exact ⟨rfl,rfl⟩
 rw [List.length_drop] at h0
 rw [if_neg Om]
 refine ⟨pb,po+2,rfl,hlt,λk u hk=> ?_⟩
 have:(ps.flatMap yV)[2+k]?=some u:=by
  have hs:ps.flatMap yV=(ps.take 2).flatMap yV++(ps.drop 2).flatMap yV:=by rw [←List.flatMap_append,List.take_append_drop]
  have h2':((ps.take 2).flatMap yV).length=2:=by rw [jF zX,List.length_take,Nat.min_eq_left h2]
  rw [hs,List.getElem?_append_right Om,h2',show 2+k-2=k by omega];exact hk
 have:=hcell (2+k) u this
 rw [←Nat.add_assoc] at this;exact this
theorem add_feat (rb:Nat)(x:Rv)(ps:List (List UInt8))(A:Option Addr)(cap:Nat)(ob:List Blk)(W:World)(hR:RdR rb 8 x ob)(hO:Own (ob.map Blk.b) W W ob)(hv:ReadsA (ob.map Blk.b) yV W A ps)(hp:2<=ps.length/\ps.length<=100000)(hcap:ps.length<=cap)(hF:Few x):YC 126 #[.pointer (some ⟨rb,0,none⟩),.slice A ps.length cap] W (AddB rb 8 x ps ob W):=by
 obtain ⟨o1,oa,og,oi,o4,o7,o8,rfl,hN,hB,hT⟩:=hR
 obtain ⟨pb,po,hA,hld⟩:=m6 hv Om
 have hFf:=hF.f
 obtain ⟨p1,hp1⟩:∃ p,ps.getD 1 []=p:=⟨_,rfl⟩
 have hl1:∀ w,Own ((rdB x 8 rb::(o1++zY oa og oi o4 o7 o8)).map Blk.b) W w []->(loadVar 9 ⟨pb,po+1*1+0,none⟩).run Tryz.prog w= .ok (.string (mkS p1)) w:=λw hO=>by have:=hld w hO 1 Om;rw [hp1] at this;exact this
 have hds:(ps.drop 2).length=ps.length-2:=List.length_drop ..
 have hRd:∀ w,Own ((rdB x 8 rb::(o1++zY oa og oi o4 o7 o8)).map Blk.b) W w []->Reads yV w w.heap.size (some ⟨pb,po+(if cap=2 then 0 else 2),none⟩) (ps.drop 2):=λw hO=>reads_from (hA▸hv.at hO) hp.1 hcap
 refine zN hO Tryz.func126 (gY 14 [0] [rdB x 8 rb] (λw hO=>Own.nth 0 (rdB x 8 rb) hO) ?_)
 refine wL 50152 [0] 6 hA ps.length cap 1 1 Om (jU 50153 [] 7 9 pb (po+1*1+0) (.string (mkS p1)) (λw hO=>hl1 w hO.no) (xh_sllo 50155 [] 9 hA ps.length cap 1 2 Om Om (.slice (some ⟨pb,po+(if cap=2 then 0 else 2),none⟩) (ps.drop 2).length (cap-2)) (by rw [hds];rfl) (kY [] 10 ?_)))
 refine xh_appR (g:=yV) (T:=9) (k:=0) (v:= .slice none 0 0) (xs:=[]) (ps.drop 2) [] [] (rdB x 8 rb::(o1++zY oa og oi o4 o7 o8)) (rdB x 8 rb::(o1++zY oa og oi o4 o7 o8)) [rdB x 8 rb] (cp:=cap-2) (λw hO=>hO) (λo w hO=>hO.take (λy hy=>by rw [List.mem_singleton.1 hy];simp) (by simp)) zX strC_one (λw hO=>hRd w hO.no) (Sl.nil _ _) Om λv1 ob1 h1=> ?_
 have hS:SlT v1 (ps.drop 2) ob1:=by
  unfold SlT;rw [kS]
  have:=h1
  rw [Nat.zero_add,List.nil_append] at this;exact this
 obtain ⟨A1,c1,rfl⟩:=hS.form
 refine kY [] 12 (fE 1 82 #[.string (mkS p1),.slice A1 (ps.drop 2).length c1] λb=>kY [] 13 ?_)
 refine p7 (m:=1) (cp:=1) [⟨b, #[.string (mkS p1),.slice A1 (ps.drop 2).length c1],82⟩] o7 (rdB x 8 rb::(o1++zY oa og oi o4 [] (o8++ob1))) 0 (⟨b, #[.string (mkS p1),.slice A1 (ps.drop 2).length c1],82⟩::([]++ob1++(rdB x 8 rb::(o1++zY oa og oi o4 o7 o8)))) [rdB x 8 rb] (λw hO=>vS [] hO λp=>by
  simp only [zY,List.countP_append,List.countP_cons,List.countP_nil,List.cons_append,List.nil_append];omega) (λo w hO=>hO.take (λy hy=>by rw [List.mem_singleton.1 hy];simp) (by simp)) hT.top Om λv' ob' h=> ?_
 obtain ⟨A',c',rfl⟩:=h.form
 refine dF 161 [] (Zp rb 8) (Zp rb 8) rfl (x_hold ([⟨b, #[.string (mkS p1),.slice A1 (ps.drop 2).length c1],82⟩]++ob'++(rdB x 8 rb::(o1++zY oa og oi o4 [] (o8++ob1)))) (rdB x 8 rb::(o1++zY oa og oi o4 ob' (o8++ob1))) (λw hO=>vS [⟨b, #[.string (mkS p1),.slice A1 (ps.drop 2).length c1],82⟩] hO λp=>by
  simp only [zY,List.countP_append,List.countP_cons,List.countP_nil,List.cons_append,List.nil_append];omega) ?_)
 have hl:(x.fts++[(⟨p1,A1,ps.drop 2,c1⟩:Fv)]).length=x.fts.length+1:=by simp
 have hrd:rdB {x with fA:=A',fc:=c',fts:=x.fts++[⟨p1,A1,ps.drop 2,c1⟩]} 8 rb=rdL x (.slice x.nA x.needs.length x.nc) (.slice x.bA x.bars.length x.bc) (.slice A' (x.fts.length+1) c') 8 rb:=by
  unfold rdB rdC rvC rdL;simp only [hl];rfl
 refine z7 [0] Z4 λw hO=>⟨{x with fA:=A',fc:=c',fts:=x.fts++[⟨p1,A1,ps.drop 2,c1⟩]},rdB {x with fA:=A',fc:=c',fts:=x.fts++[⟨p1,A1,ps.drop 2,c1⟩]} 8 rb::(o1++zY oa og oi o4 ob' (o8++ob1)),rfl, ?_,⟨o1,oa,og,oi,o4,ob',o8++ob1,rfl,⟨hN,hB, ?_⟩⟩, ?_⟩
 ·show Rv.rt _={x.rt with fts:=x.rt.fts++[⟨ps.getD 1 [],ps.drop 2⟩]}
  rw [hp1];unfold Rv.rt;simp [yO,Fv.ft,Rv.ver]
 ·exact (hT.more λb hb=>List.mem_append_left _ hb).add h ⟨ob1,hS,λb hb=>List.mem_append_right _ hb⟩
 ·rw [hrd]
  exact hO.past 0 (rdL x (.slice x.nA x.needs.length x.nc) (.slice x.bA x.bars.length x.bc) (.slice A' (x.fts.length+1) c') 8 rb::(o1++zY oa og oi o4 ob' (o8++ob1)))
end
section
set_option linter.unnecessarySimpa false
theorem add_wish (rb:Nat)(x:Rv)(ps:List (List UInt8))(A:Option Addr)(cap:Nat)(ob:List Blk)(W:World)(hR:RdR rb 3 x ob)(hO:Own (ob.map Blk.b) W W ob)(hv:ReadsA (ob.map Blk.b) yV W A ps)(hp:5<=ps.length)(hs:∀ s∈ps,s.length<=1000000)(hF:Few x)(hne:x.needs≠[])(hK:∀ w,Own (ob.map Blk.b) W w []->HasLib w):YC 126 #[.pointer (some ⟨rb,0,none⟩),.slice A ps.length cap] W (AddB rb 3 x ps ob W):=by
 obtain ⟨o1,oa,og,oi,o4,o7,o8,rfl,hN,hB,hT⟩:=hR
 obtain ⟨pb,po,hA,hld⟩:=m6 hv Om
 rcases hN.split with ⟨e,_⟩|⟨ini,n,hx,hi,hw,hf⟩
 ·exact absurd e hne
 have hlen:x.needs.length=ini.length+1:=by rw [hx];simp
 obtain ⟨g,cur,hg,rfl⟩:=sl_addr hN.top Om
 have hS:Sl 74 3 (.slice (some ⟨g,0,none⟩) (ini.length+1) x.nc) (ini.length+1) ((ini++[n]).flatMap nvC) [⟨g,cur,74⟩]:=by have:=hN.top;rw [hlen,hx,hg] at this;exact this
 have hFn:=hF.n
 have hFa:n.any.length<=5000:=hF.a n (by rw [hx];simp)
 have hlast:=lastN_at g ini.length x.nc x.needs.length hlen Om
 rw [←hg] at hlast
 obtain ⟨p1,hp1⟩:∃ p,ps.getD 1 []=p:=⟨_,rfl⟩
 obtain ⟨p2,hp2⟩:∃ p,ps.getD 2 []=p:=⟨_,rfl⟩
 obtain ⟨p3,hp3⟩:∃ p,ps.getD 3 []=p:=⟨_,rfl⟩
 obtain ⟨p4,hp4⟩:∃ p,ps.getD 4 []=p:=⟨_,rfl⟩
 have hs2:p2.length<=1000000:=by
  rw [←hp2,List.getD_eq_getElem?_getD,List.getElem?_eq_getElem (by omega)];exact hs _ (List.getElem_mem _)
 obtain ⟨M,hM⟩:∃ M,(rdB x 3 rb::([⟨g,cur,74⟩]++zY oa og oi o4 o7 o8)).map Blk.b=M:=⟨_,rfl⟩
 rw [hM] at hO hld hK
 have hl1:∀ w,Own M W w []->(loadVar 9 ⟨pb,po+1*1+0,none⟩).run Tryz.prog w= .ok (.string (mkS p1)) w:=λw hO=>by have:=hld w hO 1 Om;rw [hp1] at this;exact this
 have hl2:∀ w,Own M W w []->(loadVar 9 ⟨pb,po+2*1+0,none⟩).run Tryz.prog w= .ok (.string (mkS p2)) w:=λw hO=>by have:=hld w hO 2 Om;rw [hp2] at this;exact this
 have hl3:∀ w,Own M W w []->(loadVar 9 ⟨pb,po+3*1+0,none⟩).run Tryz.prog w= .ok (.string (mkS p3)) w:=λw hO=>by have:=hld w hO 3 Om;rw [hp3] at this;exact this
 have hl4:∀ w,Own M W w []->(loadVar 9 ⟨pb,po+4*1+0,none⟩).run Tryz.prog w= .ok (.string (mkS p4)) w:=λw hO=>by have:=hld w hO 4 Om;rw [hp4] at this;exact this
 obtain ⟨fs,hfs⟩:∃ fs,(if p2=[45] then [] else zD 44 [] p2)=fs:=⟨_,rfl⟩
 have hc:∀ w,Own M W w []->YC 186 #[.string (mkS p2)] w λe w'=>∃ v ob',e= .returned v/\SlT v fs ob'/\Own [] w w' ob':=λw hO=>hfs▸qFeats_any p2 w hs2 (hK w hO)
 have hrd:cur[ini.length*3+0]?=some (.slice n.A n.any.length n.cap):=hS.lastAt jO 0 (.slice n.A n.any.length n.cap) rfl
 refine zN hO Tryz.func126 (z8 (v:=Zp g (ini.length*3)) [0] (λw hO=>hlast w) ?_)
 refine gY 22 [] [⟨g,cur,74⟩] (λw hO=>Own.nth 1 ⟨g,cur,74⟩ hO) (xh_ldk 50060 [] 4 0 cur (ini.length*3+0) 72 (.slice n.A n.any.length n.cap) hrd (wL 50062 [] 6 hA ps.length cap 1 1 Om (jU 50063 [] 7 9 pb (po+1*1+0) (.string (mkS p1)) (λw hO=>hl1 w hO.no) ?_)))
 refine wL 50065 [] 9 hA ps.length cap 2 1 Om (jU 50066 [] 10 9 pb (po+2*1+0) (.string (mkS p2)) (λw hO=>hl2 w hO.no) ?_)
 refine wL 50069 [] 13 hA ps.length cap 3 1 Om (jU 50070 [] 14 9 pb (po+3*1+0) (.string (mkS p3)) (λw hO=>hl3 w hO.no) ?_)
 refine xh_seqv 50071 [] 15 p3 vN (wL 50073 [] 17 hA ps.length cap 4 1 Om (jU 50074 [] 18 9 pb (po+4*1+0) (.string (mkS p4)) (λw hO=>hl4 w hO.no) ?_))
 refine kY [] 11 (nB (R:=λv ob=>SlT v fs ob) (λw hO=>hc w hO.no) λv obF hF=> ?_)
 obtain ⟨fA,fc,rfl⟩:=hF.form
 refine kY [] 20 (fE 1 77 #[.string (mkS p1),.string (mkS p4),.slice fA fs.length fc,.bool (decide (p3=vN))] λb=>kY [] 21 ?_)
 refine p7 (m:=1) (cp:=1) [⟨b, #[.string (mkS p1),.string (mkS p4),.slice fA fs.length fc,.bool (decide (p3=vN))],77⟩] oa (rdB x 3 rb::⟨g,cur,74⟩::zY [] (og++obF) oi o4 o7 o8) 0 (⟨b, #[.string (mkS p1),.string (mkS p4),.slice fA fs.length fc,.bool (decide (p3=vN))],77⟩::((rdB x 3 rb::([⟨g,cur,74⟩]++zY oa og oi o4 o7 o8))++obF)) [⟨g,cur,74⟩] (λw hO=>vS [] hO λp=>by
  simp only [zY,List.countP_append,List.countP_cons,List.countP_nil,List.cons_append,List.nil_append];omega) (λo w hO=>hO.take (λy hy=>by rw [List.mem_singleton.1 hy];simp) (by simp)) hw Om λv' ob' h=> ?_
 obtain ⟨A',c',rfl⟩:=h.form
 obtain ⟨u,hu⟩:∃ u:Wv,u=⟨p1,p4,fA,fc,fs,decide (p3=vN)⟩:=⟨_,rfl⟩
 have hl:(n.any++[u]).length=n.any.length+1:=by simp
 have hput:=Sl.putLast jO hS {n with A:=A',cap:=c',any:=n.any++[u]} 0 #[.slice A' (n.any.length+1) c'] (by simp) (by unfold nvC;simp only [hl];rfl)
 refine dF 79 [] (Zp g (ini.length*3+0)) (Zp g (ini.length*3+0)) rfl (x_hold ([⟨b, #[.string (mkS p1),.string (mkS p4),.slice fA fs.length fc,.bool (decide (p3=vN))],77⟩]++ob'++(rdB x 3 rb::⟨g,cur,74⟩::zY [] (og++obF) oi o4 o7 o8)) (rdB x 3 rb::⟨g,cur,74⟩::zY ob' (og++obF) oi o4 o7 o8) (λw hO=>vS [⟨b, #[.string (mkS p1),.string (mkS p4),.slice fA fs.length fc,.bool (decide (p3=vN))],77⟩] hO λp=>by
  simp only [zY,List.countP_append,List.countP_cons,List.countP_nil,List.cons_append,List.nil_append];omega) ?_)
 refine x_sto 1 ⟨g,cur,74⟩ (ini.length*3+0) 1 (.slice A' (n.any.length+1) c') (rdB x 3 rb::⟨g,cur,74⟩::zY ob' (og++obF) oi o4 o7 o8) hput.2 ?_
 have hfin:∀ w,Own M W w (rdB x 3 rb::⟨g,zR cur (ini.length*3+0) #[.slice A' (n.any.length+1) c'],74⟩::zY ob' (og++obF) oi o4 o7 o8)->AddB rb 3 x ps (rdB x 3 rb::([⟨g,cur,74⟩]++zY oa og oi o4 o7 o8)) W (.returned (.bool (mH x.rt 3 ps).2)) w:=λw hO=>by
  refine ⟨{x with needs:=ini++[{n with A:=A',cap:=c',any:=n.any++[u]}]},rdB {x with needs:=ini++[{n with A:=A',cap:=c',any:=n.any++[u]}]} 3 rb::([⟨g,zR cur (ini.length*3+0) #[.slice A' (n.any.length+1) c'],74⟩]++zY ob' (og++obF) oi o4 o7 o8),rfl, ?_,⟨_,ob',og++obF,oi,o4,o7,o8,rfl,⟨⟨?_,.inr ⟨ini,_,rfl,hi, ?_,λy hy=> ?_⟩⟩,hB,hT⟩⟩, ?_⟩
  ·refine rt_lastN hx (f:=λn=>{n with any:=n.any++[anyW ps (ps.getD 4 [])]}) ?_
   unfold Nv.nt anyW
   rw [hp1,hp2,hp3,hp4,hfs,hu];simp [Wv.wt]
  ·exact hg▸sl_len hput.1
  ·show Sl _ 4 (.slice A' (n.any++[u]).length c') _ _ _
   rw [hl,List.flatMap_append,List.flatMap_singleton,hu];exact h
  ·rcases List.mem_append.1 hy with hy|hy
   ·obtain ⟨o,q1,q2⟩:=hf y hy
    exact ⟨o,q1,λb hb=>List.mem_append_left _ (q2 b hb)⟩
   ·rw [List.mem_singleton.1 hy,hu]
    exact ⟨obF,hF,λb hb=>List.mem_append_right _ hb⟩
  ·rw [rd_lastN hx,hM];exact hO
 have hb:(mH x.rt 3 ps).2=(decide (p3=vN)||decide (p3=fG)):=by rw [←hp3];rfl
 refine zJ 81 [] hA ps.length cap 3 1 (by omega) (zH 82 [] 9 pb (po+3*1+0) (.string (mkS p3)) (λw hO=>hl3 w hO.no) (x2 83 [] p3 vN (λq=> ?_) (λq=> ?_)))
 ·refine z7 [] Z4 λw hO=> ?_
  have:=hfin w (hO.past 0 (rdB x 3 rb::⟨g,zR cur (ini.length*3+0) #[.slice A' (n.any.length+1) c'],74⟩::zY ob' (og++obF) oi o4 o7 o8))
  rw [hb,decide_eq_true q,Bool.true_or] at this;exact this
 ·refine zJ 86 [] hA ps.length cap 3 1 (by omega) (zH 87 [] 9 pb (po+3*1+0) (.string (mkS p3)) (λw hO=>hl3 w hO.no) (x2 88 [] p3 fG (λq2=> ?_) (λq2=> ?_)))
  ·refine z7 [] Z4 λw hO=> ?_
   have:=hfin w (hO.past 0 (rdB x 3 rb::⟨g,zR cur (ini.length*3+0) #[.slice A' (n.any.length+1) c'],74⟩::zY ob' (og++obF) oi o4 o7 o8))
   rw [hb,decide_eq_true q2,Bool.or_true] at this;exact this
  ·refine z7 [] Z5 λw hO=> ?_
   have:=hfin w (hO.past 0 (rdB x 3 rb::⟨g,zR cur (ini.length*3+0) #[.slice A' (n.any.length+1) c'],74⟩::zY ob' (og++obF) oi o4 o7 o8))
   rw [hb,decide_eq_false q,decide_eq_false q2,Bool.or_false] at this;exact this
end
section
set_option linter.unnecessarySimpa false
theorem pcsB_le (b:UInt8):∀ (k:Nat) (s:List UInt8),∀ x∈bH b k s,x.length<=s.length
 |0,s=>λx hx=>by rw [bH,List.mem_singleton] at hx;rw [hx];exact Nat.le_refl _
 |k+1,s=>λx hx=>by
  have hb:=mC b s
  unfold bH at hx
  split at hx
  ·rename_i h
   rw [if_pos h] at hb
   have hl:=congrArg List.length hb
   simp only [List.length_append,List.length_cons] at hl
   rcases List.mem_cons.1 hx with rfl|hx
   ·omega
   ·have:=pcsB_le b k _ x hx;omega
  ·rw [List.mem_singleton.1 hx];exact Nat.le_refl _
theorem laPs_le (l:La)(s:List UInt8):∀ p∈xE l s,p.length<=s.length:=λp hp=>by
 unfold xE at hp
 split at hp
 ·exact pcsB_le _ _ _ p hp
 ·have:=dJ 32 s [] p hp;simpa using this
theorem laOk_len {l:La}{s:List UInt8}(h:dV l s=true):l.parts<=(xE l s).length:=by
 unfold dV at h
 simp only [Bool.and_eq_true,Bool.or_eq_true,decide_eq_true_eq] at h
 omega
theorem qAdd_any (l:La)(hl:l∈lays)(s:List UInt8)(hls:dV l s=true)(hs:s.length<=90000)(rb:Nat)(x:Rv)(A:Option Addr)(cap:Nat)(ob:List Blk)(W:World)(hR:RdR rb l.kind x ob)(hO:Own (ob.map Blk.b) W W ob)(hv:ReadsA (ob.map Blk.b) yV W A (xE l s))(hcap:(xE l s).length<=cap)(hF:Few x)(hn:3<=l.kind->l.kind<=5->x.needs≠[])(hb:l.kind=7->x.bars≠[])(hK:∀ w,Own (ob.map Blk.b) W w []->HasLib w):YC 126 #[.pointer (some ⟨rb,0,none⟩),.slice A (xE l s).length cap] W (AddB rb l.kind x (xE l s) ob W):=by
 have hle:=laOk_len hls
 have hps:∀ p∈xE l s,p.length<=1000000:=λp hp=>by have:=laPs_le l s p hp;omega
 have hfew:l.parts<=1000->(xE l s).length<=s.length+1001:=laPs_few l s
 clear hls
 generalize xE l s=ps at*
 simp only [lays,List.mem_cons,List.not_mem_nil,or_false] at hl
 rcases hl with rfl|rfl|rfl|rfl|rfl|rfl|rfl|rfl
 ·exact add_head rb x ps A cap ob W hR hO hv hle hps λw hw=>(hK w hw).tab
 ·exact add_need rb x ps A cap ob W hR hO hF
 ·exact add_wish rb x ps A cap ob W hR hO hv hle hps hF (hn (by decide) (by decide)) hK
 ·exact add_when rb x ps A cap ob W hR hO hv hle hF (hn (by decide) (by decide))
 ·exact add_opt rb x ps A cap ob W hR hO hv hle hF (hn (by decide) (by decide))
 ·exact add_bar rb x ps A cap ob W hR hO hv hle hF
 ·exact add_bwhen rb x ps A cap ob W hR hO hv hle hF (hb rfl)
 ·exact add_feat rb x ps A cap ob W hR hO hv ⟨hle,by have:=hfew (by decide);omega⟩ hcap hF
def layC:Array Value:=(lays.flatMap λl=>(laV l).cells.toList).toArray
structure LyAt (W:World):Prop where
 lt:0<W.heap.size
 held:∃ T,W.heap[(0:Nat)]?=some (.cells layC T)
theorem LyAt.on {W w:World}(h:LyAt W)(hb:Below W.heap.size W w):LyAt w:=
 ⟨Nat.lt_of_lt_of_le h.lt hb.size,by obtain ⟨T,q⟩:=h.held;exact ⟨T,by rw [hb.block _ h.lt];exact q⟩⟩
theorem LyAt.all {W:World}(h:LyAt W):(loadVar 157 ⟨0,0,none⟩).run Tryz.prog W= .ok (.agg layC) W:=by
 obtain ⟨T,q⟩:=h.held
 exact yX Kr q
theorem lay_part:∀ (k:Nat) (l:La),lays[k]?=some l→∀ w,(part 156 layC (k*7)).run Tryz.prog w= .ok (laV l) w
 |0,_,h,w=>by cases h;kernel_rfl
 |1,_,h,w=>by cases h;kernel_rfl
 |2,_,h,w=>by cases h;kernel_rfl
 |3,_,h,w=>by cases h;kernel_rfl
 |4,_,h,w=>by cases h;kernel_rfl
 |5,_,h,w=>by cases h;kernel_rfl
 |6,_,h,w=>by cases h;kernel_rfl
 |7,_,h,w=>by cases h;kernel_rfl
 |k+8,_,h,w=>by cases h
theorem run_idxS {P:Program}{ρ:Operand->Value}{o:Oper}{t e:TypeId}{x y:Operand}{n k sz:Nat}{vals:Array Value}{v:Value}(hk:k<n)(ho:o.op= .index t x y)(hx:ρ x= .agg vals)(hy:ρ y=YI (k:Int))
  (hu:P.underlying t=some (.array n e)) (hp:∀ w,(part e vals (k*sz)).run P w= .ok v w) (hs:(P.info? e).map (·.size)=some sz) (w:World):(execOp ρ o).run P w= .ok (.value v) w:=by
 cases he:P.info? e with
 |none=>rw [he] at hs;cases hs
 |some i=>
  rw [he] at hs
  have hs1:i.size=sz:=Option.some.inj hs
  unfold execOp
  have hkn:¬ n<=k:=by omega
  simp [ho,hx,hy,Instr.index,Sem.run_bind,asIntOf,run_underlying hu,sizeOf,typeInfo,he,hs1,hp,hk,hkn]
theorem slT_out {M:List Nat}{W w:World}{R ob op:List Blk}{A:Option Addr}{n cap:Nat}{l:List (List UInt8)}(hO:Own M W w (R++ob))(h:SlT (.slice A n cap) l op)(hn:l.length=n)(hs:∀ b∈op,b∈R):ReadsA (ob.map Blk.b) yV w A l:=λh0=>by
 subst hn
 obtain ⟨g,cur,e1,e2,_⟩:=Sl.block h h0
 obtain ⟨b,off,e3,hlt,hc⟩:=SlT.reads h rfl hO (λx hx=>List.mem_append_left _ (hs x hx)) h0
 refine ⟨b,off,e3,hlt,λhb=> ?_,hc⟩
 rw [e1] at e3
 injection e3 with e3
 injection e3 with e4 _
 have ha:=hO.apart
 rw [List.map_append,List.nodup_append] at ha
 refine ha.2.2 b ?_ b hb rfl
 rw [←e4]
 exact List.mem_map.2 ⟨⟨g,cur,9⟩,hs _ (by rw [e2];exact List.mem_singleton.2 rfl),rfl⟩
end
section
set_option linter.unnecessarySimpa false
section
variable {M:List Nat}{P:Program}{n:Nat}{W:World}{Q:Exit->Act->World->Prop}{c:Xc}
theorem x_idxS (d:Nat)(h:List Nat)(k N sz:Nat)(v:Value)(vals:Array Value)(e:TypeId)(hN:k<N)(hp:∀ w,(part e vals (k*sz)).run P w= .ok v w)(hg:zF M P n W Q ((xgo P n (d+50000) h c).put v))
  (hkt:(xgl P n (d+50000) h c,xW n (xgo P n (d+50000) h c),(xO (xgo P n (d+50000) h c)).op,ev n (xgo P n (d+50000) h c).f (oX (xO (xgo P n (d+50000) h c))),ev n (xgo P n (d+50000) h c).f (oY (xO (xgo P n (d+50000) h c))),P.underlying (oT (xO (xgo P n (d+50000) h c))),(P.info? e).map (·.size))
   =(xgr P n (d+50000) h c,true,.index (oT (xO (xgo P n (d+50000) h c))) (oX (xO (xgo P n (d+50000) h c))) (oY (xO (xgo P n (d+50000) h c))),.agg vals,YI (k:Int),some (.array N e),some sz):=by kernel_rfl):zF M P n W Q c:=by
 simp only [Prod.mk.injEq] at hkt
 obtain ⟨hk,e1,e2,e3,e4,e5,e6⟩:=hkt
 exact zK h c hk (kB e1 (run_idxS hN e2 e3 e4 e5 hp e6) hg)
end
structure TakeB (rb k:Nat)(x:Rv)(s:List UInt8)(ob:List Blk)(W:World)(e:Ending)(w':World):Prop where
 ex:∃ b x' k' ob',e= .returned (.bool b)/\RdR rb k' x' ob'/\Own (ob.map Blk.b) W w' ob'/\(match xP x.rt k s lays with|some (y,kk)=>b=true/\x'.rt=y/\k'=kk|none=>b=false)
theorem lays_at {i:Nat}(h:i<8):∃ l,lays[i]?=some l/\lays.drop i=l::lays.drop (i+1)/\l∈lays:=by
 have h':i<lays.length:=h
 exact ⟨lays[i],List.getElem?_eq_getElem h',List.drop_eq_getElem_cons h',List.getElem_mem h'⟩
theorem lays_fits:∀ l∈lays,(3<=l.kind->l.kind<=5->2<=l.lo/\l.hi<=5)/\(l.kind=7->6<=l.lo/\l.hi<=7)/\1<=l.parts/\l.parts<=1000:=by decide
theorem qTake_any (rb k:Nat)(x:Rv)(s:List UInt8)(ob:List Blk)(W:World)(hR:RdR rb k x ob)(hO:Own (ob.map Blk.b) W W ob)(hs:s.length<=90000)(hF:Few x)(hI:InvA x.rt k)(hK:∀ w,Own (ob.map Blk.b) W w []->HasLib w/\LyAt w):YC 67 #[.pointer (some ⟨rb,0,none⟩),.string (mkS s)] W (TakeB rb k x s ob W):=by
 obtain ⟨o1,oa,og,oi,o4,o7,o8,hob,hQ⟩:=hR
 obtain ⟨T,hT⟩:∃ T,o1++zY oa og oi o4 o7 o8=T:=⟨_,rfl⟩
 rw [hT] at hob
 subst hob
 have hRd:∀ j,RdR rb j x (rdB x j rb::T):=λj=>⟨o1,oa,og,oi,o4,o7,o8,by rw [hT],hQ⟩
 obtain ⟨M,hM⟩:∃ M,(rdB x k rb::T).map Blk.b=M:=⟨_,rfl⟩
 have hMj:∀ j,(rdB x j rb::T).map Blk.b=M:=λj=>hM
 rw [hM] at hO hK
 refine zN hO Tryz.func67 (zH 9 [] 157 0 0 (.agg layC) (λw hO=>(hK w hO.no).2.all) ?_)
 refine zO (α:=Nat) (λi=>[(0,Zp rb 0),(1,.string (mkS s)),(9,.agg layC),(10,YI (i:Int))]) (λ_=>rdB x k rb::T) (λi m=>(i<=8/\xP x.rt k s lays=xP x.rt k s (lays.drop i))/\m=8-i) 0 8 [] ⟨⟨Nat.zero_le _,rfl⟩,rfl⟩ ?_
 rintro i mm g kk ⟨⟨hi,hE⟩,hmm⟩ nx hkk
 subst hkk
 refine zB 11 [] ((i:Int)<8) (λh11=> ?_) (λh11=> ?_)
 rotate_left
 ·refine z7 [] Z5 λw hO=>⟨false,x,k,rdB x k rb::T,rfl,hRd k,by rw [hM];exact hO.past 0 _, ?_⟩
  rw [hE,List.drop_eq_nil_of_le (by show 8<=i;omega)];rfl
 obtain ⟨l,hl,hd,hlm⟩:=lays_at (show i<8 by omega)
 obtain ⟨hf1,hf2,hp⟩:=lays_fits l hlm
 rw [hd] at hE
 refine x_idxS 12 [] i 8 7 (laV l) layC 156 (by omega) (lay_part i l hl) (zL [] λb6=>zB 19 [0,1,0] ((k:Int)<(l.lo:Int)) (λh19=> ?_) (λh19=>zB 27 [1,0] ((k:Int)>(l.hi:Int)) (λh27=> ?_) (λh27=> ?_)))
 ·refine x_i 10 [] ((i+1:Nat):Int) (yT [] (rdB x k rb::T) (λw hO=>hO.past 1 _) (nx (i+1) (8-(i+1)) [] Om ⟨⟨by omega, ?_⟩,rfl⟩ Kr Kr))
  rw [hE,xP,if_neg (λq=>by have:=q.1;omega)]
 ·refine x_i 10 [] ((i+1:Nat):Int) (yT [] (rdB x k rb::T) (λw hO=>hO.past 1 _) (nx (i+1) (8-(i+1)) [] Om ⟨⟨by omega, ?_⟩,rfl⟩ Kr Kr))
  rw [hE,xP,if_neg (λq=>by have:=q.2.1;omega)]
 have hcut:∀ w,YC 125 #[laV l,.string (mkS s)] w λe w'=>∃ v ob',e= .returned v/\(∃ A cap,v= .tuple #[.slice A (xE l s).length cap,.bool (dV l s)]/\SlT (.slice A (xE l s).length cap) (xE l s) ob'/\(xE l s).length<=cap)/\Own [] w w' ob':=λw=>by
  refine (qCut_any l s w Om hp).mono λe w' ⟨v',ob',k1,k2,k3⟩=> ?_
  obtain ⟨A,cap,rfl⟩:=k2.form
  refine ⟨_,ob',k1,⟨A,cap,rfl,k2, ?_⟩,k3⟩
  rcases k2.2 with ⟨_,q,_⟩|⟨g,cap',cur,e1,e2,e3,_⟩
  ·omega
  ·cases e1;exact e3
 refine kP (R:=λv ob=>∃ A cap,v= .tuple #[.slice A (xE l s).length cap,.bool (dV l s)]/\SlT (.slice A (xE l s).length cap) (xE l s) ob/\(xE l s).length<=cap) [0] (λw hO=>hcut w) ?_
 rintro v obp ⟨A,cap,rfl,hSl,hcap⟩
 refine x_bb 35 [] (dV l s) (λh35=> ?_) (λh35=> ?_)
 rotate_left
 ·refine x_i 10 [] ((i+1:Nat):Int) (yT [] (rdB x k rb::T) (λw hO=>vS (laB l b6::obp) (hO.past 0 (laB l b6::rdB x k rb::(T++obp))) λp=>by
   simp only [List.countP_append,List.countP_cons,List.countP_nil,List.cons_append,List.nil_append];omega) (nx (i+1) (8-(i+1)) [] Om ⟨⟨by omega, ?_⟩,rfl⟩ Kr Kr))
  rw [hE,xP,if_neg (λq=>by rw [h35] at q;exact Bool.false_ne_true q.2.2)]
 have hfit:l.lo<=k/\k<=l.hi/\dV l s=true:=⟨by omega,by omega,h35⟩
 refine x8 (k:=126) (args:= #[Zp rb 0,.slice A (xE l s).length cap]) (Rr:=λv ob'=>∃ x',v= .bool (mH x.rt l.kind (xE l s)).2/\x'.rt=(mH x.rt l.kind (xE l s)).1/\RdR rb l.kind x' ob') [0,1] (laB l b6::rdB x l.kind rb::(T++obp)) (laB l b6::obp) (rdB x l.kind rb::T) (λw hO=>vS [] hO λp=>by
   simp only [List.countP_append,List.countP_cons,List.countP_nil,List.cons_append,List.nil_append];omega) (λw hO=> ?_) λv ob' ⟨x',k1,k2,k3⟩=> ?_
 ·refine (qAdd_any l hlm s h35 hs rb x A cap (rdB x l.kind rb::T) w (hRd l.kind) (Own.lentR hO) (slT_out hO hSl rfl λb hb=>List.mem_cons_of_mem _ hb) hcap hF (λq1 q2=> ?_) (λq=> ?_) (λw' hw'=>(hK w' (hO.no.and ((hMj l.kind)▸hw'))).1)).mono λe w' ⟨x',ob',q1,q2,q3,q4⟩=>⟨_,ob',q1,⟨x',rfl,q2,q3⟩,q4⟩
  ·have:=hf1 q1 q2
   exact λe=>hI.n Om Om (by show x.needs.map Nv.nt=[];rw [e];rfl)
  ·have:=hf2 q
   exact λe=>hI.b Om Om (by show x.bars.map Bv.bt=[];rw [e];rfl)
 subst k1
 refine z7 [] (.bool (mH x.rt l.kind (xE l s)).2) λw hO=>⟨_,x',l.kind,ob',rfl,k3, ?_, ?_⟩
 ·rw [hM];exact (hO.past 0 ((laB l b6::obp)++ob')).sublist (List.sublist_append_right _ _)
 ·rw [hE,xP,if_pos hfit]
  cases h:(mH x.rt l.kind (xE l s)).2 with
  |true=>rw [if_pos rfl];exact ⟨rfl,k2,rfl⟩
  |false=>rw [if_neg Bool.false_ne_true]
end
section
def noDef (o:Oper):Bool:=match o.op with
 | .defer _=>false
 |_=>true
theorem noDef_is {o:Oper}(h:noDef o=true):∀ c,o.op≠ .defer c:=λc e=>by
 unfold noDef at h;rw [e] at h;cases h
section
variable {M:List Nat}{P:Program}{n:Nat}{W:World}{Q:Exit->Act->World->Prop}{c:Xc}
theorem list_round {l m:Nat}{ops:Array Oper}(hout:¬ LetsOut Q):∀ (rest:List Oper),(rest.all noDef=true)→∀ a w,wpList P ops Q rest a w->wpListIn (Fence.wide.inRound l) m P ops Q rest a w
 | [],_,a,w,h=>h
 |o::rest,hn,a,w,h=>by
  rw [List.all_cons,Bool.and_eq_true] at hn
  have ih:=list_round (l:=l) (m:=m) (ops:=ops) hout rest hn.2
  unfold wpList at h
  unfold wpListIn
  split at h
  ·rename_i hw
   rw [if_pos hw]
   rcases h with h|⟨_,h⟩
   ·refine ⟨λ_ _=>trivial, ?_⟩
    rw [Oper.semAt_eq _ _ _ (noDef_is hn.1)]
    unfold Oper.wp at h
    generalize (execOp a.eval o).run P w=r at h ⊢
    unfold Oper.upon at h
    split at h
    ·exact ih _ _ h
    ·exact ih _ _ h
    ·exact ih _ _ h
    ·refine ⟨λq=>(by cases q),CallsIn.inRound l (callsIn_wide.2 (h.mono λe w' k=> ?_))⟩
     cases e with
     |returned v=>exact ih _ _ k
     |panicked ch=>exact k
     |outgrown=>exact k
    ·refine ⟨λq=>(by cases q),λcc cs _=> ?_⟩
     obtain ⟨v,w',r1,r2⟩:=h cc cs
     exact ⟨v,w',ih _ _ r1,stepsIn_wide.2 r2⟩
    ·exact h
    ·exact h.elim
   ·exact absurd h hout
  ·rename_i hw
   rw [if_neg hw]
   exact ⟨λ_ _=>trivial,ih _ _ h⟩
theorem fO {l m id:Nat}{ops:Array Oper}{L:List Blk}{f:Nat->Value}(hq:PQ Q)(hout:¬ LetsOut Q)(hn:ops.toList.all noDef=true)(hg:zF M P n W Q ⟨.ops ops ops.toList,[],L,f⟩):∀ w,Own M W w L->(Code.region id ops false).wpIn (Fence.wide.inRound l) m P Q (Fr n f) w:=λw hO=>
 wpIn_region_list (list_round hout _ hn _ _ ((hg.go hq).go w hO))
theorem x_fin (h:List Nat)(lv:List (Nat×Value))(hR:∀ w g,Own M W w (xgo P n nS h c).L->Q .normal (Fr n (bX g lv)) w)
  (hkt:(xgl P n nS h c,(xgo P n nS h c).top,(xgo P n nS h c).k,xV (xgo P n nS h c).f lv)=(xgr P n nS h c,.fin .normal,[],lv.map Prod.snd):=by kernel_rfl):zF M P n W Q c:=by
 simp only [Prod.mk.injEq] at hkt
 obtain ⟨hk,e1,e2,e3⟩:=hkt
 refine zK h c hk ?_
 generalize xgo P n nS h c=d at*
 obtain ⟨top,kk,L,f⟩:=d
 dsimp only at e1 e2 e3 hR
 subst e1;subst e2
 exact ⟨λ_=>⟨λw hO=>by have:=hR w f hO;rw [←qQ _ (gW e3)] at this;exact this⟩⟩
def xRg (c:Xc):Nat:=match c.top with
 | .code (.region id _ _)=>id
 |_=>0
def yo (c:Xc)(i:Nat):Oper:=match c.top with
 | .code (.region _ a _)=>a.getD i default
 |_=>default
def yF (d:Xc)(v0 v1:Value):Nat->Value:=upd (upd d.f (yo d 0).dst v0) (yo d 1).dst v1
def yF3 (d:Xc)(v0 v1:Value)(b:Bool):Nat->Value:=upd (upd (yF d v0 v1) (yo d 2).dst (.bool b)) (yo d 3).dst (.bool (!b))
def yA (d:Xc):Array Oper:= #[yo d 0,yo d 1,yo d 2,yo d 3]
theorem ok_yield {id l:Nat}{o0 o1 o2 o3:Oper}{L:List Blk}{f:Nat->Value}{s v0 v1:Value}
  (w0:zS #[o0,o1,o2,o3] n f o0=true) (w1:zS #[o0,o1,o2,o3] n (upd f o0.dst v0) o1=true) (w2:zS #[o0,o1,o2,o3] n (upd (upd f o0.dst v0) o1.dst v1) o2=true) (w3:∀ b,zS #[o0,o1,o2,o3] n (upd (upd (upd f o0.dst v0) o1.dst v1) o2.dst (.bool b)) o3=true)
  (q0:∀ w,(execOp (ev n f) o0).run P w= .ok (.value v0) w) (q1:∀ w,(execOp (ev n (upd f o0.dst v0)) o1).run P w= .ok (.value v1) w) (q2:∀ w,(execOp (ev n (upd (upd f o0.dst v0) o1.dst v1)) o2).run P w=(Instr.yield l #[s]).run P w)
  (q3:∀ b w,(execOp (ev n (upd (upd (upd f o0.dst v0) o1.dst v1) o2.dst (.bool b))) o3).run P w= .ok (.value (.bool (!b))) w)
  (hs:∀ w,Own M W w L->YieldAt Fence.wide 1 P l #[s] w λe w'=>∃ b,e= .returned (.bool b)/\Q .normal (Fr n (upd (upd (upd (upd f o0.dst v0) o1.dst v1) o2.dst (.bool b)) o3.dst (.bool (!b)))) w'):Ok M P n W Q (.region id #[o0,o1,o2,o3] false) L f:=by
 refine ⟨λw hO=>(wpIn_wide (n:=2)).1 (wpIn_region_list ?_)⟩
 obtain ⟨fn,tmps,assign,body,hy,hR⟩:=hs w hO
 show wpListIn Fence.wide 2 P #[o0,o1,o2,o3] Q [o0,o1,o2,o3] (Fr n f) w
 unfold wpListIn
 rw [vP,if_pos w0]
 refine ⟨λ_ _=>trivial, ?_⟩
 rw [show Fence.wide.round=none from rfl,Oper.semAt_none,g8,q0,Oper.uponIn_value,jJ]
 unfold wpListIn
 rw [vP,if_pos w1]
 refine ⟨λ_ _=>trivial, ?_⟩
 rw [show Fence.wide.round=none from rfl,Oper.semAt_none,g8,q1,Oper.uponIn_value,jJ]
 unfold wpListIn
 rw [vP,if_pos w2]
 refine ⟨λ_ _=>trivial, ?_⟩
 rw [show Fence.wide.round=none from rfl,Oper.semAt_none,g8,q2,hy,Oper.uponIn_round]
 refine ⟨λq=>(by cases q),hR.mono λe w' ⟨b,k1,k3⟩=> ?_⟩
 subst k1
 dsimp only
 rw [jJ]
 unfold wpListIn
 rw [vP,if_pos (w3 b)]
 refine ⟨λ_ _=>trivial, ?_⟩
 rw [show Fence.wide.round=none from rfl,Oper.semAt_none,g8,q3,Oper.uponIn_value,jJ]
 exact k3
theorem yield_good {d:Xc}(l:Nat)(s v0 v1:Value)
  (hs:∀ w,Own M W w d.L->YieldAt Fence.wide 1 P l #[s] w λe w'=>∃ b M' L',e= .returned (.bool b)/\Own M' w' w' L'/\zF M' P n w' Q ⟨.fin .normal,d.k,L',yF3 d v0 v1 b⟩)
  (e1:d.top= .code (.region (xRg d) (yA d) false)) (e2:xNl d.k=true)
  (hw:(zS (yA d) n d.f (yo d 0),zS (yA d) n (upd d.f (yo d 0).dst v0) (yo d 1),zS (yA d) n (yF d v0 v1) (yo d 2),λb=>zS (yA d) n (upd (yF d v0 v1) (yo d 2).dst (.bool b)) (yo d 3))=(true,true,true,λ_=>true))
  (h0:(λw=>(execOp (ev n d.f) (yo d 0)).run P w)=λw=> .ok (.value v0) w)
  (h1:(λw=>(execOp (ev n (upd d.f (yo d 0).dst v0)) (yo d 1)).run P w)=λw=> .ok (.value v1) w)
  (h2:(λw=>(execOp (ev n (yF d v0 v1)) (yo d 2)).run P w)=λw=>(Instr.yield l #[s]).run P w)
  (h3:(λb w=>(execOp (ev n (upd (yF d v0 v1) (yo d 2).dst (.bool b))) (yo d 3)).run P w)=λb w=> .ok (.value (.bool (!b))) w):zF M P n W Q d:=by
 have:d=⟨.code (.region (xRg d) (yA d) false),d.k,d.L,d.f⟩:=by rw [←e1]
 obtain ⟨w0,hw2⟩:=Prod.mk.inj hw
 obtain ⟨w1,hw3⟩:=Prod.mk.inj hw2
 obtain ⟨w2,w3⟩:=Prod.mk.inj hw3
 have key:PQ Q->Ok M P n W (KQ M P n W Q d.k) (.region (xRg d) (yA d) false) d.L d.f:=λhq=>ok_yield (l:=l) (s:=s) (v0:=v0) (v1:=v1) w0 w1 w2 (λb=>congrFun w3 b) (λw=>congrFun h0 w) (λw=>congrFun h1 w) (λw=>congrFun h2 w) (λb w=>congrFun (congrFun h3 b) w) λw hO=>by
  obtain ⟨fn,tmps,assign,body,hy,hR⟩:=hs w hO
  refine ⟨fn,tmps,assign,body,hy,hR.mono λe w' ⟨b,M',L',k1,k2,k3⟩=>⟨b,k1, ?_⟩⟩
  have:=(k3.go hq).go w' k2
  rw [n9 (M:=M) (W:=W) (M':=M') (W':=w') e2];exact this
 generalize xRg d=i at*
 generalize yA d=a at*
 rw [this]
 exact ⟨key⟩
theorem x_yield (fu:Fuel1)(h:List Nat)(l:Nat)(s v0 v1:Value)
  (hs:∀ w,Own M W w (x6 P n nS fu h c).L->YieldAt Fence.wide 1 P l #[s] w λe w'=>∃ b M' L',e= .returned (.bool b)/\Own M' w' w' L'/\zF M' P n w' Q ⟨.fin .normal,(x6 P n nS fu h c).k,L',yF3 (x6 P n nS fu h c) v0 v1 b⟩)
  (hkt:(xl P n nS fu h c,(x6 P n nS fu h c).top,xNl (x6 P n nS fu h c).k)=(xr P n nS (tS fu) h c,.code (.region (xRg (x6 P n nS fu h c)) (yA (x6 P n nS fu h c)) false),true):=by kernel_rfl)
  (hw:(zS (yA (x6 P n nS fu h c)) n (x6 P n nS fu h c).f (yo (x6 P n nS fu h c) 0),zS (yA (x6 P n nS fu h c)) n (upd (x6 P n nS fu h c).f (yo (x6 P n nS fu h c) 0).dst v0) (yo (x6 P n nS fu h c) 1),zS (yA (x6 P n nS fu h c)) n (yF (x6 P n nS fu h c) v0 v1) (yo (x6 P n nS fu h c) 2),λb=>zS (yA (x6 P n nS fu h c)) n (upd (yF (x6 P n nS fu h c) v0 v1) (yo (x6 P n nS fu h c) 2).dst (.bool b)) (yo (x6 P n nS fu h c) 3))=(true,true,true,λ_=>true):=by kernel_rfl)
  (h0:(λw=>(execOp (ev n (x6 P n nS fu h c).f) (yo (x6 P n nS fu h c) 0)).run P w)=λw=> .ok (.value v0) w:=by kernel_rfl)
  (h1:(λw=>(execOp (ev n (upd (x6 P n nS fu h c).f (yo (x6 P n nS fu h c) 0).dst v0)) (yo (x6 P n nS fu h c) 1)).run P w)=λw=> .ok (.value v1) w:=by kernel_rfl)
  (h2:(λw=>(execOp (ev n (yF (x6 P n nS fu h c) v0 v1)) (yo (x6 P n nS fu h c) 2)).run P w)=λw=>(Instr.yield l #[s]).run P w:=by kernel_rfl)
  (h3:(λb w=>(execOp (ev n (upd (yF (x6 P n nS fu h c) v0 v1) (yo (x6 P n nS fu h c) 2).dst (.bool b))) (yo (x6 P n nS fu h c) 3)).run P w)=λb w=> .ok (.value (.bool (!b))) w:=by kernel_rfl):zF M P n W Q c:=by
 obtain ⟨hk,hkt2⟩:=Prod.mk.inj hkt
 obtain ⟨e1,e2⟩:=Prod.mk.inj hkt2
 refine xrun_ok fu h c hk ?_
 clear hk hkt hkt2
 generalize x6 P n nS fu h c=d at*
 exact yield_good l s v0 v1 hs e1 e2 hw h0 h1 h2 h3
end
end
end Go.Proofs.YteghandhpbmpgaaGreatDoor
