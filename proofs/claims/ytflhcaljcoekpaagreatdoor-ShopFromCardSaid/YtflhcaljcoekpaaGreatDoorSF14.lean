import Derived.Laws.IdiomStrings
import Derived.Laws.IdiomCopy
import Derived.Laws.BitsAllLaws
import Derived.Lib.ConvBytes
import Derived.Lib.Builder
import Derived.RangeFuncIn
import Derived.RangeFuncLeaves
import Derived.RangeFuncCalls
import Derived.RangeFuncNested
import Derived.Lib.Bytealg
import Derived.Shelf.SlSortCmp.Whole1
import Derived.Test.YtflhcaljcoekpaaGreatDoorProg
import Derived.Sort.OwnSortedInts
import Derived.Test.YtflhcaljcoekpaaGreatDoorSF10
import Derived.Test.YtflhcaljcoekpaaGreatDoorSF11
import Derived.Test.YtflhcaljcoekpaaGreatDoorSF12
import Derived.Test.YtflhcaljcoekpaaGreatDoorSF13
set_option maxRecDepth 1000000
set_option maxHeartbeats 8000000
set_option linter.unusedVariables false
set_option linter.unusedSimpArgs false
set_option linter.unnecessarySimpa false
namespace Go.Proofs.YtflhcaljcoekpaaGreatDoor
open Go.RowKit

section
theorem finrrngs_is:rngs=[[42],[94,48,46,48,46,48],[94,48,46,49,46,48],[94,49,46,48,46,48],[94,49,46,49,46,48],[94,50,46,48,46,48],[94,50,46,49,46,48],[62,61,48,46,48,46,48]]++([[62,61,48,46,49,46,48],[62,61,49,46,48,46,48],[62,61,49,46,49,46,48],[62,61,50,46,48,46,48],[62,61,50,46,49,46,48],[60,48,46,48,46,48],[60,48,46,49,46,48],[60,49,46,48,46,48]]++([[60,49,46,49,46,48],[60,50,46,48,46,48],[60,50,46,49,46,48],[61,48,46,48,46,48],[61,48,46,49,46,48],[61,49,46,48,46,48],[61,49,46,49,46,48],[61,50,46,48,46,48]]++([[61,50,46,49,46,48],[33,61,48,46,48,46,48],[33,61,48,46,49,46,48],[33,61,49,46,48,46,48],[33,61,49,46,49,46,48],[33,61,50,46,48,46,48],[33,61,50,46,49,46,48]]))):=by decide+kernel
theorem tX (s:YL)(W:World)(hs:GqR s):YC 219 #[.string (mkS s)] W (YR (.bool (x6 s)) W):=by
 rw [plainG_in hs]
 have h:s∈rngs:=hs
 rw [finrrngs_is] at h
 rcases List.mem_append.1 h with h|h
 ·exact finr_r1 W s h
 rcases List.mem_append.1 h with h|h
 ·exact finr_r2 W s h
 rcases List.mem_append.1 h with h|h
 ·exact finr_r3 W s h
 exact finr_r4 W s h
theorem finrmrks_is:mrks=[[],[111,115,32,61,32,120],[111,115,32,61,32,121],[111,115,32,61,32,122],[111,115,32,61,32,119,95,49],[111,115,32,33,61,32,120],[111,115,32,33,61,32,121],[111,115,32,33,61,32,122]]++([[111,115,32,33,61,32,119,95,49],[97,114,99,104,32,61,32,120],[97,114,99,104,32,61,32,121],[97,114,99,104,32,61,32,122],[97,114,99,104,32,61,32,119,95,49],[97,114,99,104,32,33,61,32,120],[97,114,99,104,32,33,61,32,121],[97,114,99,104,32,33,61,32,122]]++([[97,114,99,104,32,33,61,32,119,95,49],[97,98,105,32,61,32,120],[97,98,105,32,61,32,121],[97,98,105,32,61,32,122],[97,98,105,32,61,32,119,95,49],[97,98,105,32,33,61,32,120],[97,98,105,32,33,61,32,121],[97,98,105,32,33,61,32,122]]++([[97,98,105,32,33,61,32,119,95,49]]))):=by decide+kernel
theorem nV (s:YL)(W:World)(hs:GqM s):YC 217 #[.string (mkS s)] W (YR (.bool (yM s)) W):=by
 rw [plainM_in hs]
 have h:s∈mrks:=hs
 rw [finrmrks_is] at h
 rcases List.mem_append.1 h with h|h
 ·exact finr_m1 W s h
 rcases List.mem_append.1 h with h|h
 ·exact finr_m2 W s h
 rcases List.mem_append.1 h with h|h
 ·exact finr_m3 W s h
 exact finr_m4 W s h
end
section
set_option linter.unnecessarySimpa false
theorem r12feats_any (A:Option Addr)(cap:Nat)(l:List YL)(al:Bool)(W:World)(hv:Reads y9 W W.heap.size A l)(hn:l.length<=5000)(ht:∀ s∈l,s.length<=1000000):YC 254 #[.slice A l.length cap,.bool al] W (YR (.bool (qM l al)) W):=by
 refine z8 Tryz.func254 (zO (α:=Nat) (λi=>[(0,.slice A l.length cap),(1,.bool al),(5,YI (i:Int))]) (λ_=>[]) (λi m=>(i<=l.length∧∀ s∈l.take i,wdL s=true)/\m=l.length-i) 0 l.length [] ⟨⟨Nat.zero_le _,λy h=>by simp at h⟩,rfl⟩ ?_)
 rintro i mm g kk ⟨⟨hi,hno⟩,hmm⟩ nx hkk
 subst hkk
 refine zD 9 [] ((i:Int)<(l.length:Int)) (λh9=> ?_) (λh9=> ?_)
 ·have hj:i<l.length:=by omega
  obtain ⟨eb,eo,hA,hel⟩:=hv.elem zW i hj
  have hgo:=y1 (p:=λs:YL=>wdL s=true) hj hno
  have hsm:l[i]∈l:=List.getElem_mem hj
  have hel0:∀ w,YB W w->(loadVar 9 ⟨eb,eo+i*1+0,none⟩).run YP w= .ok (.string (mkS l[i])) w:=λw hw=>hel w hw _ 0 _ Kr
  generalize l[i]=s at hel0 hgo hsm
  have hW:∀ w,YB W w->YC 218 #[.string (mkS s)] w (YR (.bool (wdL s)) w):=λw hb=>vJ s w (ht s hsm)
  refine zK 14 [] hA l.length cap i 1 hj (zH 15 [] 9 eb (eo+i*1+0) (.string (mkS s)) (λw hO=>hel0 w hO.below) (z6 (v:= .bool (wdL s)) [] (λw hO=>hW w hO.below) (zL 16 (wdL s) (λh=> ?_) (λh=> ?_))))
  ·exact x_i 11 [] ((i+1:Nat):Int) (nx (i+1) (l.length-(i+1)) [] Om ⟨⟨hj,hgo h⟩,rfl⟩ Kr Kr)
  ·refine z7 [] Z5 λw hO=>⟨?_,hO.below⟩
   unfold qM
   rw [show l.all wdL=false from by rw [List.all_eq_false];exact ⟨s,hsm,by simp [h]⟩];rfl
 have hall:=yP (p:=λs:YL=>wdL s=true) (show l.length<=i by omega) hno
 have hal:l.all wdL=true:=List.all_eq_true.2 hall
 have hR:∀ w,YB W w->YC 259 #[.slice A l.length cap] w (YR (.bool (yX l)) w):=λw hb=>nR A cap l w (hv.on hb hb.size) Om
 refine zD 20 [] ((l.length:Int)<=6) (λh20=> ?_) (λh20=> ?_)
 rotate_left
 ·exact z7 [] Z5 λw hO=>⟨by unfold qM;rw [hal,decide_eq_false (show ¬ l.length<=6 by omega)];rfl,hO.below⟩
 have h6:decide (l.length<=6)=true:=decide_eq_true Om
 refine z6 (v:= .bool (yX l)) [] (λw hO=>hR w hO.below) (zL 23 (yX l) (λh=> ?_) (λh=> ?_))
 rotate_left
 ·exact z7 [] Z5 λw hO=>⟨by unfold qM;rw [hal,h6,h];rfl,hO.below⟩
 cases al with
 |true=>exact z7 [] (.bool true) λw hO=>⟨by unfold qM;rw [hal,h6,h];rfl,hO.below⟩
 |false=>
  refine zD 30 [] ((l.length:Int)=0) (λh30=> ?_) (λh30=> ?_)
  ·exact z7 [] Z4 λw hO=>⟨by unfold qM;rw [hal,h6,h,decide_eq_true (List.eq_nil_of_length_eq_zero Om)];rfl,hO.below⟩
  ·exact z7 [] Z5 λw hO=>⟨by unfold qM;rw [hal,h6,h,decide_eq_false (λe=>h30 (by rw [e];rfl))];rfl,hO.below⟩
theorem r12wish_any (r:Rv)(x:Wv)(al:Bool)(W:World)(hv:Reads y9 W W.heap.size x.A x.fs)(hn:x.fs.length<=5000)(ht:x.name.length<=1000000/\GqR x.rng∧∀ s∈x.fs,s.length<=1000000):YC 216 #[rvV r,wvV x,.bool al] W (YR (YI (k6 r.name x.wt al)) W):=by
 have h1:∀ w,YB W w->YC 76 #[.string (mkS x.name)] w (YR (.bool (nmL x.name)) w):=λw hb=>qH x.name w ht.1
 have h2:∀ w,YB W w->YC 219 #[.string (mkS x.rng)] w (YR (.bool (x6 x.rng)) w):=λw hb=>tX x.rng w ht.2.1
 have h3:∀ w,YB W w->YC 254 #[.slice x.A x.fs.length x.cap,.bool al] w (YR (.bool (qM x.fs al)) w):=λw hb=>r12feats_any x.A x.cap x.fs al w (hv.on hb hb.size) hn ht.2.2
 have hE:k6 r.name x.wt al=if nmL x.name=false then 4 else if x.name=r.name then 8 else if x6 x.rng=false then 6 else if qM x.fs al=false then 11 else 0:=rfl
 refine z8 Tryz.func216 (zZ [] λb3=>zZ [] λb4=>z6 (v:= .bool (nmL x.name)) [0] (λw hO=>h1 w hO.below) (zL 10 (nmL x.name) (λe1=> ?_) (λe1=> ?_)))
 rotate_left
 ·exact z7 [] (YI 4) λw hO=>⟨by rw [hE,if_pos e1],hO.below⟩
 refine kJ 17 [0,1] x.name r.name (λe2=> ?_) (λe2=> ?_)
 ·exact z7 [] (YI 8) λw hO=>⟨by rw [hE,if_neg (by simp [e1]),if_pos e2],hO.below⟩
 refine z6 (v:= .bool (x6 x.rng)) [0] (λw hO=>h2 w hO.below) (zL 21 (x6 x.rng) (λe3=> ?_) (λe3=> ?_))
 rotate_left
 ·exact z7 [] (YI 6) λw hO=>⟨by rw [hE,if_neg (by simp [e1]),if_neg e2,if_pos e3],hO.below⟩
 refine z6 (v:= .bool (qM x.fs al)) [0] (λw hO=>h3 w hO.below) (zL 27 (qM x.fs al) (λe4=> ?_) (λe4=> ?_))
 ·exact z7 [] (YI 0) λw hO=>⟨by rw [hE,if_neg (by simp [e1]),if_neg e2,if_neg (by simp [e3]),if_neg (by simp [e4])],hO.below⟩
 ·exact z7 [] (YI 11) λw hO=>⟨by rw [hE,if_neg (by simp [e1]),if_neg e2,if_neg (by simp [e3]),if_pos e4],hO.below⟩
theorem r12bar_any (r:Rv)(x:Bv)(W:World)(ht:x.name.length<=1000000/\GqR x.rng/\GqM x.wh):YC 171 #[rvV r,bvV x] W (YR (YI (gP r.name x.bt)) W):=by
 have h1:∀ w,YB W w->YC 76 #[.string (mkS x.name)] w (YR (.bool (nmL x.name)) w):=λw hb=>qH x.name w ht.1
 have h2:∀ w,YB W w->YC 219 #[.string (mkS x.rng)] w (YR (.bool (x6 x.rng)) w):=λw hb=>tX x.rng w ht.2.1
 have h3:∀ w,YB W w->YC 217 #[.string (mkS x.wh)] w (YR (.bool (yM x.wh)) w):=λw hb=>nV x.wh w ht.2.2
 have hE:gP r.name x.bt=if nmL x.name=false then 4 else if x.name=r.name then 8 else if x6 x.rng=false then 6 else if yM x.wh=false then 7 else 0:=rfl
 refine z8 Tryz.func171 (zZ [] λb3=>zZ [] λb4=>z6 (v:= .bool (nmL x.name)) [0] (λw hO=>h1 w hO.below) (zL 8 (nmL x.name) (λe1=> ?_) (λe1=> ?_)))
 rotate_left
 ·exact z7 [] (YI 4) λw hO=>⟨by rw [hE,if_pos e1],hO.below⟩
 refine kJ 15 [0,1] x.name r.name (λe2=> ?_) (λe2=> ?_)
 ·exact z7 [] (YI 8) λw hO=>⟨by rw [hE,if_neg (by simp [e1]),if_pos e2],hO.below⟩
 refine z6 (v:= .bool (x6 x.rng)) [0] (λw hO=>h2 w hO.below) (zL 19 (x6 x.rng) (λe3=> ?_) (λe3=> ?_))
 rotate_left
 ·exact z7 [] (YI 6) λw hO=>⟨by rw [hE,if_neg (by simp [e1]),if_neg e2,if_pos e3],hO.below⟩
 refine z6 (v:= .bool (yM x.wh)) [0] (λw hO=>h3 w hO.below) (zL 24 (yM x.wh) (λe4=> ?_) (λe4=> ?_))
 ·exact z7 [] (YI 0) λw hO=>⟨by rw [hE,if_neg (by simp [e1]),if_neg e2,if_neg (by simp [e3]),if_neg (by simp [e4])],hO.below⟩
 ·exact z7 [] (YI 7) λw hO=>⟨by rw [hE,if_neg (by simp [e1]),if_neg e2,if_neg (by simp [e3]),if_pos e4],hO.below⟩
end
section
set_option linter.unnecessarySimpa false
def SuW (x:Wv):Prop:=x.name.length<=1000000/\GqR x.rng∧∀ s∈x.fs,s.length<=1000000
theorem needE_is (own:YL)(x:Nv):xF own x.nt=if x.any=[] then 9 else if 3<x.any.length then 3 else if y8 (λu:Wv=>k6 own u.wt (decide (x.any.length=1))) x.any≠0 then y8 (λu:Wv=>k6 own u.wt (decide (x.any.length=1))) x.any
 else if yM x.wh=false then 7 else if x.opt≠[]/\wdL x.opt=false then 14 else 0:=by
 unfold xF
 simp only [Nv.nt,firstE_map,List.length_map,List.map_eq_nil_iff]
 rfl
theorem r12need_any (r:Rv)(x:Nv)(W:World)(hv:Reads wvC W W.heap.size x.A x.any)(hf:∀ u∈x.any,Reads y9 W W.heap.size u.A u.fs)(hn:x.any.length<=5000)(hnf:∀ u∈x.any,u.fs.length<=5000)(hs:GqM x.wh/\x.opt.length<=1000000)(hsu:∀ u∈x.any,SuW u):YC 170 #[rvV r,nvV x] W (YR (YI (xF r.name x.nt)) W):=by
 have hE:=needE_is r.name x
 refine z8 Tryz.func170 (zZ [] λb2=>zZ [] λb3=>zD 10 [0] ((x.any.length:Int)=0) (λh10=> ?_) (λh10=> ?_))
 ·exact z7 [] (YI 9) λw hO=>⟨by rw [hE,if_pos (List.eq_nil_of_length_eq_zero Om)],hO.below⟩
 have h10':¬ x.any=[]:=λe=>h10 (by rw [e];rfl)
 rw [if_neg h10'] at hE
 refine zD 14 [0] ((x.any.length:Int)>3) (λh14=> ?_) (λh14=> ?_)
 ·exact z7 [] (YI 3) λw hO=>⟨by rw [hE,if_pos Om],hO.below⟩
 rw [if_neg (show ¬ 3<x.any.length by omega)] at hE
 refine zO (α:=Nat) (λi=>[(2,Zp b2 0),(3,Zp b3 0),(5,YI (i:Int))]) (λ_=>[⟨b3, #[.slice x.A x.any.length x.cap,.string (mkS x.wh),.string (mkS x.opt)],72⟩,⟨b2,(rvC r).toArray,47⟩]) (λi m=>(i<=x.any.length∧∀ u∈x.any.take i,k6 r.name u.wt (decide (x.any.length=1))=0)/\m=x.any.length-i) 0 x.any.length [] ⟨⟨Nat.zero_le _,λy h=>by simp at h⟩,rfl⟩ ?_
 rintro i mm g kk ⟨⟨hi,hno⟩,hmm⟩ nx hkk
 subst hkk
 refine zD 19 [0] ((i:Int)<(x.any.length:Int)) (λh19=> ?_) (λh19=> ?_)
 ·have hj:i<x.any.length:=by omega
  obtain ⟨eb,eo,hA,hel⟩:=hv.elem qC i hj
  have hgo:=y1 (p:=λu:Wv=>k6 r.name u.wt (decide (x.any.length=1))=0) hj hno
  have hat:=bL (f:=λu:Wv=>k6 r.name u.wt (decide (x.any.length=1))) hj hno
  have hsm:x.any[i]∈x.any:=List.getElem_mem hj
  have hel0:∀ w,YB W w->(loadVar 139 ⟨eb,eo+i*4+0,none⟩).run YP w= .ok (wvV x.any[i]) w:=λw hw=>hel w hw _ 0 _ Kr
  have hru:=hf _ hsm;have hnu:=hnf _ hsm;have hlu:=hsu _ hsm
  generalize x.any[i]=u at hel0 hgo hat hru hnu hlu
  have hc:∀ w,YB W w->YC 216 #[rvV r,wvV u,.bool (decide ((x.any.length:Int)=1))] w (YR (YI (k6 r.name u.wt (decide (x.any.length=1)))) w):=λw hb=>by
   rw [show decide (x.any.length=1)=decide ((x.any.length:Int)=1) from decide_eq_decide.2 Om]
   exact r12wish_any r u _ w (hru.on hb hb.size) hnu hlu
  refine zK 26 [1,0] hA x.any.length x.cap i 4 hj (zH 27 [] 139 eb (eo+i*4+0) (wvV u) (λw hO=>hel0 w hO.below) (z6 (v:=YI (k6 r.name u.wt (decide (x.any.length=1)))) [0] (λw hO=>hc w hO.below) (kT 34 [] (k6 r.name u.wt (decide (x.any.length=1))=0) (λh=> ?_) (λh=> ?_))))
  ·exact x_i 21 [] ((i+1:Nat):Int) (nx (i+1) (x.any.length-(i+1)) [] Om ⟨⟨hj,hgo h⟩,rfl⟩ Kr Kr)
  ·refine z7 [] (YI (k6 r.name u.wt (decide (x.any.length=1)))) λw hO=>⟨?_,hO.below⟩
   rw [hE,hat h,if_pos h]
 have hall:=gL (yP (p:=λu:Wv=>k6 r.name u.wt (decide (x.any.length=1))=0) (show x.any.length<=i by omega) hno)
 rw [hall,if_neg (by simp)] at hE
 have h2:∀ w,YB W w->YC 217 #[.string (mkS x.wh)] w (YR (.bool (yM x.wh)) w):=λw hb=>nV x.wh w hs.1
 have h3:∀ w,YB W w->YC 218 #[.string (mkS x.opt)] w (YR (.bool (wdL x.opt)) w):=λw hb=>vJ x.opt w hs.2
 refine z6 (v:= .bool (yM x.wh)) [0] (λw hO=>h2 w hO.below) (zL 38 (yM x.wh) (λe3=> ?_) (λe3=> ?_))
 rotate_left
 ·exact z7 [] (YI 7) λw hO=>⟨by rw [hE,if_pos e3],hO.below⟩
 rw [if_neg (by simp [e3])] at hE
 refine wT 42 [0] x.opt [] (λe4=> ?_) (λe4=> ?_)
 ·exact z7 [] (YI 0) λw hO=>⟨by rw [hE,if_neg (λh=>h.1 e4)],hO.below⟩
 refine z6 (v:= .bool (wdL x.opt)) [0] (λw hO=>h3 w hO.below) (zL 46 (wdL x.opt) (λe5=> ?_) (λe5=> ?_))
 ·exact z7 [] (YI 0) λw hO=>⟨by rw [hE,if_neg (λh=>by rw [e5] at h;simp at h)],hO.below⟩
 ·exact z7 [] (YI 14) λw hO=>⟨by rw [hE,if_pos ⟨e4,e5⟩],hO.below⟩
theorem optR_is (r:Rv)(s:YL):optR r.rt.needs s=r.needs.any λn=>decide (n.opt=s):=by
 unfold optR;simp only [Rv.rt,List.any_map];rfl
theorem r12option_any (r:Rv)(s:YL)(W:World)(hv:Reads nvC W W.heap.size r.nA r.needs)(hn:r.needs.length<=5000):YC 222 #[rvV r,.string (mkS s)] W (YR (.bool (optR r.rt.needs s)) W):=by
 rw [optR_is]
 refine z8 Tryz.func222 (zZ [] λb2=>zO (α:=Nat) (λi=>[(1,.string (mkS s)),(2,Zp b2 0),(5,YI (i:Int))]) (λ_=>[⟨b2,(rvC r).toArray,47⟩]) (λi m=>(i<=r.needs.length∧∀ n∈r.needs.take i,n.opt≠s)/\m=r.needs.length-i) 0 r.needs.length [] ⟨⟨Nat.zero_le _,λy h=>by simp at h⟩,rfl⟩ ?_)
 rintro i mm g kk ⟨⟨hi,hno⟩,hmm⟩ nx hkk
 subst hkk
 refine zD 10 [0] ((i:Int)<(r.needs.length:Int)) (λh10=> ?_) (λh10=> ?_)
 rotate_left
 ·refine z7 [] Z5 λw hO=>⟨?_,hO.below⟩
  have hall:=yP (p:=λn:Nv=>n.opt≠s) (show r.needs.length<=i by omega) hno
  rw [show (r.needs.any λn=>decide (n.opt=s))=false from by rw [List.any_eq_false];exact λn h=>by simpa using hall n h]
 have hj:i<r.needs.length:=by omega
 obtain ⟨eb,eo,hA,hel⟩:=hv.elem vT i hj
 have hgo:=y1 (p:=λn:Nv=>n.opt≠s) hj hno
 have hsm:r.needs[i]∈r.needs:=List.getElem_mem hj
 have hel0:∀ w,YB W w->(loadVar 9 ⟨eb,eo+i*3+2,none⟩).run YP w= .ok (.string (mkS r.needs[i].opt)) w:=λw hw=>hel w hw _ 2 _ Kr
 generalize r.needs[i]=n at hel0 hgo hsm
 refine zK 16 [0] hA r.needs.length r.nc i 3 hj (zH 18 [] 9 eb (eo+i*3+2) (.string (mkS n.opt)) (λw hO=>hel0 w hO.below) (kJ 20 [] n.opt s (λh=> ?_) (λh=> ?_)))
 ·refine z7 [] Z4 λw hO=>⟨?_,hO.below⟩
  rw [show (r.needs.any λn=>decide (n.opt=s))=true from List.any_eq_true.2 ⟨n,hsm,decide_eq_true h⟩]
 ·exact x_i 12 [] ((i+1:Nat):Int) (nx (i+1) (r.needs.length-(i+1)) [] Om ⟨⟨hj,hgo h⟩,rfl⟩ Kr Kr)
theorem pulR_is (r:Rv)(s:YL):pulR r.rt.needs s=r.needs.any λn=>nY s n.nt:=by
 unfold pulR;simp only [Rv.rt,List.any_map];rfl
theorem pulN_one (s:YL)(n:Nv)(h0:0<n.any.length)(h1:n.any.length=1):nY s n.nt=decide (n.any[0].name=s):=by
 obtain ⟨A,cap,any,wh,opt⟩:=n
 match any,h0,h1 with
 | [u],_,_=>rfl
theorem r12pulled_any (r:Rv)(s:YL)(W:World)(hv:Reads nvC W W.heap.size r.nA r.needs)(hf:∀ n∈r.needs,Reads wvC W W.heap.size n.A n.any)(hn:r.needs.length<=5000):YC 223 #[rvV r,.string (mkS s)] W (YR (.bool (pulR r.rt.needs s)) W):=by
 rw [pulR_is]
 refine z8 Tryz.func223 (zZ [] λb2=>zO (α:=Nat) (λi=>[(1,.string (mkS s)),(2,Zp b2 0),(5,YI (i:Int))]) (λ_=>[⟨b2,(rvC r).toArray,47⟩]) (λi m=>(i<=r.needs.length∧∀ n∈r.needs.take i,nY s n.nt=false)/\m=r.needs.length-i) 0 r.needs.length [] ⟨⟨Nat.zero_le _,λy h=>by simp at h⟩,rfl⟩ ?_)
 rintro i mm g kk ⟨⟨hi,hno⟩,hmm⟩ nx hkk
 subst hkk
 refine zD 10 [0] ((i:Int)<(r.needs.length:Int)) (λh10=> ?_) (λh10=> ?_)
 rotate_left
 ·refine z7 [] Z5 λw hO=>⟨?_,hO.below⟩
  have hall:=yP (p:=λn:Nv=>nY s n.nt=false) (show r.needs.length<=i by omega) hno
  rw [show (r.needs.any λn=>nY s n.nt)=false from by rw [List.any_eq_false];exact λn h=>by simpa using hall n h]
 have hj:i<r.needs.length:=by omega
 obtain ⟨eb,eo,hA,hel⟩:=hv.elem vT i hj
 have hgo:=y1 (p:=λn:Nv=>nY s n.nt=false) hj hno
 have hsm:r.needs[i]∈r.needs:=List.getElem_mem hj
 have hel0:∀ w,YB W w->(loadVar 70 ⟨eb,eo+i*3+0,none⟩).run YP w= .ok (.slice r.needs[i].A r.needs[i].any.length r.needs[i].cap) w:=λw hw=>hel w hw _ 0 _ Kr
 have hra:=hf _ hsm
 generalize r.needs[i]=n at hel0 hgo hsm hra
 refine zK 16 [0] hA r.needs.length r.nc i 3 hj (zH 18 [] 70 eb (eo+i*3+0) (.slice n.A n.any.length n.cap) (λw hO=>hel0 w hO.below) (zD 20 [] ((n.any.length:Int)=1) (λh20=> ?_) (λh20=> ?_)))
 rotate_left
 ·have hp0:nY s n.nt=false:=by
   unfold nY Nv.nt
   match hm:n.any with
   | []=>rfl
   | [_]=>rw [hm] at h20;simp at h20
   |_::_::_=>rfl
  exact x_i 12 [] ((i+1:Nat):Int) (nx (i+1) (r.needs.length-(i+1)) [] Om ⟨⟨hj,hgo hp0⟩,rfl⟩ Kr Kr)
 have h0:0<n.any.length:=by omega
 obtain ⟨fb,fo,hA2,hel2⟩:=hra.elem qC 0 h0
 have hpu:=pulN_one s n h0 Om
 have l0:∀ w,YB W w->(loadVar 9 ⟨fb,fo+0*4+0,none⟩).run YP w= .ok (.string (mkS n.any[0].name)) w:=λw hw=>hel2 w hw _ 0 _ Kr
 generalize n.any[0]=u at hpu l0
 refine zK 25 [0] hA r.needs.length r.nc i 3 hj (zH 27 [] 70 eb (eo+i*3+0) (.slice n.A n.any.length n.cap) (λw hO=>hel0 w hO.below) (zK 28 [] hA2 n.any.length n.cap 0 4 h0 (zH 30 [] 9 fb (fo+0*4+0) (.string (mkS u.name)) (λw hO=>l0 w hO.below) (kJ 32 [] u.name s (λh=> ?_) (λh=> ?_)))))
 ·refine z7 [] Z4 λw hO=>⟨?_,hO.below⟩
  rw [show (r.needs.any λn=>nY s n.nt)=true from List.any_eq_true.2 ⟨n,hsm,by rw [hpu];exact decide_eq_true h⟩]
 ·exact x_i 12 [] ((i+1:Nat):Int) (nx (i+1) (r.needs.length-(i+1)) [] Om ⟨⟨hj,hgo (by rw [hpu];exact decide_eq_false h)⟩,rfl⟩ Kr Kr)
theorem r12items_any (r:Rv)(A:Option Addr)(cap:Nat)(l:List YL)(W:World)(hr:RcIn W W.heap.size r)(hv:Reads y9 W W.heap.size A l)(hn:l.length<=5000)(ht:∀ s∈l,s.length<=1000000):YC 173 #[rvV r,.slice A l.length cap] W (YR (YI (y8 (yL r.rt.needs) l)) W):=by
 refine z8 Tryz.func173 (zZ [] λb2=>zO (α:=Nat) (λi=>[(1,.slice A l.length cap),(2,Zp b2 0),(5,YI (i:Int))]) (λ_=>[⟨b2,(rvC r).toArray,47⟩]) (λi m=>(i<=l.length∧∀ s∈l.take i,yL r.rt.needs s=0)/\m=l.length-i) 0 l.length [] ⟨⟨Nat.zero_le _,λy h=>by simp at h⟩,rfl⟩ ?_)
 rintro i mm g kk ⟨⟨hi,hno⟩,hmm⟩ nx hkk
 subst hkk
 refine zD 12 [] ((i:Int)<(l.length:Int)) (λh12=> ?_) (λh12=> ?_)
 rotate_left
 ·refine z7 [] (YI 0) λw hO=>⟨?_,hO.below⟩
  rw [gL (yP (p:=λs=>yL r.rt.needs s=0) (show l.length<=i by omega) hno)]
 have hj:i<l.length:=by omega
 obtain ⟨eb,eo,hA,hel⟩:=hv.elem zW i hj
 have hgo:=y1 (p:=λs=>yL r.rt.needs s=0) hj hno
 have hat:=bL (f:=yL r.rt.needs) hj hno
 have hsm:l[i]∈l:=List.getElem_mem hj
 have hel0:∀ w,YB W w->(loadVar 9 ⟨eb,eo+i*1+0,none⟩).run YP w= .ok (.string (mkS l[i])) w:=λw hw=>hel w hw _ 0 _ Kr
 have hls:=ht _ hsm
 generalize l[i]=s at hel0 hgo hat hls
 have hE:yL r.rt.needs s=if (zI s).1=2/\optR r.rt.needs (zI s).2.1=false then 14 else if (zI s).1=3/\pulR r.rt.needs (zI s).2.1=false then 16 else 0:=rfl
 have hI:∀ w,YB W w->YC 221 #[.string (mkS s)] w (YR (.tuple #[YI (zI s).1,.string (mkS (zI s).2.1),.string (mkS (zI s).2.2)]) w):=λw hb=>r11Item_any s w hls
 generalize zI s=q at hE hI
 obtain ⟨kd,nm,sf⟩:=q
 have hO1:∀ w,YB W w->YC 222 #[rvV r,.string (mkS nm)] w (YR (.bool (optR r.rt.needs nm)) w):=λw hb=>r12option_any r nm w (hr.needs.on hb hb.size) hr.nn
 have hP1:∀ w,YB W w->YC 223 #[rvV r,.string (mkS nm)] w (YR (.bool (pulR r.rt.needs nm)) w):=λw hb=>r12pulled_any r nm w (hr.needs.on hb hb.size) (λn h=>(hr.any n h).on hb hb.size) hr.nn
 refine zK 18 [] hA l.length cap i 1 hj (zH 19 [] 9 eb (eo+i*1+0) (.string (mkS s)) (λw hO=>hel0 w hO.below) (z6 (v:= .tuple #[YI kd,.string (mkS nm),.string (mkS sf)]) [] (λw hO=>hI w hO.below) (zD 25 [] (kd=2) (λh25=> ?_) (λh25=> ?_))))
 ·subst h25
  refine z6 (v:= .bool (optR r.rt.needs nm)) [0] (λw hO=>hO1 w hO.below) (zL 29 (optR r.rt.needs nm) (λe1=> ?_) (λe1=> ?_))
  ·exact x_i 14 [] ((i+1:Nat):Int) (nx (i+1) (l.length-(i+1)) [] Om ⟨⟨hj,hgo (by rw [hE,if_neg (λh=>by have:=h.2;rw [e1] at this;simp at this),if_neg (λh=>by simp at h)])⟩,rfl⟩ Kr Kr)
  ·have h14:yL r.rt.needs s=14:=by rw [hE,if_pos ⟨rfl,e1⟩]
   exact z7 [] (YI 14) λw hO=>⟨by rw [hat (by rw [h14];decide),h14],hO.below⟩
 refine zD 33 [] (kd=3) (λh33=> ?_) (λh33=> ?_)
 ·subst h33
  refine z6 (v:= .bool (pulR r.rt.needs nm)) [0] (λw hO=>hP1 w hO.below) (zL 37 (pulR r.rt.needs nm) (λe1=> ?_) (λe1=> ?_))
  ·exact x_i 14 [] ((i+1:Nat):Int) (nx (i+1) (l.length-(i+1)) [] Om ⟨⟨hj,hgo (by rw [hE,if_neg (λh=>by simp at h),if_neg (λh=>by have:=h.2;rw [e1] at this;simp at this)])⟩,rfl⟩ Kr Kr)
  ·have h16:yL r.rt.needs s=16:=by rw [hE,if_neg (λh=>by simp at h),if_pos ⟨rfl,e1⟩]
   exact z7 [] (YI 16) λw hO=>⟨by rw [hat (by rw [h16];decide),h16],hO.below⟩
 ·exact x_i 14 [] ((i+1:Nat):Int) (nx (i+1) (l.length-(i+1)) [] Om ⟨⟨hj,hgo (by rw [hE,if_neg (λh=>h25 h.1),if_neg (λh=>h33 h.1)])⟩,rfl⟩ Kr Kr)
end
section
set_option linter.unnecessarySimpa false
theorem wishE_targ (own:YL)(u:Wt)(al:Bool):k6 own u al=if gJ own u.name u.rng≠0 then gJ own u.name u.rng else if qM u.fs al=false then 11 else 0:=by
 unfold k6 gJ
 split
 ·simp
 ·split
  ·simp
  ·split<;>simp
def needC (n:Nv)(b:Nat):Blk:=⟨b, #[.slice n.A n.any.length n.cap,.string (mkS n.wh),.string (mkS n.opt)],72⟩
theorem qNeed_any (own:YL)(n:Nv)(W:World)(hv:Reads wvC W W.heap.size n.A n.any)(hf:∀ u∈n.any,Reads y9 W W.heap.size u.A u.fs)(hn:n.any.length<=5000)(hnf:∀ u∈n.any,u.fs.length<=5000)(hs:GqM n.wh/\n.opt.length<=1000000)(hsu:∀ u∈n.any,SuW u)(hK:RecLib W):YC 112 #[nvV n,.string (mkS own)] W (YR (YI (xF own n.nt)) W):=by
 have hE:=needE_is own n
 refine z8 Tryz.func112 (zZ [] λb2=>zD 11 [0] ((n.any.length:Int)=0) (λh11=> ?_) (λh11=> ?_))
 ·exact z7 [] (YI 9) λw hO=>⟨by rw [hE,if_pos (List.eq_nil_of_length_eq_zero Om)],hO.below⟩
 have h11':¬ n.any=[]:=λe=>h11 (by rw [e];rfl)
 rw [if_neg h11'] at hE
 refine zD 15 [0] ((n.any.length:Int)>3) (λh15=> ?_) (λh15=> ?_)
 ·exact z7 [] (YI 3) λw hO=>⟨by rw [hE,if_pos Om],hO.below⟩
 rw [if_neg (show ¬ 3<n.any.length by omega)] at hE
 refine zO (α:=Nat) (λi=>[(1,.string (mkS own)),(2,Zp b2 0),(17,.slice n.A n.any.length n.cap),(18,YI (n.any.length:Int)),(19,YI (i:Int))]) (λ_=>[needC n b2]) (λi m=>(i<=n.any.length∧∀ u∈n.any.take i,k6 own u.wt (decide (n.any.length=1))=0)/\m=n.any.length-i) 0 n.any.length [0] ⟨⟨Nat.zero_le _,λy h=>by simp at h⟩,rfl⟩ ?_
 rintro i mm g kk ⟨⟨hi,hno⟩,hmm⟩ nx hkk
 subst hkk
 refine zD 20 [] ((i:Int)<(n.any.length:Int)) (λh20=> ?_) (λh20=> ?_)
 ·have hj:i<n.any.length:=by omega
  obtain ⟨eb,eo,hA,hel⟩:=hv.elem qC i hj
  have hgo:=y1 (p:=λu:Wv=>k6 own u.wt (decide (n.any.length=1))=0) hj hno
  have hat:=bL (f:=λu:Wv=>k6 own u.wt (decide (n.any.length=1))) hj hno
  have hsm:n.any[i]∈n.any:=List.getElem_mem hj
  have hel0:∀ w,YB W w->(loadVar 139 ⟨eb,eo+i*4+0,none⟩).run YP w= .ok (wvV n.any[i]) w:=λw hw=>hel w hw _ 0 _ Kr
  have hru:=hf _ hsm;have hnu:=hnf _ hsm;have hlu:=hsu _ hsm
  generalize n.any[i]=u at hel0 hgo hat hru hnu hlu
  have hW:k6 own u.wt (decide (n.any.length=1))=if gJ own u.name u.rng≠0 then gJ own u.name u.rng else if (askB u.fs && (decide (n.any.length=1)||decide (u.fs=[])))=false then 11 else 0:=wishE_targ own u.wt _
  have c1:∀ w,YB W w->YC 159 #[.string (mkS u.name),.string (mkS u.rng),.string (mkS own)] w (YR (YI (gJ own u.name u.rng)) w):=λw h=>qTarget_any u.name u.rng own w hlu.1 hlu.2.1 (hK.on h)
  have c2:∀ w,YB W w->YC 160 #[.slice u.A u.fs.length u.cap] w (YR (.bool (askB u.fs)) w):=λw hb=>qAsk_any u.A u.cap u.fs w (hru.on hb hb.size) hnu hlu.2.2
  refine zK 21 [] hA n.any.length n.cap i 4 hj (zH 22 [] 139 eb (eo+i*4+0) (wvV u) (λw hO=>hel0 w hO.below) (zS [] λb6=>z6 (v:=YI (gJ own u.name u.rng)) [0,0,0] (λw hO=>c1 w hO.below) (kT 30 [] (gJ own u.name u.rng=0) (λh1=> ?_) (λh1=> ?_))))
  rotate_left
  ·rw [if_pos h1] at hW
   refine z7 [] (YI (gJ own u.name u.rng)) λw hO=>⟨?_,hO.below⟩
   rw [hE,hat (by rw [hW];exact h1),hW,if_pos h1]
  rw [if_neg (λq=>q h1)] at hW
  have fin:askB u.fs=false->k6 own u.wt (decide (n.any.length=1))=11:=λh=>by rw [hW,h];rfl
  have out:k6 own u.wt (decide (n.any.length=1))=11->xF own n.nt=11:=λh=>by
   rw [hE,hat (by rw [h];decide),h];rfl
  refine zD 35 [0] ((u.fs.length:Int)>0) (λh35=> ?_) (λh35=> ?_)
  ·refine zD 40 [1] ((n.any.length:Int)>1) (λh40=> ?_) (λh40=> ?_)
   ·refine z7 [] (YI 11) λw hO=>⟨?_,hO.below⟩
    rw [out (by rw [hW,decide_eq_false (show ¬ n.any.length=1 by omega),decide_eq_false (λe=>by rw [e] at h35;simp at h35)];simp)]
   ·refine z6 (v:= .bool (askB u.fs)) [0] (λw hO=>c2 w hO.below) (zL 45 (askB u.fs) (λh45=> ?_) (λh45=> ?_))
    ·have hz:k6 own u.wt (decide (n.any.length=1))=0:=by rw [hW,h45,decide_eq_true (show n.any.length=1 by omega)];rfl
     exact x_i 19 [] ((i+1:Nat):Int) (zP [] [needC n b2] (λw hO=>hO.past 1 _) (nx (i+1) (n.any.length-(i+1)) [] Om ⟨⟨hj,hgo hz⟩,rfl⟩ Kr Kr))
    ·exact z7 [] (YI 11) λw hO=>⟨by rw [out (fin h45)],hO.below⟩
  ·refine z6 (v:= .bool (askB u.fs)) [0] (λw hO=>c2 w hO.below) (zL 45 (askB u.fs) (λh45=> ?_) (λh45=> ?_))
   ·have hz:k6 own u.wt (decide (n.any.length=1))=0:=by
     rw [hW,h45,decide_eq_true (show u.fs=[] from List.eq_nil_of_length_eq_zero Om)];simp
    exact x_i 19 [] ((i+1:Nat):Int) (zP [] [needC n b2] (λw hO=>hO.past 1 _) (nx (i+1) (n.any.length-(i+1)) [] Om ⟨⟨hj,hgo hz⟩,rfl⟩ Kr Kr))
   ·exact z7 [] (YI 11) λw hO=>⟨by rw [out (fin h45)],hO.below⟩
 have hall:=gL (yP (p:=λu:Wv=>k6 own u.wt (decide (n.any.length=1))=0) (show n.any.length<=i by omega) hno)
 rw [hall,if_neg (by simp)] at hE
 have h2:∀ w,YB W w->YC 161 #[.string (mkS n.wh)] w (YR (.bool (yM n.wh)) w):=λw hb=>qMark_any n.wh w hs.1 (hK.on hb)
 have h3:∀ w,YB W w->YC 162 #[.string (mkS n.opt)] w (YR (.bool (wdL n.opt)) w):=λw hb=>vM n.opt w hs.2
 refine z6 (v:= .bool (yM n.wh)) [0] (λw hO=>h2 w hO.below) (zL 51 (yM n.wh) (λe3=> ?_) (λe3=> ?_))
 rotate_left
 ·exact z7 [] (YI 7) λw hO=>⟨by rw [hE,if_pos e3],hO.below⟩
 rw [if_neg (by simp [e3])] at hE
 refine wT 55 [0] n.opt [] (λe4=> ?_) (λe4=> ?_)
 ·exact z7 [] (YI 0) λw hO=>⟨by rw [hE,if_neg (λh=>h.1 e4)],hO.below⟩
 refine z6 (v:= .bool (wdL n.opt)) [0] (λw hO=>h3 w hO.below) (zL 59 (wdL n.opt) (λe5=> ?_) (λe5=> ?_))
 ·exact z7 [] (YI 0) λw hO=>⟨by rw [hE,if_neg (λh=>by rw [e5] at h;simp at h)],hO.below⟩
 ·exact z7 [] (YI 14) λw hO=>⟨by rw [hE,if_pos ⟨e4,e5⟩],hO.below⟩
def pulB (s:YL)(n:Nv):Bool:=nY s n.nt
theorem qOpt_any (n:Nv)(s:YL)(b:Nat)(W:World)(hc:W.heap[b]?=some (.cells #[.string (mkS s)] 9)):YC 165 #[nvV n,.pointer (some ⟨b,0,none⟩)] W (YR (.bool (decide (n.opt=s))) W):=by
 have hb:b<W.heap.size:=(Array.getElem?_eq_some_iff.1 hc).1
 refine z8 Tryz.func165 (zZ [] λb2=>zH 6 [0] 9 b 0 (.string (mkS s)) (λw hO=>y7 Kr ((hO.below.block b hb).trans hc)) (kJ 7 [] n.opt s (λh=> ?_) (λh=> ?_)))
 ·exact z7 [] Z4 λw hO=>⟨by rw [decide_eq_true h],hO.below⟩
 ·exact z7 [] Z5 λw hO=>⟨by rw [decide_eq_false h],hO.below⟩
theorem qPul_any (n:Nv)(s:YL)(b:Nat)(W:World)(hv:Reads wvC W W.heap.size n.A n.any)(hc:W.heap[b]?=some (.cells #[.string (mkS s)] 9)):YC 167 #[nvV n,.pointer (some ⟨b,0,none⟩)] W (YR (.bool (pulB s n)) W):=by
 have hb:b<W.heap.size:=(Array.getElem?_eq_some_iff.1 hc).1
 refine z8 Tryz.func167 (zZ [] λb2=>zD 7 [0] ((n.any.length:Int)=1) (λh7=> ?_) (λh7=> ?_))
 rotate_left
 ·refine z7 [] Z5 λw hO=>⟨?_,hO.below⟩
  have:pulB s n=false:=by
   unfold pulB nY
   split
   ·rename_i x h
    have:=congrArg List.length h
    simp only [Nv.nt,List.length_map,List.length_cons,List.length_nil] at this
    omega
   ·rfl
  rw [this]
 have h1:n.any.length=1:=by omega
 obtain ⟨eb,eo,hA,hel⟩:=hv.elem qC 0 Om
 have hel0:∀ w,YB W w->(loadVar 9 ⟨eb,eo+0*4+0,none⟩).run YP w= .ok (.string (mkS (n.any[0]'Om).name)) w:=λw hw=>hel w hw _ 0 _ Kr
 have hp:pulB s n=decide ((n.any[0]'Om).name=s):=by
  obtain ⟨x,hx⟩:=List.length_eq_one_iff.1 h1
  have e:n.any[0]'Om=x:=by simp only [hx,List.getElem_cons_zero]
  rw [e]
  unfold pulB nY
  rw [show n.nt.any=[x.wt] from by show n.any.map Wv.wt=_;rw [hx];rfl];rfl
 generalize n.any[0]=u at hel0 hp
 refine zK 11 [0] hA n.any.length n.cap 0 4 (by omega) (zH 13 [] 9 eb (eo+0*4+0) (.string (mkS u.name)) (λw hO=>hel0 w hO.below) (zH 14 [] 9 b 0 (.string (mkS s)) (λw hO=>y7 Kr ((hO.below.block b hb).trans hc)) (kJ 15 [] u.name s (λh=> ?_) (λh=> ?_))))
 ·exact z7 [] Z4 λw hO=>⟨by rw [hp,decide_eq_true h],hO.below⟩
 ·exact z7 [] Z5 λw hO=>⟨by rw [hp,decide_eq_false h],hO.below⟩
theorem qHas1_any (p:Nv->Bool)(A:Option Addr)(cap:Nat)(l:List Nv)(b:Nat)(W:World)(hv:Reads nvC W W.heap.size A l)(hn:l.length<=5000)(hp:∀ n∈l,∀ w,YB W w->YC 165 #[nvV n,.pointer (some ⟨b,0,none⟩)] w (YR (.bool (p n)) w)):YC 166 #[.slice A l.length cap,.func (.func 165) #[] #[.pointer (some ⟨b,0,none⟩)]] W (YR (.bool (l.any p)) W):=by
 have key:∀ w,YB W w->YC 214 #[.slice A l.length cap,.func (.func 165) #[] #[.pointer (some ⟨b,0,none⟩)]] w λe w'=>∃ v,e= .returned v/\(∃ z:Int,v=YI z/\decide (0<=z)=l.any p)/\YB w w':=λw0 hb0=>by
  have hv0:=hv.on hb0 hb0.size
  have hp0:∀ n∈l,∀ w,YB w0 w->YC 165 #[nvV n,.pointer (some ⟨b,0,none⟩)] w (YR (.bool (p n)) w):=λn hn w hb=>hp n hn w (hb0.trans (hb.mono hb0.size))
  clear hp hv hb0
  refine z8 Tryz.func214 (zO (α:=Nat) (λi=>[(0,.slice A l.length cap),(1,.func (.func 165) #[] #[Zp b 0]),(7,YI (l.length:Int)),(8,YI (i:Int))]) (λ_=>[]) (λi m=>(i<=l.length∧∀ y∈l.take i,p y=false)/\m=l.length-i) 0 l.length [] ⟨⟨Nat.zero_le _,λy h=>by simp at h⟩,rfl⟩ ?_)
  rintro i mm g kk ⟨⟨hi,hno⟩,hmm⟩ nx hkk
  subst hkk
  refine zD 9 [] ((i:Int)<(l.length:Int)) (λh9=> ?_) (λh9=> ?_)
  rotate_left
  ·refine z7 [] (YI (-1)) λw hO=>⟨_,rfl,⟨-1,rfl, ?_⟩,hO.below⟩
   have hall:=yP (p:=λy:Nv=>p y=false) (show l.length<=i by omega) hno
   rw [show l.any p=false from List.any_eq_false.2 λy hy=>by rw [hall y hy];decide];rfl
  have hj:i<l.length:=by omega
  obtain ⟨eb,eo,hA,hel⟩:=hv0.elem vT i hj
  have hgo:=y1 (p:=λy:Nv=>p y=false) hj hno
  have hsm:l[i]∈l:=List.getElem_mem hj
  have hel0:∀ w,YB w0 w->(loadVar 72 ⟨eb,eo+i*3+0,none⟩).run YP w= .ok (nvV l[i]) w:=λw hw=>hel w hw _ 0 _ Kr
  have hcf:=hp0 _ hsm
  generalize l[i]=n at hel0 hgo hcf hsm
  refine zK 14 [] hA l.length cap i 3 hj (zH 15 [] 72 eb (eo+i*3+0) (nvV n) (λw hO=>hel0 w hO.below) (z6 (v:= .bool (p n)) [] (λw hO=>hcf w hO.below) (zL 16 (p n) (λh16=> ?_) (λh16=> ?_))))
  ·refine z7 [] (YI (i:Int)) λw hO=>⟨_,rfl,⟨(i:Int),rfl, ?_⟩,hO.below⟩
   rw [show l.any p=true from List.any_eq_true.2 ⟨n,hsm,h16⟩,decide_eq_true Om]
  ·exact x_i 18 [] ((i+1:Nat):Int) (nx (i+1) (l.length-(i+1)) [] Om ⟨⟨hj,hgo h16⟩,rfl⟩ Kr Kr)
 refine z8 Tryz.func166 (jE (R:=λv=>∃ z:Int,v=YI z/\decide (0<=z)=l.any p) [] (λw hO=>key w hO.below) ?_)
 rintro v ⟨z,rfl,hz⟩
 exact z7 [] (.bool (decide (0<=z))) λw hO=>⟨by rw [hz],hO.below⟩
theorem qHas2_any (p:Nv->Bool)(A:Option Addr)(cap:Nat)(l:List Nv)(b:Nat)(W:World)(hv:Reads nvC W W.heap.size A l)(hn:l.length<=5000)(hp:∀ n∈l,∀ w,YB W w->YC 167 #[nvV n,.pointer (some ⟨b,0,none⟩)] w (YR (.bool (p n)) w)):YC 166 #[.slice A l.length cap,.func (.func 167) #[] #[.pointer (some ⟨b,0,none⟩)]] W (YR (.bool (l.any p)) W):=by
 have key:∀ w,YB W w->YC 214 #[.slice A l.length cap,.func (.func 167) #[] #[.pointer (some ⟨b,0,none⟩)]] w λe w'=>∃ v,e= .returned v/\(∃ z:Int,v=YI z/\decide (0<=z)=l.any p)/\YB w w':=λw0 hb0=>by
  have hv0:=hv.on hb0 hb0.size
  have hp0:∀ n∈l,∀ w,YB w0 w->YC 167 #[nvV n,.pointer (some ⟨b,0,none⟩)] w (YR (.bool (p n)) w):=λn hn w hb=>hp n hn w (hb0.trans (hb.mono hb0.size))
  clear hp hv hb0
  refine z8 Tryz.func214 (zO (α:=Nat) (λi=>[(0,.slice A l.length cap),(1,.func (.func 167) #[] #[Zp b 0]),(7,YI (l.length:Int)),(8,YI (i:Int))]) (λ_=>[]) (λi m=>(i<=l.length∧∀ y∈l.take i,p y=false)/\m=l.length-i) 0 l.length [] ⟨⟨Nat.zero_le _,λy h=>by simp at h⟩,rfl⟩ ?_)
  rintro i mm g kk ⟨⟨hi,hno⟩,hmm⟩ nx hkk
  subst hkk
  refine zD 9 [] ((i:Int)<(l.length:Int)) (λh9=> ?_) (λh9=> ?_)
  rotate_left
  ·refine z7 [] (YI (-1)) λw hO=>⟨_,rfl,⟨-1,rfl, ?_⟩,hO.below⟩
   have hall:=yP (p:=λy:Nv=>p y=false) (show l.length<=i by omega) hno
   rw [show l.any p=false from List.any_eq_false.2 λy hy=>by rw [hall y hy];decide];rfl
  have hj:i<l.length:=by omega
  obtain ⟨eb,eo,hA,hel⟩:=hv0.elem vT i hj
  have hgo:=y1 (p:=λy:Nv=>p y=false) hj hno
  have hsm:l[i]∈l:=List.getElem_mem hj
  have hel0:∀ w,YB w0 w->(loadVar 72 ⟨eb,eo+i*3+0,none⟩).run YP w= .ok (nvV l[i]) w:=λw hw=>hel w hw _ 0 _ Kr
  have hcf:=hp0 _ hsm
  generalize l[i]=n at hel0 hgo hcf hsm
  refine zK 14 [] hA l.length cap i 3 hj (zH 15 [] 72 eb (eo+i*3+0) (nvV n) (λw hO=>hel0 w hO.below) (z6 (v:= .bool (p n)) [] (λw hO=>hcf w hO.below) (zL 16 (p n) (λh16=> ?_) (λh16=> ?_))))
  ·refine z7 [] (YI (i:Int)) λw hO=>⟨_,rfl,⟨(i:Int),rfl, ?_⟩,hO.below⟩
   rw [show l.any p=true from List.any_eq_true.2 ⟨n,hsm,h16⟩,decide_eq_true Om]
  ·exact x_i 18 [] ((i+1:Nat):Int) (nx (i+1) (l.length-(i+1)) [] Om ⟨⟨hj,hgo h16⟩,rfl⟩ Kr Kr)
 refine z8 Tryz.func166 (jE (R:=λv=>∃ z:Int,v=YI z/\decide (0<=z)=l.any p) [] (λw hO=>key w hO.below) ?_)
 rintro v ⟨z,rfl,hz⟩
 exact z7 [] (.bool (decide (0<=z))) λw hO=>⟨by rw [hz],hO.below⟩
theorem qItems_any (A:Option Addr)(cap:Nat)(of:List YL)(B:Option Addr)(capb:Nat)(l:List Nv)(W:World)(hu:Reads y9 W W.heap.size A of)(ho:of.length<=5000)(ht:∀ s∈of,s.length<=1000000)(hv:Reads nvC W W.heap.size B l)(hn:l.length<=5000)(hva:∀ n∈l,Reads wvC W W.heap.size n.A n.any):YC 115 #[.slice A of.length cap,.slice B l.length capb] W (YR (YI (y8 (yL (l.map Nv.nt)) of)) W):=by
 refine z8 Tryz.func115 (zO (α:=Nat) (λi=>[(1,.slice B l.length capb),(12,.slice A of.length cap),(13,YI (of.length:Int)),(14,YI (i:Int))]) (λ_=>[]) (λi m=>(i<=of.length∧∀ s∈of.take i,yL (l.map Nv.nt) s=0)/\m=of.length-i) 0 of.length [] ⟨⟨Nat.zero_le _,λy h=>by simp at h⟩,rfl⟩ ?_)
 rintro i mm g kk ⟨⟨hi,hno⟩,hmm⟩ nx hkk
 subst hkk
 refine zD 15 [] ((i:Int)<(of.length:Int)) (λh15=> ?_) (λh15=> ?_)
 rotate_left
 ·refine z7 [] (YI 0) λw hO=>⟨?_,hO.below⟩
  rw [gL (yP (p:=λs=>yL (l.map Nv.nt) s=0) (show of.length<=i by omega) hno)]
 have hj:i<of.length:=by omega
 obtain ⟨eb,eo,hA,hel⟩:=hu.elem zW i hj
 have hgo:=y1 (p:=λs=>yL (l.map Nv.nt) s=0) hj hno
 have hat:=bL (f:=yL (l.map Nv.nt)) hj hno
 have hsh:=ht _ (List.getElem_mem hj)
 have hel0:∀ w,YB W w->(loadVar 9 ⟨eb,eo+i*1+0,none⟩).run YP w= .ok (.string (mkS of[i])) w:=λw hw=>hel w hw _ 0 _ Kr
 generalize of[i]=s at hel0 hgo hat hsh
 have hI:yL (l.map Nv.nt) s=if (zI s).1=2/\(l.any λn=>decide (n.opt=(zI s).2.1))=false then 14 else if (zI s).1=3/\l.any (pulB (zI s).2.1)=false then 16 else 0:=by
  unfold yL optR pulR
  simp only [List.any_map];rfl
 refine zK 16 [] hA of.length cap i 1 hj (zH 17 [] 9 eb (eo+i*1+0) (.string (mkS s)) (λw hO=>hel0 w hO.below) (z6 (v:= .tuple #[YI (zI s).1,.string (mkS (zI s).2.1),.string (mkS (zI s).2.2)]) [] (λw hO=>fItem_at s w hsh) (zS [] λb8=> ?_)))
 have hc1:∀ w,Own [] W w [⟨b8, #[.string (mkS (zI s).2.1)],9⟩]->YC 166 #[.slice B l.length capb,.func (.func 165) #[] #[.pointer (some ⟨b8,0,none⟩)]] w (YR (.bool (l.any λn=>decide (n.opt=(zI s).2.1))) w):=λw hO=>by
  have hg:w.heap[b8]?=some (.cells #[.string (mkS (zI s).2.1)] 9):=hO.get (i:=0) rfl
  exact qHas1_any _ B capb l b8 w (hv.on hO.below hO.size) hn λn hn w2 hb=>qOpt_any n (zI s).2.1 b8 w2 ((hb.block b8 (Array.getElem?_eq_some_iff.1 hg).1).trans hg)
 have hc2:∀ w,Own [] W w [⟨b8, #[.string (mkS (zI s).2.1)],9⟩]->YC 166 #[.slice B l.length capb,.func (.func 167) #[] #[.pointer (some ⟨b8,0,none⟩)]] w (YR (.bool (l.any (pulB (zI s).2.1))) w):=λw hO=>by
  have hg:w.heap[b8]?=some (.cells #[.string (mkS (zI s).2.1)] 9):=hO.get (i:=0) rfl
  exact qHas2_any _ B capb l b8 w (hv.on hO.below hO.size) hn λn hn w2 hb=>qPul_any n (zI s).2.1 b8 w2 (((hva n hn).on hO.below hO.size).on hb hb.size) ((hb.block b8 (Array.getElem?_eq_some_iff.1 hg).1).trans hg)
 have next:yL (l.map Nv.nt) s=0→∀ m',m'=of.length-(i+1)->m'<mm/\(i+1<=of.length∧∀ s∈of.take (i+1),yL (l.map Nv.nt) s=0)/\m'=of.length-(i+1):=λh m' e=>⟨by omega,⟨hj,hgo h⟩,e⟩
 refine wS 24 [0] (.func (.func 165) #[] #[Zp b8 0]) (λw=>Kr) (zD 26 [] ((zI s).1=2) (λh26=> ?_) (λh26=> ?_))
 ·refine z6 (v:= .bool (l.any λn=>decide (n.opt=(zI s).2.1))) [] (λw hO=>hc1 w (hO.past 0 _)) (zL 30 (l.any λn=>decide (n.opt=(zI s).2.1)) (λh30=> ?_) (λh30=> ?_))
  rotate_left
  ·refine z7 [] (YI 14) λw hO=>⟨?_,hO.below⟩
   have:yL (l.map Nv.nt) s=14:=by rw [hI,if_pos ⟨h26,h30⟩]
   rw [hat (by rw [this];decide),this]
  have hz:yL (l.map Nv.nt) s=0:=by rw [hI,if_neg (by rw [h30];simp),if_neg (λq=>by rw [h26] at q;exact absurd q.1 (by decide))]
  obtain ⟨q1,q2,q3⟩:=next hz _ rfl
  exact wS 33 [] (.func (.func 167) #[] #[Zp b8 0]) (λw=>Kr) (zD 35 [] ((zI s).1=3) (λh=>absurd (h26.symm.trans h) (by decide)) (λh=>x_i 14 [] ((i+1:Nat):Int) (zP [] [] (λw hO=>hO.no) (nx (i+1) _ [] q1 ⟨q2,q3⟩ Kr Kr))))
 ·refine wS 33 [] (.func (.func 167) #[] #[Zp b8 0]) (λw=>Kr) (zD 35 [] ((zI s).1=3) (λh35=> ?_) (λh35=> ?_))
  rotate_left
  ·have hz:yL (l.map Nv.nt) s=0:=by rw [hI,if_neg (λq=>h26 q.1),if_neg (λq=>h35 q.1)]
   obtain ⟨q1,q2,q3⟩:=next hz _ rfl
   exact x_i 14 [] ((i+1:Nat):Int) (zP [] [] (λw hO=>hO.no) (nx (i+1) _ [] q1 ⟨q2,q3⟩ Kr Kr))
  refine z6 (v:= .bool (l.any (pulB (zI s).2.1))) [] (λw hO=>hc2 w (hO.past 0 _)) (zL 39 (l.any (pulB (zI s).2.1)) (λh39=> ?_) (λh39=> ?_))
  ·have hz:yL (l.map Nv.nt) s=0:=by rw [hI,if_neg (λq=>h26 q.1),if_neg (by rw [h39];simp)]
   obtain ⟨q1,q2,q3⟩:=next hz _ rfl
   exact x_i 14 [] ((i+1:Nat):Int) (zP [] [] (λw hO=>hO.no) (nx (i+1) _ [] q1 ⟨q2,q3⟩ Kr Kr))
  ·refine z7 [] (YI 16) λw hO=>⟨?_,hO.below⟩
   have:yL (l.map Nv.nt) s=16:=by rw [hI,if_neg (λq=>h26 q.1),if_pos ⟨h35,h39⟩]
   rw [hat (by rw [this];decide),this]
end
section
set_option linter.unnecessarySimpa false
theorem strC_one (s:YL):∀ u∈y9 s,u.oneCell'=true:=λu hu=>by rw [List.mem_singleton.1 hu];rfl
theorem tZ (r:Rv)(W:World)(hr:RcIn W W.heap.size r)(ht:(yT r.rt).length<=100000000):YC 80 #[rvV r] W (YR (.string (mkS (yT r.rt))) W):=by
 have hT:yT r.rt=gB r.rt++r.needs.flatMap (λn=>x8 n.nt)++r.bars.flatMap (λb=>qB b.bt)++r.fts.flatMap (λf=>xM f.ft):=by
  unfold yT;simp only [Rv.rt,y5,List.flatMap_map]
 have hl:=congrArg List.length hT
 simp only [List.length_append] at hl
 have hp8:txPack.length=8:=rfl
 have hn5:txNeed.length=5:=rfl
 have ho7:txOpt.length=7:=rfl
 have hb4:txBar.length=4:=rfl
 have hsn:=hr.sn
 have hnn:=hr.nn;have hnb:=hr.nb;have hfn:=hr.fts.n
 have hH:(gB r.rt).length=8+r.name.length+1+r.ver.print.length+1:=by
  show (txPack++r.name++[32]++r.ver.print++[10]).length=_
  simp only [List.length_append,List.length_cons,List.length_nil,hp8]
 have hP:∀ w,YB W w->YC 125 #[yB r.ver] w (YR (.string (mkS r.ver.print)) w):=λw hb=>rprint_any r.ver w hsn.2.1 hsn.2.2
 refine z8 Tryz.func80 (zZ [] λb1=>kC 10 [0] txPack r.name (kC 11 [] (txPack++r.name) [32] (z6 (v:= .string (mkS r.ver.print)) [0] (λw hO=>hP w hO.below) (kC 15 [] (txPack++r.name++[32]) r.ver.print (kC 16 [] (txPack++r.name++[32]++r.ver.print) [10] ?_)))))
 refine zO (α:=Nat×YL) (λx=>[(1,Zp b1 0),(3,.string (mkS x.2)),(4,YI (x.1:Int))]) (λ_=>[⟨b1,(rvC r).toArray,47⟩]) (λx m=>(x.1<=r.needs.length/\x.2=gB r.rt++(r.needs.take x.1).flatMap (λn=>x8 n.nt))/\m=r.needs.length-x.1) (0,txPack++r.name++[32]++r.ver.print++[10]) r.needs.length [] ⟨⟨Nat.zero_le _,by show _=gB r.rt++[];rw [List.append_nil];rfl⟩,rfl⟩ ?_
 rintro ⟨i,s⟩ mm g kk ⟨⟨hi,hs⟩,hmm⟩ nx hkk
 subst hkk
 replace hi:i<=r.needs.length:=hi
 replace hs:s=gB r.rt++(r.needs.take i).flatMap (λn=>x8 n.nt):=hs
 have hsl:s.length<=100000000:=by
  have:=jK (λn:Nv=>x8 n.nt) (l:=r.needs) i
  rw [hs,List.length_append];omega
 refine zD 21 [0] ((i:Int)<(r.needs.length:Int)) (λh21=> ?_) (λh21=> ?_)
 ·have hj:i<r.needs.length:=by omega
  obtain ⟨eb,eo,hA,hel⟩:=hr.needs.elem vT i hj
  have hst:=qF (λn:Nv=>x8 n.nt) hj
  have hmem:r.needs[i]∈r.needs:=List.getElem_mem hj
  have hone:=tF (λn:Nv=>x8 n.nt) hmem
  have la:∀ w,YB W w->(loadVar 70 ⟨eb,eo+i*3+0,none⟩).run YP w= .ok (.slice r.needs[i].A r.needs[i].any.length r.needs[i].cap) w:=λw hw=>hel w hw _ 0 _ Kr
  have lw:∀ w,YB W w->(loadVar 9 ⟨eb,eo+i*3+1,none⟩).run YP w= .ok (.string (mkS r.needs[i].wh)) w:=λw hw=>hel w hw _ 1 _ Kr
  have lo:∀ w,YB W w->(loadVar 9 ⟨eb,eo+i*3+2,none⟩).run YP w= .ok (.string (mkS r.needs[i].opt)) w:=λw hw=>hel w hw _ 2 _ Kr
  have hra:=hr.any _ hmem;have hrf:=hr.wfs _ hmem;have hna:=hr.na _ hmem;have hnf:=hr.nf _ hmem;have hsw:=hr.sw _ hmem
  have hs2:s++x8 r.needs[i].nt=gB r.rt++(r.needs.take (i+1)).flatMap (λn=>x8 n.nt):=by rw [hst,hs,List.append_assoc]
  generalize r.needs[i]=n at la lw lo hone hra hrf hna hnf hsw hs2
  have hnT:x8 n.nt=txNeed++n.any.flatMap (λu=>x7 u.wt)++kR n.wh++dU n.opt:=by
   unfold x8;simp only [Nv.nt,List.flatMap_map]
  have hnl:=congrArg List.length hnT
  simp only [List.length_append] at hnl
  rw [hnT] at hs2
  have hWh:∀ w,YB W w->YC 127 #[.string (mkS n.wh)] w (YR (.string (mkS (kR n.wh))) w):=λw hb=>tY n.wh w (gqM_len hsw.1)
  refine kC 25 [] s txNeed (zO (α:=Nat×YL) (λx=>[(1,Zp b1 0),(3,.string (mkS x.2)),(4,YI (i:Int)),(5,YI (x.1:Int))]) (λ_=>[⟨b1,(rvC r).toArray,47⟩]) (λx m=>(x.1<=n.any.length/\x.2=s++txNeed++(n.any.take x.1).flatMap (λu=>x7 u.wt))/\m=n.any.length-x.1) (0,s++txNeed) n.any.length [] ⟨⟨Nat.zero_le _,by show _=s++txNeed++[];rw [List.append_nil]⟩,rfl⟩ ?_)
  rintro ⟨k,y⟩ mk gk kk ⟨⟨hk,hy⟩,hmk⟩ ny hkk
  subst hkk
  replace hk:k<=n.any.length:=hk
  replace hy:y=s++txNeed++(n.any.take k).flatMap (λu=>x7 u.wt):=hy
  have hyl:y.length<=300000000:=by
   have:=jK (λu:Wv=>x7 u.wt) (l:=n.any) k
   rw [hy,List.length_append,List.length_append];omega
  refine zK 30 [0] hA r.needs.length r.nc i 3 hj (zH 32 [] 70 eb (eo+i*3+0) (.slice n.A n.any.length n.cap) (λw hO=>la w hO.below) (zD 34 [] ((k:Int)<(n.any.length:Int)) (λh34=> ?_) (λh34=> ?_)))
  ·have hkj:k<n.any.length:=by omega
   obtain ⟨fb,fo,hA2,hel2⟩:=hra.elem qC k hkj
   have hst2:=qF (λu:Wv=>x7 u.wt) hkj
   have hmem2:n.any[k]∈n.any:=List.getElem_mem hkj
   have hone2:=tF (λu:Wv=>x7 u.wt) hmem2
   have lu:∀ w,YB W w->(loadVar 139 ⟨fb,fo+k*4+0,none⟩).run YP w= .ok (wvV n.any[k]) w:=λw hw=>hel2 w hw _ 0 _ Kr
   have hru:=hrf _ hmem2;have hnu:=hnf _ hmem2
   have hy2:y++x7 n.any[k].wt=s++txNeed++(n.any.take (k+1)).flatMap (λu=>x7 u.wt):=by rw [hst2,hy,List.append_assoc]
   generalize n.any[k]=u at lu hone2 hru hnu hy2
   have hc:∀ w,YB W w->YC 126 #[wvV u] w (YR (.string (mkS (x7 u.wt))) w):=λw hb=>r12wished_any u w (hru.on hb hb.size) hnu Om
   refine zK 41 [0] hA r.needs.length r.nc i 3 hj (zH 43 [] 70 eb (eo+i*3+0) (.slice n.A n.any.length n.cap) (λw hO=>la w hO.below) (zK 45 [] hA2 n.any.length n.cap k 4 hkj (zH 46 [] 139 fb (fo+k*4+0) (wvV u) (λw hO=>lu w hO.below) (z6 (v:= .string (mkS (x7 u.wt))) [] (λw hO=>hc w hO.below) (kC 48 [] y (x7 u.wt) (x_i 36 [] ((k+1:Nat):Int) (ny (k+1,y++x7 u.wt) (n.any.length-(k+1)) [] Om ⟨⟨hkj,hy2⟩,rfl⟩ Kr Kr)))))))
  have hy2:y=s++txNeed++n.any.flatMap (λu=>x7 u.wt):=by rw [hy,List.take_of_length_le Om]
  clear ny
  refine zK 53 [0] hA r.needs.length r.nc i 3 hj (zH 55 [] 9 eb (eo+i*3+1) (.string (mkS n.wh)) (λw hO=>lw w hO.below) (z6 (v:= .string (mkS (kR n.wh))) [] (λw hO=>hWh w hO.below) (kC 57 [] y (kR n.wh) (zK 61 [0] hA r.needs.length r.nc i 3 hj (zH 63 [] 9 eb (eo+i*3+2) (.string (mkS n.opt)) (λw hO=>lo w hO.below) (wT 64 [] n.opt [] (λh64=> ?_) (λh64=> ?_)))))))
  ·exact x_i 23 [] ((i+1:Nat):Int) (nx (i+1,y++kR n.wh) (r.needs.length-(i+1)) [] Om ⟨⟨hj,by
    rw [←hs2,show dU n.opt=[] from if_pos h64,hy2,List.append_nil];simp only [List.append_assoc]⟩,rfl⟩ Kr Kr)
  ·have hol:(dU n.opt).length=7+n.opt.length+1:=by
    rw [show dU n.opt=txOpt++n.opt++[10] from if_neg h64];simp only [List.length_append,List.length_cons,List.length_nil,ho7]
   refine kC 66 [] (y++kR n.wh) txOpt (zK 70 [0] hA r.needs.length r.nc i 3 hj (zH 72 [] 9 eb (eo+i*3+2) (.string (mkS n.opt)) (λw hO=>lo w hO.below) (kC 73 [] (y++kR n.wh++txOpt) n.opt (kC 74 [] (y++kR n.wh++txOpt++n.opt) [10] ?_))))
   exact x_i 23 [] ((i+1:Nat):Int) (nx (i+1,y++kR n.wh++txOpt++n.opt++[10]) (r.needs.length-(i+1)) [] Om ⟨⟨hj,by
    rw [←hs2,show dU n.opt=txOpt++n.opt++[10] from if_neg h64,hy2];simp only [List.append_assoc]⟩,rfl⟩ Kr Kr)
 have hs':s=gB r.rt++r.needs.flatMap (λn=>x8 n.nt):=by rw [hs,List.take_of_length_le Om]
 clear nx hs
 refine zO (α:=Nat×YL) (λx=>[(1,Zp b1 0),(3,.string (mkS x.2)),(6,YI (x.1:Int))]) (λ_=>[⟨b1,(rvC r).toArray,47⟩]) (λx m=>(x.1<=r.bars.length/\x.2=s++(r.bars.take x.1).flatMap (λb=>qB b.bt))/\m=r.bars.length-x.1) (0,s) r.bars.length [] ⟨⟨Nat.zero_le _,by show _=s++[];rw [List.append_nil]⟩,rfl⟩ ?_
 rintro ⟨i2,z⟩ m2 g2 kk ⟨⟨hi2,hz⟩,hm2⟩ nx hkk
 subst hkk
 replace hi2:i2<=r.bars.length:=hi2
 replace hz:z=s++(r.bars.take i2).flatMap (λb=>qB b.bt):=hz
 have hzl:z.length<=200000000:=by
  have:=jK (λb:Bv=>qB b.bt) (l:=r.bars) i2
  rw [hz,List.length_append];omega
 refine zD 79 [0] ((i2:Int)<(r.bars.length:Int)) (λh79=> ?_) (λh79=> ?_)
 ·have hj:i2<r.bars.length:=by omega
  obtain ⟨eb,eo,hA,hel⟩:=hr.bars.elem bvC_len i2 hj
  have hst:=qF (λb:Bv=>qB b.bt) hj
  have hmem:r.bars[i2]∈r.bars:=List.getElem_mem hj
  have hone:=tF (λb:Bv=>qB b.bt) hmem
  have l0:∀ w,YB W w->(loadVar 9 ⟨eb,eo+i2*3+0,none⟩).run YP w= .ok (.string (mkS r.bars[i2].name)) w:=λw hw=>hel w hw _ 0 _ Kr
  have l1:∀ w,YB W w->(loadVar 9 ⟨eb,eo+i2*3+1,none⟩).run YP w= .ok (.string (mkS r.bars[i2].rng)) w:=λw hw=>hel w hw _ 1 _ Kr
  have l2:∀ w,YB W w->(loadVar 9 ⟨eb,eo+i2*3+2,none⟩).run YP w= .ok (.string (mkS r.bars[i2].wh)) w:=λw hw=>hel w hw _ 2 _ Kr
  have hsb:=hr.sb _ hmem
  have hz2:z++qB r.bars[i2].bt=s++(r.bars.take (i2+1)).flatMap (λb=>qB b.bt):=by rw [hst,hz,List.append_assoc]
  generalize r.bars[i2]=b at l0 l1 l2 hone hsb hz2
  have hbT:qB b.bt=txBar++b.name++[32]++b.rng++[10]++kR b.wh:=rfl
  have hbl:=congrArg List.length hbT
  simp only [List.length_append,List.length_cons,List.length_nil] at hbl
  rw [hbT] at hz2
  have hWh:∀ w,YB W w->YC 127 #[.string (mkS b.wh)] w (YR (.string (mkS (kR b.wh))) w):=λw hb=>tY b.wh w (gqM_len hsb.2.2)
  refine kC 83 [] z txBar (zK 87 [0] hA r.bars.length r.bc i2 3 hj (zH 89 [] 9 eb (eo+i2*3+0) (.string (mkS b.name)) (λw hO=>l0 w hO.below) (kC 90 [] (z++txBar) b.name (kC 91 [] (z++txBar++b.name) [32] (zK 95 [0] hA r.bars.length r.bc i2 3 hj (zH 97 [] 9 eb (eo+i2*3+1) (.string (mkS b.rng)) (λw hO=>l1 w hO.below) (kC 98 [] (z++txBar++b.name++[32]) b.rng (kC 99 [] (z++txBar++b.name++[32]++b.rng) [10] (zK 103 [0] hA r.bars.length r.bc i2 3 hj (zH 105 [] 9 eb (eo+i2*3+2) (.string (mkS b.wh)) (λw hO=>l2 w hO.below) (z6 (v:= .string (mkS (kR b.wh))) [] (λw hO=>hWh w hO.below) (kC 107 [] (z++txBar++b.name++[32]++b.rng++[10]) (kR b.wh) ?_))))))))))))
  exact x_i 81 [] ((i2+1:Nat):Int) (nx (i2+1,z++txBar++b.name++[32]++b.rng++[10]++kR b.wh) (r.bars.length-(i2+1)) [] Om ⟨⟨hj,by rw [←hz2];simp only [List.append_assoc]⟩,rfl⟩ Kr Kr)
 have hz':z=s++r.bars.flatMap (λb=>qB b.bt):=by rw [hz,List.take_of_length_le Om]
 clear nx hz
 refine zO (α:=Nat×YL) (λx=>[(1,Zp b1 0),(3,.string (mkS x.2)),(7,YI (x.1:Int))]) (λ_=>[⟨b1,(rvC r).toArray,47⟩]) (λx m=>(x.1<=r.fts.length/\x.2=z++(r.fts.take x.1).flatMap (λf=>xM f.ft))/\m=r.fts.length-x.1) (0,z) r.fts.length [] ⟨⟨Nat.zero_le _,by show _=z++[];rw [List.append_nil]⟩,rfl⟩ ?_
 rintro ⟨i3,q⟩ m3 g3 kk ⟨⟨hi3,hq⟩,hm3⟩ nx hkk
 subst hkk
 replace hi3:i3<=r.fts.length:=hi3
 replace hq:q=z++(r.fts.take i3).flatMap (λf=>xM f.ft):=hq
 have hql:q.length<=300000000:=by
  have:=jK (λf:Fv=>xM f.ft) (l:=r.fts) i3
  rw [hq,List.length_append];omega
 refine zD 112 [0] ((i3:Int)<(r.fts.length:Int)) (λh112=> ?_) (λh112=> ?_)
 rotate_left
 ·refine z7 [] (.string (mkS q)) λw hO=>⟨?_,hO.below⟩
  rw [hT,hq,List.take_of_length_le Om,hz',hs']
 have hj:i3<r.fts.length:=by omega
 obtain ⟨eb,eo,hA,hel⟩:=hr.fts.top.elem qE i3 hj
 have hst:=qF (λf:Fv=>xM f.ft) hj
 have hmem:r.fts[i3]∈r.fts:=List.getElem_mem hj
 have hone:=tF (λf:Fv=>xM f.ft) hmem
 have l0:∀ w,YB W w->(loadVar 9 ⟨eb,eo+i3*2+0,none⟩).run YP w= .ok (.string (mkS r.fts[i3].name)) w:=λw hw=>hel w hw _ 0 _ Kr
 have l1:∀ w,YB W w->(loadVar 85 ⟨eb,eo+i3*2+1,none⟩).run YP w= .ok (.slice r.fts[i3].A r.fts[i3].of.length r.fts[i3].cap) w:=λw hw=>hel w hw _ 1 _ Kr
 have hru:=hr.fts.each _ hmem;have hmu:=hr.fts.m _ hmem
 have hq2:q++xM r.fts[i3].ft=z++(r.fts.take (i3+1)).flatMap (λf=>xM f.ft):=by rw [hst,hq,List.append_assoc]
 generalize r.fts[i3]=u at l0 l1 hone hru hmu hq2
 have hfT:xM u.ft=zE 32 (x1::u.name::u.of)++[10]:=rfl
 have hfl:=congrArg List.length hfT
 simp only [List.length_append,List.length_cons,List.length_nil] at hfl
 rw [hfT] at hq2
 refine vE 18 [] (bQ 50119 [0] 4 hA r.fts.length r.fc i3 2 hj (dF 50121 [] 6 9 eb (eo+i3*2+0) (.string (mkS u.name)) (λw hO=>l0 w hO.below) (bQ 50126 [0] 11 hA r.fts.length r.fc i3 2 hj (dF 50128 [] 13 85 eb (eo+i3*2+1) (.slice u.A u.of.length u.cap) (λw hO=>l1 w hO.below) ?_))))
 refine zY [] 7 (k7 2 9 #[.string (mkS x1),.string (mkS u.name)] λb3=>zY [] 14 (yW (g:=y9) u.of [] [⟨b3, #[.string (mkS x1),.string (mkS u.name)],9⟩] [⟨b1,(rvC r).toArray,47⟩] [⟨b3, #[.string (mkS x1),.string (mkS u.name)],9⟩,⟨b1,(rvC r).toArray,47⟩] [⟨b1,(rvC r).toArray,47⟩] (cp:=u.cap) (λw hO=>by simpa using hO) (λo w hO=>Own.sub o (by simpa using hO)) zW strC_one (λw hO=>hru.on hO.below hO.below.size) (dM (N:=2) rfl (by unfold maxLen;omega)) Om λv' ob' h=> ?_))
 have hS:SlT v' (x1::u.name::u.of) ob':=by
  unfold SlT
  rw [x5,show (x1::u.name::u.of).length=2+u.of.length by simp only [List.length_cons];omega]
  exact h
 have hJ:∀ w,Own [] W w (ob'++[⟨b1,(rvC r).toArray,47⟩])->YC 128 #[v',.int .u8 32] w (YR (.string (mkS (zE 32 (x1::u.name::u.of)))) w):=λw hO=>fG v' _ 32 w (hS.readsT hO λx hx=>List.mem_append_left _ hx) Om (by simp only [List.length_cons];omega)
 refine zY [] 15 (z6 (v:= .string (mkS (zE 32 (x1::u.name::u.of)))) [] (λw hO=>hJ w (hO.past 0 _)) (qR 50131 [] 16 q (zE 32 (x1::u.name::u.of)) (qR 50132 [] 17 (q++zE 32 (x1::u.name::u.of)) [10] ?_)))
 refine x_i 114 [] ((i3+1:Nat):Int) (zP [] [⟨b1,(rvC r).toArray,47⟩] (λw hO=>Own.sub ob' (hO.past 0 _)) ?_)
 exact (nx (i3+1,q++zE 32 (x1::u.name::u.of)++[10]) (r.fts.length-(i3+1)) [] Om ⟨⟨hj,by rw [←hq2];simp only [List.append_assoc]⟩,rfl⟩ Kr Kr)
end
section
def BuR (b:Nat)(l:YL)(ob:List Blk):Prop:=
 ∃ p v g,ob=⟨b, #[p,v],162⟩::g/\(p= .pointer none\/p= .pointer (some ⟨b,0,none⟩))/\Sl 5 1 v l.length (Lib.byteCells l) g
theorem BuR.new (b:Nat):BuR b [] [⟨b, #[.pointer none,.slice none 0 0],162⟩]:=⟨_,_,[],rfl,.inl rfl,Sl.nil _ _⟩
theorem sizeWriterR:(Tryz.prog.info? 75).map (·.size)=some 2:=by kernel_rfl
theorem liesWriterR:liesAt YP Tryz.prog.depth 162 (2/Tryz.prog.cellsOf 162) 0 75 1=true:=by kernel_rfl
theorem copyCheck_newR (b:Nat)(w:World)(h0:w.cell? ⟨b,0,none⟩=some (.pointer none))(hsh:w.shape? b=some (162,2))(hfz:w.frozen? ⟨b,0,none⟩=false):
  YC 71 #[.pointer (some ⟨b,0,none⟩)] w λe w'=>e= .returned (.tuple #[])/\w'=w.setCell ⟨b,0,none⟩ (.pointer (some ⟨b,0,none⟩)):=by
 obtain ⟨j,hj,hjs⟩:=Option.map_eq_some_iff.1 sizeWriterR
 go_enter Tryz.func71,Tryz.ntmps71
 go_wp2
 rw [Lib.run_to_unsafe w ⟨b,0,none⟩ Tryz.underlying73 Tryz.underlying154 hj (by rw [hjs];decide) hsh (Nat.zero_lt_succ 1)]
 simp only [Result.andThen]
 rw [Oper.upon_value]
 go_wp2
 rw [run_callFunc_extern Tryz.func110 Kr Kr Kr (e:=Extern.AbiNoEscape.same) Kr]
 rw [Lib.run_noEscape]
 simp only [Result.andThen]
 rw [Oper.upon_value]
 go_wp2
 rw [Lib.run_from_unsafe w ⟨b,0,none⟩ Tryz.underlying154 Tryz.underlying73 hj hsh liesWriterR]
 simp only [Result.andThen]
 rw [Oper.upon_value]
 go_wp2
 go_end0
 exact ⟨rfl,rfl⟩
theorem rcheck_any (b:Nat)(p v:Value)(R:List Blk)(M:List Nat)(W w:World)(hp:p= .pointer none\/p= .pointer (some ⟨b,0,none⟩))(hO:Own M W w (⟨b, #[p,v],162⟩::R)):
  YC 71 #[.pointer (some ⟨b,0,none⟩)] w λe w'=>e= .returned (.tuple #[])/\Own M W w' (⟨b, #[.pointer (some ⟨b,0,none⟩),v],162⟩::R):=by
 have hb:w.heap[b]?=some (.cells #[p,v] 162 (0,0)):=hO.held ⟨b, #[p,v],162⟩ (List.mem_cons_self ..)
 have c0:w.cell? ⟨b,0,none⟩=some p:=by rw [Lib.cell_of_heap hb];rfl
 rcases hp with rfl|rfl
 ·refine (copyCheck_newR b w c0 (by simp [World.shape?,hb]) (Lib.frozen_of_heap hb 0)).mono λe w' ⟨he,hw⟩=>⟨he, ?_⟩
  rw [hw,setCell_eq_setRow w b 0 _ _ _ _ hb]
  exact hO.put (i:=0) (x:=⟨b, #[.pointer none,v],162⟩) rfl _
 ·exact (f7 b w c0).mono λe w' ⟨he,hw⟩=>⟨he,hw▸hO⟩
theorem infoU8R:∃ i,Tryz.prog.info? 5=some i/\i.zero=some (.int .u8 0)/\i.size=1/\i.bytes=1:=info_parts infoByte
theorem buR_own {B b:Nat}{l:YL}{ob:List Blk}{M:List Nat}{W w:World}(hB:BuR b l ob)(hO:Own M W w ob)(hM:∀ x∈ob,B<=x.b):Lib.IsBuilder 162 5 B b (Lib.byteCells l) w:=by
 obtain ⟨p,v,g,rfl,hp,hv⟩:=hB
 have hb:w.heap[b]?=some (.cells #[p,v] 162 (0,0)):=hO.held ⟨b, #[p,v],162⟩ (List.mem_cons_self ..)
 have key:Lib.BuilderAt 162 5 B b p (Lib.byteCells l) w:=by
  refine ⟨hM ⟨b, #[p,v],162⟩ (List.mem_cons_self ..),v,hb, ?_, ?_⟩
  ·rw [Lib.byteCells_length]
   refine ⟨hv.1, ?_⟩
   rcases hv.2 with ⟨h1,h2,_⟩|⟨k,cap,cur,h1,rfl,h3,h4,h5,h6⟩
   ·exact .inl ⟨h1,h2⟩
   ·exact .inr ⟨k,cap,cur,h1,hM ⟨k,cur,5⟩ (by simp),hO.held ⟨k,cur,5⟩ (by simp),h3,h4,h5,h6⟩
  ·rcases hv.2 with ⟨rfl,_,_⟩|⟨k,cap,cur,rfl,rfl,_⟩
   ·simp [Value.ownBlock]
   ·intro e
    have hk:k=b:=by simpa [Value.ownBlock] using e
    have:=hO.apart
    simp [hk] at this
 rcases hp with rfl|rfl
 ·exact .inl key
 ·exact .inr key
theorem rstring_any0 (B b:Nat)(l:YL)(w:World)(h:Lib.IsBuilder 162 5 B b (Lib.byteCells l) w)(h0:l≠[]):
  YC 39 #[.pointer (some ⟨b,0,none⟩)] w λe w'=>e= .returned (.string ⟨l.toArray⟩)/\Below B w w':=by
 obtain ⟨p,hB,v,hbk,hown,hne⟩:∃ p,Lib.BuilderAt 162 5 B b p (Lib.byteCells l) w:=h.elim (λq=>⟨_,q⟩) (λq=>⟨_,q⟩)
 rcases hown.2 with ⟨_,hz⟩|⟨g,cap,cur,rfl,hbg,hg,hnc,hcm,hcs,htake⟩
 ·exact absurd hz (pM h0)
 rw [Lib.byteCells_length] at hown hnc hbk htake
 have hl0:l.length≠0:=λe=>h0 (List.eq_nil_of_length_eq_zero e)
 have hg':w.drew.heap[g]?=some (.cells cur 5 (0,0)):=hg
 have c1:w.drew.cell? ⟨b,1,none⟩=some (.slice (some ⟨g,0,none⟩) l.length cap):=by
  rw [Lib.cell_of_heap (show w.drew.heap[b]?=_ from hbk)];rfl
 have hSD:=Lib.run_unsafeSliceData_row (P:=YP) w.drew #[36] 122 ⟨g,0,none⟩ l.length cap Om
 have hUS:=Lib.run_unsafeString_row (P:=YP) w.drew 122 3 9 5 Tryz.underlying122 Kr g cur.size (by unfold World.shape?;rw [hg']) l h0 Om (by unfold maxLen at hcm;omega)
  (λj x hx=>hown.cells (g:=g) rfl j (.int .u8 x.toNat) (by simp [Lib.byteCells,hx]))
 go_enter Tryz.func39,Tryz.ntmps39
 go_wp2
 have mixed:Tryz.prog.follows .mixedOrders=true:=by kernel_rfl
 go_region_o
 all_goals
  go_wp2
  go_ret
  have hf:=Lib.below_freeze (Go.RowKit.Below.drew (Go.RowKit.Below.refl B w)) (p:=⟨g,0,none⟩) hbg l.length
  exact ⟨rfl,hf.os,hf.tape,hf.output,hf.size,by rw [pH];exact Nat.le_succ _,hf.block⟩
theorem rstring_any (b:Nat)(l:YL)(ob:List Blk)(W w:World)(hB:BuR b l ob)(hO:Own [] W w ob)(h0:l≠[]):
  YC 39 #[.pointer (some ⟨b,0,none⟩)] w λe w'=>e= .returned (.string (mkS l))/\Own [] W w' []:=
 (rstring_any0 W.heap.size b l w (buR_own hB hO λx hx=>(hO.base x hx).elim id λq=>by simp at q) h0).mono λe w' ⟨he,hb⟩=>by
  have hb2:=hO.below.trans hb
  exact ⟨he,hb2.os,hb2.tape,hb2.output,hb2.size,hb2.drawn,λk hk _=>hb2.block k hk,by simp,by simp,by simp⟩
theorem rWrite_any (b:Nat)(l:YL)(s:YL)(ob:List Blk)(W:World)(hB:BuR b l ob)(hO:Own (ob.map Blk.b) W W ob)(hl:l.length<=1000000000000)(hs:s.length<=1000000000000):
  YC 35 #[.pointer (some ⟨b,0,none⟩),.string (mkS s)] W λe w'=>∃ ob',e= .returned (.tuple #[YI ((mkS s).size:Int),.nilIface])/\BuR b (l++s) ob'/\Own (ob.map Blk.b) W w' ob':=by
 obtain ⟨p,v,g,rfl,hp,hv⟩:=hB
 obtain ⟨A,cap,rfl⟩:=Sl.form hv
 have hsz:=y4 s
 refine tN (n:=19) hO Tryz.func35 rfl Kr Kr (ZO (Zv (YI 0) (Zv (.nilIface) (ZR (Zv (Zp b 0) (Zr (k:=71) (args:= #[Zp b 0]) (λv' L'=>v'= .tuple #[]/\L'=⟨b, #[Zp b 0,.slice A l.length cap],162⟩::g) (λw hO=>(rcheck_any b p _ _ _ _ w hp hO).mono λe w' ⟨k1,k2⟩=>⟨_,_,k1,⟨rfl,rfl⟩,k2⟩) (λv0 L0 hv0=> ?_)))))))
 obtain ⟨rfl,rfl⟩:=hv0
 refine ZR (Zv (Zp b 0) (Zv (Zp b 0) (Zv (Zp b 0) (Zv (Zp b 1) (Zl 0 ⟨b, #[Zp b 0,.slice A l.length cap],162⟩ (off:=1) (.slice A l.length cap) (Zv (.string (mkS s)) ?_))))))
 obtain ⟨i0,e1,e2,e3,e4⟩:=infoU8R
 refine s_cast (L':=[⟨b, #[Zp b 0,.slice A l.length cap],162⟩]++g++[]) (by simp) (s_appstr Kr rfl Tryz.underlying36 Tryz.underlying9 e1 e2 e3 e4 Kr hv (s:=mkS s) Kr (by rw [hsz];unfold maxLen;omega) (by rw [hsz];omega) (λv2 g2 hv2=> ?_))
 have hv3:Sl 5 1 v2 (l++s).length (Lib.byteCells (l++s)) g2:=by rw [List.length_append,Lib.byteCells_append];rw [hsz,vW] at hv2;exact hv2
 obtain ⟨A2,cap2,rfl⟩:=Sl.form hv3
 refine s_cast (L':=⟨b, #[Zp b 0,.slice A l.length cap],162⟩::(g2)) (by simp) (Zv (Zp b 0) (Zv (Zp b 1) (Zs 0 ⟨b, #[Zp b 0,.slice A l.length cap],162⟩ (off:=1) (.slice A2 ((l++s).length) cap2) (ZR (Zv (.string (mkS s)) (Zv (YI ((mkS s).size)) (Zv (YI ((mkS s).size)) (Zv (.nilIface) ?_))))))))
 exact ZN (qK (ZG (YI ((mkS s).size)) (.nilIface) Tryz.results35 (λw hO=>⟨_,rfl,⟨_,_,g2,rfl,.inr rfl,hv3⟩,hO⟩)))
theorem rByte_any (b:Nat)(l:YL)(c:UInt8)(z:Int)(ob:List Blk)(W:World)(hB:BuR b l ob)(hO:Own (ob.map Blk.b) W W ob)(hl:l.length<=1000000000000)(hz:(c.toNat:Int)=z):
  YC 111 #[.pointer (some ⟨b,0,none⟩),.int .u8 z] W λe w'=>∃ ob',e= .returned (.nilIface)/\BuR b (l++[c]) ob'/\Own (ob.map Blk.b) W w' ob':=by
 obtain ⟨p,v,g,rfl,hp,hv⟩:=hB
 obtain ⟨A,cap,rfl⟩:=Sl.form hv
 subst hz
 refine tN (n:=17) hO Tryz.func111 rfl Kr Kr (ZO (Zv (.nilIface) (ZR (Zv (Zp b 0) (Zr (k:=71) (args:= #[Zp b 0]) (λv' L'=>v'= .tuple #[]/\L'=⟨b, #[Zp b 0,.slice A l.length cap],162⟩::g) (λw hO=>(rcheck_any b p _ _ _ _ w hp hO).mono λe w' ⟨k1,k2⟩=>⟨_,_,k1,⟨rfl,rfl⟩,k2⟩) (λv0 L0 hv0=> ?_))))))
 obtain ⟨rfl,rfl⟩:=hv0
 refine ZR (Zv (Zp b 0) (Zv (Zp b 0) (Zv (Zp b 0) (Zv (Zp b 1) (Zl 0 ⟨b, #[Zp b 0,.slice A l.length cap],162⟩ (off:=1) (.slice A l.length cap) (Zv (.int .u8 (c.toNat:Int)) (s_lit 5 #[.int .u8 (c.toNat:Int)] Kr rfl (λ_=>Kr) (λb1=> ?_))))))))
 obtain ⟨i0,e1,e2,e3,e4⟩:=infoU8R
 refine s_cast (L':=[⟨b1, #[.int .u8 (c.toNat:Int)],5⟩,⟨b, #[Zp b 0,.slice A l.length cap],162⟩]++g++[]) (by simp) (s_append (sz:=1) Kr rfl Tryz.underlying36 e1 e2 e3 rfl Kr hv (a:=⟨b1,0,none⟩) (m:=1) (c:=1) (news:=Lib.byteCells [c]) Kr rfl (λw hO j u hj=> ?_) (λu hu=>by rw [List.mem_singleton.1 hu];rfl) (by unfold maxLen;omega) (by rw [e4];omega) (λv2 g2 hv2=> ?_))
 ·rw [yI,cell_of_row w b1 (0+j) (Lib.byteCells [c]).toArray 5 _ (hO.held ⟨b1,(Lib.byteCells [c]).toArray,5⟩ (List.mem_append_left _ (List.mem_append_left _ (List.mem_cons_self ..))))];simpa using hj
 have hv3:Sl 5 1 v2 (l++[c]).length (Lib.byteCells (l++[c])) g2:=by rw [List.length_append,Lib.byteCells_append];exact hv2
 obtain ⟨A2,cap2,rfl⟩:=Sl.form hv3
 refine s_cast (L':=⟨b1, #[.int .u8 (c.toNat:Int)],5⟩::(⟨b, #[Zp b 0,.slice A l.length cap],162⟩::(g2))) (by simp) (Zv (Zp b 0) (Zv (Zp b 1) (Zs 1 ⟨b, #[Zp b 0,.slice A l.length cap],162⟩ (off:=1) (.slice A2 ((l++[c]).length) cap2) (ZR (Zv (.nilIface) (ZN (qK ?_)))))))
 exact ZF (.nilIface) Tryz.results111 (λw hO=>⟨_,rfl,⟨_,_,g2,rfl,.inr rfl,hv3⟩,Own.sub [⟨b1, #[.int .u8 (c.toNat:Int)],5⟩] hO⟩)
end
section
set_option linter.unnecessarySimpa false
theorem rq_write (b:Nat)(l s:YL)(R ob:List Blk){M:List Nat}{W:World}(hB:BuR b l ob)(hl:l.length<=1000000000000)(hs:s.length<=1000000000000):∀ w,Own M W w (R++ob)->YC 35 #[.pointer (some ⟨b,0,none⟩),.string (mkS s)] w λe w'=>∃ v ob',e= .returned v/\BuR b (l++s) ob'/\Own (ob.map Blk.b) w w' ob':=
 λw hO=>(rWrite_any b l s ob w hB (Own.lentR hO) hl hs).mono λe w' ⟨ob',k1,k2,k3⟩=>⟨_,ob',k1,k2,k3⟩
theorem qLine_any (b:Nat)(l:YL)(ws:List YL)(v:Value)(wb ob:List Blk)(W:World)(hB:BuR b l ob)(hw:SlT v ws wb)(hO:Own ((wb++ob).map Blk.b) W W (wb++ob))(hl:l.length<=1000000000)(hj:(zE 32 ws).length<=400000000)(hn:ws.length<=1000000)(hne:zE 32 ws≠[]):YC 116 #[.pointer (some ⟨b,0,none⟩),v] W λe w'=>∃ ob',e= .returned (.tuple #[])/\BuR b (l++(zE 32 ws++[10])) ob'/\Own ((wb++ob).map Blk.b) W w' (wb++ob'):=by
 obtain ⟨A,cap,rfl⟩:=SlT.form hw
 have hJ:∀ w,Own ((wb++ob).map Blk.b) W w (wb++ob)->YC 72 #[.slice A ws.length cap,.int .u8 32] w (YR (.string (mkS (zE 32 ws))) w):=λw hO=>jW _ ws 32 w (hw.readsT hO λx hx=>List.mem_append_left _ hx) Om Om hne
 refine x_enterL hO Tryz.func116 (x_drawLF (.s .z) 6 [] wb (λw hO=>(hO.past 0 (wb++ob)).sublist (List.sublist_append_left _ _)) (zY [] 4 (z6 (v:= .string (mkS (zE 32 ws))) [] (λw hO=>hJ w (hO.past 0 _)) (zY [] 5 ?_))))
 exact xh_callL (Rr:=λ_ ob'=>BuR b (l++zE 32 ws) ob') (wb++ob) wb ob wb (λw hO=>hO) (λo w hO=>hO.sublist (List.sublist_append_left _ _)) (rq_write b l (zE 32 ws) wb ob hB Om Om) λv1 o1 h1=>(qS (k:=111) (args:= #[Zp b 0,.int .u8 10]) (Rr:=λ_ ob'=>BuR b (l++zE 32 ws++[10]) ob') [] (wb++o1) wb o1 (λw hO=>hO) (λw hO=>(rByte_any b (l++zE 32 ws) 10 10 o1 w h1 (Own.lentR hO) (by simp only [List.length_append];omega) rfl).mono λe w' ⟨ob',k1,k2,k3⟩=>⟨_,ob',k1,k2,k3⟩) λv2 o2 h2=>(pS [] λw hO=>⟨o2,rfl,by rw [←List.append_assoc];exact h2,hO.past 0 _⟩))
def wO (w s:YL):YL:=if s=[] then [] else w++[32]++s++[10]
theorem qlit (b N:Nat)(cs:Array Value)(ws:List YL)(hc:cs.toList=vH ws)(hN:ws.length=N)(hM:N<=1000):SlT (.slice (some ⟨b,0,none⟩) N N) ws [⟨b,cs,9⟩]:=by
 subst hN
 unfold SlT
 rw [←hc]
 refine dM ?_ (by unfold maxLen;omega)
 rw [←Array.length_toList,hc,x5]
 have:=w6 zW ws
 omega
theorem pY {M:List Nat}{W:World}(b:Nat)(l:YL)(ws:List YL)(v:Value)(R wb ob:List Blk)(hB:BuR b l ob)(hw:SlT v ws wb)(hl:l.length<=1000000000)(hj:(zE 32 ws).length<=400000000)(hn:ws.length<=1000000)(hne:zE 32 ws≠[]):∀ w,Own M W w (R++(wb++ob))->YC 116 #[.pointer (some ⟨b,0,none⟩),v] w λe w'=>∃ v' o,e= .returned v'/\(∃ ob',BuR b (l++(zE 32 ws++[10])) ob'/\o=wb++ob')/\Own ((wb++ob).map Blk.b) w w' o:=
 λw hO=>(qLine_any b l ws v wb ob w hB hw (Own.lentR hO) hl hj hn hne).mono λe w' ⟨ob',k1,k2,k3⟩=>⟨_,_,k1,⟨ob',k2,rfl⟩,k3⟩
theorem qMaybe_any (b:Nat)(l wd s:YL)(ob:List Blk)(W:World)(hB:BuR b l ob)(hO:Own (ob.map Blk.b) W W ob)(hl:l.length<=900000000)(hw:wd≠[]/\wd.length<=100)(hs:s.length<=100000000):YC 119 #[.pointer (some ⟨b,0,none⟩),.string (mkS wd),.string (mkS s)] W λe w'=>∃ ob',e= .returned (.tuple #[])/\BuR b (l++wO wd s) ob'/\Own (ob.map Blk.b) W w' ob':=by
 have hT:zE 32 [wd,s]=wd++32::s:=rfl
 refine x_enterL hO Tryz.func119 (wT 7 [] s [] (λh=> ?_) (λh=> ?_))
 ·exact pS [] λw hO=>⟨ob,rfl,by rw [wO,if_pos h,List.append_nil];exact hB,hO.past 0 _⟩
 refine gX [] 2 9 #[.string (mkS wd),.string (mkS s)] λg=>(qS [] ([⟨g, #[.string (mkS wd),.string (mkS s)],9⟩]++ob) [] ([⟨g, #[.string (mkS wd),.string (mkS s)],9⟩]++ob) (λw hO=>hO) (pY b l [wd,s] _ [] _ ob hB (qlit g 2 _ [wd,s] rfl rfl Om) Om (by rw [hT];simp only [List.length_append,List.length_cons];omega) (by simp) (by rw [hT];simp [hw.1])) λv1 o1 ⟨ob',k1,k2⟩=> ?_)
 subst k2
 have hz:l++(zE 32 [wd,s]++[10])=l++wO wd s:=by rw [wO,if_neg h,hT];simp
 rw [hz] at k1
 exact pS [] λw hO=>⟨ob',rfl,k1,hO.past 1 _⟩
theorem q_maybe {M:List Nat}{W:World}(b:Nat)(l wd s:YL)(R ob:List Blk)(hB:BuR b l ob)(hl:l.length<=900000000)(hw:wd≠[]/\wd.length<=100)(hs:s.length<=100000000):∀ w,Own M W w (R++ob)->YC 119 #[.pointer (some ⟨b,0,none⟩),.string (mkS wd),.string (mkS s)] w λe w'=>∃ v' o,e= .returned v'/\BuR b (l++wO wd s) o/\Own (ob.map Blk.b) w w' o:=
 λw hO=>(qMaybe_any b l wd s ob w hB (Own.lentR hO) hl hw hs).mono λe w' ⟨ob',k1,k2,k3⟩=>⟨_,_,k1,k2,k3⟩
theorem maybe_when (s:YL):wO nL s=kR s:=by
 unfold wO kR
 split
 ·rfl
 ·simp [nL,bR]
theorem maybe_opt (s:YL):wO wOpt s=dU s:=by
 unfold wO dU
 split
 ·rfl
 ·simp [wOpt,txOpt]
theorem joinL_ne (b:UInt8):∀ {l:List YL},l≠[]->(∀ s∈l,s≠[])->zE b l≠[]
 | [],h,_=>absurd rfl h
 | [x],_,h=>h x (List.mem_singleton.2 rfl)
 |x::y::r,_,_=>by rw [zE];simp
theorem own_rot3 {M:List Nat}{W w:World}{x y z:Blk}{L:List Blk}(h:Own M W w (x::y::z::L)):Own M W w (y::z::x::L):=h.perm ((List.Perm.swap ..).trans (List.Perm.cons _ (List.Perm.swap ..)))
def ndB (n:Nv)(b:Nat):Blk:=⟨b, #[.slice n.A n.any.length n.cap,.string (mkS n.wh),.string (mkS n.opt)],72⟩
def wsB (u:Wv)(b:Nat):Blk:=⟨b, #[.string (mkS u.name),.string (mkS u.rng),.slice u.A u.fs.length u.cap,.bool u.bare],139⟩
theorem qNeedW_any (B b:Nat)(l:YL)(n:Nv)(ob:List Blk)(W:World)(hB:BuR b l ob)(hO:Own (ob.map Blk.b) W W ob)(hge:∀ x∈ob,B<=x.b)(hBW:B<=W.heap.size)(hv:Reads wvC W B n.A n.any)(hf:∀ u∈n.any,Reads y9 W B u.A u.fs)(hn:n.any.length<=5000)(hnf:∀ u∈n.any,u.fs.length<=5000)(hfe:∀ u∈n.any,∀ s∈u.fs,s≠[])(hs:n.wh.length<=1000000/\n.opt.length<=1000000)(hl:l.length+(x8 n.nt).length<=300000000):YC 118 #[.pointer (some ⟨b,0,none⟩),nvV n] W λe w'=>∃ ob',e= .returned (.tuple #[])/\BuR b (l++x8 n.nt) ob'/\Own (ob.map Blk.b) W w' ob':=by
 have hM':∀ k∈ob.map Blk.b,B<=k:=λk hk=>by obtain ⟨x,hx,rfl⟩:=List.mem_map.1 hk;exact hge x hx
 have hnT:x8 n.nt=txNeed++n.any.flatMap (λu=>x7 u.wt)++kR n.wh++dU n.opt:=by
  unfold x8;simp only [Nv.nt,List.flatMap_map]
 have hnl:=congrArg List.length hnT
 simp only [List.length_append] at hnl
 have hn5:txNeed.length=5:=rfl
 refine x_enterL hO Tryz.func118 (zZ [] λb3=>gX [] 1 9 #[.string (mkS nM)] λg=> ?_)
 refine qS [] (⟨g, #[.string (mkS nM)],9⟩::ndB n b3::ob) [ndB n b3] ([⟨g, #[.string (mkS nM)],9⟩]++ob) (λw hO=>hO.swap) (pY b l [nM] _ _ _ ob hB (qlit g 1 _ [nM] rfl rfl Om) Om (by decide) (by simp) (by decide)) λv1 o1 ⟨ob1,k1,k2⟩=> ?_
 subst k2
 refine zP [0] (ndB n b3::ob1) (λw hO=>(hO.past 0 (ndB n b3::⟨g, #[.string (mkS nM)],9⟩::ob1)).swap.past 1 _) (zO (α:=Nat×List Blk) (λx=>[(0,Zp b 0),(3,Zp b3 0),(12,.slice n.A n.any.length n.cap),(13,YI (n.any.length:Int)),(14,YI (x.1:Int))]) (λx=>ndB n b3::x.2) (λx m=>(x.1<=n.any.length/\BuR b (l++txNeed++(n.any.take x.1).flatMap (λu=>x7 u.wt)) x.2)/\m=n.any.length-x.1) (0,ob1) n.any.length [] ⟨⟨Nat.zero_le _,by simp only [List.take_zero,List.flatMap_nil,List.append_nil];exact k1⟩,rfl⟩ ?_)
 rintro ⟨i,o⟩ mm gg kk ⟨⟨hi,ho⟩,hmm⟩ nx hkk
 subst hkk
 replace hi:i<=n.any.length:=hi
 replace ho:BuR b (l++txNeed++(n.any.take i).flatMap (λu=>x7 u.wt)) o:=ho
 have hpt:=jK (λu:Wv=>x7 u.wt) (l:=n.any) i
 have hpl:(l++txNeed++(n.any.take i).flatMap (λu=>x7 u.wt)).length<=300000000:=by simp only [List.length_append];omega
 refine zD 15 [] ((i:Int)<(n.any.length:Int)) (λh15=> ?_) (λh15=> ?_)
 ·have hj:i<n.any.length:=by omega
  obtain ⟨eb,eo,hA,hel⟩:=hv.elem qC i hj
  have hst:=qF (λu:Wv=>x7 u.wt) hj
  have hsm:n.any[i]∈n.any:=List.getElem_mem hj
  have hone:=tF (λu:Wv=>x7 u.wt) hsm
  have hel0:∀ w,Below B W w->(loadVar 139 ⟨eb,eo+i*4+0,none⟩).run YP w= .ok (wvV n.any[i]) w:=λw hw=>hel w hw _ 0 _ Kr
  have hru:=hf _ hsm;have hnu:=hnf _ hsm;have hfu:=hfe _ hsm
  have hw2:l++txNeed++(n.any.take i).flatMap (λu=>x7 u.wt)++x7 n.any[i].wt=l++txNeed++(n.any.take (i+1)).flatMap (λu=>x7 u.wt):=by rw [hst,←List.append_assoc]
  generalize n.any[i]=u at hel0 hone hru hnu hfu hw2
  generalize l++txNeed++(n.any.take i).flatMap (λu=>x7 u.wt)=done at*
  have huT:x7 u.wt=zE 32 [wAny,u.name,qT u.fs,vX u.bare,u.rng]++[10]:=(wishL_text u.wt).symm
  have hul:=congrArg List.length huT
  rw [List.length_append] at hul
  have hfl:(qT u.fs).length<=(zE 32 [wAny,u.name,qT u.fs,vX u.bare,u.rng]).length:=jn_part 32 (by simp)
  have hJ:∀ w,Below B W w->u.fs≠[]->YC 72 #[.slice u.A u.fs.length u.cap,.int .u8 44] w (YR (.string (mkS (qT u.fs))) w):=λw hb hne=>by
   have hw:qT u.fs=zE 44 u.fs:=if_neg hne
   rw [hw]
   exact jW _ u.fs 44 w (reads_t (hru.on hb (Nat.le_trans hBW hb.size)) (Nat.le_refl _)) (by rw [←hw];omega) Om (joinL_ne 44 hne hfu)
  refine zK 16 [] hA n.any.length n.cap i 4 hj (zH 17 [] 139 eb (eo+i*4+0) (wvV u) (λw hO=>hel0 w (hO.belowB hM' hBW)) (zS [] λb5=>wE 21 (α:=YL) (λfl=>[(0,Zp b 0),(3,Zp b3 0),(5,Zp b5 0),(6,.string (mkS fl)),(7,.string (mkS dJ)),(12,.slice n.A n.any.length n.cap),(13,YI (n.any.length:Int)),(14,YI (i:Int))]) (λ_=>wsB u b5::ndB n b3::o) (λfl=>fl=qT u.fs) [0,0] (λnj=>fY 21 ((u.fs.length:Int)>0) (λh=> ?_) (λh=> ?_)) (λfl g1 hfl1=> ?_)))
  ·exact z6 (v:= .string (mkS (qT u.fs))) [0] (λw hO=>hJ w (hO.belowB hM' hBW) (λe=>by rw [e] at h;simp at h)) (nj (qT u.fs) [] rfl Kr)
  ·exact nj [45] [] (show [45]=qT u.fs from by unfold qT;rw [if_pos (List.eq_nil_of_length_eq_zero Om)]) Kr
  refine wE 26 (α:=YL) (λkd=>[(0,Zp b 0),(3,Zp b3 0),(5,Zp b5 0),(6,.string (mkS fl)),(7,.string (mkS kd)),(12,.slice n.A n.any.length n.cap),(13,YI (n.any.length:Int)),(14,YI (i:Int))]) (λ_=>wsB u b5::ndB n b3::o) (λkd=>kd=vX u.bare) [0] (λnj=>zL 26 u.bare (λh=>nj mJ [] (by rw [h];rfl) Kr) (λh=>nj dJ [] (by rw [h];rfl) Kr)) (λkd g2 hkd=> ?_)
  subst hfl1;subst hkd
  refine gX [0,0] 5 9 #[.string (mkS wAny),.string (mkS u.name),.string (mkS (qT u.fs)),.string (mkS (vX u.bare)),.string (mkS u.rng)] λg3=>(qS [] (⟨g3, #[.string (mkS wAny),.string (mkS u.name),.string (mkS (qT u.fs)),.string (mkS (vX u.bare)),.string (mkS u.rng)],9⟩::wsB u b5::ndB n b3::o) [wsB u b5,ndB n b3] ([⟨g3, #[.string (mkS wAny),.string (mkS u.name),.string (mkS (qT u.fs)),.string (mkS (vX u.bare)),.string (mkS u.rng)],9⟩]++o) (λw hO=>own_rot3 hO) (pY b done [wAny,u.name,qT u.fs,vX u.bare,u.rng] _ _ _ o ho (qlit g3 5 _ _ rfl rfl Om) Om Om (by simp) (by simp [zE,wAny])) λv2 o2 ⟨ob2,q1,q2⟩=> ?_)
  subst q2
  rw [←huT,hw2] at q1
  exact x_i 14 [] ((i+1:Nat):Int) (zP [] (ndB n b3::ob2) (λw hO=>(hO.past 1 (ndB n b3::⟨g3, #[.string (mkS wAny),.string (mkS u.name),.string (mkS (qT u.fs)),.string (mkS (vX u.bare)),.string (mkS u.rng)],9⟩::ob2)).swap.past 1 _) (nx (i+1,ob2) (n.any.length-(i+1)) [] Om ⟨⟨hj,q1⟩,rfl⟩ Kr Kr))
 rw [List.take_of_length_le (show n.any.length<=i by omega)] at ho
 clear nx
 have hwl:(kR n.wh).length<=300000000:=by omega
 refine qS [0] (ndB n b3::o) [ndB n b3] o (λw hO=>hO) (q_maybe b _ nL n.wh [ndB n b3] o ho (by simp only [List.length_append];omega) (by decide) Om) λv3 o3 h3=> ?_
 rw [maybe_when] at h3
 refine qS [0] (ndB n b3::o3) [ndB n b3] o3 (λw hO=>hO) (q_maybe b _ wOpt n.opt [ndB n b3] o3 h3 (by simp only [List.length_append];omega) (by decide) Om) λv4 o4 h4=> ?_
 rw [maybe_opt] at h4
 refine pS [] λw hO=>⟨o4,rfl, ?_,hO.past 1 _⟩
 rw [hnT]
 simpa only [List.append_assoc] using h4
end
section
set_option linter.unnecessarySimpa false
theorem partsE_is (r:Rv):xE r.rt=if (k5 (λn:Nv=>xF r.name n.nt) 0 r.needs).1≠0 then k5 (λn:Nv=>xF r.name n.nt) 0 r.needs
 else if (k5 (λb:Bv=>gP r.name b.bt) 0 r.bars).1≠0 then k5 (λb:Bv=>gP r.name b.bt) 0 r.bars
 else if qQ (y5 r.fts)=false then (11,0)
 else k5 (λf:Fv=>y8 (yL r.rt.needs) f.of) 0 r.fts:=by
 unfold xE
 rw [show r.rt.needs=r.needs.map Nv.nt from rfl,show r.rt.bars=r.bars.map Bv.bt from rfl,show r.rt.fts=r.fts.map Fv.ft from rfl,bX,bX,bX];rfl
theorem r12parts_any (r:Rv)(W:World)(hr:RcIn W W.heap.size r):YC 124 #[rvV r] W (YR (.tuple #[YI (xE r.rt).1,YI (xE r.rt).2]) W):=by
 have hE:=partsE_is r
 have hnn:=hr.nn;have hnb:=hr.nb;have hfn:=hr.fts.n
 refine z8 Tryz.func124 (zZ [] λb1=>zO (α:=Nat) (λi=>[(1,Zp b1 0),(4,YI (i:Int))]) (λ_=>[⟨b1,(rvC r).toArray,47⟩]) (λi m=>(i<=r.needs.length∧∀ n∈r.needs.take i,xF r.name n.nt=0)/\m=r.needs.length-i) 0 r.needs.length [] ⟨⟨Nat.zero_le _,λy h=>by simp at h⟩,rfl⟩ ?_)
 rintro i mm g kk ⟨⟨hi,hno⟩,hmm⟩ nx hkk
 subst hkk
 refine zD 14 [0] ((i:Int)<(r.needs.length:Int)) (λh14=> ?_) (λh14=> ?_)
 ·have hj:i<r.needs.length:=by omega
  obtain ⟨eb,eo,hA,hel⟩:=hr.needs.elem vT i hj
  have hgo:=y1 (p:=λn:Nv=>xF r.name n.nt=0) hj hno
  have hat:=vQ (f:=λn:Nv=>xF r.name n.nt) 0 hj hno
  have hsm:r.needs[i]∈r.needs:=List.getElem_mem hj
  have hel0:∀ w,YB W w->(loadVar 72 ⟨eb,eo+i*3+0,none⟩).run YP w= .ok (nvV r.needs[i]) w:=λw hw=>hel w hw _ 0 _ Kr
  have hra:=hr.any _ hsm;have hrf:=hr.wfs _ hsm;have hna:=hr.na _ hsm;have hnf:=hr.nf _ hsm;have hsw:=hr.sw _ hsm;have hsu:=hr.su _ hsm
  generalize r.needs[i]=n at hel0 hgo hat hra hrf hna hnf hsw hsu
  have hc:∀ w,YB W w->YC 170 #[rvV r,nvV n] w (YR (YI (xF r.name n.nt)) w):=λw hb=>r12need_any r n w (hra.on hb hb.size) (λu hu=>(hrf u hu).on hb hb.size) hna hnf hsw hsu
  refine zK 21 [0,0] hA r.needs.length r.nc i 3 hj (zH 22 [] 72 eb (eo+i*3+0) (nvV n) (λw hO=>hel0 w hO.below) (z6 (v:=YI (xF r.name n.nt)) [] (λw hO=>hc w hO.below) (kT 25 [] (xF r.name n.nt=0) (λh=> ?_) (λh=> ?_))))
  ·exact x_i 16 [] ((i+1:Nat):Int) (nx (i+1) (r.needs.length-(i+1)) [] Om ⟨⟨hj,hgo h⟩,rfl⟩ Kr Kr)
  ·refine zU [] (YI (xF r.name n.nt)) (YI (i:Int)) λw hO=>⟨?_,hO.below⟩
   rw [hE,hat h,if_pos h];simp only [Nat.zero_add]
 have h1:=kA (k:=0) (yP (p:=λn:Nv=>xF r.name n.nt=0) (show r.needs.length<=i by omega) hno)
 rw [h1,if_neg (by simp)] at hE
 clear nx
 refine zO (α:=Nat) (λi=>[(1,Zp b1 0),(6,YI (i:Int))]) (λ_=>[⟨b1,(rvC r).toArray,47⟩]) (λi m=>(i<=r.bars.length∧∀ b∈r.bars.take i,gP r.name b.bt=0)/\m=r.bars.length-i) 0 r.bars.length [] ⟨⟨Nat.zero_le _,λy h=>by simp at h⟩,rfl⟩ ?_
 rintro i2 m2 g2 kk ⟨⟨hi2,hno2⟩,hmm2⟩ nx hkk
 subst hkk
 refine zD 32 [0] ((i2:Int)<(r.bars.length:Int)) (λh32=> ?_) (λh32=> ?_)
 ·have hj:i2<r.bars.length:=by omega
  obtain ⟨eb,eo,hA,hel⟩:=hr.bars.elem bvC_len i2 hj
  have hgo:=y1 (p:=λb:Bv=>gP r.name b.bt=0) hj hno2
  have hat:=vQ (f:=λb:Bv=>gP r.name b.bt) 0 hj hno2
  have hsm:r.bars[i2]∈r.bars:=List.getElem_mem hj
  have hel0:∀ w,YB W w->(loadVar 102 ⟨eb,eo+i2*3+0,none⟩).run YP w= .ok (bvV r.bars[i2]) w:=λw hw=>hel w hw _ 0 _ Kr
  have hsb:=hr.sb _ hsm
  generalize r.bars[i2]=b at hel0 hgo hat hsb
  have hc:∀ w,YB W w->YC 171 #[rvV r,bvV b] w (YR (YI (gP r.name b.bt)) w):=λw hb=>r12bar_any r b w hsb
  refine zK 39 [0,0] hA r.bars.length r.bc i2 3 hj (zH 40 [] 102 eb (eo+i2*3+0) (bvV b) (λw hO=>hel0 w hO.below) (z6 (v:=YI (gP r.name b.bt)) [] (λw hO=>hc w hO.below) (kT 43 [] (gP r.name b.bt=0) (λh=> ?_) (λh=> ?_))))
  ·exact x_i 34 [] ((i2+1:Nat):Int) (nx (i2+1) (r.bars.length-(i2+1)) [] Om ⟨⟨hj,hgo h⟩,rfl⟩ Kr Kr)
  ·refine zU [] (YI (gP r.name b.bt)) (YI (i2:Int)) λw hO=>⟨?_,hO.below⟩
   rw [hE,hat h,if_pos h];simp only [Nat.zero_add]
 have h2:=kA (k:=0) (yP (p:=λb:Bv=>gP r.name b.bt=0) (show r.bars.length<=i2 by omega) hno2)
 rw [h2,if_neg (by simp)] at hE
 clear nx
 have hM:∀ w,YB W w->YC 172 #[.slice r.fA r.fts.length r.fc] w (YR (.bool (qQ (y5 r.fts))) w):=λw hb=>r11May_any r.fA r.fc r.fts w (hr.fts.on hb hb.size)
 refine z6 (v:= .bool (qQ (y5 r.fts))) [0] (λw hO=>hM w hO.below) (zL 48 (qQ (y5 r.fts)) (λe3=> ?_) (λe3=> ?_))
 rotate_left
 ·exact zU [] (YI 11) (YI 0) λw hO=>⟨by rw [hE,if_pos e3],hO.below⟩
 rw [if_neg (by simp [e3])] at hE
 refine zO (α:=Nat) (λi=>[(1,Zp b1 0),(8,YI (i:Int))]) (λ_=>[⟨b1,(rvC r).toArray,47⟩]) (λi m=>(i<=r.fts.length∧∀ f∈r.fts.take i,y8 (yL r.rt.needs) f.of=0)/\m=r.fts.length-i) 0 r.fts.length [] ⟨⟨Nat.zero_le _,λy h=>by simp at h⟩,rfl⟩ ?_
 rintro i3 m3 g3 kk ⟨⟨hi3,hno3⟩,hmm3⟩ nx hkk
 subst hkk
 refine zD 54 [0] ((i3:Int)<(r.fts.length:Int)) (λh54=> ?_) (λh54=> ?_)
 rotate_left
 ·refine zU [] (YI 0) (YI 0) λw hO=>⟨?_,hO.below⟩
  rw [hE,kA (k:=0) (yP (p:=λf:Fv=>y8 (yL r.rt.needs) f.of=0) (show r.fts.length<=i3 by omega) hno3)]
 have hj:i3<r.fts.length:=by omega
 obtain ⟨eb,eo,hA,hel⟩:=hr.fts.top.elem qE i3 hj
 have hgo:=y1 (p:=λf:Fv=>y8 (yL r.rt.needs) f.of=0) hj hno3
 have hat:=vQ (f:=λf:Fv=>y8 (yL r.rt.needs) f.of) 0 hj hno3
 have hsm:r.fts[i3]∈r.fts:=List.getElem_mem hj
 have hel0:∀ w,YB W w->(loadVar 85 ⟨eb,eo+i3*2+1,none⟩).run YP w= .ok (.slice r.fts[i3].A r.fts[i3].of.length r.fts[i3].cap) w:=λw hw=>hel w hw _ 1 _ Kr
 have hru:=hr.fts.each _ hsm;have hmu:=hr.fts.m _ hsm;have htu:=hr.fts.text _ hsm
 generalize r.fts[i3]=u at hel0 hgo hat hru hmu htu
 have hc:∀ w,YB W w->YC 173 #[rvV r,.slice u.A u.of.length u.cap] w (YR (YI (y8 (yL r.rt.needs) u.of)) w):=λw hb=>r12items_any r u.A u.cap u.of w (hr.on hb hb.size) (hru.on hb hb.size) Om htu
 refine zK 61 [0,0] hA r.fts.length r.fc i3 2 hj (zH 63 [] 85 eb (eo+i3*2+1) (.slice u.A u.of.length u.cap) (λw hO=>hel0 w hO.below) (z6 (v:=YI (y8 (yL r.rt.needs) u.of)) [] (λw hO=>hc w hO.below) (kT 66 [] (y8 (yL r.rt.needs) u.of=0) (λh=> ?_) (λh=> ?_))))
 ·exact x_i 56 [] ((i3+1:Nat):Int) (nx (i3+1) (r.fts.length-(i3+1)) [] Om ⟨⟨hj,hgo h⟩,rfl⟩ Kr Kr)
 ·refine zU [] (YI (y8 (yL r.rt.needs) u.of)) (YI (i3:Int)) λw hO=>⟨?_,hO.below⟩
  rw [hE,hat h];simp only [Nat.zero_add]
theorem nN {v:Ver}(hp:v.pre.length<=1000000)(hq:v.build.length<=1000000):v.print.length<=3000000:=by
 unfold Ver.print
 split
 case isTrue h=>
  obtain ⟨n1,n2,n3⟩:=bF h
  have hnl:(p9 v).length<=14:=nums_len n1 n2 n3
  have h1:(kD 45 v.pre).length<=1000001:=by unfold kD;split<;>simp<;>omega
  have h2:(kD 43 v.build).length<=1000001:=by unfold kD;split<;>simp<;>omega
  unfold Ver.text
  simp only [List.length_append];omega
 case isFalse=>simp
theorem r12Check_any (r:Rv)(W:World)(hr:RcIn W W.heap.size r):YC 79 #[rvV r] W (YR (.tuple #[YI (zN r.rt).1,YI (zN r.rt).2]) W):=by
 have hE:zN r.rt=if nmL r.name=false then (4,0) else if r.ver.may=false then (5,0) else if 8<r.needs.length\/8<r.bars.length then (3,0) else if (xE r.rt).1≠0 then xE r.rt else if 4096<(yT r.rt).length then (3,0) else (0,0):=by
  unfold zN;simp only [Rv.rt,List.length_map]
 have hsn:=hr.sn
 have c1:∀ w,YB W w->YC 76 #[.string (mkS r.name)] w (YR (.bool (nmL r.name)) w):=λw hb=>qH r.name w hsn.1
 have c2:∀ w,YB W w->YC 105 #[yB r.ver] w (YR (.bool r.ver.may) w):=λw hb=>qN r.ver w hsn.2.1 hsn.2.2
 have c3:∀ w,YB W w->YC 124 #[rvV r] w (YR (.tuple #[YI (xE r.rt).1,YI (xE r.rt).2]) w):=λw hb=>r12parts_any r w (hr.on hb hb.size)
 refine z8 Tryz.func79 (zZ [] λb1=>z6 (v:= .bool (nmL r.name)) [0] (λw hO=>c1 w hO.below) (zL 9 (nmL r.name) (λe1=> ?_) (λe1=> ?_)))
 rotate_left
 ·exact zU [] (YI 4) (YI 0) λw hO=>⟨by rw [hE,if_pos e1],hO.below⟩
 rw [if_neg (by simp [e1])] at hE
 refine z6 (v:= .bool r.ver.may) [0] (λw hO=>c2 w hO.below) (zL 14 r.ver.may (λe2=> ?_) (λe2=> ?_))
 rotate_left
 ·exact zU [] (YI 5) (YI 0) λw hO=>⟨by rw [hE,if_pos e2],hO.below⟩
 rw [if_neg (by simp [e2])] at hE
 refine zD 20 [0] ((r.needs.length:Int)>8) (λh20=> ?_) (λh20=> ?_)
 ·exact zU [] (YI 3) (YI 0) λw hO=>⟨by rw [hE,if_pos (.inl Om)],hO.below⟩
 refine zD 25 [0] ((r.bars.length:Int)>8) (λh25=> ?_) (λh25=> ?_)
 ·exact zU [] (YI 3) (YI 0) λw hO=>⟨by rw [hE,if_pos (.inr Om)],hO.below⟩
 rw [if_neg Om] at hE
 refine z6 (v:= .tuple #[YI (xE r.rt).1,YI (xE r.rt).2]) [0] (λw hO=>c3 w hO.below) (kT 33 [] ((xE r.rt).1=0) (λh33=> ?_) (λh33=> ?_))
 rotate_left
 ·exact zU [] (YI (xE r.rt).1) (YI (xE r.rt).2) λw hO=>⟨by rw [hE,if_pos h33],hO.below⟩
 rw [if_neg (λh=>h h33)] at hE
 have hs:(yT r.rt).length<=100000000:=rec_small (r:=r.rt) hsn.1 (nN hsn.2.1 hsn.2.2) (by simp only [Rv.rt,List.length_map];omega) (by simp only [Rv.rt,List.length_map];omega) h33 (λf hf s hs=>by
  obtain ⟨y,hy,rfl⟩:=List.mem_map.1 hf
  exact hr.fts.text y hy s hs)
 have c4:∀ w,YB W w->YC 80 #[rvV r] w (YR (.string (mkS (yT r.rt))) w):=λw hb=>tZ r w (hr.on hb hb.size) hs
 have hz:(mkS (yT r.rt)).size=(yT r.rt).length:=qX _
 refine z6 (v:= .string (mkS (yT r.rt))) [0] (λw hO=>c4 w hO.below) (zD 39 [] (((mkS (yT r.rt)).size:Int)>4096) (λh39=> ?_) (λh39=> ?_))
 ·exact zU [] (YI 3) (YI 0) λw hO=>⟨by rw [hE,if_pos Om],hO.below⟩
 ·exact zU [] (YI 0) (YI 0) λw hO=>⟨by rw [hE,if_neg Om],hO.below⟩
theorem r12Print_any (r:Rv)(W:World)(hr:RcIn W W.heap.size r):YC 41 #[rvV r] W (YR (.tuple #[.string (mkS (j9 r.rt)),YI (zN r.rt).1]) W):=by
 have c1:∀ w,YB W w->YC 79 #[rvV r] w (YR (.tuple #[YI (zN r.rt).1,YI (zN r.rt).2]) w):=λw hb=>r12Check_any r w (hr.on hb hb.size)
 refine z8 Tryz.func41 (zZ [] λb1=>z6 (v:= .tuple #[YI (zN r.rt).1,YI (zN r.rt).2]) [0] (λw hO=>c1 w hO.below) (kT 12 [] ((zN r.rt).1=0) (λh=> ?_) (λh=> ?_)))
 rotate_left
 ·exact zU [] (.string ⟨#[]⟩) (YI (zN r.rt).1) λw hO=>⟨by rw [show j9 r.rt=[] from if_neg h];rfl,hO.below⟩
 have c2:∀ w,YB W w->YC 80 #[rvV r] w (YR (.string (mkS (yT r.rt))) w):=λw hb=>tZ r w (hr.on hb hb.size) (by have:=(yN h).2.2.2.2.2;omega)
 exact z6 (v:= .string (mkS (yT r.rt))) [0] (λw hO=>c2 w hO.below) (zU [] (.string (mkS (yT r.rt))) (YI 0) λw hO=>⟨by rw [show j9 r.rt=yT r.rt from if_pos h,h],hO.below⟩)
end
section
def BytesAt (w:World)(e:TypeId)(g:Nat)(l:YL):Prop:=
 ∃ row,w.heap[g]?=some (.cells row e (row.size,row.size+1))/\l.length<=row.size∧∀ j (h:j<l.length),row[j]?=some (.int .u8 (l[j].toNat:Int))
theorem BytesAt.lt {w:World}{e:TypeId}{g:Nat}{l:YL}(h:BytesAt w e g l):g<w.heap.size:=by
 obtain ⟨row,h1,_⟩:=h
 exact (Array.getElem?_eq_some_iff.1 h1).1
theorem BytesAt.cell {w:World}{e:TypeId}{g:Nat}{l:YL}(h:BytesAt w e g l){j:Nat}(hj:j<l.length):w.cell? ⟨g,j,none⟩=some (.int .u8 (l[j].toNat:Int)):=by
 obtain ⟨row,h1,_,h3⟩:=h
 rw [Lib.cell_of_heap h1];exact h3 j hj
theorem BytesAt.made (w:World)(e:TypeId)(s:YL):BytesAt (Lib.bytesWorld w e (mkS s)) e w.heap.size s/\Below w.heap.size w (Lib.bytesWorld w e (mkS s))/\w.heap.size<(Lib.bytesWorld w e (mkS s)).heap.size:=by
 have hsz:=Lib.bytesWorld_size w e (mkS s)
 refine ⟨⟨Lib.bytesCells w e (mkS s),Lib.bytesWorld_at_new w e (mkS s), ?_,λj hj=> ?_⟩,⟨?_, ?_, ?_,by omega, ?_,λk hk=>Lib.bytesWorld_at_old w e (mkS s) k hk⟩,by omega⟩
 ·unfold Lib.bytesCells mkS;simp
 ·unfold Lib.bytesCells mkS
  rw [Array.getElem?_append_left (by simpa using hj)]
  simp [hj]
 all_goals
  unfold Lib.bytesWorld World.freeze
  split<;>first|rfl|exact Nat.le_succ _
section
variable {M:List Nat}{P:Program}{n0:Nat}{ops:Array Oper}{W:World}{Q:Exit->Act->World->Prop}{rest:List Oper}{o:Oper}{L:List Blk}{f:Nat->Value}
end
end
section
theorem BytesAt.reads {w:World}{e:TypeId}{g:Nat}{l:YL}(h:BytesAt w e g l):Reads u8C w w.heap.size (some ⟨g,0,none⟩) l:=λh0=>⟨g,0,rfl,h.lt,λj u hj=>by
 rw [u8_flat,List.getElem?_map] at hj
 cases hl:l[j]? with
 |none=>rw [hl] at hj;cases hj
 |some b=>
  rw [hl] at hj
  obtain ⟨hlt,hb⟩:=List.getElem?_eq_some_iff.1 hl
  have:=h.cell hlt
  rw [Nat.zero_add,this,hb]
  exact hj⟩
section
variable {M:List Nat}{P:Program}{n:Nat}{W:World}{Q:Exit->Act->World->Prop}{c:Xc}
theorem x_bytes (d:Nat)(h:List Nat)(s:YL){src dst e:TypeId}{x:Operand}(hg:∀ w0 w1 cap,Own M W w0 (xgo P n (d+50000) h c).L->BytesAt w1 e w0.heap.size s->YB w0 w1->w0.heap.size<w1.heap.size->s.length<=cap->zB [] P n w1 Q (xNx (xgo P n (d+50000) h c) [] (.slice (some ⟨w0.heap.size,0,none⟩) s.length cap)))
  (hkt:(xgl P n (d+50000) h c,(xgo P n (d+50000) h c).top,zT (xA (xgo P n (d+50000) h c)) n (xgo P n (d+50000) h c).f (xO (xgo P n (d+50000) h c)),xNl (xgo P n (d+50000) h c).k,(xO (xgo P n (d+50000) h c)).op,ev n (xgo P n (d+50000) h c).f x,P.underlying src,P.underlying dst,P.underlying e)
   =(xgr P n (d+50000) h c,.ops (xA (xgo P n (d+50000) h c)) (xO (xgo P n (d+50000) h c)::xT (xgo P n (d+50000) h c)),true,true,.convert src dst x,.string (mkS s),some .string,some (.slice e),some (.int .u8)):=by kernel_rfl):zB M P n W Q c:=by
 simp only [Prod.mk.injEq] at hkt
 obtain ⟨hk,e1,e2,e3,e4,e5,e6,e7,e8⟩:=hkt
 refine zM h c hk ?_
 generalize xgo P n (d+50000) h c=d at*
 have:d=⟨.ops (xA d) (xO d::xT d),d.k,d.L,d.f⟩:=by rw [←e1]
 rw [this]
 refine ⟨λhq=>kW e2 λw hO=> ?_⟩
 obtain ⟨h1,h2,h3⟩:=BytesAt.made w e s
 have hr:=Lib.run_convert_string_bytes (P:=P) w src dst e (mkS s) e6 e7 e8
 rw [y4] at hr
 refine xB (.slice (some ⟨w.heap.size,0,none⟩) s.length (grownCap w s.length 0 e)) (w':=Lib.bytesWorld w e (mkS s)) ?_ ?_
 ·unfold execOp
  simp only [e4,e5,Sem.run_bind,Sem.run_pure,Result.andThen_ok,hr]
 ·have:=((hg w _ (grownCap w s.length 0 e) hO h1 h2 h3 (grownCap_ge w s.length 0 e)).go hq).go _ (Own.start [] _)
  rw [KQ_any (M:=M) (W:=W) (M':=[]) (W':=Lib.bytesWorld w e (mkS s)) e3];exact this
end
end
section
def y2 (l:YL)(k:Nat):UInt64:=(l.take k).foldl dStep dI
theorem dMixK_step {l:YL}{k:Nat}(hk:k<l.length):dStep (y2 l k) l[k]=y2 l (k+1):=by
 unfold y2
 rw [List.take_succ_eq_append_getElem hk,List.foldl_append];rfl
theorem dMixK_all {l:YL}{k:Nat}(hk:k=l.length):y2 l k=dMix l:=by unfold y2 dMix;rw [hk,List.take_length]
def dRootK (l:List UInt64)(k:Nat):UInt64:=(l.take k).foldl dPair (fX [])
def dig9S:YL:=[48,49,50,51,52,53,54,55,56,57,97,98,99,100,101,102]
def hexI (c:UInt8):Int:=match hexV c with|some d=>(d:Int)|none=> -1
theorem r9turn_any (x:UInt64)(W:World):YC 169 #[.int .u64 (x.toNat:Int),.int .u64 13] W (YR (.int .u64 ((jS x).toNat:Int)) W):=by
 refine Z2 (n:=13) Tryz.func169 rfl (ZO (Zv (.int .u64 0) (ZR (Zv (.int .u64 (x.toNat:Int)) (Zv (.int .u64 13) (kS (.int .u64 ((x<<<UInt64.ofNat 13).toNat:Int)) Kr (run_shl64 (x:=x) (yk:= .u64) (n:=13) rfl Kr Kr (by decide)) (Zv (.int .u64 (x.toNat:Int)) ?_)))))))
 exact Zv (.int .u64 13) (Zv (.int .u64 51) (kS (.int .u64 ((x>>>UInt64.ofNat 51).toNat:Int)) Kr (fF (x:=x) (yk:= .u64) (n:=51) rfl Kr Kr (by decide)) (kS (.int .u64 (((x<<<UInt64.ofNat 13)|||(x>>>UInt64.ofNat 51)).toNat:Int)) Kr (run_or64 (x:=(x<<<UInt64.ofNat 13)) (y:=(x>>>UInt64.ofNat 51)) rfl Kr Kr) (Zv (.int .u64 (((x<<<UInt64.ofNat 13)|||(x>>>UInt64.ofNat 51)).toNat:Int)) (ZN (qK (ZF (.int .u64 (((x<<<UInt64.ofNat 13)|||(x>>>UInt64.ofNat 51)).toNat:Int)) Tryz.results169 (λw hO=>⟨by rw [show jS x=((x<<<UInt64.ofNat 13)|||(x>>>UInt64.ofNat 51)) from rfl],hO.below⟩))))))))
theorem r9Sum_any (A:Option Addr)(cap:Nat)(l:YL)(W:World)(hv:Reads u8C W W.heap.size A l)(hn:l.length<=1000000):YC 122 #[.slice A l.length cap] W (YR (.int .u64 ((fX l).toNat:Int)) W):=by
 refine Z2 (n:=24) Tryz.func122 rfl (ZO (Zv (.int .u64 0) (ZR (Zv (.int .u64 11400714819323198485) (ZN (qJ ?_))))))
 refine ZO (Zv (YI 0) (ZN (dV (ok_loop (λL f m=>∃ (k:Nat) (j:Nat->Value),(k<=l.length)/\L=[]/\f=nO j [(0,.slice A l.length cap),(3,.int .u64 ((y2 l k).toNat:Int)),(4,YI (k:Int))]/\m=l.length-k) (l.length-0) ⟨0,_,Nat.zero_le _,rfl,ZU,rfl⟩ ?_))))
 rintro L f m ⟨k,j,hrel,rfl,rfl,rfl⟩
 refine qJ (ZO (Zv (YI (k:Int)) (Zv (.slice A l.length cap) (Zv (YI (l.length:Int)) ?_))))
 by_cases h1:(k:Int)<(l.length:Int)
 ·have hk:k<l.length:=by omega
  obtain ⟨bp,off,hA,hlt,hcell⟩:=hv Om
  obtain ⟨s,hs⟩:∃ s,l[k]=s:=⟨_,rfl⟩
  refine Zg h1 (ZY (ZB (qJ (dV (gT (Zv (.int .u64 ((y2 l k).toNat:Int)) (Zv (.slice A l.length cap) (Zv (YI (k:Int)) ?_))))))))
  refine kS (Zp bp (off+k*1)) Kr (ZA (b:=bp) (off:=off) (c:=cap) (n:=l.length) (k:= .i64) (j:=(k:Int)) (e:=5) (sz:=1) hA) (Zo (.int .u8 (s.toNat:Int)) (a:=⟨bp,off+k*1,none⟩) (λw hO=>fR (ty:=5) u8C_len (λj u h=>(hO.below.cell (p:=⟨bp,off+j,none⟩) hlt).trans (hcell j u h)) k 0 hk Om _ (by rw [hs];kernel_rfl)) (kS (.int .u64 (((s).toUInt64).toNat:Int)) Kr (run_to64 (x:=s) rfl Kr (by rw [Tryz.underlying5];rfl) Tryz.underlying67) (kS (.int .u64 (((y2 l k)^^^(s).toUInt64).toNat:Int)) Kr (fE (x:=(y2 l k)) (y:=(s).toUInt64) rfl Kr Kr) (Zc (k:=169) (args:= #[.int .u64 (((y2 l k)^^^(s).toUInt64).toNat:Int),.int .u64 13]) (.int .u64 ((jS ((y2 l k)^^^(s).toUInt64)).toNat:Int)) (λw _=>r9turn_any ((y2 l k)^^^(s).toUInt64) w) (kS (.int .u64 (((jS ((y2 l k)^^^(s).toUInt64))*(18397679294719823053:UInt64)).toNat:Int)) Kr (run_mul64 (x:=(jS ((y2 l k)^^^(s).toUInt64))) (y:=(18397679294719823053:UInt64)) rfl Kr Kr) (Zv (.int .u64 (((jS ((y2 l k)^^^(s).toUInt64))*(18397679294719823053:UInt64)).toNat:Int)) (s_nil (tI (jL (gT (Zv (YI (k:Int)) ?_)))))))))))
  refine Zu (k:= .i64) (((k+1:Nat):Int)) (IntWalk.i64_in _ Om) (Zv (YI ((k+1:Nat):Int)) (s_nil ?_))
  have hstep:((jS ((y2 l k)^^^(s).toUInt64))*(18397679294719823053:UInt64))=y2 l (k+1):=by rw [←dMixK_step hk,hs];rfl
  rw [hstep]
  exact tG (m':=l.length-(k+1)) Om ⟨k+1,_,by omega,rfl,ZU,rfl⟩
 refine Zh h1 (ZX (ok_exit (qZ (w8 (w9 (jL (ZO (Zv (.int .u64 ((y2 l k).toNat:Int)) ?_))))))))
 exact Zv (.int .u64 ((y2 l k).toNat:Int)) (kS (.int .u64 (((y2 l k)>>>UInt64.ofNat 29).toNat:Int)) Kr (fF (x:=(y2 l k)) (yk:= .u64) (n:=29) rfl Kr Kr (by decide)) (kS (.int .u64 (((y2 l k)^^^((y2 l k)>>>UInt64.ofNat 29)).toNat:Int)) Kr (fE (x:=(y2 l k)) (y:=((y2 l k)>>>UInt64.ofNat 29)) rfl Kr Kr) (Zv (.int .u64 (((y2 l k)^^^((y2 l k)>>>UInt64.ofNat 29)).toNat:Int)) (ZN (qK (ZF (.int .u64 (((y2 l k)^^^((y2 l k)>>>UInt64.ofNat 29)).toNat:Int)) Tryz.results122 (λw hO=>⟨by rw [show fX l=((y2 l k)^^^((y2 l k)>>>UInt64.ofNat 29)) from by unfold fX dEnd;rw [←dMixK_all (l:=l) (k:=k) Om];rfl],hO.below⟩)))))))
end
section
theorem r12Sum_any (r:Rv)(W:World)(hr:RcIn W W.heap.size r):YC 77 #[rvV r] W (YR (.tuple #[.int .u64 (yE r.rt),YI (zN r.rt).1]) W):=by
 have c1:∀ w,YB W w->YC 41 #[rvV r] w (YR (.tuple #[.string (mkS (j9 r.rt)),YI (zN r.rt).1]) w):=λw hb=>r12Print_any r w (hr.on hb hb.size)
 refine z8 Tryz.func77 (zZ [] λb1=>z6 (v:= .tuple #[.string (mkS (j9 r.rt)),YI (zN r.rt).1]) [0] (λw hO=>c1 w hO.below) (kT 12 [] ((zN r.rt).1=0) (λh=> ?_) (λh=> ?_)))
 rotate_left
 ·exact zU [] (.int .u64 0) (YI (zN r.rt).1) λw hO=>⟨by rw [show yE r.rt=0 from if_neg h],hO.below⟩
 have hl:(yT r.rt).length<=4096:=(yN h).2.2.2.2.2
 have hp:j9 r.rt=yT r.rt:=if_pos h
 rw [hp]
 refine x_bytes 15 [] (yT r.rt) (src:=9) (dst:=36) (e:=5) (x:= .tmp 14) λw0 w1 cap hO hB hb hlt hcap=> ?_
 have hb0:=hO.below
 have c2:∀ w,YB w1 w->YC 122 #[.slice (some ⟨w0.heap.size,0,none⟩) (yT r.rt).length cap] w (YR (.int .u64 ((fX (yT r.rt)).toNat:Int)) w):=λw hw=>r9Sum_any _ cap (yT r.rt) w (hB.reads.on hw hw.size) Om
 exact z6 (v:= .int .u64 ((fX (yT r.rt)).toNat:Int)) [] (λw hO=>c2 w hO.below) (zU [] (.int .u64 ((fX (yT r.rt)).toNat:Int)) (YI 0) λw hO2=>⟨by rw [show yE r.rt=_ from if_pos h,h],hb0.trans ((hb.mono hb0.size).trans (hO2.below.mono (Nat.le_trans hb0.size (Nat.le_of_lt hlt))))⟩)
end
section
set_option linter.unnecessarySimpa false
theorem fMay_at (A:Option Addr)(cap:Nat)(xs:List Fv)(W:World)(hv:FtIn W W.heap.size A xs):YC 114 #[.slice A xs.length cap] W (YR (.bool (qQ (y5 xs))) W):=by
 refine z8 Tryz.func114 (zD 8 [] ((8:Int)<(xs.length:Int)) (λh8=> ?_) (λh8=> ?_))
 ·exact z7 [] Z5 λw hO=>⟨by rw [bG (.inl (by rw [q9];omega))],hO.below⟩
 refine zO (α:=Nat) (λi=>[(0,.slice A xs.length cap),(3,.string (mkS (yV (xs.map Fv.name) i))),(9,.slice A xs.length cap),(10,YI (xs.length:Int)),(11,YI (i:Int))]) (λ_=>[]) (λi m=>UpTo xs i/\m=xs.length-i) 0 xs.length [] ⟨UpTo.zero xs,rfl⟩ ?_
 rintro i mm g kk ⟨hup,hmm⟩ nx hkk
 subst hkk
 refine zD 12 [] ((i:Int)<(xs.length:Int)) (λh12=> ?_) (λh12=> ?_)
 rotate_left
 ·exact z7 [] Z4 λw hO=>⟨by rw [hup.may Om Om],hO.below⟩
 have hj:i<xs.length:=by omega
 have hxm:xs[i]∈xs:=List.getElem_mem hj
 have hnl:i<(xs.map Fv.name).length:=by rw [List.length_map];exact hj
 have hl1:yV (xs.map Fv.name) (i+1)=xs[i].name:=by rw [bU hnl,List.getElem_map]
 have hlast:∀ h0:0<i,yV (xs.map Fv.name) i=(xs[i-1]'Om).name:=λh=>by unfold yV;rw [dif_pos ⟨h,by omega⟩,List.getElem_map]
 obtain ⟨eb,eo,hA,hel⟩:=hv.top.elem qE i hj
 have hnm:=hv.name _ hxm
 refine zK 13 [] hA xs.length cap i 2 hj (zH 14 [] 148 eb (eo+i*2+0) (fvV xs[i]) (λw hO=>hel w hO.below _ 0 _ Kr) (zS [] λb5=>z6 (v:= .bool (wdL xs[i].name)) [0,0] (λw hO=>vM _ w hnm) (zL 17 (wdL xs[i].name) (λh17=> ?_) (λh17=> ?_))))
 rotate_left
 ·exact z7 [] Z5 λw hO=>⟨by rw [may_no1 hxm h17],hO.below⟩
 refine x_sle 23 [0] xs[i].name (yV (xs.map Fv.name) i) (zL 23 (!Op.bytesLess (yV (xs.map Fv.name) i) xs[i].name) (λh23=> ?_) (λh23=> ?_))
 ·refine z7 [] Z5 λw hO=>⟨?_,hO.below⟩
  have h0:0<i:=Nat.pos_of_ne_zero λh0=>by
   subst h0
   have:yV (xs.map Fv.name) 0=[]:=by unfold yV;rw [dif_neg Om]
   rw [this,pE (λe=>by rw [e] at h17;revert h17;decide)] at h23;cases h23
  rw [hlast h0] at h23
  have e2:xs[i-1+1]'Om=xs[i]:=by congr 1;omega
  rw [may_no2 (z:=i-1) Om (by rw [e2];simpa using h23)]
 have h2:∀ h0:0<i,Op.bytesLess (xs[i-1]'Om).name xs[i].name=true:=λh0=>by rw [←hlast h0];simpa using h23
 have hc:∀ w,YB W w->YC 163 #[.slice xs[i].A xs[i].of.length xs[i].cap,.slice A xs.length cap] w (YR (.bool (x2 (y5 xs) xs[i].of)) w):=λw hb=>fmayOf_any A cap xs xs[i].A xs[i].cap xs[i].of w (hv.on hb hb.size) ((hv.each _ hxm).on hb hb.size) (hv.m _ hxm) (hv.text _ hxm)
 refine z6 (v:= .bool (x2 (y5 xs) xs[i].of)) [0] (λw hO=>hc w hO.below) (zL 29 (x2 (y5 xs) xs[i].of) (λh29=> ?_) (λh29=> ?_))
 rotate_left
 ·exact z7 [] Z5 λw hO=>⟨by rw [may_no3 hxm h29],hO.below⟩
 exact vU 3 [0] (.string (mkS xs[i].name)) (.string (mkS (yV (xs.map Fv.name) (i+1)))) (by rw [hl1]) (x_i 34 [] ((i+1:Nat):Int) (zP [] [] (λw hO=>hO.no) (nx (i+1) (xs.length-(i+1)) [] Om ⟨hup.next hj h17 h2 h29,rfl⟩ Kr Kr)))
end
section
def byK (n:UInt64)(k:Nat):YL:=(List.range k).map λi=>(n>>>UInt64.ofNat (8*(7-i))).toUInt8
end
section
def rot4 (x:UInt64):UInt64:=x<<<4|||x>>>60
def rotN (n:UInt64):Nat->UInt64
 |0=>n
 |k+1=>rot4 (rotN n k)
def padB (xs:YL)(n:Nat):YL:=xs++List.replicate (n-xs.length) 0
end
section
def arrC (bs:YL):Array Value:=(bs.flatMap u8C).toArray
section
variable {P:Program}{o:Oper}
end
end
section
theorem d9rot13_any (x:UInt64)(W:World):YC 73 #[.int .u64 (x.toNat:Int),YI 13] W (YR (.int .u64 ((jS x).toNat:Int)) W):=by
 refine Z2 (n:=17) Tryz.func73 rfl (ZO (Zv (.int .u64 0) (ZR (Zv (YI 13) (Zv (.int .u64 13) (Zv (.int .u64 13) (Zv (.int .u64 13) ?_)))))))
 refine ZR (Zv (.int .u64 (x.toNat:Int)) (Zv (.int .u64 13) (kS (.int .u64 ((x<<<UInt64.ofNat 13).toNat:Int)) Kr (run_shl64 (x:=x) (yk:= .u64) (n:=13) rfl Kr Kr (by decide)) (Zv (.int .u64 (x.toNat:Int)) (Zv (.int .u64 13) (Zv (.int .u64 51) (kS (.int .u64 ((x>>>UInt64.ofNat 51).toNat:Int)) Kr (fF (x:=x) (yk:= .u64) (n:=51) rfl Kr Kr (by decide)) (kS (.int .u64 (((x<<<UInt64.ofNat 13)|||(x>>>UInt64.ofNat 51)).toNat:Int)) Kr (run_or64 (x:=(x<<<UInt64.ofNat 13)) (y:=(x>>>UInt64.ofNat 51)) rfl Kr Kr) ?_))))))))
 exact Zv (.int .u64 (((x<<<UInt64.ofNat 13)|||(x>>>UInt64.ofNat 51)).toNat:Int)) (ZN (qK (ZF (.int .u64 (((x<<<UInt64.ofNat 13)|||(x>>>UInt64.ofNat 51)).toNat:Int)) Tryz.results73 (λw hO=>⟨by rw [show jS x=((x<<<UInt64.ofNat 13)|||(x>>>UInt64.ofNat 51)) from rfl],hO.below⟩))))
theorem d9Sum_any (A:Option Addr)(cap:Nat)(l:YL)(W:World)(hv:Reads u8C W W.heap.size A l)(hn:l.length<=1000000):YC 90 #[.slice A l.length cap] W (YR (.int .u64 ((fX l).toNat:Int)) W):=by
 refine Z2 (n:=23) Tryz.func90 rfl (ZO (Zv (.int .u64 0) (ZR (Zv (.int .u64 11400714819323198485) (ZN (qJ ?_))))))
 refine ZO (Zv (.slice A l.length cap) (Zv (YI (l.length:Int)) (Zv (YI 0) (ZN (dV (ok_loop (λL f m=>∃ (k:Nat) (j:Nat->Value),(k<=l.length)/\L=[]/\f=nO j [(0,.slice A l.length cap),(3,.int .u64 ((y2 l k).toNat:Int)),(6,.slice A l.length cap),(7,YI (l.length:Int)),(8,YI (k:Int))]/\m=l.length-k) (l.length-0) ⟨0,_,Nat.zero_le _,rfl,ZU,rfl⟩ ?_))))))
 rintro L f m ⟨k,j,hrel,rfl,rfl,rfl⟩
 refine qJ (gT ?_)
 by_cases h1:(k:Int)<(l.length:Int)
 ·have hk:k<l.length:=by omega
  obtain ⟨bp,off,hA,hlt,hcell⟩:=hv Om
  obtain ⟨s,hs⟩:∃ s,l[k]=s:=⟨_,rfl⟩
  refine Zg h1 (ZN (qJ (Zt (ZB (qJ (dV (ZO (kS (Zp bp (off+k*1)) Kr (ZA (b:=bp) (off:=off) (c:=cap) (n:=l.length) (k:= .i64) (j:=(k:Int)) (e:=5) (sz:=1) hA) ?_))))))))
  refine Zo (.int .u8 (s.toNat:Int)) (a:=⟨bp,off+k*1,none⟩) (λw hO=>fR (ty:=5) u8C_len (λj u h=>(hO.below.cell (p:=⟨bp,off+j,none⟩) hlt).trans (hcell j u h)) k 0 hk Om _ (by rw [hs];kernel_rfl)) (Zv (.int .u8 (s.toNat:Int)) (ZN (gT (Zv (.int .u64 ((y2 l k).toNat:Int)) (Zv (.int .u8 (s.toNat:Int)) (kS (.int .u64 (((s).toUInt64).toNat:Int)) Kr (run_to64 (x:=s) rfl Kr (by rw [Tryz.underlying5];rfl) Tryz.underlying67) (kS (.int .u64 (((y2 l k)^^^(s).toUInt64).toNat:Int)) Kr (fE (x:=(y2 l k)) (y:=(s).toUInt64) rfl Kr Kr) (Zc (k:=73) (args:= #[.int .u64 (((y2 l k)^^^(s).toUInt64).toNat:Int),YI 13]) (.int .u64 ((jS ((y2 l k)^^^(s).toUInt64)).toNat:Int)) (λw _=>d9rot13_any ((y2 l k)^^^(s).toUInt64) w) (kS (.int .u64 (((jS ((y2 l k)^^^(s).toUInt64))*(18397679294719823053:UInt64)).toNat:Int)) Kr (run_mul64 (x:=(jS ((y2 l k)^^^(s).toUInt64))) (y:=(18397679294719823053:UInt64)) rfl Kr Kr) (Zv (.int .u64 (((jS ((y2 l k)^^^(s).toUInt64))*(18397679294719823053:UInt64)).toNat:Int)) ?_))))))))))
  refine s_nil (tI (jL (gT (Zu (k:= .i64) (((k+1:Nat):Int)) (IntWalk.i64_in _ Om) (Zv (YI ((k+1:Nat):Int)) (s_nil ?_))))))
  have hstep:((jS ((y2 l k)^^^(s).toUInt64))*(18397679294719823053:UInt64))=y2 l (k+1):=by rw [←dMixK_step hk,hs];rfl
  rw [hstep]
  exact tG (m':=l.length-(k+1)) Om ⟨k+1,_,by omega,rfl,ZU,rfl⟩
 refine Zh h1 (ZN (qJ (Zf (ok_exit (qZ (w8 (w9 (jL (qJ (gT ?_))))))))))
 exact Zv (.int .u64 ((y2 l k).toNat:Int)) (Zv (.int .u64 ((y2 l k).toNat:Int)) (kS (.int .u64 (((y2 l k)>>>UInt64.ofNat 29).toNat:Int)) Kr (fF (x:=(y2 l k)) (yk:= .u64) (n:=29) rfl Kr Kr (by decide)) (kS (.int .u64 (((y2 l k)^^^((y2 l k)>>>UInt64.ofNat 29)).toNat:Int)) Kr (fE (x:=(y2 l k)) (y:=((y2 l k)>>>UInt64.ofNat 29)) rfl Kr Kr) (Zv (.int .u64 (((y2 l k)^^^((y2 l k)>>>UInt64.ofNat 29)).toNat:Int)) (ZN (qK (ZF (.int .u64 (((y2 l k)^^^((y2 l k)>>>UInt64.ofNat 29)).toNat:Int)) Tryz.results90 (λw hO=>⟨by rw [show fX l=((y2 l k)^^^((y2 l k)>>>UInt64.ofNat 29)) from by unfold fX dEnd;rw [←dMixK_all (l:=l) (k:=k) Om];rfl],hO.below⟩))))))))
end
section
set_option linter.unnecessarySimpa false
theorem wd_ne' {s:YL}(h:wdL s=true):s≠[]:=λe=>by subst e;exact absurd h (by decide)
def rcB (r:Rv)(b:Nat):Blk:=⟨b,(rvC r).toArray,47⟩
def brB (x:Bv)(b:Nat):Blk:=⟨b,(bvC x).toArray,102⟩
def ftB (x:Fv)(b:Nat):Blk:=⟨b,(fvC x).toArray,148⟩
theorem ge_of {W w:World}{R o:List Blk}(h:Own [] W w (R++o)):∀ x∈o,W.heap.size<=x.b:=λx hx=>(h.base x (List.mem_append_right _ hx)).elim id λq=>by simp at q
theorem qText_any (r:Rv)(W:World)(hr:RcIn W W.heap.size r)(hfe:∀ n∈r.needs,∀ u∈n.any,∀ s∈u.fs,s≠[])(ht:(yT r.rt).length<=100000000)(hK:RecLib W):YC 75 #[rvV r] W (YR (.string (mkS (yT r.rt))) W):=by
 have hT:yT r.rt=gB r.rt++r.needs.flatMap (λn=>x8 n.nt)++r.bars.flatMap (λb=>qB b.bt)++r.fts.flatMap (λf=>xM f.ft):=by
  unfold yT;simp only [Rv.rt,y5,List.flatMap_map]
 have hl:=congrArg List.length hT
 simp only [List.length_append] at hl
 have hsn:=hr.sn
 have hnn:=hr.nn;have hnb:=hr.nb;have hfn:=hr.fts.n
 have hH:gB r.rt=zE 32 [dH,r.name,r.ver.print]++[10]:=by
  show txPack++r.name++[32]++r.ver.print++[10]=_
  simp [zE,txPack,dH]
 have hHl:=congrArg List.length hH
 simp only [List.length_append,List.length_cons,List.length_nil] at hHl
 have hP:∀ w,YB W w->YC 117 #[yB r.ver] w (YR (.string (mkS r.ver.print)) w):=λw hb=>vprint_any r.ver w hsn.2.1 hsn.2.2 (hK.on hb).lib.tab
 refine z8 Tryz.func75 (zZ [] λb1=>zS [] λb3=>gQ 7 [] [rcB r b1] (λw hO=>hO.past 1 _) (zY [0,0] 4 (z6 (v:= .string (mkS r.ver.print)) [] (λw hO=>hP w hO.below) (zY [] 5 (k7 3 9 #[.string (mkS dH),.string (mkS r.name),.string (mkS r.ver.print)] λg=>zY [] 6 ?_)))))
 refine xh_callL [⟨g, #[.string (mkS dH),.string (mkS r.name),.string (mkS r.ver.print)],9⟩,⟨b3, #[.pointer none,.slice none 0 0],162⟩,rcB r b1] [rcB r b1] ([⟨g, #[.string (mkS dH),.string (mkS r.name),.string (mkS r.ver.print)],9⟩]++[⟨b3, #[.pointer none,.slice none 0 0],162⟩]) [rcB r b1] (λw hO=>hO.perm ((List.Perm.cons _ (List.Perm.swap ..)).trans (List.Perm.swap ..))) (λo w hO=>hO.sublist (List.sublist_append_left _ _)) (pY b3 [] [dH,r.name,r.ver.print] _ [rcB r b1] _ _ (BuR.new b3) (qlit g 3 _ _ rfl rfl Om) (by simp) Om (by simp) (by simp [zE,dH])) λv1 o1 ⟨ob1,k1,k2⟩=> ?_
 subst k2
 rw [List.nil_append,←hH] at k1
 refine zP [0] (rcB r b1::ob1) (λw hO=>(hO.past 0 (rcB r b1::⟨g, #[.string (mkS dH),.string (mkS r.name),.string (mkS r.ver.print)],9⟩::ob1)).swap.past 1 _) (zO (α:=Nat×List Blk) (λx=>[(1,Zp b1 0),(3,Zp b3 0),(18,.slice r.nA r.needs.length r.nc),(19,YI (r.needs.length:Int)),(20,YI (x.1:Int))]) (λx=>rcB r b1::x.2) (λx m=>(x.1<=r.needs.length/\BuR b3 (gB r.rt++(r.needs.take x.1).flatMap (λn=>x8 n.nt)) x.2)/\m=r.needs.length-x.1) (0,ob1) r.needs.length [] ⟨⟨Nat.zero_le _,by simp only [List.take_zero,List.flatMap_nil,List.append_nil];exact k1⟩,rfl⟩ ?_)
 rintro ⟨i,o⟩ mm gg kk ⟨⟨hi,ho⟩,hmm⟩ nx hkk
 subst hkk
 replace hi:i<=r.needs.length:=hi
 replace ho:BuR b3 (gB r.rt++(r.needs.take i).flatMap (λn=>x8 n.nt)) o:=ho
 refine zD 21 [] ((i:Int)<(r.needs.length:Int)) (λh21=> ?_) (λh21=> ?_)
 ·have hj:i<r.needs.length:=by omega
  obtain ⟨eb,eo,hA,hel⟩:=hr.needs.elem vT i hj
  have hpt:=jK (λn:Nv=>x8 n.nt) (l:=r.needs) (i+1)
  rw [qF (λn:Nv=>x8 n.nt) hj,List.length_append] at hpt
  have hst:=qF (λn:Nv=>x8 n.nt) hj
  have hsm:r.needs[i]∈r.needs:=List.getElem_mem hj
  have hel0:∀ w,YB W w->(loadVar 72 ⟨eb,eo+i*3+0,none⟩).run YP w= .ok (nvV r.needs[i]) w:=λw hw=>hel w hw _ 0 _ Kr
  have hra:=hr.any _ hsm;have hrf:=hr.wfs _ hsm;have hna:=hr.na _ hsm;have hnf:=hr.nf _ hsm;have hsw:=hr.sw _ hsm;have hff:=hfe _ hsm
  have hw2:gB r.rt++(r.needs.take i).flatMap (λn=>x8 n.nt)++x8 r.needs[i].nt=gB r.rt++(r.needs.take (i+1)).flatMap (λn=>x8 n.nt):=by rw [hst,List.append_assoc]
  have hpl:(gB r.rt++(r.needs.take i).flatMap (λn=>x8 n.nt)).length+(x8 r.needs[i].nt).length<=300000000:=by rw [List.length_append];omega
  generalize r.needs[i]=n at hel0 hra hrf hna hnf hsw hff hw2 hpl
  generalize gB r.rt++(r.needs.take i).flatMap (λn=>x8 n.nt)=done at*
  refine zK 22 [] hA r.needs.length r.nc i 3 hj (zH 23 [] 72 eb (eo+i*3+0) (nvV n) (λw hO=>hel0 w hO.below) (zS [] λb5=> ?_))
  have hc:∀ w,Own [] W w ([ndB n b5,rcB r b1]++o)->YC 118 #[.pointer (some ⟨b3,0,none⟩),nvV n] w λe w'=>∃ v o',e= .returned v/\BuR b3 (done++x8 n.nt) o'/\Own (o.map Blk.b) w w' o':=λw hO=>(qNeedW_any W.heap.size b3 done n o w ho (Own.lentR hO) (ge_of hO) hO.size (hra.on hO.below (Nat.le_refl _)) (λu hu=>(hrf u hu).on hO.below (Nat.le_refl _)) hna hnf hff ⟨gqM_len hsw.1,hsw.2⟩ hpl).mono λe w' ⟨o',q1,q2,q3⟩=>⟨_,o',q1,q2,q3⟩
  refine qS [0,0] (ndB n b5::rcB r b1::o) [ndB n b5,rcB r b1] o (λw hO=>hO) hc λv2 o2 q1=> ?_
  rw [hw2] at q1
  exact x_i 20 [] ((i+1:Nat):Int) (zP [] (rcB r b1::o2) (λw hO=>hO.past 1 _) (nx (i+1,o2) (r.needs.length-(i+1)) [] Om ⟨⟨hj,q1⟩,rfl⟩ Kr Kr))
 rw [List.take_of_length_le (show r.needs.length<=i by omega)] at ho
 clear nx
 have hNl:(gB r.rt++r.needs.flatMap (λn=>x8 n.nt)).length=(gB r.rt).length+(r.needs.flatMap λn=>x8 n.nt).length:=List.length_append
 generalize hN:gB r.rt++r.needs.flatMap (λn=>x8 n.nt)=front at*
 refine zO (α:=Nat×List Blk) (λx=>[(1,Zp b1 0),(3,Zp b3 0),(28,.slice r.bA r.bars.length r.bc),(29,YI (r.bars.length:Int)),(30,YI (x.1:Int))]) (λx=>rcB r b1::x.2) (λx m=>(x.1<=r.bars.length/\BuR b3 (front++(r.bars.take x.1).flatMap (λb=>qB b.bt)) x.2)/\m=r.bars.length-x.1) (0,o) r.bars.length [0] ⟨⟨Nat.zero_le _,by simp only [List.take_zero,List.flatMap_nil,List.append_nil];exact ho⟩,rfl⟩ ?_
 clear ho
 rintro ⟨i2,o2⟩ m2 g2 kk ⟨⟨hi2,ho⟩,hm2⟩ nx hkk
 subst hkk
 replace hi2:i2<=r.bars.length:=hi2
 replace ho:BuR b3 (front++(r.bars.take i2).flatMap (λb=>qB b.bt)) o2:=ho
 refine zD 31 [] ((i2:Int)<(r.bars.length:Int)) (λh31=> ?_) (λh31=> ?_)
 ·have hj:i2<r.bars.length:=by omega
  obtain ⟨eb,eo,hA,hel⟩:=hr.bars.elem bvC_len i2 hj
  have hpt:=jK (λb:Bv=>qB b.bt) (l:=r.bars) (i2+1)
  rw [qF (λb:Bv=>qB b.bt) hj,List.length_append] at hpt
  have hst:=qF (λb:Bv=>qB b.bt) hj
  have hsm:r.bars[i2]∈r.bars:=List.getElem_mem hj
  have hel0:∀ w,YB W w->(loadVar 102 ⟨eb,eo+i2*3+0,none⟩).run YP w= .ok (bvV r.bars[i2]) w:=λw hw=>hel w hw _ 0 _ Kr
  have hsb:=hr.sb _ hsm
  have hw2:front++(r.bars.take i2).flatMap (λb=>qB b.bt)++qB r.bars[i2].bt=front++(r.bars.take (i2+1)).flatMap (λb=>qB b.bt):=by rw [hst,List.append_assoc]
  have hpl:(front++(r.bars.take i2).flatMap (λb=>qB b.bt)).length+(qB r.bars[i2].bt).length<=300000000:=by rw [List.length_append];omega
  generalize r.bars[i2]=x at hel0 hsb hw2 hpl
  have hsb2:=gqR_len hsb.2.1
  have hsb3:=gqM_len hsb.2.2
  generalize front++(r.bars.take i2).flatMap (λb=>qB b.bt)=done at*
  have hbT:qB x.bt=zE 32 [pU,x.name,x.rng]++[10]++wO nL x.wh:=by
   rw [maybe_when]
   show txBar++x.name++[32]++x.rng++[10]++kR x.wh=_
   simp [zE,txBar,pU]
  have hbl:=congrArg List.length hbT
  simp only [List.length_append,List.length_cons,List.length_nil] at hbl
  refine zK 32 [] hA r.bars.length r.bc i2 3 hj (zH 33 [] 102 eb (eo+i2*3+0) (bvV x) (λw hO=>hel0 w hO.below) (zS [] λb7=>gX [0,0,0] 3 9 #[.string (mkS pU),.string (mkS x.name),.string (mkS x.rng)] λg3=> ?_))
  refine qS [] (⟨g3, #[.string (mkS pU),.string (mkS x.name),.string (mkS x.rng)],9⟩::brB x b7::rcB r b1::o2) [brB x b7,rcB r b1] ([⟨g3, #[.string (mkS pU),.string (mkS x.name),.string (mkS x.rng)],9⟩]++o2) (λw hO=>own_rot3 hO) (pY b3 done [pU,x.name,x.rng] _ _ _ o2 ho (qlit g3 3 _ _ rfl rfl Om) Om Om (by simp) (by simp [zE,pU])) λv2 o3 ⟨ob3,q1,q2⟩=> ?_
  subst q2
  refine qS [0] (brB x b7::rcB r b1::⟨g3, #[.string (mkS pU),.string (mkS x.name),.string (mkS x.rng)],9⟩::ob3) [brB x b7,rcB r b1,⟨g3, #[.string (mkS pU),.string (mkS x.name),.string (mkS x.rng)],9⟩] ob3 (λw hO=>hO) (q_maybe b3 _ nL x.wh _ ob3 q1 (by simp only [List.length_append,List.length_cons,List.length_nil];omega) (by decide) Om) λv3 o4 q3=> ?_
  rw [List.append_assoc] at q3
  refine x_i 30 [] ((i2+1:Nat):Int) (zP [] (rcB r b1::o4) (λw hO=>(hO.past 1 (rcB r b1::⟨g3, #[.string (mkS pU),.string (mkS x.name),.string (mkS x.rng)],9⟩::o4)).swap.past 1 _) (nx (i2+1,o4) (r.bars.length-(i2+1)) [] Om ⟨⟨hj, ?_⟩,rfl⟩ Kr Kr))
  show BuR b3 (front++(r.bars.take (i2+1)).flatMap (λb=>qB b.bt)) o4
  rw [←hw2,hbT];exact q3
 rw [List.take_of_length_le (show r.bars.length<=i2 by omega)] at ho
 clear nx
 have hBl:(front++r.bars.flatMap (λb=>qB b.bt)).length=front.length+(r.bars.flatMap λb=>qB b.bt).length:=List.length_append
 generalize hN2:front++r.bars.flatMap (λb=>qB b.bt)=fore at*
 refine zO (α:=Nat×List Blk) (λx=>[(1,Zp b1 0),(3,Zp b3 0),(45,.slice r.fA r.fts.length r.fc),(46,YI (r.fts.length:Int)),(47,YI (x.1:Int))]) (λx=>rcB r b1::x.2) (λx m=>(x.1<=r.fts.length/\BuR b3 (fore++(r.fts.take x.1).flatMap (λf=>xM f.ft)) x.2)/\m=r.fts.length-x.1) (0,o2) r.fts.length [0] ⟨⟨Nat.zero_le _,by simp only [List.take_zero,List.flatMap_nil,List.append_nil];exact ho⟩,rfl⟩ ?_
 clear ho
 rintro ⟨i3,o3⟩ m3 g3 kk ⟨⟨hi3,ho⟩,hm3⟩ nx hkk
 subst hkk
 replace hi3:i3<=r.fts.length:=hi3
 replace ho:BuR b3 (fore++(r.fts.take i3).flatMap (λf=>xM f.ft)) o3:=ho
 refine zD 48 [] ((i3:Int)<(r.fts.length:Int)) (λh48=> ?_) (λh48=> ?_)
 rotate_left
 ·rw [List.take_of_length_le (show r.fts.length<=i3 by omega)] at ho
  have hR:fore++r.fts.flatMap (λf=>xM f.ft)=yT r.rt:=hT.symm
  rw [hR] at ho
  refine x_callO [] (rcB r b1::o3) (Rr:=λv L'=>v= .string (mkS (yT r.rt))/\L'=[]) (λw hO=>(rstring_any b3 (yT r.rt) o3 W w ho (hO.past 1 _) (λe=>by rw [e] at hl;simp only [List.length_nil] at hl;omega)).mono λe w' ⟨q1,q2⟩=>⟨_,[],q1,⟨rfl,rfl⟩,q2⟩) λv4 L4 ⟨q1,q2⟩=> ?_
  subst q1;subst q2
  exact z7 [] (.string (mkS (yT r.rt))) λw hO=>⟨rfl,hO.below⟩
 have hj:i3<r.fts.length:=by omega
 obtain ⟨eb,eo,hA,hel⟩:=hr.fts.top.elem qE i3 hj
 have hpt:=jK (λf:Fv=>xM f.ft) (l:=r.fts) (i3+1)
 rw [qF (λf:Fv=>xM f.ft) hj,List.length_append] at hpt
 have hst:=qF (λf:Fv=>xM f.ft) hj
 have hsm:r.fts[i3]∈r.fts:=List.getElem_mem hj
 have hel0:∀ w,YB W w->(loadVar 148 ⟨eb,eo+i3*2+0,none⟩).run YP w= .ok (fvV r.fts[i3]) w:=λw hw=>hel w hw _ 0 _ Kr
 have hru:=hr.fts.each _ hsm;have hmu:=hr.fts.m _ hsm
 have hw2:fore++(r.fts.take i3).flatMap (λf=>xM f.ft)++xM r.fts[i3].ft=fore++(r.fts.take (i3+1)).flatMap (λf=>xM f.ft):=by rw [hst,List.append_assoc]
 have hpl:(fore++(r.fts.take i3).flatMap (λf=>xM f.ft)).length+(xM r.fts[i3].ft).length<=300000000:=by rw [List.length_append];omega
 generalize r.fts[i3]=x at hel0 hru hmu hw2 hpl
 generalize fore++(r.fts.take i3).flatMap (λf=>xM f.ft)=done at*
 have hfT:xM x.ft=zE 32 (x1::x.name::x.of)++[10]:=rfl
 have hfl:=congrArg List.length hfT
 simp only [List.length_append,List.length_cons,List.length_nil] at hfl
 refine zK 49 [] hA r.fts.length r.fc i3 2 hj (zH 50 [] 148 eb (eo+i3*2+0) (fvV x) (λw hO=>hel0 w hO.below) (zS [] λb9=>gX [0,0] 2 9 #[.string (mkS x1),.string (mkS x.name)] λg5=> ?_))
 refine x_appR (g:=y9) [1] x.of [] [⟨g5, #[.string (mkS x1),.string (mkS x.name)],9⟩] (ftB x b9::rcB r b1::o3) (⟨g5, #[.string (mkS x1),.string (mkS x.name)],9⟩::ftB x b9::rcB r b1::o3) (cp:=x.cap) (λw hO=>hO) zW strC_one (λw hO=>hru.on hO.below hO.below.size) (dM (N:=2) rfl (by unfold maxLen;omega)) Om λv' o' h=> ?_
 have hS:SlT v' (x1::x.name::x.of) o':=by
  unfold SlT
  rw [x5,show (x1::x.name::x.of).length=2+x.of.length by simp only [List.length_cons];omega]
  exact h
 refine qS [] ([]++o'++(ftB x b9::rcB r b1::o3)) [ftB x b9,rcB r b1] (o'++o3) (λw hO=>hO.perm (by
  have:=List.perm_append_comm_assoc o' [ftB x b9,rcB r b1] o3
  simpa using this)) (pY b3 done (x1::x.name::x.of) v' _ o' o3 ho hS Om Om (by simp only [List.length_cons];omega) (by simp [zE,x1])) λv2 o4 ⟨ob4,q1,q2⟩=> ?_
 subst q2
 rw [←hfT,hw2] at q1
 exact x_i 47 [] ((i3+1:Nat):Int) (zP [] (rcB r b1::ob4) (λw hO=>(hO.past 1 (rcB r b1::(o'++ob4))).sublist (List.Sublist.cons_cons _ (List.sublist_append_right _ _))) (nx (i3+1,ob4) (r.fts.length-(i3+1)) [] Om ⟨⟨hj,q1⟩,rfl⟩ Kr Kr))
theorem parts_ne {r:Rt}(h:(xE r).1=0):∀ n∈r.needs,∀ u∈n.any,∀ s∈u.fs,s≠[]:=λn hn u hu s hs=>by
 have h1:=(mR h).1 n hn
 have h2:=(fM h1).2.2.1 u hu
 have h3:=(pT h2).2.2
 unfold qM at h3
 simp only [Bool.and_eq_true] at h3
 exact wd_ne' (List.all_eq_true.1 h3.1.1.1 s hs)
theorem qCheck_any (r:Rv)(W:World)(hr:RcIn W W.heap.size r)(hK:RecLib W):YC 74 #[rvV r] W (YR (.tuple #[YI (zN r.rt).1,YI (zN r.rt).2]) W):=by
 have hE:zN r.rt=if nmL r.name=false then (4,0) else if r.ver.may=false then (5,0) else if 8<r.needs.length\/8<r.bars.length then (3,0) else if (xE r.rt).1≠0 then xE r.rt else if 4096<(yT r.rt).length then (3,0) else (0,0):=by
  unfold zN;simp only [Rv.rt,List.length_map]
 have hsn:=hr.sn;have hnn:=hr.nn;have hnb:=hr.nb;have hfn:=hr.fts.n
 have c1:∀ w,YC 69 #[.string (mkS r.name)] w (YR (.bool (nmL r.name)) w):=λw=>vN r.name w hsn.1
 have c2:∀ w,YC 91 #[yB r.ver] w (YR (.bool r.ver.may) w):=λw=>bT r.ver w (by show r.pre.length<_;omega) (by show r.bld.length<_;omega)
 refine z8 Tryz.func74 (zZ [] λb1=>z6 (v:= .bool (nmL r.name)) [0] (λw hO=>c1 w) (zL 16 (nmL r.name) (λe1=> ?_) (λe1=> ?_)))
 rotate_left
 ·exact zU [] (YI 4) (YI 0) λw hO=>⟨by rw [hE,if_pos e1],hO.below⟩
 rw [if_neg (by simp [e1])] at hE
 refine z6 (v:= .bool r.ver.may) [0] (λw hO=>c2 w) (zL 21 r.ver.may (λe2=> ?_) (λe2=> ?_))
 rotate_left
 ·exact zU [] (YI 5) (YI 0) λw hO=>⟨by rw [hE,if_pos e2],hO.below⟩
 rw [if_neg (by simp [e2])] at hE
 refine zD 27 [0] ((r.needs.length:Int)>8) (λh27=> ?_) (λh27=> ?_)
 ·exact zU [] (YI 3) (YI 0) λw hO=>⟨by rw [hE,if_pos (.inl Om)],hO.below⟩
 refine zD 32 [0] ((r.bars.length:Int)>8) (λh32=> ?_) (λh32=> ?_)
 ·exact zU [] (YI 3) (YI 0) λw hO=>⟨by rw [hE,if_pos (.inr Om)],hO.below⟩
 rw [if_neg Om] at hE
 have hP:=partsE_is r
 refine zO (α:=Nat) (λi=>[(1,Zp b1 0),(35,.slice r.nA r.needs.length r.nc),(36,YI (r.needs.length:Int)),(37,YI (i:Int))]) (λ_=>[rcB r b1]) (λi m=>(i<=r.needs.length∧∀ n∈r.needs.take i,xF r.name n.nt=0)/\m=r.needs.length-i) 0 r.needs.length [0] ⟨⟨Nat.zero_le _,λy h=>by simp at h⟩,rfl⟩ ?_
 rintro i mm g kk ⟨⟨hi,hno⟩,hmm⟩ nx hkk
 subst hkk
 refine zD 38 [] ((i:Int)<(r.needs.length:Int)) (λh38=> ?_) (λh38=> ?_)
 ·have hj:i<r.needs.length:=by omega
  obtain ⟨eb,eo,hA,hel⟩:=hr.needs.elem vT i hj
  have hgo:=y1 (p:=λn:Nv=>xF r.name n.nt=0) hj hno
  have hat:=vQ (f:=λn:Nv=>xF r.name n.nt) 0 hj hno
  have hsm:r.needs[i]∈r.needs:=List.getElem_mem hj
  have hel0:∀ w,YB W w->(loadVar 72 ⟨eb,eo+i*3+0,none⟩).run YP w= .ok (nvV r.needs[i]) w:=λw hw=>hel w hw _ 0 _ Kr
  have hra:=hr.any _ hsm;have hrf:=hr.wfs _ hsm;have hna:=hr.na _ hsm;have hnf:=hr.nf _ hsm;have hsw:=hr.sw _ hsm;have hsu:=hr.su _ hsm
  generalize r.needs[i]=n at hel0 hgo hat hra hrf hna hnf hsw hsu
  have hc:∀ w,YB W w->YC 112 #[nvV n,.string (mkS r.name)] w (YR (YI (xF r.name n.nt)) w):=λw hb=>qNeed_any r.name n w (hra.on hb hb.size) (λu hu=>(hrf u hu).on hb hb.size) hna hnf hsw hsu (hK.on hb)
  refine zK 40 [] hA r.needs.length r.nc i 3 hj (zH 41 [] 72 eb (eo+i*3+0) (nvV n) (λw hO=>hel0 w hO.below) (zS [] λb5=>z6 (v:=YI (xF r.name n.nt)) [0,0,1] (λw hO=>hc w hO.below) (kT 47 [] (xF r.name n.nt=0) (λh=> ?_) (λh=> ?_))))
  ·exact x_i 37 [] ((i+1:Nat):Int) (zP [] [rcB r b1] (λw hO=>hO.past 1 _) (nx (i+1) (r.needs.length-(i+1)) [] Om ⟨⟨hj,hgo h⟩,rfl⟩ Kr Kr))
  ·refine zU [] (YI (xF r.name n.nt)) (YI (i:Int)) λw hO=>⟨?_,hO.below⟩
   rw [hat h] at hP
   rw [if_pos h] at hP
   rw [hE,if_pos (by rw [hP];exact h),hP];simp only [Nat.zero_add]
 have h1:=kA (k:=0) (yP (p:=λn:Nv=>xF r.name n.nt=0) (show r.needs.length<=i by omega) hno)
 rw [h1,if_neg (by simp)] at hP
 clear nx
 refine zO (α:=Nat) (λi=>[(1,Zp b1 0),(52,.slice r.bA r.bars.length r.bc),(53,YI (r.bars.length:Int)),(54,YI (i:Int))]) (λ_=>[rcB r b1]) (λi m=>(i<=r.bars.length∧∀ b∈r.bars.take i,gP r.name b.bt=0)/\m=r.bars.length-i) 0 r.bars.length [0] ⟨⟨Nat.zero_le _,λy h=>by simp at h⟩,rfl⟩ ?_
 rintro i2 m2 g2 kk ⟨⟨hi2,hno2⟩,hmm2⟩ nx hkk
 subst hkk
 refine zD 55 [] ((i2:Int)<(r.bars.length:Int)) (λh55=> ?_) (λh55=> ?_)
 ·have hj:i2<r.bars.length:=by omega
  obtain ⟨eb,eo,hA,hel⟩:=hr.bars.elem bvC_len i2 hj
  have hgo:=y1 (p:=λb:Bv=>gP r.name b.bt=0) hj hno2
  have hat:=vQ (f:=λb:Bv=>gP r.name b.bt) 0 hj hno2
  have hsm:r.bars[i2]∈r.bars:=List.getElem_mem hj
  have hel0:∀ w,YB W w->(loadVar 102 ⟨eb,eo+i2*3+0,none⟩).run YP w= .ok (bvV r.bars[i2]) w:=λw hw=>hel w hw _ 0 _ Kr
  have hsb:=hr.sb _ hsm
  generalize r.bars[i2]=b at hel0 hgo hat hsb
  have hc:∀ w,YB W w->YC 113 #[bvV b,.string (mkS r.name)] w (YR (YI (gP r.name b.bt)) w):=λw hb=>qBar_any b r.name w hsb (hK.on hb)
  refine zK 57 [] hA r.bars.length r.bc i2 3 hj (zH 58 [] 102 eb (eo+i2*3+0) (bvV b) (λw hO=>hel0 w hO.below) (zS [] λb8=>z6 (v:=YI (gP r.name b.bt)) [0,0,1] (λw hO=>hc w hO.below) (kT 64 [] (gP r.name b.bt=0) (λh=> ?_) (λh=> ?_))))
  ·exact x_i 54 [] ((i2+1:Nat):Int) (zP [] [rcB r b1] (λw hO=>hO.past 1 _) (nx (i2+1) (r.bars.length-(i2+1)) [] Om ⟨⟨hj,hgo h⟩,rfl⟩ Kr Kr))
  ·refine zU [] (YI (gP r.name b.bt)) (YI (i2:Int)) λw hO=>⟨?_,hO.below⟩
   rw [hat h] at hP
   rw [if_pos h] at hP
   rw [hE,if_pos (by rw [hP];exact h),hP];simp only [Nat.zero_add]
 have h2:=kA (k:=0) (yP (p:=λb:Bv=>gP r.name b.bt=0) (show r.bars.length<=i2 by omega) hno2)
 rw [h2,if_neg (by simp)] at hP
 clear nx
 have hM:∀ w,YB W w->YC 114 #[.slice r.fA r.fts.length r.fc] w (YR (.bool (qQ (y5 r.fts))) w):=λw hb=>fMay_at r.fA r.fc r.fts w (hr.fts.on hb hb.size)
 refine z6 (v:= .bool (qQ (y5 r.fts))) [0] (λw hO=>hM w hO.below) (zL 70 (qQ (y5 r.fts)) (λe3=> ?_) (λe3=> ?_))
 rotate_left
 ·rw [if_pos e3] at hP
  exact zU [] (YI 11) (YI 0) λw hO=>⟨by rw [hE,if_pos (by rw [hP];decide),hP],hO.below⟩
 rw [if_neg (by simp [e3])] at hP
 refine zO (α:=Nat) (λi=>[(1,Zp b1 0),(73,.slice r.fA r.fts.length r.fc),(74,YI (r.fts.length:Int)),(75,YI (i:Int))]) (λ_=>[rcB r b1]) (λi m=>(i<=r.fts.length∧∀ f∈r.fts.take i,y8 (yL r.rt.needs) f.of=0)/\m=r.fts.length-i) 0 r.fts.length [0] ⟨⟨Nat.zero_le _,λy h=>by simp at h⟩,rfl⟩ ?_
 rintro i3 m3 g3 kk ⟨⟨hi3,hno3⟩,hmm3⟩ nx hkk
 subst hkk
 refine zD 76 [] ((i3:Int)<(r.fts.length:Int)) (λh76=> ?_) (λh76=> ?_)
 ·have hj:i3<r.fts.length:=by omega
  obtain ⟨eb,eo,hA,hel⟩:=hr.fts.top.elem qE i3 hj
  have hgo:=y1 (p:=λf:Fv=>y8 (yL r.rt.needs) f.of=0) hj hno3
  have hat:=vQ (f:=λf:Fv=>y8 (yL r.rt.needs) f.of) 0 hj hno3
  have hsm:r.fts[i3]∈r.fts:=List.getElem_mem hj
  have hel0:∀ w,YB W w->(loadVar 148 ⟨eb,eo+i3*2+0,none⟩).run YP w= .ok (fvV r.fts[i3]) w:=λw hw=>hel w hw _ 0 _ Kr
  have hru:=hr.fts.each _ hsm;have hmu:=hr.fts.m _ hsm;have htu:=hr.fts.text _ hsm
  generalize r.fts[i3]=u at hel0 hgo hat hru hmu htu
  have hc:∀ w,YB W w->YC 115 #[.slice u.A u.of.length u.cap,.slice r.nA r.needs.length r.nc] w (YR (YI (y8 (yL r.rt.needs) u.of)) w):=λw hb=>qItems_any u.A u.cap u.of r.nA r.nc r.needs w (hru.on hb hb.size) Om htu (hr.needs.on hb hb.size) hnn λn hn=>(hr.any n hn).on hb hb.size
  refine zK 78 [] hA r.fts.length r.fc i3 2 hj (zH 79 [] 148 eb (eo+i3*2+0) (fvV u) (λw hO=>hel0 w hO.below) (zS [] λb9=>z6 (v:=YI (y8 (yL r.rt.needs) u.of)) [0,0,1] (λw hO=>hc w hO.below) (kT 86 [] (y8 (yL r.rt.needs) u.of=0) (λh=> ?_) (λh=> ?_))))
  ·exact x_i 75 [] ((i3+1:Nat):Int) (zP [] [rcB r b1] (λw hO=>hO.past 1 _) (nx (i3+1) (r.fts.length-(i3+1)) [] Om ⟨⟨hj,hgo h⟩,rfl⟩ Kr Kr))
  ·refine zU [] (YI (y8 (yL r.rt.needs) u.of)) (YI (i3:Int)) λw hO=>⟨?_,hO.below⟩
   rw [hat h] at hP
   rw [hE,if_pos (by rw [hP];exact h),hP];simp only [Nat.zero_add]
 rw [kA (k:=0) (yP (p:=λf:Fv=>y8 (yL r.rt.needs) f.of=0) (show r.fts.length<=i3 by omega) hno3)] at hP
 clear nx
 have h33:(xE r.rt).1=0:=by rw [hP]
 rw [if_neg (λh=>h h33)] at hE
 have hs:(yT r.rt).length<=100000000:=rec_small (r:=r.rt) hsn.1 (nN hsn.2.1 hsn.2.2) (by simp only [Rv.rt,List.length_map];omega) (by simp only [Rv.rt,List.length_map];omega) h33 (λf hf s hs=>by
  obtain ⟨y,hy,rfl⟩:=List.mem_map.1 hf
  exact hr.fts.text y hy s hs)
 have hne:=parts_ne h33
 have c4:∀ w,YB W w->YC 75 #[rvV r] w (YR (.string (mkS (yT r.rt))) w):=λw hb=>qText_any r w (hr.on hb hb.size) (λn hn u hu=>hne n.nt (List.mem_map.2 ⟨n,hn,rfl⟩) u.wt (List.mem_map.2 ⟨u,hu,rfl⟩)) hs (hK.on hb)
 have hz:(mkS (yT r.rt)).size=(yT r.rt).length:=qX _
 refine z6 (v:= .string (mkS (yT r.rt))) [0] (λw hO=>c4 w hO.below) (zD 93 [] (((mkS (yT r.rt)).size:Int)>4096) (λh93=> ?_) (λh93=> ?_))
 ·exact zU [] (YI 3) (YI 0) λw hO=>⟨by rw [hE,if_pos Om],hO.below⟩
 ·exact zU [] (YI 0) (YI 0) λw hO=>⟨by rw [hE,if_neg Om],hO.below⟩
theorem qPrint_any (r:Rv)(W:World)(hr:RcIn W W.heap.size r)(hK:RecLib W):YC 38 #[rvV r] W (YR (.tuple #[.string (mkS (j9 r.rt)),YI (zN r.rt).1]) W):=by
 have c1:∀ w,YB W w->YC 74 #[rvV r] w (YR (.tuple #[YI (zN r.rt).1,YI (zN r.rt).2]) w):=λw hb=>qCheck_any r w (hr.on hb hb.size) (hK.on hb)
 refine z8 Tryz.func38 (zZ [] λb1=>z6 (v:= .tuple #[YI (zN r.rt).1,YI (zN r.rt).2]) [0] (λw hO=>c1 w hO.below) (kT 12 [] ((zN r.rt).1=0) (λh=> ?_) (λh=> ?_)))
 rotate_left
 ·exact zU [] (.string ⟨#[]⟩) (YI (zN r.rt).1) λw hO=>⟨by rw [show j9 r.rt=[] from if_neg h];rfl,hO.below⟩
 have hne:=parts_ne (yN h).2.2.2.2.1
 have c2:∀ w,YB W w->YC 75 #[rvV r] w (YR (.string (mkS (yT r.rt))) w):=λw hb=>qText_any r w (hr.on hb hb.size) (λn hn u hu=>hne n.nt (List.mem_map.2 ⟨n,hn,rfl⟩) u.wt (List.mem_map.2 ⟨u,hu,rfl⟩)) (by have:=(yN h).2.2.2.2.2;omega) (hK.on hb)
 exact z6 (v:= .string (mkS (yT r.rt))) [0] (λw hO=>c2 w hO.below) (zU [] (.string (mkS (yT r.rt))) (YI 0) λw hO=>⟨by rw [show j9 r.rt=yT r.rt from if_pos h,h],hO.below⟩)
theorem qSum_any (r:Rv)(W:World)(hr:RcIn W W.heap.size r)(hK:RecLib W):YC 50 #[rvV r] W (YR (.tuple #[.int .u64 (yE r.rt),YI (zN r.rt).1]) W):=by
 have c1:∀ w,YB W w->YC 38 #[rvV r] w (YR (.tuple #[.string (mkS (j9 r.rt)),YI (zN r.rt).1]) w):=λw hb=>qPrint_any r w (hr.on hb hb.size) (hK.on hb)
 refine z8 Tryz.func50 (zZ [] λb1=>z6 (v:= .tuple #[.string (mkS (j9 r.rt)),YI (zN r.rt).1]) [0] (λw hO=>c1 w hO.below) (kT 12 [] ((zN r.rt).1=0) (λh=> ?_) (λh=> ?_)))
 rotate_left
 ·exact zU [] (.int .u64 0) (YI (zN r.rt).1) λw hO=>⟨by rw [show yE r.rt=0 from if_neg h],hO.below⟩
 have hl:(yT r.rt).length<=4096:=(yN h).2.2.2.2.2
 have hp:j9 r.rt=yT r.rt:=if_pos h
 rw [hp]
 refine x_bytes 15 [] (yT r.rt) (src:=9) (dst:=36) (e:=5) (x:= .tmp 14) λw0 w1 cap hO hB hb hlt hcap=> ?_
 have hb0:=hO.below
 have c2:∀ w,YB w1 w->YC 90 #[.slice (some ⟨w0.heap.size,0,none⟩) (yT r.rt).length cap] w (YR (.int .u64 ((fX (yT r.rt)).toNat:Int)) w):=λw hw=>d9Sum_any _ cap (yT r.rt) w (hB.reads.on hw hw.size) Om
 exact z6 (v:= .int .u64 ((fX (yT r.rt)).toNat:Int)) [] (λw hO=>c2 w hO.below) (zU [] (.int .u64 ((fX (yT r.rt)).toNat:Int)) (YI 0) λw hO2=>⟨by rw [show yE r.rt=_ from if_pos h,h],hb0.trans ((hb.mono hb0.size).trans (hO2.below.mono (Nat.le_trans hb0.size (Nat.le_of_lt hlt))))⟩)
end
section
set_option linter.unnecessarySimpa false
def rdL (x:Rv)(n1 n2 n3:Value)(k rb:Nat):Blk:=⟨rb, #[.string (mkS x.name),YI x.maj,YI x.min,YI x.pat,.string (mkS x.pre),.string (mkS x.bld),n1,n2,n3,YI (k:Int)],215⟩
end
section
set_option linter.unnecessarySimpa false
end
section
set_option linter.unnecessarySimpa false
def layC:Array Value:=(lays.flatMap λl=>(laV l).cells.toList).toArray
structure LyAt (W:World):Prop where
 lt:1<W.heap.size
 held:∃ T,W.heap[(1:Nat)]?=some (.cells layC T)
end
section
set_option linter.unnecessarySimpa false
section
variable {M:List Nat}{P:Program}{n:Nat}{W:World}{Q:Exit->Act->World->Prop}{c:Xc}
end
structure TakeB (rb k:Nat)(x:Rv)(s:YL)(ob:List Blk)(W:World)(e:Ending)(w':World):Prop where
 ex:∃ b x' k' ob',e= .returned (.bool b)/\RdR rb k' x' ob'/\Own (ob.map Blk.b) W w' ob'/\(match takeIn x.rt k s lays with|some (y,kk)=>b=true/\x'.rt=y/\k'=kk|none=>b=false)
end
section
def noDef (o:Oper):Bool:=match o.op with
 | .defer _=>false
 |_=>true
section
variable {M:List Nat}{P:Program}{n:Nat}{W:World}{Q:Exit->Act->World->Prop}{c:Xc}
def xRg (c:Xc):Nat:=match c.top with
 | .code (.region id _ _)=>id
 |_=>0
def yo (c:Xc)(i:Nat):Oper:=match c.top with
 | .code (.region _ a _)=>a.getD i default
 |_=>default
def yF (d:Xc)(v0 v1:Value):Nat->Value:=upd (upd d.f (yo d 0).dst v0) (yo d 1).dst v1
def yF3 (d:Xc)(v0 v1:Value)(b:Bool):Nat->Value:=upd (upd (yF d v0 v1) (yo d 2).dst (.bool b)) (yo d 3).dst (.bool (!b))
def yA (d:Xc):Array Oper:= #[yo d 0,yo d 1,yo d 2,yo d 3]
end
end
section
def lnH (r:YL):YL:=if (zA 10 r).2.2 then (zA 10 r).1++[10] else r
def lnR (r:YL):YL:=if (zA 10 r).2.2 then (zA 10 r).2.1 else []
section
variable {M:List Nat}{P:Program}{n:Nat}{W:World}{Q:Exit->Act->World->Prop}{c:Xc}
end
def strB (B:Nat)(r:YL):Blk:=⟨B, #[.string (mkS r)],9⟩
end
section
def mkQ (P:Program)(fn:Func)(R:Ending->World->Prop):Exit->Act->World->Prop
 | .normal,a,w| .ret,a,w=>LeavesInM Fence.wide 0 P fn a.tmps R a.defers .returning w
 |_,_,_=>False
def rndQ (M1:List Nat)(B:Nat)(r:YL)(rel:YL->List Blk->Prop)(relx:List Blk->Prop)(Wr:World):Exit->Act->World->Prop
 | .normal,_,w=>∃ L',rel r L'/\Own M1 Wr w (strB B r::L')
 | .ret,_,w=>∃ L',relx L'/\Own M1 Wr w L'
 |_,_,_=>False
end
section
def resA:Nat->Rt->Nat->Nat->YL->Int×Rt×Nat
 |0,x,k,i,_=>(0,x,k)
 |f+1,x,k,i,r=>
  if r=[] then (0,x,k)
  else if (zA 10 r).2.2 then
   match takeIn x k (zA 10 r).1 lays with
   |some (y,kk)=>resA f y kk (i+1) (zA 10 r).2.1
   |none=>(((i+1:Nat):Int),x,k)
  else (((i+1:Nat):Int),x,k)
structure FewR (x:Rt)(m:Nat):Prop where
 n:x.needs.length<=m
 b:x.bars.length<=m
 f:x.fts.length<=m
 a:∀ n∈x.needs,n.any.length<=m
def badA (s:YL):Int:=if s=[] then 1 else (resA s.length nilT 0 0 s).1
def recA (s:YL):Rt:=(resA s.length nilT 0 0 s).2.1
end
section
set_option linter.unnecessarySimpa false
def findRF:Code->Code×Code
 | .rangeFunc _ _ a b=>(a,b)
 | .seq x y=>match findRF x with
  |(.skip,.skip)=>findRF y
  |r=>r
 | .block _ x=>findRF x
 |_=>(.skip,.skip)
def w7 (i:Nat):Code->Array Oper
 | .region j a _=>if j=i then a else #[]
 | .seq x y=>if (w7 i x).size=0 then w7 i y else w7 i x
 | .cond _ x y=>if (w7 i x).size=0 then w7 i y else w7 i x
 | .block _ x=>w7 i x
 | .rangeFunc _ _ x y=>if (w7 i x).size=0 then w7 i y else w7 i x
 |_=> #[]
section
variable {M:List Nat}{P:Program}{n:Nat}{W:World}{Q:Exit->Act->World->Prop}{c:Xc}
end
end
section
set_option linter.unnecessarySimpa false
def intB (b:Nat)(z:Int):Blk:=⟨b, #[YI z],3⟩
def tkV (rb:Nat):Value:= .func (.func 183) #[.pointer (some ⟨rb,0,none⟩)] #[]
def fnB (b rb:Nat):Blk:=⟨b, #[tkV rb],114⟩
structure RefB (rb:Nat)(s:YL)(ob:List Blk)(W:World)(e:Ending)(w':World):Prop where
 ex:∃ x' k' ob',e= .returned (YI (badA s))/\RdR rb k' x' ob'/\Own (ob.map Blk.b) W w' ob'/\(s≠[]->badA s=0->x'.rt=recA s/\FewR x'.rt 4096)
noncomputable abbrev qRF:Code×Code:=findRF (Tryz.f182.body.getD .skip)
noncomputable abbrev qRg (i:Nat):Array Oper:=w7 i (Tryz.f182.body.getD .skip)
structure RefI (rb b3 b4 b5:Nat)(s r:YL)(L:List Blk):Prop where
 ex:∃ x k i ob fu,L=intB b5 ((i:Nat):Int)::intB b4 0::fnB b3 rb::ob/\RdR rb k x ob/\InvA x.rt k/\FewR x.rt i/\i+r.length<=s.length/\r.length<=fu/\resA fu x.rt k i r=resA s.length nilT 0 0 s
structure RefX (rb b3 b4 b5:Nat)(s:YL)(L:List Blk):Prop where
 ex:∃ x k i ob,L=intB b5 i::intB b4 (badA s)::fnB b3 rb::ob/\RdR rb k x ob/\badA s≠0
def bLv (b3 b4 b5:Nat):List (Nat×Value):=[(3,.pointer (some ⟨b3,0,none⟩)),(4,.pointer (some ⟨b4,0,none⟩)),(5,.pointer (some ⟨b5,0,none⟩))]
noncomputable abbrev qAs:Oper:=(qRg 5).getD 0 default
noncomputable abbrev qSt:Oper:=(qRg 10).getD 0 default
def aLv (b3 b4 b5 B:Nat):List (Nat×Value):=[(3,.pointer (some ⟨b3,0,none⟩)),(4,.pointer (some ⟨b4,0,none⟩)),(5,.pointer (some ⟨b5,0,none⟩)),(12,.func (.func 83) #[] #[.pointer (some ⟨B,0,none⟩)])]
end
section
structure BndN (n:Nt):Prop where
 wh:GdM n.wh
 opt:n.opt.length<=5000
 any:∀ u∈n.any,u.name.length<=5000/\GdR u.rng/\u.fs.length<=5000∧∀ t∈u.fs,t.length<=5000
structure BndR (x:Rt):Prop where
 name:x.name.length<=5000
 pre:x.ver.pre.length<=1000000
 bld:x.ver.build.length<=1000000
 needs:∀ n∈x.needs,BndN n
 bars:∀ b∈x.bars,b.name.length<=5000/\GdR b.rng/\GdM b.wh
 fts:∀ f∈x.fts,f.name.length<=5000/\f.of.length<=5000∧∀ t∈f.of,t.length<=5000
end
section
set_option linter.unnecessarySimpa false
theorem rec_inn {x:Rv}{o1 o2 o4 o7 o8 L:List Blk}{M:List Nat}{W w:World}(h1:NsO x.nA x.nc x.needs o1 o2)(h4:Sl 102 3 (.slice x.bA x.bars.length x.bc) x.bars.length (x.bars.flatMap bvC) o4)(h7:FtO x.fA x.fc x.fts o7 o8)(hO:Own M W w L)(s1:∀ b∈o1,b∈L)(s2:∀ b∈o2,b∈L)(s4:∀ b∈o4,b∈L)(s7:∀ b∈o7,b∈L)(s8:∀ b∈o8,b∈L)(hB:BndR x.rt)(hF:FewR x.rt 4096):RcIn w w.heap.size x:=by
 obtain ⟨r1,r2⟩:=h1.reads hO s1 s2
 have hN:∀ n∈x.needs,BndN n.nt:=λn hn=>hB.needs n.nt (List.mem_map.2 ⟨n,hn,rfl⟩)
 have hA:∀ n∈x.needs,∀ u∈n.any,u.name.length<=5000/\GdR u.rng/\u.fs.length<=5000∧∀ t∈u.fs,t.length<=5000:=λn hn u hu=>(hN n hn).any u.wt (List.mem_map.2 ⟨u,hu,rfl⟩)
 have hBr:∀ b∈x.bars,b.name.length<=5000/\GdR b.rng/\GdM b.wh:=λb hb=>hB.bars b.bt (List.mem_map.2 ⟨b,hb,rfl⟩)
 have hFt:∀ f∈x.fts,f.name.length<=5000/\f.of.length<=5000∧∀ t∈f.of,t.length<=5000:=λf hf=>hB.fts f.ft (List.mem_map.2 ⟨f,hf,rfl⟩)
 have l1:x.needs.length<=4096:=by have:=hF.n;unfold Rv.rt at this;simpa using this
 have l2:x.bars.length<=4096:=by have:=hF.b;unfold Rv.rt at this;simpa using this
 have l3:x.fts.length<=4096:=by have:=hF.f;simp only [Rv.rt,y5] at this;simpa using this
 refine ⟨r1,r2,λn hn u hu=> ?_,Sl.reads h4 rfl hO s4,⟨Sl.reads h7.top rfl hO s7,λf hf=> ?_,by omega,λf hf=>(hFt f hf).2.1,λf hf=>by have:=(hFt f hf).1;omega,λf hf t ht=>by have:=(hFt f hf).2.2 t ht;omega⟩,by omega,λn hn=> ?_,λn hn u hu=>(hA n hn u hu).2.2.1,by omega,⟨by have:=hB.name;show x.name.length<=_;exact Nat.le_trans this (by decide),hB.pre,hB.bld⟩,λn hn=>⟨gqM_of (hN n hn).wh,Nat.le_trans (hN n hn).opt (by decide)⟩,λn hn u hu=>⟨by have:=(hA n hn u hu).1;omega,gqR_of (hA n hn u hu).2.1,λt ht=>by have:=(hA n hn u hu).2.2.2 t ht;omega⟩,λb hb=>by have:=hBr b hb;exact ⟨Nat.le_trans this.1 (by decide),gqR_of this.2.1,gqM_of this.2.2⟩⟩
 ·obtain ⟨o,⟨⟨p1,p2,rfl,hp,he⟩⟩,ho⟩:=h1.each n hn
  obtain ⟨o',q1,q2⟩:=he u hu
  exact SlT.reads q1 rfl hO λb hb=>s2 b (ho b (List.mem_append_right _ (q2 b hb)))
 ·obtain ⟨o,ho,hs⟩:=h7.each f hf
  exact SlT.reads ho rfl hO λb hb=>s8 b (hs b hb)
 ·have:=hF.a n.nt (List.mem_map.2 ⟨n,hn,rfl⟩)
  unfold Nv.nt at this
  simp only [List.length_map] at this
  omega
section
variable {M:List Nat}{P:Program}{n:Nat}{W:World}{Q:Exit->Act->World->Prop}{c:Xc}
end
structure ParB (s:YL)(W:World)(e:Ending)(w':World):Prop where
 ex:∃ x ob',e= .returned (.tuple #[rvV x,YI (readT s).2.1,YI (readT s).2.2])/\x.rt=(readT s).1/\RecO x ob'/\BndR x.rt/\FewR x.rt 4096/\Own [] W w' ob'
def rv0:Rv:=⟨[],0,0,0,[],[],none,0,[],none,0,[],none,0,[]⟩
end
section
set_option linter.unnecessarySimpa false
def wsO (x:Wv)(o:List Blk):Prop:=SlT (.slice x.A x.fs.length x.cap) x.fs o
def fsO (x:Fv)(o:List Blk):Prop:=SlT (.slice x.A x.of.length x.cap) x.of o
def nsO (x:Nv)(o:List Blk):Prop:=WsO x.A x.cap x.any o
def bsO (x:Bv)(o:List Blk):Prop:=o=[]
def esO (x:Ev)(o:List Blk):Prop:=RecO x.rec' o
end
section
set_option linter.unnecessarySimpa false
end
section
set_option linter.unnecessarySimpa false
end
section
set_option linter.unnecessarySimpa false
theorem op_eq_verQ {ρ:Operand->Value}{o:Oper}{t':TypeId}{x y:Operand}{u v:Ver}{b:Bool}(ho:o.op= .binOp .eql 42 x y t')(hx:ρ x=yB u)(hy:ρ y=yB v)(hb:decide (u=v)=b)(w:World):(execOp ρ o).run YP w= .ok (.value (.bool b)) w:=
 run_eq_op ho hx hy guard_ver (λw=>hb▸eq_ver u v 9998 w) w
section
variable {M:List Nat}{n:Nat}{W:World}{Q:Exit->Act->World->Prop}{c:Xc}
theorem x_eqa {α:Type}{p:α->α->Prop}[∀ u v,Decidable (p u v)](T:TypeId)(enc:α->Value)(hrun:∀ {ρ:Operand->Value} {o:Oper} {t':TypeId} {x y:Operand} {u v:α} {b:Bool},o.op= .binOp .eql T x y t'->ρ x=enc u->ρ y=enc v->decide (p u v)=b→∀ w,(execOp ρ o).run YP w= .ok (.value (.bool b)) w)
  (d:Nat) (h:List Nat) (u v:α) (h1:p u v->zB M YP n W Q ((xgo YP n (d+50000) h c).put (.bool true))) (h2:¬ p u v->zB M YP n W Q ((xgo YP n (d+50000) h c).put (.bool false)))
  (hkt:(xgl YP n (d+50000) h c,xW n (xgo YP n (d+50000) h c),(xO (xgo YP n (d+50000) h c)).op,ev n (xgo YP n (d+50000) h c).f (oX (xO (xgo YP n (d+50000) h c))),ev n (xgo YP n (d+50000) h c).f (oY (xO (xgo YP n (d+50000) h c))))=(xgr YP n (d+50000) h c,true,.binOp .eql T (oX (xO (xgo YP n (d+50000) h c))) (oY (xO (xgo YP n (d+50000) h c))) (oU (xO (xgo YP n (d+50000) h c))),enc u,enc v):=by kernel_rfl):zB M YP n W Q c:=by
 simp only [Prod.mk.injEq] at hkt
 obtain ⟨hk,e1,e2,e3,e4⟩:=hkt
 by_cases hp:p u v
 ·exact zM h c hk (x9 e1 (λw=>hrun e2 e3 e4 (decide_eq_true hp) w) (h1 hp))
 ·exact zM h c hk (x9 e1 (λw=>hrun e2 e3 e4 (decide_eq_false hp) w) (h2 hp))
end
def stV (s:YL):Value:= .string (mkS s)
end
section
theorem fm_count {α:Type}(f:α->YL)(h:∀ x,1<=(f x).length):∀ l:List α,l.length<=(l.flatMap f).length
 | []=>Nat.zero_le _
 |x::l=>by
  have:=fm_count f h l
  have:=h x
  rw [List.flatMap_cons,List.length_append,List.length_cons];omega
theorem chk_bnd {r:Rt}(h:(zN r).1=0):BndR r/\FewR r 4096:=by
 obtain ⟨h1,h2,h3,h4,h5,h6⟩:=yN h
 obtain ⟨pn,pb,_,_⟩:=mR h5
 have hl:(gB r).length+(r.fts.flatMap xM).length<=4096:=by
  unfold yT at h6
  simp only [List.length_append] at h6;omega
 have hv:r.ver.pre.length<=4096/\r.ver.build.length<=4096:=by
  have e:r.ver.print=p9 r.ver++kD 45 r.ver.pre++kD 43 r.ver.build:=by unfold Ver.print Ver.text;rw [if_pos h2]
  have hh:(gB r).length<=4096:=by omega
  unfold gB at hh
  rw [e] at hh
  have ht:∀ (c:UInt8) (l:YL),l.length<=(kD c l).length:=λc l=>by
   unfold kD;cases l<;>simp
  have a:=ht 45 r.ver.pre
  have b:=ht 43 r.ver.build
  simp only [List.length_append] at hh
  omega
 have hf:∀ f∈r.fts,(xM f).length<=4096:=λf hf=>Nat.le_trans (tF xM hf) Om
 refine ⟨⟨Nat.le_trans (gZ h1) (by decide),by omega,by omega,λn hn=> ?_,λb hb=> ?_,λf hm=> ?_⟩,⟨by omega,by omega,Nat.le_trans (fm_count xM (λf=>by unfold xM;simp) r.fts) (by omega),λn hn=>by have:=(fM (pn n hn)).2.1;omega⟩⟩
 ·obtain ⟨_,_,q3,q4,q5⟩:=fM (pn n hn)
  refine ⟨gdM_of q4, ?_,λu hu=> ?_⟩
  ·rcases q5 with e|e
   ·rw [e];exact Nat.zero_le _
   ·exact Nat.le_trans (dG e) (by decide)
  ·obtain ⟨u1,u2,u3⟩:=pT (q3 u hu)
   unfold qM at u3
   simp only [Bool.and_eq_true,decide_eq_true_eq,List.all_eq_true] at u3
   exact ⟨Nat.le_trans (gZ u1) (by decide),gdR_of u2,by omega,λt ht=>Nat.le_trans (dG (u3.1.1.1 t ht)) (by decide)⟩
 ·obtain ⟨q1,q2,q3⟩:=bar_fine (pb b hb)
  exact ⟨Nat.le_trans (gZ q1) (by decide),gdR_of q2,gdM_of q3⟩
 ·have hq:=hf f hm
  unfold xM at hq
  rw [List.length_append,List.length_singleton] at hq
  have hp:=λx (hx:x∈x1::f.name::f.of)=>jn_part 32 hx
  have hc:=jn_many 32 (l:=x1::f.name::f.of)
  simp only [List.length_cons] at hc
  refine ⟨by have:=hp f.name (by simp);omega,by omega,λt ht=>by have:=hp t (by simp [ht]);omega⟩
end
section
theorem mL {k:FuncId}{args:Array Value}{w:World}{v:Value}(h:Calls YP k args w λe w'=>e= .returned v/\w'=w):Calls YP k args w (YR v w):=h.mono λe w' ⟨q1,q2⟩=>⟨q1,q2.symm▸Below.refl _ _⟩
def intC (n:Int):List Value:=[YI n]
theorem intC_len (n:Int):(intC n).length=1:=rfl
theorem or3_q (A:Option Addr)(x y z:Int)(W:World)(hv:Reads intC W W.heap.size A [x,y,z]):YC 144 #[.slice A 3 3] W (YR (YI (if x≠0 then x else if y≠0 then y else z)) W):=by
 obtain ⟨b,o,hA,h0⟩:=hv.elem intC_len 0 (by simp)
 obtain ⟨b1,o1,e1,h1⟩:=hv.elem intC_len 1 (by simp)
 obtain ⟨b2,o2,e2,h2⟩:=hv.elem intC_len 2 (by simp)
 subst hA
 simp only [Option.some.injEq,Addr.mk.injEq,and_true] at e1 e2
 obtain ⟨rfl,rfl⟩:=e1
 obtain ⟨rfl,rfl⟩:=e2
 have l0:∀ w,YB W w->(loadVar 3 ⟨b,o+0*1+0,none⟩).run YP w= .ok (YI x) w:=λw hw=>h0 w hw _ 0 _ Kr
 have l1:∀ w,YB W w->(loadVar 3 ⟨b,o+1*1+0,none⟩).run YP w= .ok (YI y) w:=λw hw=>h1 w hw _ 0 _ Kr
 have l2:∀ w,YB W w->(loadVar 3 ⟨b,o+2*1+0,none⟩).run YP w= .ok (YI z) w:=λw hw=>h2 w hw _ 0 _ Kr
 refine z8 Tryz.func144 (jQ 3 [] (zK 10 [] (b:=b) (off:=o) rfl 3 3 0 1 (by decide) (zH 11 [] 3 b (o+0*1+0) (YI x) (λw hO=>l0 w hO.below) (kT 14 [] (x=0) (λhx=> ?_) (λhx=> ?_)))))
 rotate_left
 ·exact z7 [] (YI x) λw hO=>⟨by rw [if_pos hx],hO.below⟩
 refine x_i 16 [] 1 (zK 10 [] (b:=b) (off:=o) rfl 3 3 1 1 (by decide) (zH 11 [] 3 b (o+1*1+0) (YI y) (λw hO=>l1 w hO.below) (kT 14 [] (y=0) (λhy=> ?_) (λhy=> ?_))))
 rotate_left
 ·exact z7 [] (YI y) λw hO=>⟨by rw [if_neg (λh=>h hx),if_pos hy],hO.below⟩
 refine x_i 16 [] 2 (zK 10 [] (b:=b) (off:=o) rfl 3 3 2 1 (by decide) (zH 11 [] 3 b (o+2*1+0) (YI z) (λw hO=>l2 w hO.below) (kT 14 [] (z=0) (λhz=> ?_) (λhz=> ?_))))
 ·exact x_i 16 [] 3 (z7 [] (YI 0) λw hO=>⟨by rw [if_neg (λh=>h hx),if_neg (λh=>h hy),hz],hO.below⟩)
 ·exact z7 [] (YI z) λw hO=>⟨by rw [if_neg (λh=>h hx),if_neg (λh=>h hy)],hO.below⟩
def fourQ (l:List YL):List YL:=[tg l 0,tg l 1,tg l 2,tg l 3]
theorem fourQ_at (l:List YL):∀ (k:Nat) (h:k<4),(fourQ l)[k]'h=tg l k
 |0,_=>rfl
 |1,_=>rfl
 |2,_=>rfl
 |3,_=>rfl
theorem tails_q (l:List YL)(k:Nat):tg (l.drop k) 0=tg l k:=by unfold tg;simp
theorem cfunc_q (A B:Option Addr)(l m:List YL)(W:World)(hx:Reads y9 W W.heap.size A (fourQ l))(hy:Reads y9 W W.heap.size B (fourQ m))(hl:∀ i,(tg l i).length<=8)(hm:∀ i,(tg m i).length<=8):YC 190 #[.slice A 4 4,.slice B 4 4,.func (.func 191) #[] #[]] W (YR (YI (pX 4 l m)) W):=by
 refine z8 Tryz.func190 (zO (α:=Nat) (λi=>[(0,.slice A 4 4),(1,.slice B 4 4),(2,.func (.func 191) #[] #[]),(11,.slice A 4 4),(12,YI 4),(13,YI (i:Int))]) (λ_=>[]) (λi k=>(i<=4/\pX (4-i) (l.drop i) (m.drop i)=pX 4 l m)/\k=4-i) 0 4 [] ⟨⟨by decide,rfl⟩,rfl⟩ ?_)
 rintro i mm g kk ⟨⟨hi,hs⟩,hmm⟩ nx hkk
 subst hkk
 refine zD 14 [] ((i:Int)<4) (λh=> ?_) (λh=> ?_)
 rotate_left
 ·have e:i=4:=by omega
  subst e
  exact z7 [] (YI 0) λw hO=>⟨by rw [←hs];rfl,hO.below⟩
 have hj:i<4:=by omega
 obtain ⟨eb,eo,hA,hel⟩:=hx.elem zW i hj
 obtain ⟨fb,fo,hB,hel2⟩:=hy.elem zW i hj
 have q1:∀ w,YB W w->(loadVar 9 ⟨eb,eo+i*1+0,none⟩).run YP w= .ok (.string (mkS ((fourQ l)[i]'hj))) w:=λw hw=>hel w hw _ 0 _ Kr
 have q2:∀ w,YB W w->(loadVar 9 ⟨fb,fo+i*1+0,none⟩).run YP w= .ok (.string (mkS ((fourQ m)[i]'hj))) w:=λw hw=>hel2 w hw _ 0 _ Kr
 rw [fourQ_at l i hj] at q1
 rw [fourQ_at m i hj] at q2
 have hst:pX (4-i) (l.drop i) (m.drop i)=if mV (tg l i) (tg m i)≠0 then mV (tg l i) (tg m i) else pX (4-(i+1)) (l.drop (i+1)) (m.drop (i+1)):=by
  obtain ⟨n,hn⟩:∃ n,4-i=n+1:=⟨3-i,by omega⟩
  rw [hn,pX,tails_q,tails_q,List.tail_drop,List.tail_drop,show 4-(i+1)=n by omega]
 have hc:∀ w,YC 191 #[.string (mkS (tg l i)),.string (mkS (tg m i))] w (YR (YI (mV (tg l i) (tg m i))) w):=λw=>compareTag_any _ _ w (by have:=hl i;omega) (by have:=hm i;omega)
 rw [hst] at hs
 generalize tg l i=u at*
 generalize tg m i=v at*
 generalize mV u v=z at*
 refine zK 16 [] hA 4 4 i 1 hj (zH 17 [] 9 eb (eo+i*1+0) (.string (mkS u)) (λw hO=>q1 w hO.below) (zD 21 [] ((i:Int)>=4) (λh=>absurd h (by omega)) (λ_=>zK 24 [] hB 4 4 i 1 hj (zH 25 [] 9 fb (fo+i*1+0) (.string (mkS v)) (λw hO=>q2 w hO.below) (z6 (v:=YI z) [] (λw hO=>hc w) (kT 31 [] (z=0) (λhz=> ?_) (λhz=> ?_)))))))
 ·exact x_i 33 [] ((i+1:Nat):Int) (nx (i+1) (4-(i+1)) [] Om ⟨⟨hj,by rw [if_neg (λq=>q hz)] at hs;exact hs⟩,rfl⟩ Kr Kr)
 ·exact z7 [] (YI z) λw hO=>⟨by rw [if_pos hz] at hs;rw [hs],hO.below⟩
theorem cpre_q (a b:YL)(W:World)(ha:a.length<=1000000)(hb:b.length<=1000000):YC 146 #[.string (mkS a),.string (mkS b)] W (YR (YI (cpre a b)) W):=by
 have hd:cpre a b=if a=[] then 1 else if b=[] then-1 else pX 4 (lst a).1 (lst b).1:=rfl
 have cA:=λw'=>pD a w' Om
 have cB:=λw'=>pD b w' Om
 have hl:=tg_len a
 have hm:=tg_len b
 rw [hd]
 generalize (lst a).2=p at*
 generalize (lst b).2=q at*
 generalize (lst a).1=l at*
 generalize (lst b).1=m at*
 refine z8 Tryz.func146 (kJ 11 [] a [] (λh=>z7 [] (YI 1) λw hO=>⟨by rw [if_pos h],hO.below⟩) (λh=>kJ 14 [] b [] (λh2=>z7 [] (YI (-1)) λw hO=>⟨by rw [if_neg h,if_pos h2],hO.below⟩) (λh2=> ?_)))
 rw [if_neg h,if_neg h2]
 refine z6 (v:= .tuple #[.agg #[.string (mkS (tg l 0)),.string (mkS (tg l 1)),.string (mkS (tg l 2)),.string (mkS (tg l 3))],.bool p]) [] (λw hO=>cA w) (zS [] λb5=>z6 (v:= .tuple #[.agg #[.string (mkS (tg m 0)),.string (mkS (tg m 1)),.string (mkS (tg m 2)),.string (mkS (tg m 3))],.bool q]) [0] (λw hO=>cB w) (zS [] λb7=>wS 25 [0] (.slice (some ⟨b5,0,none⟩) 4 4) (λw=>Kr) (wS 26 [] (.slice (some ⟨b7,0,none⟩) 4 4) (λw=>Kr) ?_)))
 refine z6 (k:=190) (args:= #[.slice (some ⟨b5,0,none⟩) 4 4,.slice (some ⟨b7,0,none⟩) 4 4,.func (.func 191) #[] #[]]) (v:=YI (pX 4 l m)) [] (λw hO=> ?_) (z7 [] (YI (pX 4 l m)) λw hO=>⟨rfl,hO.below⟩)
 have hO':=hO.past 0 [⟨b7, #[.string (mkS (tg m 0)),.string (mkS (tg m 1)),.string (mkS (tg m 2)),.string (mkS (tg m 3))],185⟩,⟨b5, #[.string (mkS (tg l 0)),.string (mkS (tg l 1)),.string (mkS (tg l 2)),.string (mkS (tg l 3))],185⟩]
 clear hO
 exact cfunc_q _ _ l m w (Reads.lit9 (hO'.get (i:=1) rfl) rfl) (Reads.lit9 (hO'.get (i:=0) rfl) rfl) hl hm
theorem core_q (v:Ver)(W:World)(hp:v.pre.length<=1000000):YC 143 #[yB v] W (YR (yB (kE v)) W):=
 z8 Tryz.func143 (zZ [] λb1=>zS [] λb2=>z6 (v:= .string (mkS v.pre)) [1] (λw hO=>fU (mkS v.pre) w (by rw [y4];omega)) (j7 [1,1,1,0] 0 (yB (kE v)) λw hO=>⟨rfl,hO.below⟩))
theorem hD (v u:Ver)(W:World)(h1:v.pre.length<=1000000)(h2:v.build.length<=1000000)(h3:u.pre.length<=1000000)(h4:u.build.length<=1000000):YC 94 #[yB v,yB u] W (YR (YI (zX v u)) W):=by
 have cV:∀ w,YC 91 #[yB v] w (YR (.bool v.may) w):=λw=>bT v w Om Om
 have cU:∀ w,YC 91 #[yB u] w (YR (.bool u.may) w):=λw=>bT u w Om Om
 have kV:=λw=>core_q v w h1
 have kU:=λw=>core_q u w h3
 have cP:=λw=>cpre_q v.pre u.pre w h1 h3
 have c1:=λw=>mL (Tryz.cmp_Compare_int v.maj u.maj w)
 have c2:=λw=>mL (Tryz.cmp_Compare_int v.min u.min w)
 have c3:=λw=>mL (Tryz.cmp_Compare_int v.pat u.pat w)
 have hbad:=λh=> @cmpR_bad v u h
 have hcore:=λh=> @cmpR_core v u h
 have hgo:=λa b h=> @cmpR_go v u a b h
 have hN:cmpN v u=if Lib.compareInt v.maj u.maj≠0 then Lib.compareInt v.maj u.maj else if Lib.compareInt v.min u.min≠0 then Lib.compareInt v.min u.min else Lib.compareInt v.pat u.pat:=rfl
 rw [hN] at hgo
 generalize Lib.compareInt v.maj u.maj=x at*
 generalize Lib.compareInt v.min u.min=y at*
 generalize Lib.compareInt v.pat u.pat=z at*
 generalize cpre v.pre u.pre=p at*
 refine z8 Tryz.func94 (zZ [] λb2=>zZ [] λb3=>z6 (v:= .bool v.may) [1] (λw hO=>cV w) (zL 7 v.may (λe1=> ?_) (λe1=> ?_)))
 rotate_left
 ·exact z7 [] (YI 0) λw hO=>⟨by rw [hbad (.inl e1)],hO.below⟩
 refine z6 (v:= .bool u.may) [0] (λw hO=>cU w) (zL 11 u.may (λe2=> ?_) (λe2=> ?_))
 rotate_left
 ·exact z7 [] (YI 0) λw hO=>⟨by rw [hbad (.inr e2)],hO.below⟩
 refine z6 (v:=yB (kE v)) [1] (λw hO=>kV w) (z6 (v:=yB (kE u)) [0] (λw hO=>kU w) (x_eqa (p:=λa b:Ver=>a=b) 42 yB op_eq_verQ 19 [] (kE v) (kE u) (λh=> ?_) (λh=> ?_)))
 ·exact z7 [] (YI 0) λw hO=>⟨by rw [hcore h],hO.below⟩
 have hr:=hgo e1 e2 h
 clear hgo hbad hcore hN
 refine gQ 17 [] [⟨b3,(ZP u),42⟩,⟨b2,(ZP v),42⟩] (λw hO=>hO.past 0 _) (zY [1,0,1,0,1,0] 4 (z6 (v:=YI x) [] (λw hO=>c1 w) (zY [] 9 (z6 (v:=YI y) [] (λw hO=>c2 w) (zY [] 14 (z6 (v:=YI z) [] (λw hO=>c3 w) (zY [] 15 (k7 3 3 #[YI x,YI y,YI z] λb36=> ?_))))))))
 refine zY [] 16 (z6 (k:=144) (args:= #[.slice (some ⟨b36,0,none⟩) 3 3]) (v:=YI (if x≠0 then x else if y≠0 then y else z)) [] (λw hO=> ?_) ?_)
 ·have hO':=hO.past 0 (⟨b36, #[YI x,YI y,YI z],3⟩::[⟨b3,(ZP u),42⟩,⟨b2,(ZP v),42⟩])
  clear hO
  exact or3_q _ x y z w (Reads.lit9 (hO'.get (i:=0) rfl) rfl)
 generalize (if x≠0 then x else if y≠0 then y else z)=n at*
 refine zD 39 [] (n=0) (λhn=> ?_) (λhn=> ?_)
 ·exact z6 (v:=YI p) [2,1] (λw hO=>cP w) (z7 [] (YI p) λw hO=>⟨by rw [hr,if_neg (λq=>q hn)],hO.below⟩)
 ·exact z7 [] (YI n) λw hO=>⟨by rw [hr,if_pos hn],hO.below⟩
end
section
set_option linter.unnecessarySimpa false
def nF (l:List Et):Prop:=(∀ e∈l,okE e)/\l.Pairwise λa b=>jJ b.rc.name b.rc.ver a=false
theorem pre_step {l:List Et}{e:Et}:nF (l++[e])↔nF l/\okE e/\yD l e.rc.name e.rc.ver= -1:=by
 unfold nF
 rw [List.pairwise_append,place_none]
 constructor
 ·rintro ⟨h1,h2,_,h4⟩
  exact ⟨⟨λx hx=>h1 x (List.mem_append_left _ hx),h2⟩,h1 e (List.mem_append_right _ (List.mem_singleton.2 rfl)),λx hx=>h4 x hx e (List.mem_singleton.2 rfl)⟩
 ·rintro ⟨⟨h1,h2⟩,h3,h4⟩
  refine ⟨λx hx=> ?_,h2,List.pairwise_singleton _ _,λa ha b hb=>by rw [List.mem_singleton.1 hb];exact h4 a ha⟩
  rcases List.mem_append.1 hx with hx|hx
  ·exact h1 x hx
  ·rw [List.mem_singleton.1 hx];exact h3
theorem may_pre13 {s:Sh}(h:yS s)(i:Nat):nF (s.es.take i):=⟨λe he=>h.ok e (List.mem_of_mem_take he),h.apart.sublist (List.take_sublist _ _)⟩
theorem pre_may {s:Sh}(h1:nmL s.name=true)(h2:s.es.length<=64)(h:nF s.es):yS s:=⟨h1,h2,h.1,h.2⟩
theorem et_take (l:List Ev)(i:Nat):(l.take i).map Ev.et=(l.map Ev.et).take i:=List.map_take ..
def hv0:Hv:=⟨[],none,0,[]⟩
theorem EsIn.fst {w:World}{B:Nat}{A:Option Addr}{es:List Ev}(h:EsIn w B A es)(k:Nat):EsIn w B A (es.take k):=⟨h.top.fst k,λe he=>h.each e (List.mem_of_mem_take he),Nat.le_trans (by rw [List.length_take];omega) h.n⟩
theorem RecO.in13 {x:Rv}{ob L:List Blk}{M:List Nat}{W w:World}(h:RecO x ob)(hO:Own M W w L)(hs:∀ b∈ob,b∈L)(hB:BndR x.rt)(hF:FewR x.rt 4096):RcIn w w.heap.size x:=by
 obtain ⟨o1,o2,o4,o7,o8,rfl,h1,h4,h7⟩:=h.ex
 exact rec_inn h1 h4 h7 hO (λb hb=>hs b (by simp [hb])) (λb hb=>hs b (by simp [hb])) (λb hb=>hs b (by simp [hb])) (λb hb=>hs b (by simp [hb])) (λb hb=>hs b (by simp [hb])) hB hF
theorem ShO.inn {y:Hv}{ob L:List Blk}{M:List Nat}{W w:World}(h:ShO y ob)(hO:Own M W w L)(hs:∀ b∈ob,b∈L)(hM:yS y.sh):ShIn w w.heap.size y:=by
 obtain ⟨o1,o2,rfl,hL⟩:=h
 have hl:y.es.length<=64:=by have:=hM.few;simpa [Hv.sh] using this
 refine ⟨⟨Sl.reads hL.top rfl hO λb hb=>hs b (List.mem_append_left _ hb),λe he=> ?_,by omega⟩, ?_,Nat.le_trans (gZ hM.name) (by decide)⟩
 ·obtain ⟨o,hR,hsub⟩:=hL.each e he
  have:=hM.ok e.et (List.mem_map_of_mem he)
  obtain ⟨b1,b2⟩:=chk_bnd this.1
  exact hR.in13 hO (λb hb=>hs b (List.mem_append_right _ (hsub b hb))) b1 b2
 ·rcases hL.top.2 with ⟨e,h2,_⟩|⟨g,cp,cur,e,_,h3,_⟩
  ·omega
  ·simp only [Value.slice.injEq] at e;omega
theorem evC_one (y:Ev):∀ u∈evC y,u.oneCell'=true:=λu hu=>by
 simp only [evC,rvC,List.mem_append,List.mem_cons,List.not_mem_nil,or_false] at hu
 rcases hu with (rfl|rfl|rfl|rfl|rfl|rfl|rfl|rfl|rfl)|rfl|rfl<;>rfl
theorem sBefore_any (A:Option Addr)(cap:Nat)(es:List Ev)(k:Nat)(W:World)(hx:Reads evC W W.heap.size A es)(hk:k<=es.length)(hc:es.length<=cap):YC 70 #[.slice A es.length cap,YI (k:Int)] W (YR (.slice A k k) W):=by
 have hA:(k:Int)=0∨∃ b off,A=some ⟨b,off,none⟩:=by
  by_cases h0:k=0
  ·exact .inl Om
  ·obtain ⟨b,off,e,_⟩:=hx Om
   exact .inr ⟨b,off,e⟩
 exact z8 Tryz.func70 (x_slhmA 8 [] A es.length cap 11 k k ⟨by omega,by omega,by omega⟩ hA (.slice A k k) rfl (z7 [] (.slice A k k) λw hO=>⟨rfl,hO.below⟩))
theorem sHit_any (x:Ev)(nm:YL)(v:Ver)(b c:Nat)(W:World)(hb:W.heap[b]?=some (.cells #[.string (mkS nm)] 9))(hc:W.heap[c]?=some (.cells (ZP v) 42))(h1:x.rec'.pre.length<=1000000)(h2:x.rec'.bld.length<=1000000)(h3:v.pre.length<=1000000)(h4:v.build.length<=1000000)(hm:x.rec'.ver.may=true)(hv:v.may=true):YC 93 #[evV x,.pointer (some ⟨b,0,none⟩),.pointer (some ⟨c,0,none⟩)] W (YR (.bool (jJ nm v x.et)) W):=by
 have hbl:b<W.heap.size:=(Array.getElem?_eq_some_iff.1 hb).1
 have hcl:c<W.heap.size:=(Array.getElem?_eq_some_iff.1 hc).1
 have hh:jJ nm v x.et=(decide (x.rec'.name=nm) && decide (zX x.rec'.ver v=0)):=by
  show (decide (x.rec'.name=nm) && (x.rec'.ver.may && v.may && decide (zX x.rec'.ver v=0)))=_
  rw [hm,hv];rfl
 rw [hh]
 have hcmp:∀ w,YC 94 #[yB x.rec'.ver,yB v] w (YR (YI (zX x.rec'.ver v)) w):=λw=>hD x.rec'.ver v w h1 h2 h3 h4
 refine z8 Tryz.func93 (zZ [] λb3=>zH 8 [0] 9 b 0 (.string (mkS nm)) (λw hO=>y7 Kr ((hO.below.block b hbl).trans hb)) (kJ 9 [] x.rec'.name nm (λh=> ?_) (λh=> ?_)))
 ·refine zH 14 [0] 42 c 0 (yB v) (λw hO=>y7 Kr ((hO.below.block c hcl).trans hc)) (z6 (v:=YI (zX x.rec'.ver v)) [] (λw hO=>hcmp w) ?_)
  exact z7 [] (.bool (decide (zX x.rec'.ver v=0))) λw hO=>⟨by rw [decide_eq_true h];rfl,hO.below⟩
 ·exact z7 [] Z5 λw hO=>⟨by rw [decide_eq_false h];rfl,hO.below⟩
theorem sIdx_any (p:Ev->Bool)(A:Option Addr)(cap:Nat)(l:List Ev)(b c:Nat)(W:World)(hv:Reads evC W W.heap.size A l)(hn:l.length<=5000)(hp:∀ n∈l,∀ w,YB W w->YC 93 #[evV n,.pointer (some ⟨b,0,none⟩),.pointer (some ⟨c,0,none⟩)] w (YR (.bool (p n)) w)):YC 92 #[.slice A l.length cap,.func (.func 93) #[] #[.pointer (some ⟨b,0,none⟩),.pointer (some ⟨c,0,none⟩)]] W λe w'=>∃ v,e= .returned v/\(∃ z:Int,v=YI z/\((z= -1∧∀ y∈l,p y=false)∨∃ i,∃ hi:i<l.length,z=(i:Int)/\p l[i]=true∧∀ y∈l.take i,p y=false))/\YB W w':=by
 refine z8 Tryz.func92 (zO (α:=Nat) (λi=>[(0,.slice A l.length cap),(1,.func (.func 93) #[] #[Zp b 0,Zp c 0]),(7,YI (l.length:Int)),(8,YI (i:Int))]) (λ_=>[]) (λi m=>(i<=l.length∧∀ y∈l.take i,p y=false)/\m=l.length-i) 0 l.length [] ⟨⟨Nat.zero_le _,λy h=>by simp at h⟩,rfl⟩ ?_)
 rintro i mm g kk ⟨⟨hi,hno⟩,hmm⟩ nx hkk
 subst hkk
 refine zD 9 [] ((i:Int)<(l.length:Int)) (λh9=> ?_) (λh9=> ?_)
 rotate_left
 ·exact z7 [] (YI (-1)) λw hO=>⟨_,rfl,⟨-1,rfl,.inl ⟨rfl,yP (p:=λy:Ev=>p y=false) (show l.length<=i by omega) hno⟩⟩,hO.below⟩
 have hj:i<l.length:=by omega
 obtain ⟨eb,eo,hA,hel⟩:=hv.elem gE i hj
 have hgo:=y1 (p:=λy:Ev=>p y=false) hj hno
 have hsm:l[i]∈l:=List.getElem_mem hj
 have hel0:∀ w,YB W w->(loadVar 69 ⟨eb,eo+i*11+0,none⟩).run YP w= .ok (evV l[i]) w:=λw hw=>hel w hw _ 0 _ Kr
 have hcf:=hp _ hsm
 have hfin:p l[i]=true→∃ z:Int,Value.int .i64 (i:Int)=YI z/\((z= -1∧∀ y∈l,p y=false)∨∃ i,∃ hi:i<l.length,z=(i:Int)/\p l[i]=true∧∀ y∈l.take i,p y=false):=λq=>⟨_,rfl,.inr ⟨i,hj,rfl,q,hno⟩⟩
 clear hp
 generalize l[i]=n at hel0 hgo hcf hsm hfin
 refine zK 14 [] hA l.length cap i 11 hj (zH 15 [] 69 eb (eo+i*11+0) (evV n) (λw hO=>hel0 w hO.below) (z6 (v:= .bool (p n)) [] (λw hO=>hcf w hO.below) (zL 16 (p n) (λh16=> ?_) (λh16=> ?_))))
 ·exact z7 [] (YI (i:Int)) λw hO=>⟨_,rfl,hfin h16,hO.below⟩
 ·exact x_i 18 [] ((i+1:Nat):Int) (nx (i+1) (l.length-(i+1)) [] Om ⟨⟨hj,hgo h16⟩,rfl⟩ Kr Kr)
theorem sPlace_any (A:Option Addr)(cap:Nat)(es:List Ev)(nm:YL)(v:Ver)(W:World)(hx:EsIn W W.heap.size A es)(hok:∀ e∈es,e.rec'.ver.may=true)(h3:v.pre.length<=1000000)(h4:v.build.length<=1000000):YC 51 #[.slice A es.length cap,.string (mkS nm),yB v] W (YR (YI (yD (es.map Ev.et) nm v)) W):=by
 have c1:∀ w,YC 91 #[yB v] w (YR (.bool v.may) w):=λw=>bT v w Om Om
 refine z8 Tryz.func51 (zZ [] λb4=>zZ [] λb5=>z6 (v:= .bool v.may) [0] (λw hO=>c1 w) (zL 8 v.may (λhv=> ?_) (λhv=> ?_)))
 rotate_left
 ·refine z7 [] (YI (-1)) λw hO=>⟨?_,hO.below⟩
  rw [place_none.2 λe _=> ?_]
  unfold jJ oneV
  rw [hv];simp
 refine wS 11 [] (.func (.func 93) #[] #[Zp b4 0,Zp b5 0]) (λw=>Kr) (jE (k:=92) (args:= #[.slice A es.length cap,.func (.func 93) #[] #[Zp b4 0,Zp b5 0]]) (R:=λu=>∃ z:Int,u=YI z/\z=yD (es.map Ev.et) nm v) [] (λw hO=> ?_) ?_)
 ·have hO':=hO.past 0 [⟨b5,(ZP v),42⟩,⟨b4, #[.string (mkS nm)],9⟩]
  clear hO
  have g5:w.heap[b5]?=some (.cells (ZP v) 42):=hO'.get (i:=0) rfl
  have g4:w.heap[b4]?=some (.cells #[.string (mkS nm)] 9):=hO'.get (i:=1) rfl
  have hxw:=hx.on hO'.below hO'.size
  refine (sIdx_any (λx=>jJ nm v x.et) A cap es b4 b5 w hxw.top hxw.n λx hm w2 hb2=>sHit_any x nm v b4 b5 w2 ((hb2.block b4 (Array.getElem?_eq_some_iff.1 g4).1).trans g4) ((hb2.block b5 (Array.getElem?_eq_some_iff.1 g5).1).trans g5) (hx.each x hm).sn.2.1 (hx.each x hm).sn.2.2 h3 h4 (hok x hm) hv).mono λe w' ⟨u,q1,⟨z,q2,q3⟩,q4⟩=>⟨u,q1,⟨z,q2, ?_⟩,q4⟩
  rcases q3 with ⟨rfl,h⟩|⟨i,hi,rfl,h,h0⟩
  ·exact (place_none.2 λe he=>by obtain ⟨x,hm,rfl⟩:=List.mem_map.1 he;exact h x hm).symm
  ·exact (place_at (by simpa using hi) (λe he=>by rw [←et_take] at he;obtain ⟨x,hm,rfl⟩:=List.mem_map.1 he;exact h0 x hm) (by rw [List.getElem_map];exact h)).symm
 ·rintro _ ⟨z,rfl,hz⟩
  exact z7 [] (YI z) λw hO=>⟨by rw [hz],hO.below⟩
end
section
set_option linter.unnecessarySimpa false
theorem sMay_any (x:Hv)(W:World)(hx:ShIn W W.heap.size x)(hK:RecLib W):YC 34 #[hvV x] W (YR (.bool (decide (yS x.sh))) W):=by
 have hno:∀ w,YB W w→¬ yS x.sh->(Ending.returned (.bool false)= .returned (.bool (decide (yS x.sh))))/\YB W w:=λw hb h=>⟨by rw [decide_eq_false h],hb⟩
 have hyes:∀ w,YB W w->yS x.sh->(Ending.returned (.bool true)= .returned (.bool (decide (yS x.sh))))/\YB W w:=λw hb h=>⟨by rw [decide_eq_true h],hb⟩
 have hpre:yS x.sh→∀ i,nF ((x.es.map Ev.et).take i):=λh i=>may_pre13 h i
 have hmk:nmL x.name=true->x.es.length<=64->nF (x.es.map Ev.et)->yS x.sh:=λa b c=>pre_may a (by simpa [Hv.sh] using b) c
 have hnot:yS x.sh->nmL x.name=true:=λh=>h.name
 have hfew:yS x.sh->x.es.length<=64:=λh=>by simpa [Hv.sh] using h.few
 obtain ⟨hE,hle,hsn⟩:=hx
 have c1:∀ w,YC 69 #[.string (mkS x.name)] w (YR (.bool (nmL x.name)) w):=λw=>vN x.name w hsn
 refine z8 Tryz.func34 (zZ [] λb1=>z6 (v:= .bool (nmL x.name)) [0] (λw hO=>c1 w) (zL 9 (nmL x.name) (λh9=> ?_) (λh9=> ?_)))
 rotate_left
 ·exact z7 [] Z5 λw hO=>hno w hO.below λh=>by rw [hnot h] at h9;cases h9
 refine zD 15 [0] ((x.es.length:Int)>64) (λh15=> ?_) (λh15=> ?_)
 ·exact z7 [] Z5 λw hO=>hno w hO.below λh=>by have:=hfew h;omega
 refine zO (α:=Nat) (λi=>[(1,Zp b1 0),(18,.slice x.A x.es.length x.cap),(19,YI (x.es.length:Int)),(20,YI (i:Int))]) (λ_=>[hvB b1 x]) (λi m=>(i<=x.es.length/\nF ((x.es.map Ev.et).take i))/\m=x.es.length-i) 0 x.es.length [0] ⟨⟨Nat.zero_le _,⟨λe h=>by simp at h,by simp⟩⟩,rfl⟩ ?_
 rintro i mm g kk ⟨⟨hi,hP⟩,hmm⟩ nx hkk
 subst hkk
 refine zD 21 [] ((i:Int)<(x.es.length:Int)) (λh21=> ?_) (λh21=> ?_)
 rotate_left
 ·exact z7 [] Z4 λw hO=>hyes w hO.below (hmk h9 Om (by rw [show i=x.es.length by omega,←List.length_map (f:=Ev.et),List.take_length] at hP;exact hP))
 have hj:i<x.es.length:=by omega
 obtain ⟨eb,eo,hA,hel⟩:=hE.top.elem gE i hj
 have hel0:∀ w,YB W w->(loadVar 69 ⟨eb,eo+i*11+0,none⟩).run YP w= .ok (evV x.es[i]) w:=λw hw=>hel w hw _ 0 _ Kr
 have hR:=hE.each _ (List.getElem_mem hj)
 have hstep:nF ((x.es.map Ev.et).take (i+1))↔nF ((x.es.map Ev.et).take i)/\okE x.es[i].et/\yD ((x.es.map Ev.et).take i) x.es[i].rec'.name x.es[i].rec'.ver= -1:=by
  rw [List.take_succ_eq_append_getElem (by simpa using hj),List.getElem_map];exact pre_step
 have hq:=λh=>(hstep.1 (hpre h (i+1))).2
 generalize x.es[i]=u at*
 have cS:∀ w,YB W w->YC 50 #[rvV u.rec'] w (YR (.tuple #[.int .u64 (yE u.rec'.rt),YI (zN u.rec'.rt).1]) w):=λw hb=>qSum_any u.rec' w (hR.on hb hb.size) (hK.on hb)
 have cB:∀ w,YB W w->YC 70 #[.slice x.A x.es.length x.cap,YI (i:Int)] w (YR (.slice x.A i i) w):=λw hb=>sBefore_any x.A x.cap x.es i w (hE.top.on hb hb.size) hi hle
 have cP:∀ w,YB W w->YC 51 #[.slice x.A i i,.string (mkS u.rec'.name),yB u.rec'.ver] w (YR (YI (yD ((x.es.map Ev.et).take i) u.rec'.name u.rec'.ver)) w):=λw hb=>by
  have:=sPlace_any x.A i (x.es.take i) u.rec'.name u.rec'.ver w ((hE.fst i).on hb hb.size) (λe he=>by
   have:=hP.1 e.et (by rw [←et_take];exact List.mem_map_of_mem he)
   exact (yN this.1).2.1) hR.sn.2.1 hR.sn.2.2
  rw [List.length_take,Nat.min_eq_left hi,et_take] at this;exact this
 have hzz:=place_ge ((x.es.map Ev.et).take i) u.rec'.name u.rec'.ver
 generalize yD ((x.es.map Ev.et).take i) u.rec'.name u.rec'.ver=z at*
 have hok:okE u.et↔(zN u.rec'.rt).1=0/\yE u.rec'.rt=u.sum:=Iff.rfl
 refine zK 23 [] hA x.es.length x.cap i 11 hj (zH 24 [] 69 eb (eo+i*11+0) (evV u) (λw hO=>hel0 w hO.below) (zS [] λb4=>z6 (v:= .tuple #[.int .u64 (yE u.rec'.rt),YI (zN u.rec'.rt).1]) [0,0] (λw hO=>cS w hO.below) (kT 32 [] ((zN u.rec'.rt).1=0) (λh32=> ?_) (λh32=> ?_))))
 rotate_left
 ·exact z7 [] Z5 λw hO=>hno w hO.below λh=>h32 (hq h).1.1
 refine kT 37 [0] (yE u.rec'.rt=u.sum) (λh37=> ?_) (λh37=> ?_)
 rotate_left
 ·exact z7 [] Z5 λw hO=>hno w hO.below λh=>h37 (hq h).1.2
 refine z6 (v:= .slice x.A i i) [1] (λw hO=>cB w hO.below) (z6 (v:=YI z) [0,0] (λw hO=>cP w hO.below) (zD 51 [] (z>=0) (λh51=> ?_) (λh51=> ?_)))
 ·exact z7 [] Z5 λw hO=>hno w hO.below λh=>by have:=(hq h).2;omega
 ·exact x_i 20 [] ((i+1:Nat):Int) (zP [] [hvB b1 x] (λw hO=>hO.past 1 _) (nx (i+1) (x.es.length-(i+1)) [] Om ⟨⟨hj,hstep.2 ⟨hP,hok.2 ⟨h32,h37⟩,by omega⟩⟩,rfl⟩ Kr Kr))
def Ev.rcT (e:Ev):Rt:=e.rec'.rt
end
section
theorem ins0_any (p:Option Addr)(cap:Nat)(fv:Value)(W:World):YC 195 #[.slice p 0 cap,YI 0,YI 0,fv] W (YR (.tuple #[]) W):=
 z8 Tryz.func195 (jQ 0 [] (pS [] λw hO=>⟨rfl,hO.below⟩))
theorem pdq0_any (p:Option Addr)(cap:Nat)(lim:Int)(fv:Value)(W:World):YC 153 #[.slice p 0 cap,YI 0,YI 0,YI lim,fv] W (YR (.tuple #[]) W):=
 z8 Tryz.func153 (jQ 0 [] (z6 (k:=195) (args:= #[.slice p 0 cap,YI 0,YI 0,fv]) (v:= .tuple #[]) [] (λw hO=>ins0_any p cap fv w) (x_ret0 [] λw hO=>⟨rfl,hO.below⟩)))
theorem sort0_any (p:Option Addr)(cap:Nat)(fv:Value)(W:World):YC 103 #[.slice p 0 cap,fv] W (YR (.tuple #[]) W):=
 z8 Tryz.func103 (z6 (k:=154) (args:= #[.int .u64 0]) (v:=YI (Lib.bitLen (0:Int).toNat)) [] (λw hO=>(Tryz.bits_Len 0 w (by decide) (by decide)).mono λe w' ⟨e1,e2⟩=>⟨e1,e2▸Below.refl _ _⟩) (z6 (k:=153) (args:= #[.slice p 0 cap,YI 0,YI 0,YI (Lib.bitLen (0:Int).toNat),fv]) (v:= .tuple #[]) [] (λw hO=>pdq0_any p cap _ fv w) (pS [] λw hO=>⟨rfl,hO.below⟩)))
end
end Go.Proofs.YtflhcaljcoekpaaGreatDoor
section
namespace Go.Proofs
open Go.Shelf
def Tryz.laysSlF6_f103_ren:Go.Shelf.Ren:=⟨fun|6=>103|15=>154|14=>153|28=>203|29=>204|20=>195|21=>196|22=>197|23=>198|24=>199|25=>200|26=>201|27=>202|46=>240|47=>241|48=>242|49=>243|50=>244|57=>276|n=>n,fun|22=>30|24=>3|25=>37|3=>3|39=>123|0=>0|53=>231|55=>67|4=>4|46=>225|45=>224|50=>219|5=>5|9=>9|66=>258|70=>262|76=>294|77=>295|n=>n,fun|n=>n⟩
theorem Tryz.laysSlF6_f103:Go.Proofs.SlLaysF.n6 Tryz.prog Tryz.laysSlF6_f103_ren:={
 mixed:=by kernel_rfl
 f6:=⟨Tryz.f103.name,by decide,YT Tryz.func103⟩
 f14:=⟨Tryz.f153.name,by decide,YT Tryz.func153⟩
 f15:=YT Tryz.func154
 f20:=⟨Tryz.f195.name,by decide,YT Tryz.func195⟩
 f21:=⟨Tryz.f196.name,by decide,YT Tryz.func196⟩
 f22:=⟨Tryz.f197.name,by decide,YT Tryz.func197⟩
 f23:=⟨Tryz.f198.name,by decide,YT Tryz.func198⟩
 f24:=⟨Tryz.f199.name,by decide,YT Tryz.func199⟩
 f25:=⟨Tryz.f200.name,by decide,YT Tryz.func200⟩
 f26:=⟨Tryz.f201.name,by decide,YT Tryz.func201⟩
 f27:=⟨Tryz.f202.name,by decide,YT Tryz.func202⟩
 f28:=YT Tryz.func203
 f29:=YT Tryz.func204
 f46:=⟨Tryz.f240.name,by decide,YT Tryz.func240⟩
 f47:=YT Tryz.func241
 f48:=YT Tryz.func242
 f49:=⟨Tryz.f243.name,by decide,YT Tryz.func243⟩
 f50:=⟨Tryz.f244.name,by decide,YT Tryz.func244⟩
 f57:=⟨Tryz.f276.name,by decide,YT Tryz.func276⟩
 t0:=Tryz.underlying0
 a0:=Tryz.isAgg0
 z0:=Tryz.sizeOf0
 v0:=Tryz.zeroValue0
 t3:=Tryz.underlying3
 a3:=Tryz.isAgg3
 z3:=Tryz.sizeOf3
 v3:=Tryz.zeroValue3
 t4:=Tryz.underlying4
 a4:=Tryz.isAgg4
 z4:=Tryz.sizeOf4
 v4:=Tryz.zeroValue4
 t5:=Tryz.underlying5
 a5:=Tryz.isAgg5
 z5:=Tryz.sizeOf5
 v5:=Tryz.zeroValue5
 t9:=Tryz.underlying9
 a9:=Tryz.isAgg9
 z9:=Tryz.sizeOf9
 v9:=Tryz.zeroValue9
 t22:=Tryz.underlying30
 a22:=Tryz.isAgg30
 z22:=Tryz.sizeOf30
 v22:=Tryz.zeroValue30
 a24:=Tryz.isAgg3
 z24:=Tryz.sizeOf3
 t25:=Tryz.underlying37
 a25:=Tryz.isAgg37
 z25:=Tryz.sizeOf37
 v25:=Tryz.zeroValue37
 t39:=Tryz.underlying123
 a39:=Tryz.isAgg123
 z39:=Tryz.sizeOf123
 v39:=Tryz.zeroValue123
 t45:=Tryz.underlying224
 a45:=Tryz.isAgg224
 z45:=Tryz.sizeOf224
 v45:=Tryz.zeroValue224
 t46:=Tryz.underlying225
 a46:=Tryz.isAgg225
 z46:=Tryz.sizeOf225
 v46:=Tryz.zeroValue225
 t50:=Tryz.underlying219
 a50:=Tryz.isAgg219
 z50:=Tryz.sizeOf219
 v50:=Tryz.zeroValue219
 t53:=Tryz.underlying231
 a53:=Tryz.isAgg231
 z53:=Tryz.sizeOf231
 v53:=Tryz.zeroValue231
 t55:=Tryz.underlying67
 a55:=Tryz.isAgg67
 z55:=Tryz.sizeOf67
 v55:=Tryz.zeroValue67
 t66:=Tryz.underlying258
 a66:=Tryz.isAgg258
 z66:=Tryz.sizeOf258
 v66:=Tryz.zeroValue258
 t70:=Tryz.underlying262
 a70:=Tryz.isAgg262
 z70:=Tryz.sizeOf262
 v70:=Tryz.zeroValue262
 t76:=Tryz.underlying294
 a76:=Tryz.isAgg294
 z76:=Tryz.sizeOf294
 v76:=Tryz.zeroValue294
 t77:=Tryz.underlying295
 a77:=Tryz.isAgg295
 z77:=Tryz.sizeOf295
 v77:=Tryz.zeroValue295}
open Go.RowKit Go.Lib Go.Sort in
theorem Tryz.slices_SortFunc_int {α:Type}[Inhabited α](enc:α->Value)(h1:OneCell enc)(cf:α->α->Int)(hO:SWO (ltOf cf))(g:Nat)(cb:Array Value)(blk off cap:Nat)(d:Array α)(w:World)(eg:∀ args w,(callFunc g args).run Tryz.prog w= .ok (.enter g args) w)(hcmp:CmpLays1 Tryz.prog g cb enc cf blk off d.size w)(hH:Holds enc w blk off d)(hblk:blk<w.heap.size)(hsz:d.size<4611686018427387904):Calls Tryz.prog 103 #[.slice (some ⟨blk,off,none⟩) d.size cap,.func (.func g) #[] cb] w λe w'=>e= .returned (.tuple #[])∧∃ d' n os,PermIn 0 d.size d d'/\SortedIn (ltOf cf) 0 d.size d'/\w'=sortWorld enc w blk off n d' os:=Any.slices_SortFunc Tryz.laysSlF6_f103 enc h1 cf hO g cb blk off cap d w eg hcmp hH hblk hsz
end Go.Proofs
end
namespace Go.Proofs.YtflhcaljcoekpaaGreatDoor
open Go.RowKit
section
set_option linter.unnecessarySimpa false
def vZ (i:Nat):Value:=YI (i:Int)
theorem lift_fin {n:Nat}:∀ (l:List Nat),(∀ i∈l,i<n)→∃ m:List {i:Nat//i<n},m.map (·.1)=l
 | [],_=>⟨[],rfl⟩
 |i::r,h=>by
  obtain ⟨m,e⟩:=lift_fin r λj hj=>h j (List.mem_cons_of_mem _ hj)
  exact ⟨⟨i,h i (List.mem_cons_self ..)⟩::m,by rw [List.map_cons,e]⟩
theorem swo_ver {n:Nat}{vf:Nat->Ver}(hv:∀ i,i<n->(vf i).may=true):Go.Sort.SWO (ltOf λx y:{i:Nat//i<n}=>zX (vf x.1) (vf y.1)):=by
 refine ⟨λx=> ?_,λx y z h1 h2=> ?_,λx y z h1 h2=> ?_⟩
 ·show decide (zX (vf x.1) (vf x.1)<0)=false
  rw [mU];rfl
 ·have hx:=hv x.1 x.2
  have hy:=hv y.1 y.2
  have hz:=hv z.1 z.2
  have k1:zX (vf x.1) (vf y.1)<0:=of_decide_eq_true h1
  have k2:zX (vf y.1) (vf z.1)<0:=of_decide_eq_true h2
  show decide (zX (vf x.1) (vf z.1)<0)=true
  rw [decide_eq_true_eq]
  rcases order_on hx hy hz with q|q|⟨q1,q2⟩
  ·omega
  ·omega
  ·by_cases h0:zX (vf x.1) (vf z.1)=0
   ·have:=q2.2 h0;omega
   ·omega
 ·have hx:=hv x.1 x.2
  have hy:=hv y.1 y.2
  have hz:=hv z.1 z.2
  have k1:¬ zX (vf x.1) (vf y.1)<0:=of_decide_eq_false h1
  have k2:¬ zX (vf y.1) (vf z.1)<0:=of_decide_eq_false h2
  show decide (zX (vf x.1) (vf z.1)<0)=false
  rw [decide_eq_false_iff_not]
  have a1:=qI hx hy
  have a2:=qI hy hz
  have a3:=qI hx hz
  rcases order_on hz hy hx with q|q|⟨q1,q2⟩<;>omega
theorem take_putN {α:Type}[Inhabited α](enc:α->Value)(cur:Array Value)(d:Array α)(h:d.size<=cur.size):(Go.Sort.putCells enc 0 d cur).toList.take d.size=d.toList.map enc:=by
 apply List.ext_getElem?
 intro j
 by_cases hj:j<d.size
 ·rw [List.getElem?_take_of_lt hj,Array.getElem?_toList]
  simp [Go.Sort.putCells,hj,show j<cur.size by omega]
 ·rw [List.getElem?_take_eq_none (by omega),List.getElem?_eq_none (by simp;omega)]
theorem sorted_own {α:Type}[Inhabited α](enc:α->Value){g m:Nat}{cur:Array Value}{d:Array α}{os:Array Obj}{w:World}(hb:w.heap[g]?=some (.cells cur 3)):Own [g] w (sortWorld enc w g 0 m d os) [⟨g,Go.Sort.putCells enc 0 d cur,3⟩]:=by
 have hg:g<w.heap.size:=(Array.getElem?_eq_some_iff.1 hb).1
 have hs:(Go.Sort.putRow enc (Go.Sort.ahead w m) g 0 d).heap.size=w.heap.size:=by simp [Go.Sort.putRow,Go.Sort.mapBlock,Go.Sort.ahead]
 have hold:∀ k,k<w.heap.size->(sortWorld enc w g 0 m d os).heap[k]?=(Go.Sort.putRow enc (Go.Sort.ahead w m) g 0 d).heap[k]?:=λk hk=>Go.Sort.heap_grow_old _ _ (by rw [hs];exact hk)
 refine ⟨rfl,rfl,rfl, ?_,Nat.le_add_right _ _,λk hk hne=> ?_,λx hx=> ?_,λx hx=> .inr (by rw [List.mem_singleton] at hx;rw [hx];exact List.mem_singleton_self _),by simp⟩
 ·show w.heap.size<=((Go.Sort.putRow enc (Go.Sort.ahead w m) g 0 d).heap++os).size
  rw [Array.size_append,hs];exact Nat.le_add_right _ _
 ·rw [hold k hk]
  have:g≠k:=λe=>hne (by simp [e])
  simp [Go.Sort.putRow,Go.Sort.mapBlock,Go.Sort.ahead,Array.getElem?_modify,this]
 ·obtain rfl:x=_:=by simpa using hx
  rw [hold g hg]
  simp [Go.Sort.putRow,Go.Sort.mapBlock,Go.Sort.ahead,Array.getElem?_modify,hb,Go.Sort.onCells]
theorem isort_any (n:Nat)(vf:Nat->Ver)(hvf:∀ i,i<n->(vf i).may=true)(gf:FuncId)(cb:Array Value)(hgf:∀ args w,(callFunc gf args).run YP w= .ok (.enter gf args) w){v:Value}{l:List Nat}{ob:List Blk}{w:World}(hl:∀ i∈l,i<n)(h:Sl 3 1 v l.length (l.map vZ) ob)(hO:Own (ob.map Blk.b) w w ob)(hn:l.length<=1000000)
  (hcmp:∀ w',Own (ob.map Blk.b) w w' []→∀ i j:Nat,i<n->j<n->Calls YP gf (#[vZ i,vZ j]++cb) w' λe w2=>e= .returned (YI (zX (vf i) (vf j)))/\Below w'.heap.size w' w2):
  YC 103 #[v,.func (.func gf) #[] cb] w λe w'=>∃ (l':List Nat) (ob':List Blk),e= .returned (.tuple #[])/\l'.Perm l/\(l'.Pairwise λi j=>¬ zX (vf j) (vf i)<0)/\Sl 3 1 v l'.length (l'.map vZ) ob'/\Own (ob.map Blk.b) w w' ob'/\ob'.map Blk.b=ob.map Blk.b:=by
 by_cases h0:l=[]
 ·subst h0
  have hv:∃ p cap,v= .slice p 0 cap:=by
   rcases h.2 with ⟨rfl,_,_⟩|⟨g,cap,cur,rfl,_⟩
   ·exact ⟨_,_,rfl⟩
   ·exact ⟨_,_,rfl⟩
  obtain ⟨p,cap,rfl⟩:=hv
  exact (sort0_any p cap _ w).mono λe w' ⟨e1,e2⟩=>⟨[],ob,e1,List.Perm.refl _,List.Pairwise.nil,h,hO.on e2,rfl⟩
 obtain ⟨h1,h2⟩:=h
 rcases h2 with ⟨rfl,h3,rfl⟩|⟨g,cap,cur,rfl,rfl,h3,h4,h5,h6⟩
 ·exact absurd (List.eq_nil_of_length_eq_zero h3) h0
 have hn0:0<n:=by
  obtain ⟨i,hi⟩:=List.exists_mem_of_ne_nil l h0
  have:=hl i hi
  omega
 have:Inhabited {i:Nat//i<n}:=⟨⟨0,hn0⟩⟩
 obtain ⟨m,rfl⟩:=lift_fin l hl
 obtain ⟨enc,henc⟩:∃ enc:{i:Nat//i<n}->Value,enc=λx=>vZ x.1:=⟨_,rfl⟩
 have hme:∀ q:List {i:Nat//i<n},(q.map (·.1)).map vZ=q.map enc:=λq=>by rw [henc,List.map_map];rfl
 have hb:w.heap[g]?=some (.cells cur 3):=hO.held ⟨g,cur,3⟩ (List.mem_singleton.2 rfl)
 have hgl:g<w.heap.size:=(Array.getElem?_eq_some_iff.1 hb).1
 rw [hme,Nat.mul_one,List.length_map] at h6
 rw [List.length_map] at hn h3 ⊢
 have hH:Go.Sort.Holds enc w g 0 m.toArray:=by
  intro j hj
  have hj':j<m.length:=by simpa using hj
  refine ⟨?_,by simp [World.frozen?,hb]⟩
  have q:(cur.toList.take m.length)[j]?=(m.map enc)[j]?:=by rw [h6]
  rw [List.getElem?_take_of_lt hj'] at q
  simp only [World.cell?,hb,Nat.zero_add]
  simp only [Option.isSome_none,Bool.false_eq_true,if_false]
  rw [←Array.getElem?_toList,q]
  simp [hj']
 have hcon:=Tryz.slices_SortFunc_int enc (λx=>by rw [henc];rfl) (λx y=>zX (vf x.1) (vf y.1)) (swo_ver hvf) gf cb g 0 cap m.toArray w hgf
  (λmm os dk _ x y=>by
   have:=hcmp (sortWorld enc w g 0 mm dk os) ((sorted_own enc hb).sublist (List.nil_sublist _)) x.1 y.1 x.2 y.2
   rw [henc] at this ⊢
   exact this.mono λe w' ⟨k1,k2⟩=>⟨k1,k2.asGrow⟩) hH hgl (by simp;omega)
 rw [show m.toArray.size=m.length from by simp] at hcon
 refine hcon.mono λe w' ⟨e1,d',nn,os,hp,hs,hw⟩=> ?_
 have hsz:d'.size=m.length:=by rw [hp.1];simp
 have hdl:(d'.toList.map (·.1)).length=m.length:=by simp [hsz]
 refine ⟨d'.toList.map (·.1),[⟨g,Go.Sort.putCells enc 0 d' cur,3⟩],e1, ?_, ?_,⟨by rw [hme];simp,.inr ⟨g,cap,_,by rw [hdl],rfl,by rw [hdl];exact h3,h4,by simp [Go.Sort.putCells,h5], ?_⟩⟩,by rw [hw];exact sorted_own enc hb,rfl⟩
 ·have h2:=hp.2.2
  rw [show d'.extract 0 m.length=d' from by rw [←hsz];simp,show m.toArray.extract 0 m.length=m.toArray from by simp] at h2
  simpa using h2.map (·.1)
 ·rw [List.pairwise_map,List.pairwise_iff_getElem]
  intro i j hi hj hij
  have hj':j<d'.size:=by simpa using hj
  have:=hs i j (Nat.zero_le _) hij Om
  unfold ltOf at this
  rw [decide_eq_false_iff_not,getElem!_pos d' j hj',getElem!_pos d' i Om] at this
  simpa using this
 ·rw [hdl,Nat.mul_one,hme,←hsz]
  exact take_putN enc cur d' (by rw [h5,hsz];omega)
end
section
set_option linter.unnecessarySimpa false
def yU (l:List Et)(i:Nat):Ver:=(l[i]?.map λe=>e.rc.ver).getD Ver.zero
theorem qU {l:List Et}{i:Nat}(hi:i<l.length):yU l i=l[i].rc.ver:=by simp [yU,hi]
def v6 (l:List Et)(n:YL):Nat->List Nat
 |0=>[]
 |i+1=>if (l[i]?.map λe=>e.rc.name)=some n then v6 l n i++[i] else v6 l n i
theorem idx_mem {l:List Et}{n:YL}:∀ {k j:Nat},j∈v6 l n k↔j<k/\(l[j]?.map λe=>e.rc.name)=some n
 |0,j=>by simp [v6]
 |k+1,j=>by
  unfold v6
  split
  ·rename_i h
   rw [List.mem_append,List.mem_singleton,idx_mem]
   constructor
   ·rintro (⟨h1,h2⟩|rfl)
    ·exact ⟨by omega,h2⟩
    ·exact ⟨Nat.lt_succ_self _,h⟩
   ·intro ⟨h1,h2⟩
    by_cases e:j=k
    ·exact .inr e
    ·exact .inl ⟨by omega,h2⟩
  ·rename_i h
   rw [idx_mem]
   constructor
   ·intro ⟨h1,h2⟩;exact ⟨by omega,h2⟩
   ·intro ⟨h1,h2⟩
    by_cases e:j=k
    ·subst e;exact absurd h2 h
    ·exact ⟨by omega,h2⟩
theorem tC {l:List Et}{n:YL}:∀ k:Nat,(v6 l n k).Nodup
 |0=>List.nodup_nil
 |k+1=>by
  unfold v6
  split
  ·rw [List.nodup_append]
   exact ⟨tC k,by simp,λa ha b hb=>by rw [List.mem_singleton.1 hb];have:=(idx_mem.1 ha).1;omega⟩
  ·exact tC k
theorem pF {l:List Et}{n:YL}:∀ k:Nat,(v6 l n k).length<=k
 |0=>Nat.le_refl _
 |k+1=>by
  unfold v6
  have:=pF (l:=l) (n:=n) k
  split
  ·rw [List.length_append,List.length_singleton];omega
  ·omega
theorem name_apart {s:Sh}(h:yS s){n:YL}{i j:Nat}(hi:(s.es[i]?.map λe=>e.rc.name)=some n)(hj:(s.es[j]?.map λe=>e.rc.name)=some n)(hij:i≠j):zX (yU s.es i) (yU s.es j)≠0:=by
 have key:∀ {i j:Nat},i<j->(s.es[i]?.map λe=>e.rc.name)=some n->(s.es[j]?.map λe=>e.rc.name)=some n->zX (yU s.es i) (yU s.es j)≠0:=λ{i j} hl hi hj=>by
  obtain ⟨a,ha,ea⟩:=Option.map_eq_some_iff.1 hi
  obtain ⟨b,hb,eb⟩:=Option.map_eq_some_iff.1 hj
  obtain ⟨li,rfl⟩:=List.getElem?_eq_some_iff.1 ha
  obtain ⟨lj,rfl⟩:=List.getElem?_eq_some_iff.1 hb
  have hp:=List.pairwise_iff_getElem.1 h.apart i j li lj hl
  have m1:=(yN (h.ok _ (List.getElem_mem li)).1).2.1
  have m2:=(yN (h.ok _ (List.getElem_mem lj)).1).2.1
  unfold jJ oneV at hp
  rw [ea,eb,m1,m2] at hp
  rw [qU li,qU lj]
  simpa using hp
 rcases Nat.lt_or_gt_of_ne hij with hl|hl
 ·exact key hl hi hj
 ·intro h0
  obtain ⟨a,ha,ea⟩:=Option.map_eq_some_iff.1 hi
  obtain ⟨b,hb,eb⟩:=Option.map_eq_some_iff.1 hj
  obtain ⟨li,rfl⟩:=List.getElem?_eq_some_iff.1 ha
  obtain ⟨lj,rfl⟩:=List.getElem?_eq_some_iff.1 hb
  have m1:=(yN (h.ok _ (List.getElem_mem li)).1).2.1
  have m2:=(yN (h.ok _ (List.getElem_mem lj)).1).2.1
  refine key hl hj hi ?_
  rw [qU li,qU lj] at h0 ⊢
  rw [qI m1 m2,h0];rfl
def wC (s:Sh)(n:YL)(l:List Nat):Prop:=l.Perm (v6 s.es n s.es.length)/\l.Pairwise λi j=>zX (yU s.es i) (yU s.es j)<0
theorem list_strict {s:Sh}(h:yS s){n:YL}{l:List Nat}(hp:l.Perm (v6 s.es n s.es.length))(hs:l.Pairwise λi j=>¬ zX (yU s.es j) (yU s.es i)<0):wC s n l:=by
 refine ⟨hp, ?_⟩
 have hnd:l.Nodup:=hp.nodup_iff.2 (tC _)
 rw [List.pairwise_iff_getElem] at hs ⊢
 intro i j hi hj hij
 have h1:=hs i j hi hj hij
 have mi:=idx_mem.1 (hp.mem_iff.1 (List.getElem_mem hi))
 have mj:=idx_mem.1 (hp.mem_iff.1 (List.getElem_mem hj))
 have hne:l[i]≠l[j]:=λe=>by
  have:=(List.nodup_iff_pairwise_ne.1 hnd)
  exact List.pairwise_iff_getElem.1 this i j hi hj hij e
 have h2:=name_apart h mi.2 mj.2 hne
 have q:∀ {k:Nat},k<s.es.length->(yU s.es k).may=true:=λ{k} hk=>by
  rw [qU hk];exact (yN (h.ok _ (List.getElem_mem hk)).1).2.1
 have h3:=qI (q mi.1) (q mj.1)
 omega
theorem sCmp13_any (x:Hv)(b i j:Nat)(W w:World)(hx:ShIn W W.heap.size x)(hW:YB W w)(hM:yS x.sh)(hb:w.heap[b]?=some (.cells #[.string (mkS x.name),.slice x.A x.es.length x.cap] 24))(hi:i<x.es.length)(hj:j<x.es.length):YC 104 #[YI (i:Int),YI (j:Int),.pointer (some ⟨b,0,none⟩)] w (YR (YI (zX (yU x.sh.es i) (yU x.sh.es j))) w):=by
 have hbl:b<w.heap.size:=(Array.getElem?_eq_some_iff.1 hb).1
 obtain ⟨eb,eo,hA,hel⟩:=hx.es.top.elem gE i hi
 obtain ⟨fb,fo,hB,hel2⟩:=hx.es.top.elem gE j hj
 have v1:∀ w2,YB w w2->(loadVar 42 ⟨eb,eo+i*11+1,none⟩).run YP w2= .ok (yB x.es[i].rec'.ver) w2:=λw2 h=>hel w2 (hW.trans (h.mono hW.size)) _ 1 _ Kr
 have v2:∀ w2,YB w w2->(loadVar 42 ⟨fb,fo+j*11+1,none⟩).run YP w2= .ok (yB x.es[j].rec'.ver) w2:=λw2 h=>hel2 w2 (hW.trans (h.mono hW.size)) _ 1 _ Kr
 have s1:=(hx.es.each _ (List.getElem_mem hi)).sn
 have s2:=(hx.es.each _ (List.getElem_mem hj)).sn
 have e1:yU x.sh.es i=x.es[i].rec'.ver:=by rw [qU (by simpa [Hv.sh] using hi)];simp [Hv.sh];rfl
 have e2:yU x.sh.es j=x.es[j].rec'.ver:=by rw [qU (by simpa [Hv.sh] using hj)];simp [Hv.sh];rfl
 rw [e1,e2]
 generalize x.es[i].rec'=p at*
 generalize x.es[j].rec'=q at*
 have hcmp:∀ w2,YC 94 #[yB p.ver,yB q.ver] w2 (YR (YI (zX p.ver q.ver)) w2):=λw2=>hD p.ver q.ver w2 s1.2.1 s1.2.2 s2.2.1 s2.2.2
 have hsl:∀ w2,YB w w2->(loadVar 22 ⟨b,0+1,none⟩).run YP w2= .ok (.slice x.A x.es.length x.cap) w2:=λw2 h=>y7 Kr ((h.block b hbl).trans hb)
 refine z8 Tryz.func104 (zH 7 [] 22 b (0+1) (.slice x.A x.es.length x.cap) (λw2 hO=>hsl w2 hO.below) ?_)
 refine zK 9 [] hA x.es.length x.cap i 11 hi (zH 12 [] 42 eb (eo+i*11+1) (yB p.ver) (λw2 hO=>v1 w2 hO.below) ?_)
 refine zH 14 [] 22 b (0+1) (.slice x.A x.es.length x.cap) (λw2 hO=>hsl w2 hO.below) (zK 16 [] hB x.es.length x.cap j 11 hj (zH 19 [] 42 fb (fo+j*11+1) (yB q.ver) (λw2 hO=>v2 w2 hO.below) ?_))
 exact z6 (v:=YI (zX p.ver q.ver)) [] (λw2 hO=>hcmp w2) (z7 [] (YI (zX p.ver q.ver)) λw2 hO=>⟨rfl,hO.below⟩)
theorem sList_any (x:Hv)(nm:YL)(W:World)(hx:ShIn W W.heap.size x)(hM:yS x.sh)(hK:RecLib W):YC 67 #[hvV x,.string (mkS nm)] W λe w'=>∃ v ob,e= .returned v/\(∃ l:List Nat,Sl 3 1 v l.length (l.map vZ) ob/\wC x.sh nm l)/\Own [] W w' ob:=by
 have cM:∀ w,YB W w->YC 34 #[hvV x] w (YR (.bool true) w):=λw hb=>by
  have h:=sMay_any x w (hx.on hb hb.size) (hK.on hb)
  rw [decide_eq_true hM] at h;exact h
 have hxl:x.sh.es.length=x.es.length:=by simp [Hv.sh]
 have hn64:x.es.length<=64:=hxl▸hM.few
 refine z8 Tryz.func67 (zZ [] λb2=>z6 (v:= .bool true) [0] (λw hO=>cM w hO.below) ?_)
 refine zO (α:=Nat×Value×List Blk) (λ(i,v,ob)=>[(1,.string (mkS nm)),(2,Zp b2 0),(5,v),(12,.slice x.A x.es.length x.cap),(13,YI (x.es.length:Int)),(14,YI (i:Int))]) (λ(i,v,ob)=>[hvB b2 x]++ob) (λ(i,v,ob) m=>(i<=x.es.length/\Sl 3 1 v (v6 x.sh.es nm i).length ((v6 x.sh.es nm i).map vZ) ob)/\m=x.es.length-i) (0,.slice none 0 0,[]) x.es.length [0] ⟨⟨Nat.zero_le _,Sl.nil _ _⟩,rfl⟩ ?_
 rintro ⟨i,v,ob⟩ mm g kk ⟨⟨hi,hv⟩,hmm⟩ nx hkk
 subst hkk
 refine zD 15 [] ((i:Int)<(x.es.length:Int)) (λh15=> ?_) (λh15=> ?_)
 rotate_left
 ·have hie:i=x.es.length:=by omega
  subst hie
  have hall:∀ k∈v6 x.sh.es nm x.es.length,k<x.es.length:=λk hk=>(idx_mem.1 hk).1
  have hvf:∀ k,k<x.es.length->(yU x.sh.es k).may=true:=λk hk=>by
   rw [qU Om];exact (yN (hM.ok _ (List.getElem_mem Om)).1).2.1
  refine wS 30 [] (.func (.func 104) #[] #[Zp b2 0]) (λw=>Kr) (qS (k:=103) (args:= #[v,.func (.func 104) #[] #[Zp b2 0]]) (Rr:=λu ob'=>u= .tuple #[]∧∃ l:List Nat,Sl 3 1 v l.length (l.map vZ) ob'/\wC x.sh nm l) [] ([hvB b2 x]++ob) [hvB b2 x] ob (λw hO=>hO) (λw hO=> ?_) ?_)
  ·have hg2:w.heap[b2]?=some (.cells #[.string (mkS x.name),.slice x.A x.es.length x.cap] 24):=hO.get (i:=0) rfl
   have hap:b2∉ob.map Blk.b:=by
    have:=hO.apart
    rw [List.map_append,List.nodup_append] at this
    exact λh=>this.2.2 b2 (by simp) b2 h rfl
   have hge:∀ k∈ob.map Blk.b,W.heap.size<=k:=λk hk=>by
    obtain ⟨y,hy,rfl⟩:=List.mem_map.1 hk
    exact (hO.base y (List.mem_append_right _ hy)).elim id λh=>by cases h
   refine (isort_any x.es.length (yU x.sh.es) hvf 104 #[Zp b2 0] (enters_of Tryz.func104 Kr rfl) hall hv (hO.sublist (List.sublist_append_right _ _)).lend (by have:=pF (l:=x.sh.es) (n:=nm) x.es.length;omega) (λw' hO' i j hi hj=> ?_)).mono λe w' ⟨l',ob',q1,q2,q3,q4,q5,_⟩=>⟨_,ob',q1,⟨rfl,l',q4,list_strict hM (hxl▸q2) q3⟩,q5⟩
   have hW2:YB W w':=hO.below.trans (hO'.belowB hge hO.size)
   exact sCmp13_any x b2 i j W w' hx hW2 hM ((hO'.kept b2 (Array.getElem?_eq_some_iff.1 hg2).1 hap).trans hg2) hi hj
  ·rintro _ ob' ⟨rfl,l,hl,hL⟩
   exact z7 [] v λw hO=>⟨v,ob',rfl,⟨l,hl,hL⟩,hO.past 1 ob'⟩
 have hj:i<x.es.length:=by omega
 obtain ⟨eb,eo,hA,hel⟩:=hx.es.top.elem gE i hj
 have q1:∀ w,YB W w->(loadVar 69 ⟨eb,eo+i*11+0,none⟩).run YP w= .ok (evV x.es[i]) w:=λw hw=>hel w hw _ 0 _ Kr
 have hnm:(x.sh.es[i]?.map λe=>e.rc.name)=some x.es[i].rec'.name:=by simp [Hv.sh,hj];rfl
 have hid:v6 x.sh.es nm (i+1)=if (some x.es[i].rec'.name:Option YL)=some nm then v6 x.sh.es nm i++[i] else v6 x.sh.es nm i:=by rw [v6,hnm]
 generalize x.es[i]=u at*
 refine zK 17 [] hA x.es.length x.cap i 11 hj (zH 18 [] 69 eb (eo+i*11+0) (evV u) (λw hO=>q1 w hO.below) (zS [] λb7=>kJ 23 [0,0] u.rec'.name nm (λh23=> ?_) (λh23=> ?_)))
 ·rw [if_pos (by rw [h23])] at hid
  refine gX [] 1 3 #[YI (i:Int)] λbl=>(x_app (m:=1) (cp:=1) [] [⟨bl, #[YI (i:Int)],3⟩,evB b7 u,hvB b2 x] ob [] 0 ([⟨bl, #[YI (i:Int)],3⟩,evB b7 u,hvB b2 x]++ob) (λw hO=>hO.cast (by simp)) hv (by have:=pF (l:=x.sh.es) (n:=nm) i;omega) λv' ob' hv'=>(x_i 28 [] ((i+1:Nat):Int) (zP [] ([hvB b2 x]++ob') (λw hO=> ?_) (nx (i+1,v',ob') (x.es.length-(i+1)) [] Om ⟨⟨hj,by rw [hid,List.length_append,List.length_singleton,List.map_append];exact hv'⟩,rfl⟩ Kr Kr))))
  have hO':=hO.past 0 ([⟨bl, #[YI (i:Int)],3⟩,evB b7 u,hvB b2 x]++ob'++[])
  clear hO
  exact own_cnt [⟨bl, #[YI (i:Int)],3⟩,evB b7 u] hO' λp=>by simp only [List.countP_append,List.countP_cons,List.countP_nil,List.cons_append,List.nil_append];omega
 ·rw [if_neg (by simpa using h23)] at hid
  exact x_i 28 [] ((i+1:Nat):Int) (zP [] ([hvB b2 x]++ob) (λw hO=>hO.past 1 ([hvB b2 x]++ob)) (nx (i+1,v,ob) (x.es.length-(i+1)) [] Om ⟨⟨hj,by rw [hid];exact hv⟩,rfl⟩ Kr Kr))
end
section
def wD {α:Type}(p:α->Bool)(l:List α)(z:Int):Int×Int:=match l.findIdx? p with
 |some i=>((i:Int),0)
 |none=>(0,z)
theorem jZ {α:Type}{p:α->Bool}{l:List α}{z:Int}(h:∀ x∈l,p x=false):wD p l z=(0,z):=by
 unfold wD;rw [List.findIdx?_eq_none_iff.2 h]
theorem wQ {α:Type}{p:α->Bool}{l:List α}{z:Int}{i:Nat}(hi:i<l.length)(h0:∀ x∈l.take i,p x=false)(h1:p l[i]=true):wD p l z=((i:Int),0):=by
 unfold wD
 have:l.findIdx? p=some i:=List.findIdx?_eq_some_iff_getElem.2 ⟨hi,h1,λj hj=>by
  have:=h0 l[j] (List.mem_take_iff_getElem.2 ⟨j,by omega,rfl⟩)
  simp [this]⟩
 rw [this]
theorem vP {α:Type}(p:α->Bool)(l:List α)(z:Int):(wD p l z=(0,z)∧∀ x∈l,p x=false)∨∃ i,∃ hi:i<l.length,wD p l z=((i:Int),0)/\p l[i]=true∧∀ x∈l.take i,p x=false:=by
 unfold wD
 cases hq:l.findIdx? p with
 |none=>exact .inl ⟨rfl,List.findIdx?_eq_none_iff.1 hq⟩
 |some i=>
  obtain ⟨hi,h1,h2⟩:=List.findIdx?_eq_some_iff_getElem.1 hq
  refine .inr ⟨i,hi,rfl,h1,λe he=> ?_⟩
  obtain ⟨j,hj,rfl⟩:=List.mem_take_iff_getElem.1 he
  have:=h2 j Om
  simpa using this
structure Pn where
 name:YL
 shelf:YL
def okP (l:List Pn)(i:Nat):Bool:=match l[i]? with
 |some p=>nmL p.name && nmL p.shelf && Op.bytesLess (yV (l.map Pn.name) i) p.name
 |none=>false
def pC (l:List Pn):Bool:=(List.range l.length).all (okP l)
def g6 (l:List Sh)(n:YL):Int×Int:=wD (λs=>decide (s.name=n)) l 12
def okH (l:List Sh)(i:Nat):Bool:=match l[i]? with
 |some s=>decide (yS s) && decide (g6 l s.name=((i:Int),0))
 |none=>false
def q6 (l:List Sh):Bool:=decide (l.length<=4) && (List.range l.length).all (okH l)
def jY (n:YL)(s:Sh):Bool:=s.es.any λe=>decide (e.rc.name=n)
def hasH (l:List Sh)(n:YL):Int×Int:=wD (jY n) l 9
def pinI (l:List Pn)(n:YL):Int×Int:=wD (λp=>decide (p.name=n)) l 9
def pinS (l:List Pn)(i:Nat):YL:=(l[i]?.map Pn.shelf).getD []
def yK (l:List Sh)(pins:List Pn)(n:YL):Int×Int:=
 if q6 l=true then if pC pins=true then if (pinI pins n).2=0 then g6 l (pinS pins (pinI pins n).1.toNat) else hasH l n else (0,15) else (0,1)
theorem pR {f:Nat->Bool}{n i:Nat}(hi:i<n)(h:(List.range n).all f=true):f i=true:=List.all_eq_true.1 h i (List.mem_range.2 hi)
theorem nZ {f:Nat->Bool}{n:Nat}(h:∀ j,j<n->f j=true):(List.range n).all f=true:=List.all_eq_true.2 λj hj=>h j (List.mem_range.1 hj)
theorem mayH_ok {l:List Sh}(h:q6 l=true){i:Nat}(hi:i<l.length):yS l[i]/\g6 l l[i].name=((i:Int),0):=by
 unfold q6 at h
 rw [Bool.and_eq_true] at h
 have:=pR hi h.2
 unfold okH at this
 rw [List.getElem?_eq_getElem hi] at this
 simpa using this
theorem mayH_few {l:List Sh}(h:q6 l=true):l.length<=4:=by
 unfold q6 at h
 rw [Bool.and_eq_true] at h
 simpa using h.1
theorem mayH_of {l:List Sh}(hl:l.length<=4)(h:∀ i (hi:i<l.length),yS l[i]/\g6 l l[i].name=((i:Int),0)):q6 l=true:=by
 unfold q6
 rw [Bool.and_eq_true]
 refine ⟨by simpa using hl,nZ λj hj=> ?_⟩
 unfold okH
 rw [List.getElem?_eq_getElem hj]
 simpa using h j hj
theorem nmd_at {l:List Sh}{i:Nat}(hi:i<l.length)(hd:∀ j (hj:j<i),l[j].name≠l[i].name):g6 l l[i].name=((i:Int),0):=
 wQ hi (λx hx=>by
  obtain ⟨j,hj,rfl⟩:=List.mem_take_iff_getElem.1 hx
  have:=hd j Om
  simpa using this) (by simp)
theorem from_nil {l:List Sh}{n:YL}(h:q6 l=true):yK l [] n=hasH l n:=by
 unfold yK
 rw [if_pos h,if_pos (by rfl),if_neg (by show ¬ ((9:Int)=0);decide)]
theorem list_one {s:Sh}(hM:yS s){n:YL}{a b:List Nat}(ha:wC s n a)(hb:wC s n b):a=b:=by
 have hp:a.Perm b:=ha.1.trans hb.1.symm
 have q:∀ {x:Nat},x∈a->(yU s.es x).may=true:=λ{x} hx=>by
  have hk:=(idx_mem.1 (ha.1.mem_iff.1 hx)).1
  rw [qU hk];exact (yN (hM.ok _ (List.getElem_mem hk)).1).2.1
 refine hp.eq_of_pairwise (λx y hx hy h1 h2=> ?_) ha.2 hb.2
 have:=qI (q hx) (q (hp.mem_iff.2 hy))
 omega
end
end Go.Proofs.YtflhcaljcoekpaaGreatDoor
