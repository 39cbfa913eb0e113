import Derived.Laws.IdiomStrings
import Derived.Laws.IdiomCopy
import Derived.Laws.BitsAllLaws
import Derived.Lib.ConvBytes
import Derived.Lib.Builder
import Derived.RangeFuncIn
import Derived.RangeFuncLeaves
import Derived.RangeFuncCalls
import Derived.RangeFuncNested
import Derived.Test.YtobimfnmnkegdaaGreatDoorMA11
import Derived.Test.YtobimfnmnkegdaaGreatDoorMA12
import Derived.Test.YtobimfnmnkegdaaGreatDoorMA13
import Derived.Test.YtobimfnmnkegdaaGreatDoorMA14
set_option maxRecDepth 1000000
set_option maxHeartbeats 8000000
set_option linter.unusedVariables false
set_option linter.unusedSimpArgs false
set_option linter.unnecessarySimpa false
namespace Go.Proofs.YtobimfnmnkegdaaGreatDoor
open Go.RowKit

section
theorem finrrngs_is:rngs=[[42],[94,48,46,48,46,48],[94,48,46,49,46,48],[94,49,46,48,46,48],[94,49,46,49,46,48],[94,50,46,48,46,48],[94,50,46,49,46,48],[62,61,48,46,48,46,48]]++([[62,61,48,46,49,46,48],[62,61,49,46,48,46,48],[62,61,49,46,49,46,48],[62,61,50,46,48,46,48],[62,61,50,46,49,46,48],[60,48,46,48,46,48],[60,48,46,49,46,48],[60,49,46,48,46,48]]++([[60,49,46,49,46,48],[60,50,46,48,46,48],[60,50,46,49,46,48],[61,48,46,48,46,48],[61,48,46,49,46,48],[61,49,46,48,46,48],[61,49,46,49,46,48],[61,50,46,48,46,48]]++([[61,50,46,49,46,48],[33,61,48,46,48,46,48],[33,61,48,46,49,46,48],[33,61,49,46,48,46,48],[33,61,49,46,49,46,48],[33,61,50,46,48,46,48],[33,61,50,46,49,46,48],[60,49]]++([[60,50]])))):=by decide+kernel
theorem r7Plain_any (s:YL)(W:World)(hs:GqR s):YC 88 #[.string (mkS s)] W (YR (.bool (yH s)) W):=by
 rw [plainG_in hs]
 have h:s∈rngs:=hs
 rw [finrrngs_is] at h
 rcases List.mem_append.1 h with h|h
 ·exact finr_r1 W s h
 rcases List.mem_append.1 h with h|h
 ·exact finr_r2 W s h
 rcases List.mem_append.1 h with h|h
 ·exact finr_r3 W s h
 rcases List.mem_append.1 h with h|h
 ·exact finr_r4 W s h
 exact finr_r5 W s h
theorem finrmrks_is:mrks=[[],[111,115,32,61,32,120],[111,115,32,61,32,121],[111,115,32,61,32,122],[111,115,32,61,32,119,95,49],[111,115,32,33,61,32,120],[111,115,32,33,61,32,121],[111,115,32,33,61,32,122]]++([[111,115,32,33,61,32,119,95,49],[97,114,99,104,32,61,32,120],[97,114,99,104,32,61,32,121],[97,114,99,104,32,61,32,122],[97,114,99,104,32,61,32,119,95,49],[97,114,99,104,32,33,61,32,120],[97,114,99,104,32,33,61,32,121],[97,114,99,104,32,33,61,32,122]]++([[97,114,99,104,32,33,61,32,119,95,49],[97,98,105,32,61,32,120],[97,98,105,32,61,32,121],[97,98,105,32,61,32,122],[97,98,105,32,61,32,119,95,49],[97,98,105,32,33,61,32,120],[97,98,105,32,33,61,32,121],[97,98,105,32,33,61,32,122]]++([[97,98,105,32,33,61,32,119,95,49]]))):=by decide+kernel
theorem r10Plain_any (s:YL)(W:World)(hs:GqM s):YC 169 #[.string (mkS s)] W (YR (.bool (yT s)) W):=by
 rw [plainM_in hs]
 have h:s∈mrks:=hs
 rw [finrmrks_is] at h
 rcases List.mem_append.1 h with h|h
 ·exact finr_m1 W s h
 rcases List.mem_append.1 h with h|h
 ·exact finr_m2 W s h
 rcases List.mem_append.1 h with h|h
 ·exact finr_m3 W s h
 exact finr_m4 W s h
end
section
set_option linter.unnecessarySimpa false
theorem r12feats_any (A:Option Addr)(cap:Nat)(l:List YL)(al:Bool)(W:World)(hv:Reads zW W W.heap.size A l)(hn:l.length<=5000)(ht:∀ s∈l,s.length<=1048576):YC 200 #[.slice A l.length cap,.bool al] W (YR (.bool (vF l al)) W):=by
 refine zF Tryz.func200 (zX (α:=Nat) (λi=>[(0,.slice A l.length cap),(1,.bool al),(5,YI (i:Int))]) (λ_=>[]) (λi m=>(i<=l.length∧∀ s∈l.take i,wdL s=true)/\m=l.length-i) 0 l.length [] ⟨⟨Nat.zero_le _,λy h=>by simp at h⟩,rfl⟩ ?_)
 rintro i mm g kk ⟨⟨hi,hno⟩,hmm⟩ nx hkk
 subst hkk
 refine zG 9 [] ((i:Int)<(l.length:Int)) (λh9=> ?_) (λh9=> ?_)
 ·have hj:i<l.length:=by omega
  obtain ⟨eb,eo,hA,hel⟩:=hv.elem zU i hj
  have hgo:=yD (p:=λs:YL=>wdL s=true) hj hno
  have hsm:l[i]∈l:=List.getElem_mem hj
  have hel0:∀ w,YB W w->(loadVar 9 ⟨eb,eo+i*1+0,none⟩).run YP w= .ok (.string (mkS l[i])) w:=λw hw=>hel w hw _ 0 _ Kr
  generalize l[i]=s at hel0 hgo hsm
  have hW:∀ w,YB W w->YC 170 #[.string (mkS s)] w (YR (.bool (wdL s)) w):=λw hb=>wA s w (ht s hsm)
  refine zO 14 [] hA l.length cap i 1 hj (zL 15 [] 9 eb (eo+i*1+0) (.string (mkS s)) (λw hO=>hel0 w hO.below) (z7 (v:= .bool (wdL s)) [] (λw hO=>hW w hO.below) (zS 16 (wdL s) (λh=> ?_) (λh=> ?_))))
  ·exact x_i 11 [] ((i+1:Nat):Int) (nx (i+1) (l.length-(i+1)) [] Om ⟨⟨hj,hgo h⟩,rfl⟩ Kr Kr)
  ·refine z8 [] Z5 λw hO=>⟨?_,hO.below⟩
   unfold vF
   rw [show l.all wdL=false from by rw [List.all_eq_false];exact ⟨s,hsm,by simp [h]⟩];rfl
 have hall:=yZ (p:=λs:YL=>wdL s=true) (show l.length<=i by omega) hno
 have hal:l.all wdL=true:=List.all_eq_true.2 hall
 have hR:∀ w,YB W w->YC 203 #[.slice A l.length cap] w (YR (.bool (x9 l)) w):=λw hb=>r1Rising_any A cap l w (hv.on hb hb.size) Om
 refine zG 20 [] ((l.length:Int)<=6) (λh20=> ?_) (λh20=> ?_)
 rotate_left
 ·exact z8 [] Z5 λw hO=>⟨by unfold vF;rw [hal,decide_eq_false (show ¬ l.length<=6 by omega)];rfl,hO.below⟩
 have h6:decide (l.length<=6)=true:=decide_eq_true Om
 refine z7 (v:= .bool (x9 l)) [] (λw hO=>hR w hO.below) (zS 23 (x9 l) (λh=> ?_) (λh=> ?_))
 rotate_left
 ·exact z8 [] Z5 λw hO=>⟨by unfold vF;rw [hal,h6,h];rfl,hO.below⟩
 cases al with
 |true=>exact z8 [] (.bool true) λw hO=>⟨by unfold vF;rw [hal,h6,h];rfl,hO.below⟩
 |false=>
  refine zG 30 [] ((l.length:Int)=0) (λh30=> ?_) (λh30=> ?_)
  ·exact z8 [] Z4 λw hO=>⟨by unfold vF;rw [hal,h6,h,decide_eq_true (List.eq_nil_of_length_eq_zero Om)];rfl,hO.below⟩
  ·exact z8 [] Z5 λw hO=>⟨by unfold vF;rw [hal,h6,h,decide_eq_false (λe=>h30 (by rw [e];rfl))];rfl,hO.below⟩
theorem r12wish_any (r:Rv)(x:Wv)(al:Bool)(W:World)(hv:Reads zW W W.heap.size x.A x.fs)(hn:x.fs.length<=5000)(ht:x.name.length<=1048576/\GqR x.rng∧∀ s∈x.fs,s.length<=1048576):YC 168 #[rvV r,wvV x,.bool al] W (YR (YI (kC r.name x.wt al)) W):=by
 have h1:∀ w,YB W w->YC 76 #[.string (mkS x.name)] w (YR (.bool (nmL x.name)) w):=λw hb=>mC x.name w ht.1
 have h2:∀ w,YB W w->YC 88 #[.string (mkS x.rng)] w (YR (.bool (yH x.rng)) w):=λw hb=>r7Plain_any x.rng w ht.2.1
 have h3:∀ w,YB W w->YC 200 #[.slice x.A x.fs.length x.cap,.bool al] w (YR (.bool (vF x.fs al)) w):=λw hb=>r12feats_any x.A x.cap x.fs al w (hv.on hb hb.size) hn ht.2.2
 have hE:kC r.name x.wt al=if nmL x.name=false then 4 else if x.name=r.name then 8 else if yH x.rng=false then 6 else if vF x.fs al=false then 11 else 0:=rfl
 refine zF Tryz.func168 (x1 [] λb3=>x1 [] λb4=>z7 (v:= .bool (nmL x.name)) [0] (λw hO=>h1 w hO.below) (zS 10 (nmL x.name) (λe1=> ?_) (λe1=> ?_)))
 rotate_left
 ·exact z8 [] (YI 4) λw hO=>⟨by rw [hE,if_pos e1],hO.below⟩
 refine qF 17 [0,1] x.name r.name (λe2=> ?_) (λe2=> ?_)
 ·exact z8 [] (YI 8) λw hO=>⟨by rw [hE,if_neg (by simp [e1]),if_pos e2],hO.below⟩
 refine z7 (v:= .bool (yH x.rng)) [0] (λw hO=>h2 w hO.below) (zS 21 (yH x.rng) (λe3=> ?_) (λe3=> ?_))
 rotate_left
 ·exact z8 [] (YI 6) λw hO=>⟨by rw [hE,if_neg (by simp [e1]),if_neg e2,if_pos e3],hO.below⟩
 refine z7 (v:= .bool (vF x.fs al)) [0] (λw hO=>h3 w hO.below) (zS 27 (vF x.fs al) (λe4=> ?_) (λe4=> ?_))
 ·exact z8 [] (YI 0) λw hO=>⟨by rw [hE,if_neg (by simp [e1]),if_neg e2,if_neg (by simp [e3]),if_neg (by simp [e4])],hO.below⟩
 ·exact z8 [] (YI 11) λw hO=>⟨by rw [hE,if_neg (by simp [e1]),if_neg e2,if_neg (by simp [e3]),if_pos e4],hO.below⟩
theorem r12bar_any (r:Rv)(x:Bv)(W:World)(ht:x.name.length<=1048576/\GqR x.rng/\GqM x.wh):YC 129 #[rvV r,bvV x] W (YR (YI (qM r.name x.bt)) W):=by
 have h1:∀ w,YB W w->YC 76 #[.string (mkS x.name)] w (YR (.bool (nmL x.name)) w):=λw hb=>mC x.name w ht.1
 have h2:∀ w,YB W w->YC 88 #[.string (mkS x.rng)] w (YR (.bool (yH x.rng)) w):=λw hb=>r7Plain_any x.rng w ht.2.1
 have h3:∀ w,YB W w->YC 169 #[.string (mkS x.wh)] w (YR (.bool (yT x.wh)) w):=λw hb=>r10Plain_any x.wh w ht.2.2
 have hE:qM r.name x.bt=if nmL x.name=false then 4 else if x.name=r.name then 8 else if yH x.rng=false then 6 else if yT x.wh=false then 7 else 0:=rfl
 refine zF Tryz.func129 (x1 [] λb3=>x1 [] λb4=>z7 (v:= .bool (nmL x.name)) [0] (λw hO=>h1 w hO.below) (zS 8 (nmL x.name) (λe1=> ?_) (λe1=> ?_)))
 rotate_left
 ·exact z8 [] (YI 4) λw hO=>⟨by rw [hE,if_pos e1],hO.below⟩
 refine qF 15 [0,1] x.name r.name (λe2=> ?_) (λe2=> ?_)
 ·exact z8 [] (YI 8) λw hO=>⟨by rw [hE,if_neg (by simp [e1]),if_pos e2],hO.below⟩
 refine z7 (v:= .bool (yH x.rng)) [0] (λw hO=>h2 w hO.below) (zS 19 (yH x.rng) (λe3=> ?_) (λe3=> ?_))
 rotate_left
 ·exact z8 [] (YI 6) λw hO=>⟨by rw [hE,if_neg (by simp [e1]),if_neg e2,if_pos e3],hO.below⟩
 refine z7 (v:= .bool (yT x.wh)) [0] (λw hO=>h3 w hO.below) (zS 24 (yT x.wh) (λe4=> ?_) (λe4=> ?_))
 ·exact z8 [] (YI 0) λw hO=>⟨by rw [hE,if_neg (by simp [e1]),if_neg e2,if_neg (by simp [e3]),if_neg (by simp [e4])],hO.below⟩
 ·exact z8 [] (YI 7) λw hO=>⟨by rw [hE,if_neg (by simp [e1]),if_neg e2,if_neg (by simp [e3]),if_pos e4],hO.below⟩
end
section
set_option linter.unnecessarySimpa false
def SuW (x:Wv):Prop:=x.name.length<=1048576/\GqR x.rng∧∀ s∈x.fs,s.length<=1048576
theorem needE_is (own:YL)(x:Nv):xR own x.nt=if x.any=[] then 9 else if 3<x.any.length then 3 else if yK (λu:Wv=>kC own u.wt (decide (x.any.length=1))) x.any≠0 then yK (λu:Wv=>kC own u.wt (decide (x.any.length=1))) x.any
 else if yT x.wh=false then 7 else if x.opt≠[]/\wdL x.opt=false then 14 else 0:=by
 unfold xR
 simp only [Nv.nt,firstE_map,List.length_map,List.map_eq_nil_iff]
 rfl
theorem r12need_any (r:Rv)(x:Nv)(W:World)(hv:Reads wvC W W.heap.size x.A x.any)(hf:∀ u∈x.any,Reads zW W W.heap.size u.A u.fs)(hn:x.any.length<=5000)(hnf:∀ u∈x.any,u.fs.length<=5000)(hs:GqM x.wh/\x.opt.length<=1048576)(hsu:∀ u∈x.any,SuW u):YC 128 #[rvV r,nvV x] W (YR (YI (xR r.name x.nt)) W):=by
 have hE:=needE_is r.name x
 refine zF Tryz.func128 (x1 [] λb2=>x1 [] λb3=>zG 10 [0] ((x.any.length:Int)=0) (λh10=> ?_) (λh10=> ?_))
 ·exact z8 [] (YI 9) λw hO=>⟨by rw [hE,if_pos (List.eq_nil_of_length_eq_zero Om)],hO.below⟩
 have h10':¬ x.any=[]:=λe=>h10 (by rw [e];rfl)
 rw [if_neg h10'] at hE
 refine zG 14 [0] ((x.any.length:Int)>3) (λh14=> ?_) (λh14=> ?_)
 ·exact z8 [] (YI 3) λw hO=>⟨by rw [hE,if_pos Om],hO.below⟩
 rw [if_neg (show ¬ 3<x.any.length by omega)] at hE
 refine zX (α:=Nat) (λi=>[(2,Zp b2 0),(3,Zp b3 0),(5,YI (i:Int))]) (λ_=>[⟨b3, #[.slice x.A x.any.length x.cap,.string (mkS x.wh),.string (mkS x.opt)],75⟩,⟨b2,(rvC r).toArray,29⟩]) (λi m=>(i<=x.any.length∧∀ u∈x.any.take i,kC r.name u.wt (decide (x.any.length=1))=0)/\m=x.any.length-i) 0 x.any.length [] ⟨⟨Nat.zero_le _,λy h=>by simp at h⟩,rfl⟩ ?_
 rintro i mm g kk ⟨⟨hi,hno⟩,hmm⟩ nx hkk
 subst hkk
 refine zG 19 [0] ((i:Int)<(x.any.length:Int)) (λh19=> ?_) (λh19=> ?_)
 ·have hj:i<x.any.length:=by omega
  obtain ⟨eb,eo,hA,hel⟩:=hv.elem qP i hj
  have hgo:=yD (p:=λu:Wv=>kC r.name u.wt (decide (x.any.length=1))=0) hj hno
  have hat:=fS (f:=λu:Wv=>kC r.name u.wt (decide (x.any.length=1))) hj hno
  have hsm:x.any[i]∈x.any:=List.getElem_mem hj
  have hel0:∀ w,YB W w->(loadVar 134 ⟨eb,eo+i*4+0,none⟩).run YP w= .ok (wvV x.any[i]) w:=λw hw=>hel w hw _ 0 _ Kr
  have hru:=hf _ hsm;have hnu:=hnf _ hsm;have hlu:=hsu _ hsm
  generalize x.any[i]=u at hel0 hgo hat hru hnu hlu
  have hc:∀ w,YB W w->YC 168 #[rvV r,wvV u,.bool (decide ((x.any.length:Int)=1))] w (YR (YI (kC r.name u.wt (decide (x.any.length=1)))) w):=λw hb=>by
   rw [show decide (x.any.length=1)=decide ((x.any.length:Int)=1) from decide_eq_decide.2 Om]
   exact r12wish_any r u _ w (hru.on hb hb.size) hnu hlu
  refine zO 26 [1,0] hA x.any.length x.cap i 4 hj (zL 27 [] 134 eb (eo+i*4+0) (wvV u) (λw hO=>hel0 w hO.below) (z7 (v:=YI (kC r.name u.wt (decide (x.any.length=1)))) [0] (λw hO=>hc w hO.below) (vK 34 [] (kC r.name u.wt (decide (x.any.length=1))=0) (λh=> ?_) (λh=> ?_))))
  ·exact x_i 21 [] ((i+1:Nat):Int) (nx (i+1) (x.any.length-(i+1)) [] Om ⟨⟨hj,hgo h⟩,rfl⟩ Kr Kr)
  ·refine z8 [] (YI (kC r.name u.wt (decide (x.any.length=1)))) λw hO=>⟨?_,hO.below⟩
   rw [hE,hat h,if_pos h]
 have hall:=v8 (yZ (p:=λu:Wv=>kC r.name u.wt (decide (x.any.length=1))=0) (show x.any.length<=i by omega) hno)
 rw [hall,if_neg (by simp)] at hE
 have h2:∀ w,YB W w->YC 169 #[.string (mkS x.wh)] w (YR (.bool (yT x.wh)) w):=λw hb=>r10Plain_any x.wh w hs.1
 have h3:∀ w,YB W w->YC 170 #[.string (mkS x.opt)] w (YR (.bool (wdL x.opt)) w):=λw hb=>wA x.opt w hs.2
 refine z7 (v:= .bool (yT x.wh)) [0] (λw hO=>h2 w hO.below) (zS 38 (yT x.wh) (λe3=> ?_) (λe3=> ?_))
 rotate_left
 ·exact z8 [] (YI 7) λw hO=>⟨by rw [hE,if_pos e3],hO.below⟩
 rw [if_neg (by simp [e3])] at hE
 refine vJ 42 [0] x.opt [] (λe4=> ?_) (λe4=> ?_)
 ·exact z8 [] (YI 0) λw hO=>⟨by rw [hE,if_neg (λh=>h.1 e4)],hO.below⟩
 refine z7 (v:= .bool (wdL x.opt)) [0] (λw hO=>h3 w hO.below) (zS 46 (wdL x.opt) (λe5=> ?_) (λe5=> ?_))
 ·exact z8 [] (YI 0) λw hO=>⟨by rw [hE,if_neg (λh=>by rw [e5] at h;simp at h)],hO.below⟩
 ·exact z8 [] (YI 14) λw hO=>⟨by rw [hE,if_pos ⟨e4,e5⟩],hO.below⟩
theorem optR_is (r:Rv)(s:YL):optR r.rt.needs s=r.needs.any λn=>decide (n.opt=s):=by
 unfold optR;simp only [Rv.rt,List.any_map];rfl
theorem r12option_any (r:Rv)(s:YL)(W:World)(hv:Reads nvC W W.heap.size r.nA r.needs)(hn:r.needs.length<=5000):YC 173 #[rvV r,.string (mkS s)] W (YR (.bool (optR r.rt.needs s)) W):=by
 rw [optR_is]
 refine zF Tryz.func173 (x1 [] λb2=>zX (α:=Nat) (λi=>[(1,.string (mkS s)),(2,Zp b2 0),(5,YI (i:Int))]) (λ_=>[⟨b2,(rvC r).toArray,29⟩]) (λi m=>(i<=r.needs.length∧∀ n∈r.needs.take i,n.opt≠s)/\m=r.needs.length-i) 0 r.needs.length [] ⟨⟨Nat.zero_le _,λy h=>by simp at h⟩,rfl⟩ ?_)
 rintro i mm g kk ⟨⟨hi,hno⟩,hmm⟩ nx hkk
 subst hkk
 refine zG 10 [0] ((i:Int)<(r.needs.length:Int)) (λh10=> ?_) (λh10=> ?_)
 rotate_left
 ·refine z8 [] Z5 λw hO=>⟨?_,hO.below⟩
  have hall:=yZ (p:=λn:Nv=>n.opt≠s) (show r.needs.length<=i by omega) hno
  rw [show (r.needs.any λn=>decide (n.opt=s))=false from by rw [List.any_eq_false];exact λn h=>by simpa using hall n h]
 have hj:i<r.needs.length:=by omega
 obtain ⟨eb,eo,hA,hel⟩:=hv.elem gT i hj
 have hgo:=yD (p:=λn:Nv=>n.opt≠s) hj hno
 have hsm:r.needs[i]∈r.needs:=List.getElem_mem hj
 have hel0:∀ w,YB W w->(loadVar 9 ⟨eb,eo+i*3+2,none⟩).run YP w= .ok (.string (mkS r.needs[i].opt)) w:=λw hw=>hel w hw _ 2 _ Kr
 generalize r.needs[i]=n at hel0 hgo hsm
 refine zO 16 [0] hA r.needs.length r.nc i 3 hj (zL 18 [] 9 eb (eo+i*3+2) (.string (mkS n.opt)) (λw hO=>hel0 w hO.below) (qF 20 [] n.opt s (λh=> ?_) (λh=> ?_)))
 ·refine z8 [] Z4 λw hO=>⟨?_,hO.below⟩
  rw [show (r.needs.any λn=>decide (n.opt=s))=true from List.any_eq_true.2 ⟨n,hsm,decide_eq_true h⟩]
 ·exact x_i 12 [] ((i+1:Nat):Int) (nx (i+1) (r.needs.length-(i+1)) [] Om ⟨⟨hj,hgo h⟩,rfl⟩ Kr Kr)
theorem pulR_is (r:Rv)(s:YL):pulR r.rt.needs s=r.needs.any λn=>pulN s n.nt:=by
 unfold pulR;simp only [Rv.rt,List.any_map];rfl
theorem pulN_one (s:YL)(n:Nv)(h0:0<n.any.length)(h1:n.any.length=1):pulN s n.nt=decide (n.any[0].name=s):=by
 obtain ⟨A,cap,any,wh,opt⟩:=n
 match any,h0,h1 with
 | [u],_,_=>rfl
theorem r12pulled_any (r:Rv)(s:YL)(W:World)(hv:Reads nvC W W.heap.size r.nA r.needs)(hf:∀ n∈r.needs,Reads wvC W W.heap.size n.A n.any)(hn:r.needs.length<=5000):YC 174 #[rvV r,.string (mkS s)] W (YR (.bool (pulR r.rt.needs s)) W):=by
 rw [pulR_is]
 refine zF Tryz.func174 (x1 [] λb2=>zX (α:=Nat) (λi=>[(1,.string (mkS s)),(2,Zp b2 0),(5,YI (i:Int))]) (λ_=>[⟨b2,(rvC r).toArray,29⟩]) (λi m=>(i<=r.needs.length∧∀ n∈r.needs.take i,pulN s n.nt=false)/\m=r.needs.length-i) 0 r.needs.length [] ⟨⟨Nat.zero_le _,λy h=>by simp at h⟩,rfl⟩ ?_)
 rintro i mm g kk ⟨⟨hi,hno⟩,hmm⟩ nx hkk
 subst hkk
 refine zG 10 [0] ((i:Int)<(r.needs.length:Int)) (λh10=> ?_) (λh10=> ?_)
 rotate_left
 ·refine z8 [] Z5 λw hO=>⟨?_,hO.below⟩
  have hall:=yZ (p:=λn:Nv=>pulN s n.nt=false) (show r.needs.length<=i by omega) hno
  rw [show (r.needs.any λn=>pulN s n.nt)=false from by rw [List.any_eq_false];exact λn h=>by simpa using hall n h]
 have hj:i<r.needs.length:=by omega
 obtain ⟨eb,eo,hA,hel⟩:=hv.elem gT i hj
 have hgo:=yD (p:=λn:Nv=>pulN s n.nt=false) hj hno
 have hsm:r.needs[i]∈r.needs:=List.getElem_mem hj
 have hel0:∀ w,YB W w->(loadVar 73 ⟨eb,eo+i*3+0,none⟩).run YP w= .ok (.slice r.needs[i].A r.needs[i].any.length r.needs[i].cap) w:=λw hw=>hel w hw _ 0 _ Kr
 have hra:=hf _ hsm
 generalize r.needs[i]=n at hel0 hgo hsm hra
 refine zO 16 [0] hA r.needs.length r.nc i 3 hj (zL 18 [] 73 eb (eo+i*3+0) (.slice n.A n.any.length n.cap) (λw hO=>hel0 w hO.below) (zG 20 [] ((n.any.length:Int)=1) (λh20=> ?_) (λh20=> ?_)))
 rotate_left
 ·have hp0:pulN s n.nt=false:=by
   unfold pulN Nv.nt
   match hm:n.any with
   | []=>rfl
   | [_]=>rw [hm] at h20;simp at h20
   |_::_::_=>rfl
  exact x_i 12 [] ((i+1:Nat):Int) (nx (i+1) (r.needs.length-(i+1)) [] Om ⟨⟨hj,hgo hp0⟩,rfl⟩ Kr Kr)
 have h0:0<n.any.length:=by omega
 obtain ⟨fb,fo,hA2,hel2⟩:=hra.elem qP 0 h0
 have hpu:=pulN_one s n h0 Om
 have l0:∀ w,YB W w->(loadVar 9 ⟨fb,fo+0*4+0,none⟩).run YP w= .ok (.string (mkS n.any[0].name)) w:=λw hw=>hel2 w hw _ 0 _ Kr
 generalize n.any[0]=u at hpu l0
 refine zO 25 [0] hA r.needs.length r.nc i 3 hj (zL 27 [] 73 eb (eo+i*3+0) (.slice n.A n.any.length n.cap) (λw hO=>hel0 w hO.below) (zO 28 [] hA2 n.any.length n.cap 0 4 h0 (zL 30 [] 9 fb (fo+0*4+0) (.string (mkS u.name)) (λw hO=>l0 w hO.below) (qF 32 [] u.name s (λh=> ?_) (λh=> ?_)))))
 ·refine z8 [] Z4 λw hO=>⟨?_,hO.below⟩
  rw [show (r.needs.any λn=>pulN s n.nt)=true from List.any_eq_true.2 ⟨n,hsm,by rw [hpu];exact decide_eq_true h⟩]
 ·exact x_i 12 [] ((i+1:Nat):Int) (nx (i+1) (r.needs.length-(i+1)) [] Om ⟨⟨hj,hgo (by rw [hpu];exact decide_eq_false h)⟩,rfl⟩ Kr Kr)
theorem r12items_any (r:Rv)(A:Option Addr)(cap:Nat)(l:List YL)(W:World)(hr:RcIn W W.heap.size r)(hv:Reads zW W W.heap.size A l)(hn:l.length<=5000)(ht:∀ s∈l,s.length<=1048576):YC 131 #[rvV r,.slice A l.length cap] W (YR (YI (yK (yY r.rt.needs) l)) W):=by
 refine zF Tryz.func131 (x1 [] λb2=>zX (α:=Nat) (λi=>[(1,.slice A l.length cap),(2,Zp b2 0),(5,YI (i:Int))]) (λ_=>[⟨b2,(rvC r).toArray,29⟩]) (λi m=>(i<=l.length∧∀ s∈l.take i,yY r.rt.needs s=0)/\m=l.length-i) 0 l.length [] ⟨⟨Nat.zero_le _,λy h=>by simp at h⟩,rfl⟩ ?_)
 rintro i mm g kk ⟨⟨hi,hno⟩,hmm⟩ nx hkk
 subst hkk
 refine zG 12 [] ((i:Int)<(l.length:Int)) (λh12=> ?_) (λh12=> ?_)
 rotate_left
 ·refine z8 [] (YI 0) λw hO=>⟨?_,hO.below⟩
  rw [v8 (yZ (p:=λs=>yY r.rt.needs s=0) (show l.length<=i by omega) hno)]
 have hj:i<l.length:=by omega
 obtain ⟨eb,eo,hA,hel⟩:=hv.elem zU i hj
 have hgo:=yD (p:=λs=>yY r.rt.needs s=0) hj hno
 have hat:=fS (f:=yY r.rt.needs) hj hno
 have hsm:l[i]∈l:=List.getElem_mem hj
 have hel0:∀ w,YB W w->(loadVar 9 ⟨eb,eo+i*1+0,none⟩).run YP w= .ok (.string (mkS l[i])) w:=λw hw=>hel w hw _ 0 _ Kr
 have hls:=ht _ hsm
 generalize l[i]=s at hel0 hgo hat hls
 have hE:yY r.rt.needs s=if (zJ s).1=2/\optR r.rt.needs (zJ s).2.1=false then 14 else if (zJ s).1=3/\pulR r.rt.needs (zJ s).2.1=false then 16 else 0:=rfl
 have hI:∀ w,YB W w->YC 172 #[.string (mkS s)] w (YR (.tuple #[YI (zJ s).1,.string (mkS (zJ s).2.1),.string (mkS (zJ s).2.2)]) w):=λw hb=>r11Item_any s w hls
 generalize zJ s=q at hE hI
 obtain ⟨kd,nm,sf⟩:=q
 have hO1:∀ w,YB W w->YC 173 #[rvV r,.string (mkS nm)] w (YR (.bool (optR r.rt.needs nm)) w):=λw hb=>r12option_any r nm w (hr.needs.on hb hb.size) hr.nn
 have hP1:∀ w,YB W w->YC 174 #[rvV r,.string (mkS nm)] w (YR (.bool (pulR r.rt.needs nm)) w):=λw hb=>r12pulled_any r nm w (hr.needs.on hb hb.size) (λn h=>(hr.any n h).on hb hb.size) hr.nn
 refine zO 18 [] hA l.length cap i 1 hj (zL 19 [] 9 eb (eo+i*1+0) (.string (mkS s)) (λw hO=>hel0 w hO.below) (z7 (v:= .tuple #[YI kd,.string (mkS nm),.string (mkS sf)]) [] (λw hO=>hI w hO.below) (zG 25 [] (kd=2) (λh25=> ?_) (λh25=> ?_))))
 ·subst h25
  refine z7 (v:= .bool (optR r.rt.needs nm)) [0] (λw hO=>hO1 w hO.below) (zS 29 (optR r.rt.needs nm) (λe1=> ?_) (λe1=> ?_))
  ·exact x_i 14 [] ((i+1:Nat):Int) (nx (i+1) (l.length-(i+1)) [] Om ⟨⟨hj,hgo (by rw [hE,if_neg (λh=>by have:=h.2;rw [e1] at this;simp at this),if_neg (λh=>by simp at h)])⟩,rfl⟩ Kr Kr)
  ·have h14:yY r.rt.needs s=14:=by rw [hE,if_pos ⟨rfl,e1⟩]
   exact z8 [] (YI 14) λw hO=>⟨by rw [hat (by rw [h14];decide),h14],hO.below⟩
 refine zG 33 [] (kd=3) (λh33=> ?_) (λh33=> ?_)
 ·subst h33
  refine z7 (v:= .bool (pulR r.rt.needs nm)) [0] (λw hO=>hP1 w hO.below) (zS 37 (pulR r.rt.needs nm) (λe1=> ?_) (λe1=> ?_))
  ·exact x_i 14 [] ((i+1:Nat):Int) (nx (i+1) (l.length-(i+1)) [] Om ⟨⟨hj,hgo (by rw [hE,if_neg (λh=>by simp at h),if_neg (λh=>by have:=h.2;rw [e1] at this;simp at this)])⟩,rfl⟩ Kr Kr)
  ·have h16:yY r.rt.needs s=16:=by rw [hE,if_neg (λh=>by simp at h),if_pos ⟨rfl,e1⟩]
   exact z8 [] (YI 16) λw hO=>⟨by rw [hat (by rw [h16];decide),h16],hO.below⟩
 ·exact x_i 14 [] ((i+1:Nat):Int) (nx (i+1) (l.length-(i+1)) [] Om ⟨⟨hj,hgo (by rw [hE,if_neg (λh=>h25 h.1),if_neg (λh=>h33 h.1)])⟩,rfl⟩ Kr Kr)
end
section
set_option linter.unnecessarySimpa false
theorem wishE_targ (own:YL)(u:Wt)(al:Bool):kC own u al=if qU own u.name u.rng≠0 then qU own u.name u.rng else if vF u.fs al=false then 11 else 0:=by
 unfold kC qU
 split
 ·simp
 ·split
  ·simp
  ·split<;>simp
def needC (n:Nv)(b:Nat):Blk:=⟨b, #[.slice n.A n.any.length n.cap,.string (mkS n.wh),.string (mkS n.opt)],75⟩
theorem qNeed_any (own:YL)(n:Nv)(W:World)(hv:Reads wvC W W.heap.size n.A n.any)(hf:∀ u∈n.any,Reads zW W W.heap.size u.A u.fs)(hn:n.any.length<=5000)(hnf:∀ u∈n.any,u.fs.length<=5000)(hs:GqM n.wh/\n.opt.length<=1048576)(hsu:∀ u∈n.any,SuW u)(hK:RecLib W):YC 65 #[nvV n,.string (mkS own)] W (YR (YI (xR own n.nt)) W):=by
 have hE:=needE_is own n
 refine zF Tryz.func65 (x1 [] λb2=>zG 11 [0] ((n.any.length:Int)=0) (λh11=> ?_) (λh11=> ?_))
 ·exact z8 [] (YI 9) λw hO=>⟨by rw [hE,if_pos (List.eq_nil_of_length_eq_zero Om)],hO.below⟩
 have h11':¬ n.any=[]:=λe=>h11 (by rw [e];rfl)
 rw [if_neg h11'] at hE
 refine zG 15 [0] ((n.any.length:Int)>3) (λh15=> ?_) (λh15=> ?_)
 ·exact z8 [] (YI 3) λw hO=>⟨by rw [hE,if_pos Om],hO.below⟩
 rw [if_neg (show ¬ 3<n.any.length by omega)] at hE
 refine zX (α:=Nat) (λi=>[(1,.string (mkS own)),(2,Zp b2 0),(17,.slice n.A n.any.length n.cap),(18,YI (n.any.length:Int)),(19,YI (i:Int))]) (λ_=>[needC n b2]) (λi m=>(i<=n.any.length∧∀ u∈n.any.take i,kC own u.wt (decide (n.any.length=1))=0)/\m=n.any.length-i) 0 n.any.length [0] ⟨⟨Nat.zero_le _,λy h=>by simp at h⟩,rfl⟩ ?_
 rintro i mm g kk ⟨⟨hi,hno⟩,hmm⟩ nx hkk
 subst hkk
 refine zG 20 [] ((i:Int)<(n.any.length:Int)) (λh20=> ?_) (λh20=> ?_)
 ·have hj:i<n.any.length:=by omega
  obtain ⟨eb,eo,hA,hel⟩:=hv.elem qP i hj
  have hgo:=yD (p:=λu:Wv=>kC own u.wt (decide (n.any.length=1))=0) hj hno
  have hat:=fS (f:=λu:Wv=>kC own u.wt (decide (n.any.length=1))) hj hno
  have hsm:n.any[i]∈n.any:=List.getElem_mem hj
  have hel0:∀ w,YB W w->(loadVar 134 ⟨eb,eo+i*4+0,none⟩).run YP w= .ok (wvV n.any[i]) w:=λw hw=>hel w hw _ 0 _ Kr
  have hru:=hf _ hsm;have hnu:=hnf _ hsm;have hlu:=hsu _ hsm
  generalize n.any[i]=u at hel0 hgo hat hru hnu hlu
  have hW:kC own u.wt (decide (n.any.length=1))=if qU own u.name u.rng≠0 then qU own u.name u.rng else if (askB u.fs && (decide (n.any.length=1)||decide (u.fs=[])))=false then 11 else 0:=wishE_targ own u.wt _
  have c1:∀ w,YB W w->YC 114 #[.string (mkS u.name),.string (mkS u.rng),.string (mkS own)] w (YR (YI (qU own u.name u.rng)) w):=λw h=>qTarget_any u.name u.rng own w hlu.1 hlu.2.1 (hK.on h)
  have c2:∀ w,YB W w->YC 115 #[.slice u.A u.fs.length u.cap] w (YR (.bool (askB u.fs)) w):=λw hb=>qAsk_any u.A u.cap u.fs w (hru.on hb hb.size) hnu hlu.2.2
  refine zO 21 [] hA n.any.length n.cap i 4 hj (zL 22 [] 134 eb (eo+i*4+0) (wvV u) (λw hO=>hel0 w hO.below) (zQ [] λb6=>z7 (v:=YI (qU own u.name u.rng)) [0,0,0] (λw hO=>c1 w hO.below) (vK 30 [] (qU own u.name u.rng=0) (λh1=> ?_) (λh1=> ?_))))
  rotate_left
  ·rw [if_pos h1] at hW
   refine z8 [] (YI (qU own u.name u.rng)) λw hO=>⟨?_,hO.below⟩
   rw [hE,hat (by rw [hW];exact h1),hW,if_pos h1]
  rw [if_neg (λq=>q h1)] at hW
  have fin:askB u.fs=false->kC own u.wt (decide (n.any.length=1))=11:=λh=>by rw [hW,h];rfl
  have out:kC own u.wt (decide (n.any.length=1))=11->xR own n.nt=11:=λh=>by
   rw [hE,hat (by rw [h];decide),h];rfl
  refine zG 35 [0] ((u.fs.length:Int)>0) (λh35=> ?_) (λh35=> ?_)
  ·refine zG 40 [1] ((n.any.length:Int)>1) (λh40=> ?_) (λh40=> ?_)
   ·refine z8 [] (YI 11) λw hO=>⟨?_,hO.below⟩
    rw [out (by rw [hW,decide_eq_false (show ¬ n.any.length=1 by omega),decide_eq_false (λe=>by rw [e] at h35;simp at h35)];simp)]
   ·refine z7 (v:= .bool (askB u.fs)) [0] (λw hO=>c2 w hO.below) (zS 45 (askB u.fs) (λh45=> ?_) (λh45=> ?_))
    ·have hz:kC own u.wt (decide (n.any.length=1))=0:=by rw [hW,h45,decide_eq_true (show n.any.length=1 by omega)];rfl
     exact x_i 19 [] ((i+1:Nat):Int) (zV [] [needC n b2] (λw hO=>hO.past 1 _) (nx (i+1) (n.any.length-(i+1)) [] Om ⟨⟨hj,hgo hz⟩,rfl⟩ Kr Kr))
    ·exact z8 [] (YI 11) λw hO=>⟨by rw [out (fin h45)],hO.below⟩
  ·refine z7 (v:= .bool (askB u.fs)) [0] (λw hO=>c2 w hO.below) (zS 45 (askB u.fs) (λh45=> ?_) (λh45=> ?_))
   ·have hz:kC own u.wt (decide (n.any.length=1))=0:=by
     rw [hW,h45,decide_eq_true (show u.fs=[] from List.eq_nil_of_length_eq_zero Om)];simp
    exact x_i 19 [] ((i+1:Nat):Int) (zV [] [needC n b2] (λw hO=>hO.past 1 _) (nx (i+1) (n.any.length-(i+1)) [] Om ⟨⟨hj,hgo hz⟩,rfl⟩ Kr Kr))
   ·exact z8 [] (YI 11) λw hO=>⟨by rw [out (fin h45)],hO.below⟩
 have hall:=v8 (yZ (p:=λu:Wv=>kC own u.wt (decide (n.any.length=1))=0) (show n.any.length<=i by omega) hno)
 rw [hall,if_neg (by simp)] at hE
 have h2:∀ w,YB W w->YC 116 #[.string (mkS n.wh)] w (YR (.bool (yT n.wh)) w):=λw hb=>qMark_any n.wh w hs.1 (hK.on hb)
 have h3:∀ w,YB W w->YC 117 #[.string (mkS n.opt)] w (YR (.bool (wdL n.opt)) w):=λw hb=>wE n.opt w hs.2
 refine z7 (v:= .bool (yT n.wh)) [0] (λw hO=>h2 w hO.below) (zS 51 (yT n.wh) (λe3=> ?_) (λe3=> ?_))
 rotate_left
 ·exact z8 [] (YI 7) λw hO=>⟨by rw [hE,if_pos e3],hO.below⟩
 rw [if_neg (by simp [e3])] at hE
 refine vJ 55 [0] n.opt [] (λe4=> ?_) (λe4=> ?_)
 ·exact z8 [] (YI 0) λw hO=>⟨by rw [hE,if_neg (λh=>h.1 e4)],hO.below⟩
 refine z7 (v:= .bool (wdL n.opt)) [0] (λw hO=>h3 w hO.below) (zS 59 (wdL n.opt) (λe5=> ?_) (λe5=> ?_))
 ·exact z8 [] (YI 0) λw hO=>⟨by rw [hE,if_neg (λh=>by rw [e5] at h;simp at h)],hO.below⟩
 ·exact z8 [] (YI 14) λw hO=>⟨by rw [hE,if_pos ⟨e4,e5⟩],hO.below⟩
def pulB (s:YL)(n:Nv):Bool:=pulN s n.nt
theorem qOpt_any (n:Nv)(s:YL)(b:Nat)(W:World)(hc:W.heap[b]?=some (.cells #[.string (mkS s)] 9)):YC 120 #[nvV n,.pointer (some ⟨b,0,none⟩)] W (YR (.bool (decide (n.opt=s))) W):=by
 have hb:b<W.heap.size:=(Array.getElem?_eq_some_iff.1 hc).1
 refine zF Tryz.func120 (x1 [] λb2=>zL 6 [0] 9 b 0 (.string (mkS s)) (λw hO=>yQ Kr ((hO.below.block b hb).trans hc)) (qF 7 [] n.opt s (λh=> ?_) (λh=> ?_)))
 ·exact z8 [] Z4 λw hO=>⟨by rw [decide_eq_true h],hO.below⟩
 ·exact z8 [] Z5 λw hO=>⟨by rw [decide_eq_false h],hO.below⟩
theorem qPul_any (n:Nv)(s:YL)(b:Nat)(W:World)(hv:Reads wvC W W.heap.size n.A n.any)(hc:W.heap[b]?=some (.cells #[.string (mkS s)] 9)):YC 122 #[nvV n,.pointer (some ⟨b,0,none⟩)] W (YR (.bool (pulB s n)) W):=by
 have hb:b<W.heap.size:=(Array.getElem?_eq_some_iff.1 hc).1
 refine zF Tryz.func122 (x1 [] λb2=>zG 7 [0] ((n.any.length:Int)=1) (λh7=> ?_) (λh7=> ?_))
 rotate_left
 ·refine z8 [] Z5 λw hO=>⟨?_,hO.below⟩
  have:pulB s n=false:=by
   unfold pulB pulN
   split
   ·rename_i x h
    have:=congrArg List.length h
    simp only [Nv.nt,List.length_map,List.length_cons,List.length_nil] at this
    omega
   ·rfl
  rw [this]
 have h1:n.any.length=1:=by omega
 obtain ⟨eb,eo,hA,hel⟩:=hv.elem qP 0 Om
 have hel0:∀ w,YB W w->(loadVar 9 ⟨eb,eo+0*4+0,none⟩).run YP w= .ok (.string (mkS (n.any[0]'Om).name)) w:=λw hw=>hel w hw _ 0 _ Kr
 have hp:pulB s n=decide ((n.any[0]'Om).name=s):=by
  obtain ⟨x,hx⟩:=List.length_eq_one_iff.1 h1
  have e:n.any[0]'Om=x:=by simp only [hx,List.getElem_cons_zero]
  rw [e]
  unfold pulB pulN
  rw [show n.nt.any=[x.wt] from by show n.any.map Wv.wt=_;rw [hx];rfl];rfl
 generalize n.any[0]=u at hel0 hp
 refine zO 11 [0] hA n.any.length n.cap 0 4 (by omega) (zL 13 [] 9 eb (eo+0*4+0) (.string (mkS u.name)) (λw hO=>hel0 w hO.below) (zL 14 [] 9 b 0 (.string (mkS s)) (λw hO=>yQ Kr ((hO.below.block b hb).trans hc)) (qF 15 [] u.name s (λh=> ?_) (λh=> ?_))))
 ·exact z8 [] Z4 λw hO=>⟨by rw [hp,decide_eq_true h],hO.below⟩
 ·exact z8 [] Z5 λw hO=>⟨by rw [hp,decide_eq_false h],hO.below⟩
theorem qHas1_any (p:Nv->Bool)(A:Option Addr)(cap:Nat)(l:List Nv)(b:Nat)(W:World)(hv:Reads nvC W W.heap.size A l)(hn:l.length<=5000)(hp:∀ n∈l,∀ w,YB W w->YC 120 #[nvV n,.pointer (some ⟨b,0,none⟩)] w (YR (.bool (p n)) w)):YC 121 #[.slice A l.length cap,.func (.func 120) #[] #[.pointer (some ⟨b,0,none⟩)]] W (YR (.bool (l.any p)) W):=by
 have key:∀ w,YB W w->YC 162 #[.slice A l.length cap,.func (.func 120) #[] #[.pointer (some ⟨b,0,none⟩)]] w λe w'=>∃ v,e= .returned v/\(∃ z:Int,v=YI z/\decide (0<=z)=l.any p)/\YB w w':=λw0 hb0=>by
  have hv0:=hv.on hb0 hb0.size
  have hp0:∀ n∈l,∀ w,YB w0 w->YC 120 #[nvV n,.pointer (some ⟨b,0,none⟩)] w (YR (.bool (p n)) w):=λn hn w hb=>hp n hn w (hb0.trans (hb.mono hb0.size))
  clear hp hv hb0
  refine zF Tryz.func162 (zX (α:=Nat) (λi=>[(0,.slice A l.length cap),(1,.func (.func 120) #[] #[Zp b 0]),(7,YI (l.length:Int)),(8,YI (i:Int))]) (λ_=>[]) (λi m=>(i<=l.length∧∀ y∈l.take i,p y=false)/\m=l.length-i) 0 l.length [] ⟨⟨Nat.zero_le _,λy h=>by simp at h⟩,rfl⟩ ?_)
  rintro i mm g kk ⟨⟨hi,hno⟩,hmm⟩ nx hkk
  subst hkk
  refine zG 9 [] ((i:Int)<(l.length:Int)) (λh9=> ?_) (λh9=> ?_)
  rotate_left
  ·refine z8 [] (YI (-1)) λw hO=>⟨_,rfl,⟨-1,rfl, ?_⟩,hO.below⟩
   have hall:=yZ (p:=λy:Nv=>p y=false) (show l.length<=i by omega) hno
   rw [show l.any p=false from List.any_eq_false.2 λy hy=>by rw [hall y hy];decide];rfl
  have hj:i<l.length:=by omega
  obtain ⟨eb,eo,hA,hel⟩:=hv0.elem gT i hj
  have hgo:=yD (p:=λy:Nv=>p y=false) hj hno
  have hsm:l[i]∈l:=List.getElem_mem hj
  have hel0:∀ w,YB w0 w->(loadVar 75 ⟨eb,eo+i*3+0,none⟩).run YP w= .ok (nvV l[i]) w:=λw hw=>hel w hw _ 0 _ Kr
  have hcf:=hp0 _ hsm
  generalize l[i]=n at hel0 hgo hcf hsm
  refine zO 14 [] hA l.length cap i 3 hj (zL 15 [] 75 eb (eo+i*3+0) (nvV n) (λw hO=>hel0 w hO.below) (z7 (v:= .bool (p n)) [] (λw hO=>hcf w hO.below) (zS 16 (p n) (λh16=> ?_) (λh16=> ?_))))
  ·refine z8 [] (YI (i:Int)) λw hO=>⟨_,rfl,⟨(i:Int),rfl, ?_⟩,hO.below⟩
   rw [show l.any p=true from List.any_eq_true.2 ⟨n,hsm,h16⟩,decide_eq_true Om]
  ·exact x_i 18 [] ((i+1:Nat):Int) (nx (i+1) (l.length-(i+1)) [] Om ⟨⟨hj,hgo h16⟩,rfl⟩ Kr Kr)
 refine zF Tryz.func121 (bD (R:=λv=>∃ z:Int,v=YI z/\decide (0<=z)=l.any p) [] (λw hO=>key w hO.below) ?_)
 rintro v ⟨z,rfl,hz⟩
 exact z8 [] (.bool (decide (0<=z))) λw hO=>⟨by rw [hz],hO.below⟩
theorem qHas2_any (p:Nv->Bool)(A:Option Addr)(cap:Nat)(l:List Nv)(b:Nat)(W:World)(hv:Reads nvC W W.heap.size A l)(hn:l.length<=5000)(hp:∀ n∈l,∀ w,YB W w->YC 122 #[nvV n,.pointer (some ⟨b,0,none⟩)] w (YR (.bool (p n)) w)):YC 121 #[.slice A l.length cap,.func (.func 122) #[] #[.pointer (some ⟨b,0,none⟩)]] W (YR (.bool (l.any p)) W):=by
 have key:∀ w,YB W w->YC 162 #[.slice A l.length cap,.func (.func 122) #[] #[.pointer (some ⟨b,0,none⟩)]] w λe w'=>∃ v,e= .returned v/\(∃ z:Int,v=YI z/\decide (0<=z)=l.any p)/\YB w w':=λw0 hb0=>by
  have hv0:=hv.on hb0 hb0.size
  have hp0:∀ n∈l,∀ w,YB w0 w->YC 122 #[nvV n,.pointer (some ⟨b,0,none⟩)] w (YR (.bool (p n)) w):=λn hn w hb=>hp n hn w (hb0.trans (hb.mono hb0.size))
  clear hp hv hb0
  refine zF Tryz.func162 (zX (α:=Nat) (λi=>[(0,.slice A l.length cap),(1,.func (.func 122) #[] #[Zp b 0]),(7,YI (l.length:Int)),(8,YI (i:Int))]) (λ_=>[]) (λi m=>(i<=l.length∧∀ y∈l.take i,p y=false)/\m=l.length-i) 0 l.length [] ⟨⟨Nat.zero_le _,λy h=>by simp at h⟩,rfl⟩ ?_)
  rintro i mm g kk ⟨⟨hi,hno⟩,hmm⟩ nx hkk
  subst hkk
  refine zG 9 [] ((i:Int)<(l.length:Int)) (λh9=> ?_) (λh9=> ?_)
  rotate_left
  ·refine z8 [] (YI (-1)) λw hO=>⟨_,rfl,⟨-1,rfl, ?_⟩,hO.below⟩
   have hall:=yZ (p:=λy:Nv=>p y=false) (show l.length<=i by omega) hno
   rw [show l.any p=false from List.any_eq_false.2 λy hy=>by rw [hall y hy];decide];rfl
  have hj:i<l.length:=by omega
  obtain ⟨eb,eo,hA,hel⟩:=hv0.elem gT i hj
  have hgo:=yD (p:=λy:Nv=>p y=false) hj hno
  have hsm:l[i]∈l:=List.getElem_mem hj
  have hel0:∀ w,YB w0 w->(loadVar 75 ⟨eb,eo+i*3+0,none⟩).run YP w= .ok (nvV l[i]) w:=λw hw=>hel w hw _ 0 _ Kr
  have hcf:=hp0 _ hsm
  generalize l[i]=n at hel0 hgo hcf hsm
  refine zO 14 [] hA l.length cap i 3 hj (zL 15 [] 75 eb (eo+i*3+0) (nvV n) (λw hO=>hel0 w hO.below) (z7 (v:= .bool (p n)) [] (λw hO=>hcf w hO.below) (zS 16 (p n) (λh16=> ?_) (λh16=> ?_))))
  ·refine z8 [] (YI (i:Int)) λw hO=>⟨_,rfl,⟨(i:Int),rfl, ?_⟩,hO.below⟩
   rw [show l.any p=true from List.any_eq_true.2 ⟨n,hsm,h16⟩,decide_eq_true Om]
  ·exact x_i 18 [] ((i+1:Nat):Int) (nx (i+1) (l.length-(i+1)) [] Om ⟨⟨hj,hgo h16⟩,rfl⟩ Kr Kr)
 refine zF Tryz.func121 (bD (R:=λv=>∃ z:Int,v=YI z/\decide (0<=z)=l.any p) [] (λw hO=>key w hO.below) ?_)
 rintro v ⟨z,rfl,hz⟩
 exact z8 [] (.bool (decide (0<=z))) λw hO=>⟨by rw [hz],hO.below⟩
theorem qItems_any (A:Option Addr)(cap:Nat)(of:List YL)(B:Option Addr)(capb:Nat)(l:List Nv)(W:World)(hu:Reads zW W W.heap.size A of)(ho:of.length<=5000)(ht:∀ s∈of,s.length<=1048576)(hv:Reads nvC W W.heap.size B l)(hn:l.length<=5000)(hva:∀ n∈l,Reads wvC W W.heap.size n.A n.any):YC 68 #[.slice A of.length cap,.slice B l.length capb] W (YR (YI (yK (yY (l.map Nv.nt)) of)) W):=by
 refine zF Tryz.func68 (zX (α:=Nat) (λi=>[(1,.slice B l.length capb),(12,.slice A of.length cap),(13,YI (of.length:Int)),(14,YI (i:Int))]) (λ_=>[]) (λi m=>(i<=of.length∧∀ s∈of.take i,yY (l.map Nv.nt) s=0)/\m=of.length-i) 0 of.length [] ⟨⟨Nat.zero_le _,λy h=>by simp at h⟩,rfl⟩ ?_)
 rintro i mm g kk ⟨⟨hi,hno⟩,hmm⟩ nx hkk
 subst hkk
 refine zG 15 [] ((i:Int)<(of.length:Int)) (λh15=> ?_) (λh15=> ?_)
 rotate_left
 ·refine z8 [] (YI 0) λw hO=>⟨?_,hO.below⟩
  rw [v8 (yZ (p:=λs=>yY (l.map Nv.nt) s=0) (show of.length<=i by omega) hno)]
 have hj:i<of.length:=by omega
 obtain ⟨eb,eo,hA,hel⟩:=hu.elem zU i hj
 have hgo:=yD (p:=λs=>yY (l.map Nv.nt) s=0) hj hno
 have hat:=fS (f:=yY (l.map Nv.nt)) hj hno
 have hsh:=ht _ (List.getElem_mem hj)
 have hel0:∀ w,YB W w->(loadVar 9 ⟨eb,eo+i*1+0,none⟩).run YP w= .ok (.string (mkS of[i])) w:=λw hw=>hel w hw _ 0 _ Kr
 generalize of[i]=s at hel0 hgo hat hsh
 have hI:yY (l.map Nv.nt) s=if (zJ s).1=2/\(l.any λn=>decide (n.opt=(zJ s).2.1))=false then 14 else if (zJ s).1=3/\l.any (pulB (zJ s).2.1)=false then 16 else 0:=by
  unfold yY optR pulR
  simp only [List.any_map];rfl
 refine zO 16 [] hA of.length cap i 1 hj (zL 17 [] 9 eb (eo+i*1+0) (.string (mkS s)) (λw hO=>hel0 w hO.below) (z7 (v:= .tuple #[YI (zJ s).1,.string (mkS (zJ s).2.1),.string (mkS (zJ s).2.2)]) [] (λw hO=>fItem_at s w hsh) (zQ [] λb8=> ?_)))
 have hc1:∀ w,Own [] W w [⟨b8, #[.string (mkS (zJ s).2.1)],9⟩]->YC 121 #[.slice B l.length capb,.func (.func 120) #[] #[.pointer (some ⟨b8,0,none⟩)]] w (YR (.bool (l.any λn=>decide (n.opt=(zJ s).2.1))) w):=λw hO=>by
  have hg:w.heap[b8]?=some (.cells #[.string (mkS (zJ s).2.1)] 9):=hO.get (i:=0) rfl
  exact qHas1_any _ B capb l b8 w (hv.on hO.below hO.size) hn λn hn w2 hb=>qOpt_any n (zJ s).2.1 b8 w2 ((hb.block b8 (Array.getElem?_eq_some_iff.1 hg).1).trans hg)
 have hc2:∀ w,Own [] W w [⟨b8, #[.string (mkS (zJ s).2.1)],9⟩]->YC 121 #[.slice B l.length capb,.func (.func 122) #[] #[.pointer (some ⟨b8,0,none⟩)]] w (YR (.bool (l.any (pulB (zJ s).2.1))) w):=λw hO=>by
  have hg:w.heap[b8]?=some (.cells #[.string (mkS (zJ s).2.1)] 9):=hO.get (i:=0) rfl
  exact qHas2_any _ B capb l b8 w (hv.on hO.below hO.size) hn λn hn w2 hb=>qPul_any n (zJ s).2.1 b8 w2 (((hva n hn).on hO.below hO.size).on hb hb.size) ((hb.block b8 (Array.getElem?_eq_some_iff.1 hg).1).trans hg)
 have next:yY (l.map Nv.nt) s=0→∀ m',m'=of.length-(i+1)->m'<mm/\(i+1<=of.length∧∀ s∈of.take (i+1),yY (l.map Nv.nt) s=0)/\m'=of.length-(i+1):=λh m' e=>⟨by omega,⟨hj,hgo h⟩,e⟩
 refine bN 24 [0] (.func (.func 120) #[] #[Zp b8 0]) (λw=>Kr) (zG 26 [] ((zJ s).1=2) (λh26=> ?_) (λh26=> ?_))
 ·refine z7 (v:= .bool (l.any λn=>decide (n.opt=(zJ s).2.1))) [] (λw hO=>hc1 w (hO.past 0 _)) (zS 30 (l.any λn=>decide (n.opt=(zJ s).2.1)) (λh30=> ?_) (λh30=> ?_))
  rotate_left
  ·refine z8 [] (YI 14) λw hO=>⟨?_,hO.below⟩
   have:yY (l.map Nv.nt) s=14:=by rw [hI,if_pos ⟨h26,h30⟩]
   rw [hat (by rw [this];decide),this]
  have hz:yY (l.map Nv.nt) s=0:=by rw [hI,if_neg (by rw [h30];simp),if_neg (λq=>by rw [h26] at q;exact absurd q.1 (by decide))]
  obtain ⟨q1,q2,q3⟩:=next hz _ rfl
  exact bN 33 [] (.func (.func 122) #[] #[Zp b8 0]) (λw=>Kr) (zG 35 [] ((zJ s).1=3) (λh=>absurd (h26.symm.trans h) (by decide)) (λh=>x_i 14 [] ((i+1:Nat):Int) (zV [] [] (λw hO=>hO.no) (nx (i+1) _ [] q1 ⟨q2,q3⟩ Kr Kr))))
 ·refine bN 33 [] (.func (.func 122) #[] #[Zp b8 0]) (λw=>Kr) (zG 35 [] ((zJ s).1=3) (λh35=> ?_) (λh35=> ?_))
  rotate_left
  ·have hz:yY (l.map Nv.nt) s=0:=by rw [hI,if_neg (λq=>h26 q.1),if_neg (λq=>h35 q.1)]
   obtain ⟨q1,q2,q3⟩:=next hz _ rfl
   exact x_i 14 [] ((i+1:Nat):Int) (zV [] [] (λw hO=>hO.no) (nx (i+1) _ [] q1 ⟨q2,q3⟩ Kr Kr))
  refine z7 (v:= .bool (l.any (pulB (zJ s).2.1))) [] (λw hO=>hc2 w (hO.past 0 _)) (zS 39 (l.any (pulB (zJ s).2.1)) (λh39=> ?_) (λh39=> ?_))
  ·have hz:yY (l.map Nv.nt) s=0:=by rw [hI,if_neg (λq=>h26 q.1),if_neg (by rw [h39];simp)]
   obtain ⟨q1,q2,q3⟩:=next hz _ rfl
   exact x_i 14 [] ((i+1:Nat):Int) (zV [] [] (λw hO=>hO.no) (nx (i+1) _ [] q1 ⟨q2,q3⟩ Kr Kr))
  ·refine z8 [] (YI 16) λw hO=>⟨?_,hO.below⟩
   have:yY (l.map Nv.nt) s=16:=by rw [hI,if_neg (λq=>h26 q.1),if_pos ⟨h35,h39⟩]
   rw [hat (by rw [this];decide),this]
end
section
set_option linter.unnecessarySimpa false
theorem strC_one (s:YL):∀ u∈zW s,u.oneCell'=true:=λu hu=>by rw [List.mem_singleton.1 hu];rfl
theorem r12text_any (r:Rv)(W:World)(hr:RcIn W W.heap.size r)(ht:(yV r.rt).length<=100000000):YC 39 #[rvV r] W (YR (.string (mkS (yV r.rt))) W):=by
 have hT:yV r.rt=gX r.rt++r.needs.flatMap (λn=>xE n.nt)++r.bars.flatMap (λb=>vB b.bt)++r.fts.flatMap (λf=>kL f.ft):=by
  unfold yV;simp only [Rv.rt,yC,List.flatMap_map]
 have hl:=congrArg List.length hT
 simp only [List.length_append] at hl
 have hp8:txPack.length=8:=rfl
 have hn5:txNeed.length=5:=rfl
 have ho7:txOpt.length=7:=rfl
 have hb4:txBar.length=4:=rfl
 have hsn:=hr.sn
 have hnn:=hr.nn;have hnb:=hr.nb;have hfn:=hr.fts.n
 have hH:(gX r.rt).length=8+r.name.length+1+r.ver.print.length+1:=by
  show (txPack++r.name++[32]++r.ver.print++[10]).length=_
  simp only [List.length_append,List.length_cons,List.length_nil,hp8]
 have hP:∀ w,YB W w->YC 80 #[kY r.ver] w (YR (.string (mkS r.ver.print)) w):=λw hb=>rprint_any r.ver w hsn.2.1 hsn.2.2
 refine zF Tryz.func39 (x1 [] λb1=>xB 10 [0] txPack r.name (xB 11 [] (txPack++r.name) [32] (z7 (v:= .string (mkS r.ver.print)) [0] (λw hO=>hP w hO.below) (xB 15 [] (txPack++r.name++[32]) r.ver.print (xB 16 [] (txPack++r.name++[32]++r.ver.print) [10] ?_)))))
 refine zX (α:=Nat×YL) (λx=>[(1,Zp b1 0),(3,.string (mkS x.2)),(4,YI (x.1:Int))]) (λ_=>[⟨b1,(rvC r).toArray,29⟩]) (λx m=>(x.1<=r.needs.length/\x.2=gX r.rt++(r.needs.take x.1).flatMap (λn=>xE n.nt))/\m=r.needs.length-x.1) (0,txPack++r.name++[32]++r.ver.print++[10]) r.needs.length [] ⟨⟨Nat.zero_le _,by show _=gX r.rt++[];rw [List.append_nil];rfl⟩,rfl⟩ ?_
 rintro ⟨i,s⟩ mm g kk ⟨⟨hi,hs⟩,hmm⟩ nx hkk
 subst hkk
 replace hi:i<=r.needs.length:=hi
 replace hs:s=gX r.rt++(r.needs.take i).flatMap (λn=>xE n.nt):=hs
 have hsl:s.length<=100000000:=by
  have:=bI (λn:Nv=>xE n.nt) (l:=r.needs) i
  rw [hs,List.length_append];omega
 refine zG 21 [0] ((i:Int)<(r.needs.length:Int)) (λh21=> ?_) (λh21=> ?_)
 ·have hj:i<r.needs.length:=by omega
  obtain ⟨eb,eo,hA,hel⟩:=hr.needs.elem gT i hj
  have hst:=qR (λn:Nv=>xE n.nt) hj
  have hmem:r.needs[i]∈r.needs:=List.getElem_mem hj
  have hone:=fm_one (λn:Nv=>xE n.nt) hmem
  have la:∀ w,YB W w->(loadVar 73 ⟨eb,eo+i*3+0,none⟩).run YP w= .ok (.slice r.needs[i].A r.needs[i].any.length r.needs[i].cap) w:=λw hw=>hel w hw _ 0 _ Kr
  have lw:∀ w,YB W w->(loadVar 9 ⟨eb,eo+i*3+1,none⟩).run YP w= .ok (.string (mkS r.needs[i].wh)) w:=λw hw=>hel w hw _ 1 _ Kr
  have lo:∀ w,YB W w->(loadVar 9 ⟨eb,eo+i*3+2,none⟩).run YP w= .ok (.string (mkS r.needs[i].opt)) w:=λw hw=>hel w hw _ 2 _ Kr
  have hra:=hr.any _ hmem;have hrf:=hr.wfs _ hmem;have hna:=hr.na _ hmem;have hnf:=hr.nf _ hmem;have hsw:=hr.sw _ hmem
  have hs2:s++xE r.needs[i].nt=gX r.rt++(r.needs.take (i+1)).flatMap (λn=>xE n.nt):=by rw [hst,hs,List.append_assoc]
  generalize r.needs[i]=n at la lw lo hone hra hrf hna hnf hsw hs2
  have hnT:xE n.nt=txNeed++n.any.flatMap (λu=>xP u.wt)++gP n.wh++fL n.opt:=by
   unfold xE;simp only [Nv.nt,List.flatMap_map]
  have hnl:=congrArg List.length hnT
  simp only [List.length_append] at hnl
  rw [hnT] at hs2
  have hWh:∀ w,YB W w->YC 82 #[.string (mkS n.wh)] w (YR (.string (mkS (gP n.wh))) w):=λw hb=>r12when_any n.wh w (gqM_len hsw.1)
  refine xB 25 [] s txNeed (zX (α:=Nat×YL) (λx=>[(1,Zp b1 0),(3,.string (mkS x.2)),(4,YI (i:Int)),(5,YI (x.1:Int))]) (λ_=>[⟨b1,(rvC r).toArray,29⟩]) (λx m=>(x.1<=n.any.length/\x.2=s++txNeed++(n.any.take x.1).flatMap (λu=>xP u.wt))/\m=n.any.length-x.1) (0,s++txNeed) n.any.length [] ⟨⟨Nat.zero_le _,by show _=s++txNeed++[];rw [List.append_nil]⟩,rfl⟩ ?_)
  rintro ⟨k,y⟩ mk gk kk ⟨⟨hk,hy⟩,hmk⟩ ny hkk
  subst hkk
  replace hk:k<=n.any.length:=hk
  replace hy:y=s++txNeed++(n.any.take k).flatMap (λu=>xP u.wt):=hy
  have hyl:y.length<=300000000:=by
   have:=bI (λu:Wv=>xP u.wt) (l:=n.any) k
   rw [hy,List.length_append,List.length_append];omega
  refine zO 30 [0] hA r.needs.length r.nc i 3 hj (zL 32 [] 73 eb (eo+i*3+0) (.slice n.A n.any.length n.cap) (λw hO=>la w hO.below) (zG 34 [] ((k:Int)<(n.any.length:Int)) (λh34=> ?_) (λh34=> ?_)))
  ·have hkj:k<n.any.length:=by omega
   obtain ⟨fb,fo,hA2,hel2⟩:=hra.elem qP k hkj
   have hst2:=qR (λu:Wv=>xP u.wt) hkj
   have hmem2:n.any[k]∈n.any:=List.getElem_mem hkj
   have hone2:=fm_one (λu:Wv=>xP u.wt) hmem2
   have lu:∀ w,YB W w->(loadVar 134 ⟨fb,fo+k*4+0,none⟩).run YP w= .ok (wvV n.any[k]) w:=λw hw=>hel2 w hw _ 0 _ Kr
   have hru:=hrf _ hmem2;have hnu:=hnf _ hmem2
   have hy2:y++xP n.any[k].wt=s++txNeed++(n.any.take (k+1)).flatMap (λu=>xP u.wt):=by rw [hst2,hy,List.append_assoc]
   generalize n.any[k]=u at lu hone2 hru hnu hy2
   have hc:∀ w,YB W w->YC 81 #[wvV u] w (YR (.string (mkS (xP u.wt))) w):=λw hb=>r12wished_any u w (hru.on hb hb.size) hnu Om
   refine zO 41 [0] hA r.needs.length r.nc i 3 hj (zL 43 [] 73 eb (eo+i*3+0) (.slice n.A n.any.length n.cap) (λw hO=>la w hO.below) (zO 45 [] hA2 n.any.length n.cap k 4 hkj (zL 46 [] 134 fb (fo+k*4+0) (wvV u) (λw hO=>lu w hO.below) (z7 (v:= .string (mkS (xP u.wt))) [] (λw hO=>hc w hO.below) (xB 48 [] y (xP u.wt) (x_i 36 [] ((k+1:Nat):Int) (ny (k+1,y++xP u.wt) (n.any.length-(k+1)) [] Om ⟨⟨hkj,hy2⟩,rfl⟩ Kr Kr)))))))
  have hy2:y=s++txNeed++n.any.flatMap (λu=>xP u.wt):=by rw [hy,List.take_of_length_le Om]
  clear ny
  refine zO 53 [0] hA r.needs.length r.nc i 3 hj (zL 55 [] 9 eb (eo+i*3+1) (.string (mkS n.wh)) (λw hO=>lw w hO.below) (z7 (v:= .string (mkS (gP n.wh))) [] (λw hO=>hWh w hO.below) (xB 57 [] y (gP n.wh) (zO 61 [0] hA r.needs.length r.nc i 3 hj (zL 63 [] 9 eb (eo+i*3+2) (.string (mkS n.opt)) (λw hO=>lo w hO.below) (vJ 64 [] n.opt [] (λh64=> ?_) (λh64=> ?_)))))))
  ·exact x_i 23 [] ((i+1:Nat):Int) (nx (i+1,y++gP n.wh) (r.needs.length-(i+1)) [] Om ⟨⟨hj,by
    rw [←hs2,show fL n.opt=[] from if_pos h64,hy2,List.append_nil];simp only [List.append_assoc]⟩,rfl⟩ Kr Kr)
  ·have hol:(fL n.opt).length=7+n.opt.length+1:=by
    rw [show fL n.opt=txOpt++n.opt++[10] from if_neg h64];simp only [List.length_append,List.length_cons,List.length_nil,ho7]
   refine xB 66 [] (y++gP n.wh) txOpt (zO 70 [0] hA r.needs.length r.nc i 3 hj (zL 72 [] 9 eb (eo+i*3+2) (.string (mkS n.opt)) (λw hO=>lo w hO.below) (xB 73 [] (y++gP n.wh++txOpt) n.opt (xB 74 [] (y++gP n.wh++txOpt++n.opt) [10] ?_))))
   exact x_i 23 [] ((i+1:Nat):Int) (nx (i+1,y++gP n.wh++txOpt++n.opt++[10]) (r.needs.length-(i+1)) [] Om ⟨⟨hj,by
    rw [←hs2,show fL n.opt=txOpt++n.opt++[10] from if_neg h64,hy2];simp only [List.append_assoc]⟩,rfl⟩ Kr Kr)
 have hs':s=gX r.rt++r.needs.flatMap (λn=>xE n.nt):=by rw [hs,List.take_of_length_le Om]
 clear nx hs
 refine zX (α:=Nat×YL) (λx=>[(1,Zp b1 0),(3,.string (mkS x.2)),(6,YI (x.1:Int))]) (λ_=>[⟨b1,(rvC r).toArray,29⟩]) (λx m=>(x.1<=r.bars.length/\x.2=s++(r.bars.take x.1).flatMap (λb=>vB b.bt))/\m=r.bars.length-x.1) (0,s) r.bars.length [] ⟨⟨Nat.zero_le _,by show _=s++[];rw [List.append_nil]⟩,rfl⟩ ?_
 rintro ⟨i2,z⟩ m2 g2 kk ⟨⟨hi2,hz⟩,hm2⟩ nx hkk
 subst hkk
 replace hi2:i2<=r.bars.length:=hi2
 replace hz:z=s++(r.bars.take i2).flatMap (λb=>vB b.bt):=hz
 have hzl:z.length<=200000000:=by
  have:=bI (λb:Bv=>vB b.bt) (l:=r.bars) i2
  rw [hz,List.length_append];omega
 refine zG 79 [0] ((i2:Int)<(r.bars.length:Int)) (λh79=> ?_) (λh79=> ?_)
 ·have hj:i2<r.bars.length:=by omega
  obtain ⟨eb,eo,hA,hel⟩:=hr.bars.elem mP i2 hj
  have hst:=qR (λb:Bv=>vB b.bt) hj
  have hmem:r.bars[i2]∈r.bars:=List.getElem_mem hj
  have hone:=fm_one (λb:Bv=>vB b.bt) hmem
  have l0:∀ w,YB W w->(loadVar 9 ⟨eb,eo+i2*3+0,none⟩).run YP w= .ok (.string (mkS r.bars[i2].name)) w:=λw hw=>hel w hw _ 0 _ Kr
  have l1:∀ w,YB W w->(loadVar 9 ⟨eb,eo+i2*3+1,none⟩).run YP w= .ok (.string (mkS r.bars[i2].rng)) w:=λw hw=>hel w hw _ 1 _ Kr
  have l2:∀ w,YB W w->(loadVar 9 ⟨eb,eo+i2*3+2,none⟩).run YP w= .ok (.string (mkS r.bars[i2].wh)) w:=λw hw=>hel w hw _ 2 _ Kr
  have hsb:=hr.sb _ hmem
  have hz2:z++vB r.bars[i2].bt=s++(r.bars.take (i2+1)).flatMap (λb=>vB b.bt):=by rw [hst,hz,List.append_assoc]
  generalize r.bars[i2]=b at l0 l1 l2 hone hsb hz2
  have hbT:vB b.bt=txBar++b.name++[32]++b.rng++[10]++gP b.wh:=rfl
  have hbl:=congrArg List.length hbT
  simp only [List.length_append,List.length_cons,List.length_nil] at hbl
  rw [hbT] at hz2
  have hWh:∀ w,YB W w->YC 82 #[.string (mkS b.wh)] w (YR (.string (mkS (gP b.wh))) w):=λw hb=>r12when_any b.wh w (gqM_len hsb.2.2)
  refine xB 83 [] z txBar (zO 87 [0] hA r.bars.length r.bc i2 3 hj (zL 89 [] 9 eb (eo+i2*3+0) (.string (mkS b.name)) (λw hO=>l0 w hO.below) (xB 90 [] (z++txBar) b.name (xB 91 [] (z++txBar++b.name) [32] (zO 95 [0] hA r.bars.length r.bc i2 3 hj (zL 97 [] 9 eb (eo+i2*3+1) (.string (mkS b.rng)) (λw hO=>l1 w hO.below) (xB 98 [] (z++txBar++b.name++[32]) b.rng (xB 99 [] (z++txBar++b.name++[32]++b.rng) [10] (zO 103 [0] hA r.bars.length r.bc i2 3 hj (zL 105 [] 9 eb (eo+i2*3+2) (.string (mkS b.wh)) (λw hO=>l2 w hO.below) (z7 (v:= .string (mkS (gP b.wh))) [] (λw hO=>hWh w hO.below) (xB 107 [] (z++txBar++b.name++[32]++b.rng++[10]) (gP b.wh) ?_))))))))))))
  exact x_i 81 [] ((i2+1:Nat):Int) (nx (i2+1,z++txBar++b.name++[32]++b.rng++[10]++gP b.wh) (r.bars.length-(i2+1)) [] Om ⟨⟨hj,by rw [←hz2];simp only [List.append_assoc]⟩,rfl⟩ Kr Kr)
 have hz':z=s++r.bars.flatMap (λb=>vB b.bt):=by rw [hz,List.take_of_length_le Om]
 clear nx hz
 refine zX (α:=Nat×YL) (λx=>[(1,Zp b1 0),(3,.string (mkS x.2)),(7,YI (x.1:Int))]) (λ_=>[⟨b1,(rvC r).toArray,29⟩]) (λx m=>(x.1<=r.fts.length/\x.2=z++(r.fts.take x.1).flatMap (λf=>kL f.ft))/\m=r.fts.length-x.1) (0,z) r.fts.length [] ⟨⟨Nat.zero_le _,by show _=z++[];rw [List.append_nil]⟩,rfl⟩ ?_
 rintro ⟨i3,q⟩ m3 g3 kk ⟨⟨hi3,hq⟩,hm3⟩ nx hkk
 subst hkk
 replace hi3:i3<=r.fts.length:=hi3
 replace hq:q=z++(r.fts.take i3).flatMap (λf=>kL f.ft):=hq
 have hql:q.length<=300000000:=by
  have:=bI (λf:Fv=>kL f.ft) (l:=r.fts) i3
  rw [hq,List.length_append];omega
 refine zG 112 [0] ((i3:Int)<(r.fts.length:Int)) (λh112=> ?_) (λh112=> ?_)
 rotate_left
 ·refine z8 [] (.string (mkS q)) λw hO=>⟨?_,hO.below⟩
  rw [hT,hq,List.take_of_length_le Om,hz',hs']
 have hj:i3<r.fts.length:=by omega
 obtain ⟨eb,eo,hA,hel⟩:=hr.fts.top.elem qQ i3 hj
 have hst:=qR (λf:Fv=>kL f.ft) hj
 have hmem:r.fts[i3]∈r.fts:=List.getElem_mem hj
 have hone:=fm_one (λf:Fv=>kL f.ft) hmem
 have l0:∀ w,YB W w->(loadVar 9 ⟨eb,eo+i3*2+0,none⟩).run YP w= .ok (.string (mkS r.fts[i3].name)) w:=λw hw=>hel w hw _ 0 _ Kr
 have l1:∀ w,YB W w->(loadVar 66 ⟨eb,eo+i3*2+1,none⟩).run YP w= .ok (.slice r.fts[i3].A r.fts[i3].of.length r.fts[i3].cap) w:=λw hw=>hel w hw _ 1 _ Kr
 have hru:=hr.fts.each _ hmem;have hmu:=hr.fts.m _ hmem
 have hq2:q++kL r.fts[i3].ft=z++(r.fts.take (i3+1)).flatMap (λf=>kL f.ft):=by rw [hst,hq,List.append_assoc]
 generalize r.fts[i3]=u at l0 l1 hone hru hmu hq2
 have hfT:kL u.ft=zD 32 (y9::u.name::u.of)++[10]:=rfl
 have hfl:=congrArg List.length hfT
 simp only [List.length_append,List.length_cons,List.length_nil] at hfl
 rw [hfT] at hq2
 refine dS 18 [] (q9 50119 [0] 4 hA r.fts.length r.fc i3 2 hj (gY 50121 [] 6 9 eb (eo+i3*2+0) (.string (mkS u.name)) (λw hO=>l0 w hO.below) (q9 50126 [0] 11 hA r.fts.length r.fc i3 2 hj (gY 50128 [] 13 66 eb (eo+i3*2+1) (.slice u.A u.of.length u.cap) (λw hO=>l1 w hO.below) ?_))))
 refine yJ [] 7 (gZ 2 9 #[.string (mkS y9),.string (mkS u.name)] λb3=>yJ [] 14 (qO (g:=zW) u.of [] [⟨b3, #[.string (mkS y9),.string (mkS u.name)],9⟩] [⟨b1,(rvC r).toArray,29⟩] [⟨b3, #[.string (mkS y9),.string (mkS u.name)],9⟩,⟨b1,(rvC r).toArray,29⟩] [⟨b1,(rvC r).toArray,29⟩] (cp:=u.cap) (λw hO=>by simpa using hO) (λo w hO=>Own.sub o (by simpa using hO)) zU strC_one (λw hO=>hru.on hO.below hO.below.size) (sl_block (N:=2) rfl (by unfold maxLen;omega)) Om λv' ob' h=> ?_))
 have hS:SlT v' (y9::u.name::u.of) ob':=by
  unfold SlT
  rw [x6,show (y9::u.name::u.of).length=2+u.of.length by simp only [List.length_cons];omega]
  exact h
 have hJ:∀ w,Own [] W w (ob'++[⟨b1,(rvC r).toArray,29⟩])->YC 55 #[v',.int .u8 32] w (YR (.string (mkS (zD 32 (y9::u.name::u.of)))) w):=λw hO=>pB v' _ 32 w (hS.readsT hO λx hx=>List.mem_append_left _ hx) Om (by simp only [List.length_cons];omega)
 refine yJ [] 15 (z7 (v:= .string (mkS (zD 32 (y9::u.name::u.of)))) [] (λw hO=>hJ w (hO.past 0 _)) (jA 50131 [] 16 q (zD 32 (y9::u.name::u.of)) (jA 50132 [] 17 (q++zD 32 (y9::u.name::u.of)) [10] ?_)))
 refine x_i 114 [] ((i3+1:Nat):Int) (zV [] [⟨b1,(rvC r).toArray,29⟩] (λw hO=>Own.sub ob' (hO.past 0 _)) ?_)
 exact (nx (i3+1,q++zD 32 (y9::u.name::u.of)++[10]) (r.fts.length-(i3+1)) [] Om ⟨⟨hj,by rw [←hq2];simp only [List.append_assoc]⟩,rfl⟩ Kr Kr)
end
section
def BuR (b:Nat)(l:YL)(ob:List Blk):Prop:=
 ∃ p v g,ob=⟨b, #[p,v],156⟩::g/\(p= .pointer none\/p= .pointer (some ⟨b,0,none⟩))/\Sl 5 1 v l.length (Lib.byteCells l) g
theorem BuR.new (b:Nat):BuR b [] [⟨b, #[.pointer none,.slice none 0 0],156⟩]:=⟨_,_,[],rfl,.inl rfl,Sl.nil _ _⟩
theorem sizeWriterR:(Tryz.prog.info? 98).map (·.size)=some 2:=by kernel_rfl
theorem liesWriterR:liesAt YP Tryz.prog.depth 156 (2/Tryz.prog.cellsOf 156) 0 98 1=true:=by kernel_rfl
theorem copyCheck_newR (b:Nat)(w:World)(h0:w.cell? ⟨b,0,none⟩=some (.pointer none))(hsh:w.shape? b=some (156,2))(hfz:w.frozen? ⟨b,0,none⟩=false):
  YC 89 #[.pointer (some ⟨b,0,none⟩)] w λe w'=>e= .returned (.tuple #[])/\w'=w.setCell ⟨b,0,none⟩ (.pointer (some ⟨b,0,none⟩)):=by
 obtain ⟨j,hj,hjs⟩:=Option.map_eq_some_iff.1 sizeWriterR
 go_enter Tryz.func89,Tryz.ntmps89
 go_wp2
 rw [Lib.run_to_unsafe w ⟨b,0,none⟩ Tryz.underlying95 Tryz.underlying196 hj (by rw [hjs];decide) hsh (Nat.zero_lt_succ 1)]
 simp only [Result.andThen]
 rw [Oper.upon_value]
 go_wp2
 rw [run_callFunc_extern Tryz.func140 Kr Kr Kr (e:=Extern.AbiNoEscape.same) Kr]
 rw [Lib.run_noEscape]
 simp only [Result.andThen]
 rw [Oper.upon_value]
 go_wp2
 rw [Lib.run_from_unsafe w ⟨b,0,none⟩ Tryz.underlying196 Tryz.underlying95 hj hsh liesWriterR]
 simp only [Result.andThen]
 rw [Oper.upon_value]
 go_wp2
 go_end0
 exact ⟨rfl,rfl⟩
theorem rcheck_any (b:Nat)(p v:Value)(R:List Blk)(M:List Nat)(W w:World)(hp:p= .pointer none\/p= .pointer (some ⟨b,0,none⟩))(hO:Own M W w (⟨b, #[p,v],156⟩::R)):
  YC 89 #[.pointer (some ⟨b,0,none⟩)] w λe w'=>e= .returned (.tuple #[])/\Own M W w' (⟨b, #[.pointer (some ⟨b,0,none⟩),v],156⟩::R):=by
 have hb:w.heap[b]?=some (.cells #[p,v] 156 (0,0)):=hO.held ⟨b, #[p,v],156⟩ (List.mem_cons_self ..)
 have c0:w.cell? ⟨b,0,none⟩=some p:=by rw [Lib.cell_of_heap hb];rfl
 rcases hp with rfl|rfl
 ·refine (copyCheck_newR b w c0 (by simp [World.shape?,hb]) (Lib.frozen_of_heap hb 0)).mono λe w' ⟨he,hw⟩=>⟨he, ?_⟩
  rw [hw,setCell_eq_setRow w b 0 _ _ _ _ hb]
  exact hO.put (i:=0) (x:=⟨b, #[.pointer none,v],156⟩) rfl _
 ·exact (d9 b w c0).mono λe w' ⟨he,hw⟩=>⟨he,hw▸hO⟩
theorem infoU8R:∃ i,Tryz.prog.info? 5=some i/\i.zero=some (.int .u8 0)/\i.size=1/\i.bytes=1:=info_parts infoByte
theorem buR_own {B b:Nat}{l:YL}{ob:List Blk}{M:List Nat}{W w:World}(hB:BuR b l ob)(hO:Own M W w ob)(hM:∀ x∈ob,B<=x.b):Lib.IsBuilder 156 5 B b (Lib.byteCells l) w:=by
 obtain ⟨p,v,g,rfl,hp,hv⟩:=hB
 have hb:w.heap[b]?=some (.cells #[p,v] 156 (0,0)):=hO.held ⟨b, #[p,v],156⟩ (List.mem_cons_self ..)
 have key:Lib.BuilderAt 156 5 B b p (Lib.byteCells l) w:=by
  refine ⟨hM ⟨b, #[p,v],156⟩ (List.mem_cons_self ..),v,hb, ?_, ?_⟩
  ·rw [Lib.byteCells_length]
   refine ⟨hv.1, ?_⟩
   rcases hv.2 with ⟨h1,h2,_⟩|⟨k,cap,cur,h1,rfl,h3,h4,h5,h6⟩
   ·exact .inl ⟨h1,h2⟩
   ·exact .inr ⟨k,cap,cur,h1,hM ⟨k,cur,5⟩ (by simp),hO.held ⟨k,cur,5⟩ (by simp),h3,h4,h5,h6⟩
  ·rcases hv.2 with ⟨rfl,_,_⟩|⟨k,cap,cur,rfl,rfl,_⟩
   ·simp [Value.ownBlock]
   ·intro e
    have hk:k=b:=by simpa [Value.ownBlock] using e
    have:=hO.apart
    simp [hk] at this
 rcases hp with rfl|rfl
 ·exact .inl key
 ·exact .inr key
theorem rstring_any0 (B b:Nat)(l:YL)(w:World)(h:Lib.IsBuilder 156 5 B b (Lib.byteCells l) w)(h0:l≠[]):
  YC 50 #[.pointer (some ⟨b,0,none⟩)] w λe w'=>e= .returned (.string ⟨l.toArray⟩)/\Below B w w':=by
 obtain ⟨p,hB,v,hbk,hown,hne⟩:∃ p,Lib.BuilderAt 156 5 B b p (Lib.byteCells l) w:=h.elim (λq=>⟨_,q⟩) (λq=>⟨_,q⟩)
 rcases hown.2 with ⟨_,hz⟩|⟨g,cap,cur,rfl,hbg,hg,hnc,hcm,hcs,htake⟩
 ·exact absurd hz (mO h0)
 rw [Lib.byteCells_length] at hown hnc hbk htake
 have hl0:l.length≠0:=λe=>h0 (List.eq_nil_of_length_eq_zero e)
 have hg':w.drew.heap[g]?=some (.cells cur 5 (0,0)):=hg
 have c1:w.drew.cell? ⟨b,1,none⟩=some (.slice (some ⟨g,0,none⟩) l.length cap):=by
  rw [Lib.cell_of_heap (show w.drew.heap[b]?=_ from hbk)];rfl
 have hSD:=Lib.run_unsafeSliceData_row (P:=YP) w.drew #[96] 146 ⟨g,0,none⟩ l.length cap Om
 have hUS:=Lib.run_unsafeString_row (P:=YP) w.drew 146 3 9 5 Tryz.underlying146 Kr g cur.size (by unfold World.shape?;rw [hg']) l h0 Om (by unfold maxLen at hcm;omega)
  (λj x hx=>hown.cells (g:=g) rfl j (.int .u8 x.toNat) (by simp [Lib.byteCells,hx]))
 go_enter Tryz.func50,Tryz.ntmps50
 go_wp2
 have mixed:Tryz.prog.follows .mixedOrders=true:=by kernel_rfl
 go_region_o
 all_goals
  go_wp2
  go_ret
  have hf:=Lib.below_freeze (Go.RowKit.Below.drew (Go.RowKit.Below.refl B w)) (p:=⟨g,0,none⟩) hbg l.length
  exact ⟨rfl,hf.os,hf.tape,hf.output,hf.size,by rw [mJ];exact Nat.le_succ _,hf.block⟩
theorem rstring_any (b:Nat)(l:YL)(ob:List Blk)(W w:World)(hB:BuR b l ob)(hO:Own [] W w ob)(h0:l≠[]):
  YC 50 #[.pointer (some ⟨b,0,none⟩)] w λe w'=>e= .returned (.string (mkS l))/\Own [] W w' []:=
 (rstring_any0 W.heap.size b l w (buR_own hB hO λx hx=>(hO.base x hx).elim id λq=>by simp at q) h0).mono λe w' ⟨he,hb⟩=>by
  have hb2:=hO.below.trans hb
  exact ⟨he,hb2.os,hb2.tape,hb2.output,hb2.size,hb2.drawn,λk hk _=>hb2.block k hk,by simp,by simp,by simp⟩
theorem rWrite_any (b:Nat)(l:YL)(s:YL)(ob:List Blk)(W:World)(hB:BuR b l ob)(hO:Own (ob.map Blk.b) W W ob)(hl:l.length<=1000000000000)(hs:s.length<=1000000000000):
  YC 49 #[.pointer (some ⟨b,0,none⟩),.string (mkS s)] W λe w'=>∃ ob',e= .returned (.tuple #[YI ((mkS s).size:Int),.nilIface])/\BuR b (l++s) ob'/\Own (ob.map Blk.b) W w' ob':=by
 obtain ⟨p,v,g,rfl,hp,hv⟩:=hB
 obtain ⟨A,cap,rfl⟩:=Sl.form hv
 have hsz:=y7 s
 refine pP (n:=19) hO Tryz.func49 rfl Kr Kr (ZO (Zv (YI 0) (Zv (.nilIface) (ZR (Zv (Zp b 0) (Zr (k:=89) (args:= #[Zp b 0]) (λv' L'=>v'= .tuple #[]/\L'=⟨b, #[Zp b 0,.slice A l.length cap],156⟩::g) (λw hO=>(rcheck_any b p _ _ _ _ w hp hO).mono λe w' ⟨k1,k2⟩=>⟨_,_,k1,⟨rfl,rfl⟩,k2⟩) (λv0 L0 hv0=> ?_)))))))
 obtain ⟨rfl,rfl⟩:=hv0
 refine ZR (Zv (Zp b 0) (Zv (Zp b 0) (Zv (Zp b 0) (Zv (Zp b 1) (Zl 0 ⟨b, #[Zp b 0,.slice A l.length cap],156⟩ (off:=1) (.slice A l.length cap) (Zv (.string (mkS s)) ?_))))))
 obtain ⟨i0,e1,e2,e3,e4⟩:=infoU8R
 refine s_cast (L':=[⟨b, #[Zp b 0,.slice A l.length cap],156⟩]++g++[]) (by simp) (s_appstr Kr rfl Tryz.underlying96 Tryz.underlying9 e1 e2 e3 e4 Kr hv (s:=mkS s) Kr (by rw [hsz];unfold maxLen;omega) (by rw [hsz];omega) (λv2 g2 hv2=> ?_))
 have hv3:Sl 5 1 v2 (l++s).length (Lib.byteCells (l++s)) g2:=by rw [List.length_append,Lib.byteCells_append];rw [hsz,qV] at hv2;exact hv2
 obtain ⟨A2,cap2,rfl⟩:=Sl.form hv3
 refine s_cast (L':=⟨b, #[Zp b 0,.slice A l.length cap],156⟩::(g2)) (by simp) (Zv (Zp b 0) (Zv (Zp b 1) (Zs 0 ⟨b, #[Zp b 0,.slice A l.length cap],156⟩ (off:=1) (.slice A2 ((l++s).length) cap2) (ZR (Zv (.string (mkS s)) (Zv (YI ((mkS s).size)) (Zv (YI ((mkS s).size)) (Zv (.nilIface) ?_))))))))
 exact ZN (wX (ZG (YI ((mkS s).size)) (.nilIface) Tryz.results49 (λw hO=>⟨_,rfl,⟨_,_,g2,rfl,.inr rfl,hv3⟩,hO⟩)))
theorem rByte_any (b:Nat)(l:YL)(c:UInt8)(z:Int)(ob:List Blk)(W:World)(hB:BuR b l ob)(hO:Own (ob.map Blk.b) W W ob)(hl:l.length<=1000000000000)(hz:(c.toNat:Int)=z):
  YC 147 #[.pointer (some ⟨b,0,none⟩),.int .u8 z] W λe w'=>∃ ob',e= .returned (.nilIface)/\BuR b (l++[c]) ob'/\Own (ob.map Blk.b) W w' ob':=by
 obtain ⟨p,v,g,rfl,hp,hv⟩:=hB
 obtain ⟨A,cap,rfl⟩:=Sl.form hv
 subst hz
 refine pP (n:=17) hO Tryz.func147 rfl Kr Kr (ZO (Zv (.nilIface) (ZR (Zv (Zp b 0) (Zr (k:=89) (args:= #[Zp b 0]) (λv' L'=>v'= .tuple #[]/\L'=⟨b, #[Zp b 0,.slice A l.length cap],156⟩::g) (λw hO=>(rcheck_any b p _ _ _ _ w hp hO).mono λe w' ⟨k1,k2⟩=>⟨_,_,k1,⟨rfl,rfl⟩,k2⟩) (λv0 L0 hv0=> ?_))))))
 obtain ⟨rfl,rfl⟩:=hv0
 refine ZR (Zv (Zp b 0) (Zv (Zp b 0) (Zv (Zp b 0) (Zv (Zp b 1) (Zl 0 ⟨b, #[Zp b 0,.slice A l.length cap],156⟩ (off:=1) (.slice A l.length cap) (Zv (.int .u8 (c.toNat:Int)) (s_lit 5 #[.int .u8 (c.toNat:Int)] Kr rfl (λ_=>Kr) (λb1=> ?_))))))))
 obtain ⟨i0,e1,e2,e3,e4⟩:=infoU8R
 refine s_cast (L':=[⟨b1, #[.int .u8 (c.toNat:Int)],5⟩,⟨b, #[Zp b 0,.slice A l.length cap],156⟩]++g++[]) (by simp) (s_append (sz:=1) Kr rfl Tryz.underlying96 e1 e2 e3 rfl Kr hv (a:=⟨b1,0,none⟩) (m:=1) (c:=1) (news:=Lib.byteCells [c]) Kr rfl (λw hO j u hj=> ?_) (λu hu=>by rw [List.mem_singleton.1 hu];rfl) (by unfold maxLen;omega) (by rw [e4];omega) (λv2 g2 hv2=> ?_))
 ·rw [yX,cell_of_row w b1 (0+j) (Lib.byteCells [c]).toArray 5 _ (hO.held ⟨b1,(Lib.byteCells [c]).toArray,5⟩ (List.mem_append_left _ (List.mem_append_left _ (List.mem_cons_self ..))))];simpa using hj
 have hv3:Sl 5 1 v2 (l++[c]).length (Lib.byteCells (l++[c])) g2:=by rw [List.length_append,Lib.byteCells_append];exact hv2
 obtain ⟨A2,cap2,rfl⟩:=Sl.form hv3
 refine s_cast (L':=⟨b1, #[.int .u8 (c.toNat:Int)],5⟩::(⟨b, #[Zp b 0,.slice A l.length cap],156⟩::(g2))) (by simp) (Zv (Zp b 0) (Zv (Zp b 1) (Zs 1 ⟨b, #[Zp b 0,.slice A l.length cap],156⟩ (off:=1) (.slice A2 ((l++[c]).length) cap2) (ZR (Zv (.nilIface) (ZN (wX ?_)))))))
 exact ZF (.nilIface) Tryz.results147 (λw hO=>⟨_,rfl,⟨_,_,g2,rfl,.inr rfl,hv3⟩,Own.sub [⟨b1, #[.int .u8 (c.toNat:Int)],5⟩] hO⟩)
end
section
set_option linter.unnecessarySimpa false
theorem rq_write (b:Nat)(l s:YL)(R ob:List Blk){M:List Nat}{W:World}(hB:BuR b l ob)(hl:l.length<=1000000000000)(hs:s.length<=1000000000000):∀ w,Own M W w (R++ob)->YC 49 #[.pointer (some ⟨b,0,none⟩),.string (mkS s)] w λe w'=>∃ v ob',e= .returned v/\BuR b (l++s) ob'/\Own (ob.map Blk.b) w w' ob':=
 λw hO=>(rWrite_any b l s ob w hB (Own.lentR hO) hl hs).mono λe w' ⟨ob',k1,k2,k3⟩=>⟨_,ob',k1,k2,k3⟩
theorem qLine_any (b:Nat)(l:YL)(ws:List YL)(v:Value)(wb ob:List Blk)(W:World)(hB:BuR b l ob)(hw:SlT v ws wb)(hO:Own ((wb++ob).map Blk.b) W W (wb++ob))(hl:l.length<=1000000000)(hj:(zD 32 ws).length<=400000000)(hn:ws.length<=1048576)(hne:zD 32 ws≠[]):YC 98 #[.pointer (some ⟨b,0,none⟩),v] W λe w'=>∃ ob',e= .returned (.tuple #[])/\BuR b (l++(zD 32 ws++[10])) ob'/\Own ((wb++ob).map Blk.b) W w' (wb++ob'):=by
 obtain ⟨A,cap,rfl⟩:=SlT.form hw
 have hJ:∀ w,Own ((wb++ob).map Blk.b) W w (wb++ob)->YC 146 #[.slice A ws.length cap,.int .u8 32] w (YR (.string (mkS (zD 32 ws))) w):=λw hO=>bZ _ ws 32 w (hw.readsT hO λx hx=>List.mem_append_left _ hx) Om Om hne
 refine kQ hO Tryz.func98 (x_drawLF (.s .z) 6 [] wb (λw hO=>(hO.past 0 (wb++ob)).sublist (List.sublist_append_left _ _)) (yJ [] 4 (z7 (v:= .string (mkS (zD 32 ws))) [] (λw hO=>hJ w (hO.past 0 _)) (yJ [] 5 ?_))))
 exact xh_callL (Rr:=λ_ ob'=>BuR b (l++zD 32 ws) ob') (wb++ob) wb ob wb (λw hO=>hO) (λo w hO=>hO.sublist (List.sublist_append_left _ _)) (rq_write b l (zD 32 ws) wb ob hB Om Om) λv1 o1 h1=>(kH (k:=147) (args:= #[Zp b 0,.int .u8 10]) (Rr:=λ_ ob'=>BuR b (l++zD 32 ws++[10]) ob') [] (wb++o1) wb o1 (λw hO=>hO) (λw hO=>(rByte_any b (l++zD 32 ws) 10 10 o1 w h1 (Own.lentR hO) (by simp only [List.length_append];omega) rfl).mono λe w' ⟨ob',k1,k2,k3⟩=>⟨_,ob',k1,k2,k3⟩) λv2 o2 h2=>(x_end0 [] λw hO=>⟨o2,rfl,by rw [←List.append_assoc];exact h2,hO.past 0 _⟩))
def dV (w s:YL):YL:=if s=[] then [] else w++[32]++s++[10]
theorem qlit (b N:Nat)(cs:Array Value)(ws:List YL)(hc:cs.toList=vV ws)(hN:ws.length=N)(hM:N<=1000):SlT (.slice (some ⟨b,0,none⟩) N N) ws [⟨b,cs,9⟩]:=by
 subst hN
 unfold SlT
 rw [←hc]
 refine sl_block ?_ (by unfold maxLen;omega)
 rw [←Array.length_toList,hc,x6]
 have:=vN zU ws
 omega
theorem q_line {M:List Nat}{W:World}(b:Nat)(l:YL)(ws:List YL)(v:Value)(R wb ob:List Blk)(hB:BuR b l ob)(hw:SlT v ws wb)(hl:l.length<=1000000000)(hj:(zD 32 ws).length<=400000000)(hn:ws.length<=1048576)(hne:zD 32 ws≠[]):∀ w,Own M W w (R++(wb++ob))->YC 98 #[.pointer (some ⟨b,0,none⟩),v] w λe w'=>∃ v' o,e= .returned v'/\(∃ ob',BuR b (l++(zD 32 ws++[10])) ob'/\o=wb++ob')/\Own ((wb++ob).map Blk.b) w w' o:=
 λw hO=>(qLine_any b l ws v wb ob w hB hw (Own.lentR hO) hl hj hn hne).mono λe w' ⟨ob',k1,k2,k3⟩=>⟨_,_,k1,⟨ob',k2,rfl⟩,k3⟩
theorem qMaybe_any (b:Nat)(l wd s:YL)(ob:List Blk)(W:World)(hB:BuR b l ob)(hO:Own (ob.map Blk.b) W W ob)(hl:l.length<=900000000)(hw:wd≠[]/\wd.length<=100)(hs:s.length<=100000000):YC 101 #[.pointer (some ⟨b,0,none⟩),.string (mkS wd),.string (mkS s)] W λe w'=>∃ ob',e= .returned (.tuple #[])/\BuR b (l++dV wd s) ob'/\Own (ob.map Blk.b) W w' ob':=by
 have hT:zD 32 [wd,s]=wd++32::s:=rfl
 refine kQ hO Tryz.func101 (vJ 7 [] s [] (λh=> ?_) (λh=> ?_))
 ·exact x_end0 [] λw hO=>⟨ob,rfl,by rw [dV,if_pos h,List.append_nil];exact hB,hO.past 0 _⟩
 refine jT [] 2 9 #[.string (mkS wd),.string (mkS s)] λg=>(kH [] ([⟨g, #[.string (mkS wd),.string (mkS s)],9⟩]++ob) [] ([⟨g, #[.string (mkS wd),.string (mkS s)],9⟩]++ob) (λw hO=>hO) (q_line b l [wd,s] _ [] _ ob hB (qlit g 2 _ [wd,s] rfl rfl Om) Om (by rw [hT];simp only [List.length_append,List.length_cons];omega) (by simp) (by rw [hT];simp [hw.1])) λv1 o1 ⟨ob',k1,k2⟩=> ?_)
 subst k2
 have hz:l++(zD 32 [wd,s]++[10])=l++dV wd s:=by rw [dV,if_neg h,hT];simp
 rw [hz] at k1
 exact x_end0 [] λw hO=>⟨ob',rfl,k1,hO.past 1 _⟩
theorem q_maybe {M:List Nat}{W:World}(b:Nat)(l wd s:YL)(R ob:List Blk)(hB:BuR b l ob)(hl:l.length<=900000000)(hw:wd≠[]/\wd.length<=100)(hs:s.length<=100000000):∀ w,Own M W w (R++ob)->YC 101 #[.pointer (some ⟨b,0,none⟩),.string (mkS wd),.string (mkS s)] w λe w'=>∃ v' o,e= .returned v'/\BuR b (l++dV wd s) o/\Own (ob.map Blk.b) w w' o:=
 λw hO=>(qMaybe_any b l wd s ob w hB (Own.lentR hO) hl hw hs).mono λe w' ⟨ob',k1,k2,k3⟩=>⟨_,_,k1,k2,k3⟩
theorem maybe_when (s:YL):dV kD s=gP s:=by
 unfold dV gP
 split
 ·rfl
 ·simp [kD,m4]
theorem maybe_opt (s:YL):dV wW s=fL s:=by
 unfold dV fL
 split
 ·rfl
 ·simp [wW,txOpt]
theorem joinL_ne (b:UInt8):∀ {l:List YL},l≠[]->(∀ s∈l,s≠[])->zD b l≠[]
 | [],h,_=>absurd rfl h
 | [x],_,h=>h x (List.mem_singleton.2 rfl)
 |x::y::r,_,_=>by rw [zD];simp
theorem own_rot3 {M:List Nat}{W w:World}{x y z:Blk}{L:List Blk}(h:Own M W w (x::y::z::L)):Own M W w (y::z::x::L):=h.perm ((List.Perm.swap ..).trans (List.Perm.cons _ (List.Perm.swap ..)))
def ndB (n:Nv)(b:Nat):Blk:=⟨b, #[.slice n.A n.any.length n.cap,.string (mkS n.wh),.string (mkS n.opt)],75⟩
def wsB (u:Wv)(b:Nat):Blk:=⟨b, #[.string (mkS u.name),.string (mkS u.rng),.slice u.A u.fs.length u.cap,.bool u.bare],134⟩
theorem qNeedW_any (B b:Nat)(l:YL)(n:Nv)(ob:List Blk)(W:World)(hB:BuR b l ob)(hO:Own (ob.map Blk.b) W W ob)(hge:∀ x∈ob,B<=x.b)(hBW:B<=W.heap.size)(hv:Reads wvC W B n.A n.any)(hf:∀ u∈n.any,Reads zW W B u.A u.fs)(hn:n.any.length<=5000)(hnf:∀ u∈n.any,u.fs.length<=5000)(hfe:∀ u∈n.any,∀ s∈u.fs,s≠[])(hs:n.wh.length<=1048576/\n.opt.length<=1048576)(hl:l.length+(xE n.nt).length<=300000000):YC 100 #[.pointer (some ⟨b,0,none⟩),nvV n] W λe w'=>∃ ob',e= .returned (.tuple #[])/\BuR b (l++xE n.nt) ob'/\Own (ob.map Blk.b) W w' ob':=by
 have hM':∀ k∈ob.map Blk.b,B<=k:=λk hk=>by obtain ⟨x,hx,rfl⟩:=List.mem_map.1 hk;exact hge x hx
 have hnT:xE n.nt=txNeed++n.any.flatMap (λu=>xP u.wt)++gP n.wh++fL n.opt:=by
  unfold xE;simp only [Nv.nt,List.flatMap_map]
 have hnl:=congrArg List.length hnT
 simp only [List.length_append] at hnl
 have hn5:txNeed.length=5:=rfl
 refine kQ hO Tryz.func100 (x1 [] λb3=>jT [] 1 9 #[.string (mkS qH)] λg=> ?_)
 refine kH [] (⟨g, #[.string (mkS qH)],9⟩::ndB n b3::ob) [ndB n b3] ([⟨g, #[.string (mkS qH)],9⟩]++ob) (λw hO=>hO.swap) (q_line b l [qH] _ _ _ ob hB (qlit g 1 _ [qH] rfl rfl Om) Om (by decide) (by simp) (by decide)) λv1 o1 ⟨ob1,k1,k2⟩=> ?_
 subst k2
 refine zV [0] (ndB n b3::ob1) (λw hO=>(hO.past 0 (ndB n b3::⟨g, #[.string (mkS qH)],9⟩::ob1)).swap.past 1 _) (zX (α:=Nat×List Blk) (λx=>[(0,Zp b 0),(3,Zp b3 0),(12,.slice n.A n.any.length n.cap),(13,YI (n.any.length:Int)),(14,YI (x.1:Int))]) (λx=>ndB n b3::x.2) (λx m=>(x.1<=n.any.length/\BuR b (l++txNeed++(n.any.take x.1).flatMap (λu=>xP u.wt)) x.2)/\m=n.any.length-x.1) (0,ob1) n.any.length [] ⟨⟨Nat.zero_le _,by simp only [List.take_zero,List.flatMap_nil,List.append_nil];exact k1⟩,rfl⟩ ?_)
 rintro ⟨i,o⟩ mm gg kk ⟨⟨hi,ho⟩,hmm⟩ nx hkk
 subst hkk
 replace hi:i<=n.any.length:=hi
 replace ho:BuR b (l++txNeed++(n.any.take i).flatMap (λu=>xP u.wt)) o:=ho
 have hpt:=bI (λu:Wv=>xP u.wt) (l:=n.any) i
 have hpl:(l++txNeed++(n.any.take i).flatMap (λu=>xP u.wt)).length<=300000000:=by simp only [List.length_append];omega
 refine zG 15 [] ((i:Int)<(n.any.length:Int)) (λh15=> ?_) (λh15=> ?_)
 ·have hj:i<n.any.length:=by omega
  obtain ⟨eb,eo,hA,hel⟩:=hv.elem qP i hj
  have hst:=qR (λu:Wv=>xP u.wt) hj
  have hsm:n.any[i]∈n.any:=List.getElem_mem hj
  have hone:=fm_one (λu:Wv=>xP u.wt) hsm
  have hel0:∀ w,Below B W w->(loadVar 134 ⟨eb,eo+i*4+0,none⟩).run YP w= .ok (wvV n.any[i]) w:=λw hw=>hel w hw _ 0 _ Kr
  have hru:=hf _ hsm;have hnu:=hnf _ hsm;have hfu:=hfe _ hsm
  have hw2:l++txNeed++(n.any.take i).flatMap (λu=>xP u.wt)++xP n.any[i].wt=l++txNeed++(n.any.take (i+1)).flatMap (λu=>xP u.wt):=by rw [hst,←List.append_assoc]
  generalize n.any[i]=u at hel0 hone hru hnu hfu hw2
  generalize l++txNeed++(n.any.take i).flatMap (λu=>xP u.wt)=done at*
  have huT:xP u.wt=zD 32 [jO,u.name,gV u.fs,gH u.bare,u.rng]++[10]:=(wishL_text u.wt).symm
  have hul:=congrArg List.length huT
  rw [List.length_append] at hul
  have hfl:(gV u.fs).length<=(zD 32 [jO,u.name,gV u.fs,gH u.bare,u.rng]).length:=jn_part 32 (by simp)
  have hJ:∀ w,Below B W w->u.fs≠[]->YC 146 #[.slice u.A u.fs.length u.cap,.int .u8 44] w (YR (.string (mkS (gV u.fs))) w):=λw hb hne=>by
   have hw:gV u.fs=zD 44 u.fs:=if_neg hne
   rw [hw]
   exact bZ _ u.fs 44 w (reads_t (hru.on hb (Nat.le_trans hBW hb.size)) (Nat.le_refl _)) (by rw [←hw];omega) Om (joinL_ne 44 hne hfu)
  refine zO 16 [] hA n.any.length n.cap i 4 hj (zL 17 [] 134 eb (eo+i*4+0) (wvV u) (λw hO=>hel0 w (hO.belowB hM' hBW)) (zQ [] λb5=>vS 21 (α:=YL) (λfl=>[(0,Zp b 0),(3,Zp b3 0),(5,Zp b5 0),(6,.string (mkS fl)),(7,.string (mkS jC)),(12,.slice n.A n.any.length n.cap),(13,YI (n.any.length:Int)),(14,YI (i:Int))]) (λ_=>wsB u b5::ndB n b3::o) (λfl=>fl=gV u.fs) [0,0] (λnj=>bO 21 ((u.fs.length:Int)>0) (λh=> ?_) (λh=> ?_)) (λfl g1 hfl1=> ?_)))
  ·exact z7 (v:= .string (mkS (gV u.fs))) [0] (λw hO=>hJ w (hO.belowB hM' hBW) (λe=>by rw [e] at h;simp at h)) (nj (gV u.fs) [] rfl Kr)
  ·exact nj [45] [] (show [45]=gV u.fs from by unfold gV;rw [if_pos (List.eq_nil_of_length_eq_zero Om)]) Kr
  refine vS 26 (α:=YL) (λkd=>[(0,Zp b 0),(3,Zp b3 0),(5,Zp b5 0),(6,.string (mkS fl)),(7,.string (mkS kd)),(12,.slice n.A n.any.length n.cap),(13,YI (n.any.length:Int)),(14,YI (i:Int))]) (λ_=>wsB u b5::ndB n b3::o) (λkd=>kd=gH u.bare) [0] (λnj=>zS 26 u.bare (λh=>nj g0 [] (by rw [h];rfl) Kr) (λh=>nj jC [] (by rw [h];rfl) Kr)) (λkd g2 hkd=> ?_)
  subst hfl1;subst hkd
  refine jT [0,0] 5 9 #[.string (mkS jO),.string (mkS u.name),.string (mkS (gV u.fs)),.string (mkS (gH u.bare)),.string (mkS u.rng)] λg3=>(kH [] (⟨g3, #[.string (mkS jO),.string (mkS u.name),.string (mkS (gV u.fs)),.string (mkS (gH u.bare)),.string (mkS u.rng)],9⟩::wsB u b5::ndB n b3::o) [wsB u b5,ndB n b3] ([⟨g3, #[.string (mkS jO),.string (mkS u.name),.string (mkS (gV u.fs)),.string (mkS (gH u.bare)),.string (mkS u.rng)],9⟩]++o) (λw hO=>own_rot3 hO) (q_line b done [jO,u.name,gV u.fs,gH u.bare,u.rng] _ _ _ o ho (qlit g3 5 _ _ rfl rfl Om) Om Om (by simp) (by simp [zD,jO])) λv2 o2 ⟨ob2,q1,q2⟩=> ?_)
  subst q2
  rw [←huT,hw2] at q1
  exact x_i 14 [] ((i+1:Nat):Int) (zV [] (ndB n b3::ob2) (λw hO=>(hO.past 1 (ndB n b3::⟨g3, #[.string (mkS jO),.string (mkS u.name),.string (mkS (gV u.fs)),.string (mkS (gH u.bare)),.string (mkS u.rng)],9⟩::ob2)).swap.past 1 _) (nx (i+1,ob2) (n.any.length-(i+1)) [] Om ⟨⟨hj,q1⟩,rfl⟩ Kr Kr))
 rw [List.take_of_length_le (show n.any.length<=i by omega)] at ho
 clear nx
 have hwl:(gP n.wh).length<=300000000:=by omega
 refine kH [0] (ndB n b3::o) [ndB n b3] o (λw hO=>hO) (q_maybe b _ kD n.wh [ndB n b3] o ho (by simp only [List.length_append];omega) (by decide) Om) λv3 o3 h3=> ?_
 rw [maybe_when] at h3
 refine kH [0] (ndB n b3::o3) [ndB n b3] o3 (λw hO=>hO) (q_maybe b _ wW n.opt [ndB n b3] o3 h3 (by simp only [List.length_append];omega) (by decide) Om) λv4 o4 h4=> ?_
 rw [maybe_opt] at h4
 refine x_end0 [] λw hO=>⟨o4,rfl, ?_,hO.past 1 _⟩
 rw [hnT]
 simpa only [List.append_assoc] using h4
end
section
set_option linter.unnecessarySimpa false
theorem partsE_is (r:Rv):kF r.rt=if (kP (λn:Nv=>xR r.name n.nt) 0 r.needs).1≠0 then kP (λn:Nv=>xR r.name n.nt) 0 r.needs
 else if (kP (λb:Bv=>qM r.name b.bt) 0 r.bars).1≠0 then kP (λb:Bv=>qM r.name b.bt) 0 r.bars
 else if vM (yC r.fts)=false then (11,0)
 else kP (λf:Fv=>yK (yY r.rt.needs) f.of) 0 r.fts:=by
 unfold kF
 rw [show r.rt.needs=r.needs.map Nv.nt from rfl,show r.rt.bars=r.bars.map Bv.bt from rfl,show r.rt.fts=r.fts.map Fv.ft from rfl,mL,mL,mL];rfl
theorem r12parts_any (r:Rv)(W:World)(hr:RcIn W W.heap.size r):YC 78 #[rvV r] W (YR (.tuple #[YI (kF r.rt).1,YI (kF r.rt).2]) W):=by
 have hE:=partsE_is r
 have hnn:=hr.nn;have hnb:=hr.nb;have hfn:=hr.fts.n
 refine zF Tryz.func78 (x1 [] λb1=>zX (α:=Nat) (λi=>[(1,Zp b1 0),(4,YI (i:Int))]) (λ_=>[⟨b1,(rvC r).toArray,29⟩]) (λi m=>(i<=r.needs.length∧∀ n∈r.needs.take i,xR r.name n.nt=0)/\m=r.needs.length-i) 0 r.needs.length [] ⟨⟨Nat.zero_le _,λy h=>by simp at h⟩,rfl⟩ ?_)
 rintro i mm g kk ⟨⟨hi,hno⟩,hmm⟩ nx hkk
 subst hkk
 refine zG 14 [0] ((i:Int)<(r.needs.length:Int)) (λh14=> ?_) (λh14=> ?_)
 ·have hj:i<r.needs.length:=by omega
  obtain ⟨eb,eo,hA,hel⟩:=hr.needs.elem gT i hj
  have hgo:=yD (p:=λn:Nv=>xR r.name n.nt=0) hj hno
  have hat:=wH (f:=λn:Nv=>xR r.name n.nt) 0 hj hno
  have hsm:r.needs[i]∈r.needs:=List.getElem_mem hj
  have hel0:∀ w,YB W w->(loadVar 75 ⟨eb,eo+i*3+0,none⟩).run YP w= .ok (nvV r.needs[i]) w:=λw hw=>hel w hw _ 0 _ Kr
  have hra:=hr.any _ hsm;have hrf:=hr.wfs _ hsm;have hna:=hr.na _ hsm;have hnf:=hr.nf _ hsm;have hsw:=hr.sw _ hsm;have hsu:=hr.su _ hsm
  generalize r.needs[i]=n at hel0 hgo hat hra hrf hna hnf hsw hsu
  have hc:∀ w,YB W w->YC 128 #[rvV r,nvV n] w (YR (YI (xR r.name n.nt)) w):=λw hb=>r12need_any r n w (hra.on hb hb.size) (λu hu=>(hrf u hu).on hb hb.size) hna hnf hsw hsu
  refine zO 21 [0,0] hA r.needs.length r.nc i 3 hj (zL 22 [] 75 eb (eo+i*3+0) (nvV n) (λw hO=>hel0 w hO.below) (z7 (v:=YI (xR r.name n.nt)) [] (λw hO=>hc w hO.below) (vK 25 [] (xR r.name n.nt=0) (λh=> ?_) (λh=> ?_))))
  ·exact x_i 16 [] ((i+1:Nat):Int) (nx (i+1) (r.needs.length-(i+1)) [] Om ⟨⟨hj,hgo h⟩,rfl⟩ Kr Kr)
  ·refine yG [] (YI (xR r.name n.nt)) (YI (i:Int)) λw hO=>⟨?_,hO.below⟩
   rw [hE,hat h,if_pos h];simp only [Nat.zero_add]
 have h1:=kU (k:=0) (yZ (p:=λn:Nv=>xR r.name n.nt=0) (show r.needs.length<=i by omega) hno)
 rw [h1,if_neg (by simp)] at hE
 clear nx
 refine zX (α:=Nat) (λi=>[(1,Zp b1 0),(6,YI (i:Int))]) (λ_=>[⟨b1,(rvC r).toArray,29⟩]) (λi m=>(i<=r.bars.length∧∀ b∈r.bars.take i,qM r.name b.bt=0)/\m=r.bars.length-i) 0 r.bars.length [] ⟨⟨Nat.zero_le _,λy h=>by simp at h⟩,rfl⟩ ?_
 rintro i2 m2 g2 kk ⟨⟨hi2,hno2⟩,hmm2⟩ nx hkk
 subst hkk
 refine zG 32 [0] ((i2:Int)<(r.bars.length:Int)) (λh32=> ?_) (λh32=> ?_)
 ·have hj:i2<r.bars.length:=by omega
  obtain ⟨eb,eo,hA,hel⟩:=hr.bars.elem mP i2 hj
  have hgo:=yD (p:=λb:Bv=>qM r.name b.bt=0) hj hno2
  have hat:=wH (f:=λb:Bv=>qM r.name b.bt) 0 hj hno2
  have hsm:r.bars[i2]∈r.bars:=List.getElem_mem hj
  have hel0:∀ w,YB W w->(loadVar 77 ⟨eb,eo+i2*3+0,none⟩).run YP w= .ok (bvV r.bars[i2]) w:=λw hw=>hel w hw _ 0 _ Kr
  have hsb:=hr.sb _ hsm
  generalize r.bars[i2]=b at hel0 hgo hat hsb
  have hc:∀ w,YB W w->YC 129 #[rvV r,bvV b] w (YR (YI (qM r.name b.bt)) w):=λw hb=>r12bar_any r b w hsb
  refine zO 39 [0,0] hA r.bars.length r.bc i2 3 hj (zL 40 [] 77 eb (eo+i2*3+0) (bvV b) (λw hO=>hel0 w hO.below) (z7 (v:=YI (qM r.name b.bt)) [] (λw hO=>hc w hO.below) (vK 43 [] (qM r.name b.bt=0) (λh=> ?_) (λh=> ?_))))
  ·exact x_i 34 [] ((i2+1:Nat):Int) (nx (i2+1) (r.bars.length-(i2+1)) [] Om ⟨⟨hj,hgo h⟩,rfl⟩ Kr Kr)
  ·refine yG [] (YI (qM r.name b.bt)) (YI (i2:Int)) λw hO=>⟨?_,hO.below⟩
   rw [hE,hat h,if_pos h];simp only [Nat.zero_add]
 have h2:=kU (k:=0) (yZ (p:=λb:Bv=>qM r.name b.bt=0) (show r.bars.length<=i2 by omega) hno2)
 rw [h2,if_neg (by simp)] at hE
 clear nx
 have hM:∀ w,YB W w->YC 130 #[.slice r.fA r.fts.length r.fc] w (YR (.bool (vM (yC r.fts))) w):=λw hb=>r11May_any r.fA r.fc r.fts w (hr.fts.on hb hb.size)
 refine z7 (v:= .bool (vM (yC r.fts))) [0] (λw hO=>hM w hO.below) (zS 48 (vM (yC r.fts)) (λe3=> ?_) (λe3=> ?_))
 rotate_left
 ·exact yG [] (YI 11) (YI 0) λw hO=>⟨by rw [hE,if_pos e3],hO.below⟩
 rw [if_neg (by simp [e3])] at hE
 refine zX (α:=Nat) (λi=>[(1,Zp b1 0),(8,YI (i:Int))]) (λ_=>[⟨b1,(rvC r).toArray,29⟩]) (λi m=>(i<=r.fts.length∧∀ f∈r.fts.take i,yK (yY r.rt.needs) f.of=0)/\m=r.fts.length-i) 0 r.fts.length [] ⟨⟨Nat.zero_le _,λy h=>by simp at h⟩,rfl⟩ ?_
 rintro i3 m3 g3 kk ⟨⟨hi3,hno3⟩,hmm3⟩ nx hkk
 subst hkk
 refine zG 54 [0] ((i3:Int)<(r.fts.length:Int)) (λh54=> ?_) (λh54=> ?_)
 rotate_left
 ·refine yG [] (YI 0) (YI 0) λw hO=>⟨?_,hO.below⟩
  rw [hE,kU (k:=0) (yZ (p:=λf:Fv=>yK (yY r.rt.needs) f.of=0) (show r.fts.length<=i3 by omega) hno3)]
 have hj:i3<r.fts.length:=by omega
 obtain ⟨eb,eo,hA,hel⟩:=hr.fts.top.elem qQ i3 hj
 have hgo:=yD (p:=λf:Fv=>yK (yY r.rt.needs) f.of=0) hj hno3
 have hat:=wH (f:=λf:Fv=>yK (yY r.rt.needs) f.of) 0 hj hno3
 have hsm:r.fts[i3]∈r.fts:=List.getElem_mem hj
 have hel0:∀ w,YB W w->(loadVar 66 ⟨eb,eo+i3*2+1,none⟩).run YP w= .ok (.slice r.fts[i3].A r.fts[i3].of.length r.fts[i3].cap) w:=λw hw=>hel w hw _ 1 _ Kr
 have hru:=hr.fts.each _ hsm;have hmu:=hr.fts.m _ hsm;have htu:=hr.fts.text _ hsm
 generalize r.fts[i3]=u at hel0 hgo hat hru hmu htu
 have hc:∀ w,YB W w->YC 131 #[rvV r,.slice u.A u.of.length u.cap] w (YR (YI (yK (yY r.rt.needs) u.of)) w):=λw hb=>r12items_any r u.A u.cap u.of w (hr.on hb hb.size) (hru.on hb hb.size) Om htu
 refine zO 61 [0,0] hA r.fts.length r.fc i3 2 hj (zL 63 [] 66 eb (eo+i3*2+1) (.slice u.A u.of.length u.cap) (λw hO=>hel0 w hO.below) (z7 (v:=YI (yK (yY r.rt.needs) u.of)) [] (λw hO=>hc w hO.below) (vK 66 [] (yK (yY r.rt.needs) u.of=0) (λh=> ?_) (λh=> ?_))))
 ·exact x_i 56 [] ((i3+1:Nat):Int) (nx (i3+1) (r.fts.length-(i3+1)) [] Om ⟨⟨hj,hgo h⟩,rfl⟩ Kr Kr)
 ·refine yG [] (YI (yK (yY r.rt.needs) u.of)) (YI (i3:Int)) λw hO=>⟨?_,hO.below⟩
  rw [hE,hat h];simp only [Nat.zero_add]
theorem vprint_short {v:Ver}(hp:v.pre.length<=1048576)(hq:v.build.length<=1048576):v.print.length<=3145728:=by
 unfold Ver.print
 split
 case isTrue h=>
  obtain ⟨n1,n2,n3⟩:=jK h
  have hnl:(jG v).length<=14:=nums_len n1 n2 n3
  have h1:(x8 45 v.pre).length<=1048577:=by unfold x8;split<;>simp<;>omega
  have h2:(x8 43 v.build).length<=1048577:=by unfold x8;split<;>simp<;>omega
  unfold Ver.text
  simp only [List.length_append];omega
 case isFalse=>simp
theorem r12Check_any (r:Rv)(W:World)(hr:RcIn W W.heap.size r):YC 36 #[rvV r] W (YR (.tuple #[YI (zM r.rt).1,YI (zM r.rt).2]) W):=by
 have hE:zM r.rt=if nmL r.name=false then (4,0) else if r.ver.may=false then (5,0) else if 8<r.needs.length\/8<r.bars.length then (3,0) else if (kF r.rt).1≠0 then kF r.rt else if 4096<(yV r.rt).length then (3,0) else (0,0):=by
  unfold zM;simp only [Rv.rt,List.length_map]
 have hsn:=hr.sn
 have c1:∀ w,YB W w->YC 76 #[.string (mkS r.name)] w (YR (.bool (nmL r.name)) w):=λw hb=>mC r.name w hsn.1
 have c2:∀ w,YB W w->YC 77 #[kY r.ver] w (YR (.bool r.ver.may) w):=λw hb=>p9 r.ver w hsn.2.1 hsn.2.2
 have c3:∀ w,YB W w->YC 78 #[rvV r] w (YR (.tuple #[YI (kF r.rt).1,YI (kF r.rt).2]) w):=λw hb=>r12parts_any r w (hr.on hb hb.size)
 refine zF Tryz.func36 (x1 [] λb1=>z7 (v:= .bool (nmL r.name)) [0] (λw hO=>c1 w hO.below) (zS 9 (nmL r.name) (λe1=> ?_) (λe1=> ?_)))
 rotate_left
 ·exact yG [] (YI 4) (YI 0) λw hO=>⟨by rw [hE,if_pos e1],hO.below⟩
 rw [if_neg (by simp [e1])] at hE
 refine z7 (v:= .bool r.ver.may) [0] (λw hO=>c2 w hO.below) (zS 14 r.ver.may (λe2=> ?_) (λe2=> ?_))
 rotate_left
 ·exact yG [] (YI 5) (YI 0) λw hO=>⟨by rw [hE,if_pos e2],hO.below⟩
 rw [if_neg (by simp [e2])] at hE
 refine zG 20 [0] ((r.needs.length:Int)>8) (λh20=> ?_) (λh20=> ?_)
 ·exact yG [] (YI 3) (YI 0) λw hO=>⟨by rw [hE,if_pos (.inl Om)],hO.below⟩
 refine zG 25 [0] ((r.bars.length:Int)>8) (λh25=> ?_) (λh25=> ?_)
 ·exact yG [] (YI 3) (YI 0) λw hO=>⟨by rw [hE,if_pos (.inr Om)],hO.below⟩
 rw [if_neg Om] at hE
 refine z7 (v:= .tuple #[YI (kF r.rt).1,YI (kF r.rt).2]) [0] (λw hO=>c3 w hO.below) (vK 33 [] ((kF r.rt).1=0) (λh33=> ?_) (λh33=> ?_))
 rotate_left
 ·exact yG [] (YI (kF r.rt).1) (YI (kF r.rt).2) λw hO=>⟨by rw [hE,if_pos h33],hO.below⟩
 rw [if_neg (λh=>h h33)] at hE
 have hs:(yV r.rt).length<=100000000:=rec_small (r:=r.rt) hsn.1 (vprint_short hsn.2.1 hsn.2.2) (by simp only [Rv.rt,List.length_map];omega) (by simp only [Rv.rt,List.length_map];omega) h33 (λf hf s hs=>by
  obtain ⟨y,hy,rfl⟩:=List.mem_map.1 hf
  exact hr.fts.text y hy s hs)
 have c4:∀ w,YB W w->YC 39 #[rvV r] w (YR (.string (mkS (yV r.rt))) w):=λw hb=>r12text_any r w (hr.on hb hb.size) hs
 have hz:(mkS (yV r.rt)).size=(yV r.rt).length:=jJ _
 refine z7 (v:= .string (mkS (yV r.rt))) [0] (λw hO=>c4 w hO.below) (zG 39 [] (((mkS (yV r.rt)).size:Int)>4096) (λh39=> ?_) (λh39=> ?_))
 ·exact yG [] (YI 3) (YI 0) λw hO=>⟨by rw [hE,if_pos Om],hO.below⟩
 ·exact yG [] (YI 0) (YI 0) λw hO=>⟨by rw [hE,if_neg Om],hO.below⟩
theorem r12Print_any (r:Rv)(W:World)(hr:RcIn W W.heap.size r):YC 14 #[rvV r] W (YR (.tuple #[.string (mkS (nM r.rt)),YI (zM r.rt).1]) W):=by
 have c1:∀ w,YB W w->YC 36 #[rvV r] w (YR (.tuple #[YI (zM r.rt).1,YI (zM r.rt).2]) w):=λw hb=>r12Check_any r w (hr.on hb hb.size)
 refine zF Tryz.func14 (x1 [] λb1=>z7 (v:= .tuple #[YI (zM r.rt).1,YI (zM r.rt).2]) [0] (λw hO=>c1 w hO.below) (vK 12 [] ((zM r.rt).1=0) (λh=> ?_) (λh=> ?_)))
 rotate_left
 ·exact yG [] (.string ⟨#[]⟩) (YI (zM r.rt).1) λw hO=>⟨by rw [show nM r.rt=[] from if_neg h];rfl,hO.below⟩
 have c2:∀ w,YB W w->YC 39 #[rvV r] w (YR (.string (mkS (yV r.rt))) w):=λw hb=>r12text_any r w (hr.on hb hb.size) (by have:=(gN h).2.2.2.2.2;omega)
 exact z7 (v:= .string (mkS (yV r.rt))) [0] (λw hO=>c2 w hO.below) (yG [] (.string (mkS (yV r.rt))) (YI 0) λw hO=>⟨by rw [show nM r.rt=yV r.rt from if_pos h,h],hO.below⟩)
end
section
def BytesAt (w:World)(e:TypeId)(g:Nat)(l:YL):Prop:=
 ∃ row,w.heap[g]?=some (.cells row e (row.size,row.size+1))/\l.length<=row.size∧∀ j (h:j<l.length),row[j]?=some (.int .u8 (l[j].toNat:Int))
section
variable {M:List Nat}{P:Program}{n0:Nat}{ops:Array Oper}{W:World}{Q:Exit->Act->World->Prop}{rest:List Oper}{o:Oper}{L:List Blk}{f:Nat->Value}
end
end
section
section
variable {M:List Nat}{P:Program}{n:Nat}{W:World}{Q:Exit->Act->World->Prop}{c:Xc}
end
end
section
def dMixK (l:YL)(k:Nat):UInt64:=(l.take k).foldl dStep dI
def dRootK (l:List UInt64)(k:Nat):UInt64:=(l.take k).foldl dPair (dSum [])
def dig9S:YL:=[48,49,50,51,52,53,54,55,56,57,97,98,99,100,101,102]
def hexI (c:UInt8):Int:=match hexV c with|some d=>(d:Int)|none=> -1
end
section
set_option linter.unnecessarySimpa false
theorem fMay_at (A:Option Addr)(cap:Nat)(xs:List Fv)(W:World)(hv:FtIn W W.heap.size A xs):YC 67 #[.slice A xs.length cap] W (YR (.bool (vM (yC xs))) W):=by
 refine zF Tryz.func67 (zG 8 [] ((8:Int)<(xs.length:Int)) (λh8=> ?_) (λh8=> ?_))
 ·exact z8 [] Z5 λw hO=>⟨by rw [fN (.inl (by rw [v7];omega))],hO.below⟩
 refine zX (α:=Nat) (λi=>[(0,.slice A xs.length cap),(3,.string (mkS (x4 (xs.map Fv.name) i))),(9,.slice A xs.length cap),(10,YI (xs.length:Int)),(11,YI (i:Int))]) (λ_=>[]) (λi m=>UpTo xs i/\m=xs.length-i) 0 xs.length [] ⟨UpTo.zero xs,rfl⟩ ?_
 rintro i mm g kk ⟨hup,hmm⟩ nx hkk
 subst hkk
 refine zG 12 [] ((i:Int)<(xs.length:Int)) (λh12=> ?_) (λh12=> ?_)
 rotate_left
 ·exact z8 [] Z4 λw hO=>⟨by rw [hup.may Om Om],hO.below⟩
 have hj:i<xs.length:=by omega
 have hxm:xs[i]∈xs:=List.getElem_mem hj
 have hnl:i<(xs.map Fv.name).length:=by rw [List.length_map];exact hj
 have hl1:x4 (xs.map Fv.name) (i+1)=xs[i].name:=by rw [bY hnl,List.getElem_map]
 have hlast:∀ h0:0<i,x4 (xs.map Fv.name) i=(xs[i-1]'Om).name:=λh=>by unfold x4;rw [dif_pos ⟨h,by omega⟩,List.getElem_map]
 obtain ⟨eb,eo,hA,hel⟩:=hv.top.elem qQ i hj
 have hnm:=hv.name _ hxm
 refine zO 13 [] hA xs.length cap i 2 hj (zL 14 [] 79 eb (eo+i*2+0) (fvV xs[i]) (λw hO=>hel w hO.below _ 0 _ Kr) (zQ [] λb5=>z7 (v:= .bool (wdL xs[i].name)) [0,0] (λw hO=>wE _ w hnm) (zS 17 (wdL xs[i].name) (λh17=> ?_) (λh17=> ?_))))
 rotate_left
 ·exact z8 [] Z5 λw hO=>⟨by rw [may_no1 hxm h17],hO.below⟩
 refine x_sle 23 [0] xs[i].name (x4 (xs.map Fv.name) i) (zS 23 (!Op.bytesLess (x4 (xs.map Fv.name) i) xs[i].name) (λh23=> ?_) (λh23=> ?_))
 ·refine z8 [] Z5 λw hO=>⟨?_,hO.below⟩
  have h0:0<i:=Nat.pos_of_ne_zero λh0=>by
   subst h0
   have:x4 (xs.map Fv.name) 0=[]:=by unfold x4;rw [dif_neg Om]
   rw [this,less_nil (λe=>by rw [e] at h17;revert h17;decide)] at h23;cases h23
  rw [hlast h0] at h23
  have e2:xs[i-1+1]'Om=xs[i]:=by congr 1;omega
  rw [may_no2 (z:=i-1) Om (by rw [e2];simpa using h23)]
 have h2:∀ h0:0<i,Op.bytesLess (xs[i-1]'Om).name xs[i].name=true:=λh0=>by rw [←hlast h0];simpa using h23
 have hc:∀ w,YB W w->YC 118 #[.slice xs[i].A xs[i].of.length xs[i].cap,.slice A xs.length cap] w (YR (.bool (xF (yC xs) xs[i].of)) w):=λw hb=>fmayOf_any A cap xs xs[i].A xs[i].cap xs[i].of w (hv.on hb hb.size) ((hv.each _ hxm).on hb hb.size) (hv.m _ hxm) (hv.text _ hxm)
 refine z7 (v:= .bool (xF (yC xs) xs[i].of)) [0] (λw hO=>hc w hO.below) (zS 29 (xF (yC xs) xs[i].of) (λh29=> ?_) (λh29=> ?_))
 rotate_left
 ·exact z8 [] Z5 λw hO=>⟨by rw [may_no3 hxm h29],hO.below⟩
 exact gU 3 [0] (.string (mkS xs[i].name)) (.string (mkS (x4 (xs.map Fv.name) (i+1)))) (by rw [hl1]) (x_i 34 [] ((i+1:Nat):Int) (zV [] [] (λw hO=>hO.no) (nx (i+1) (xs.length-(i+1)) [] Om ⟨hup.next hj h17 h2 h29,rfl⟩ Kr Kr)))
end
section
def byK (n:UInt64)(k:Nat):YL:=(List.range k).map λi=>(n>>>UInt64.ofNat (8*(7-i))).toUInt8
end
section
def rot4 (x:UInt64):UInt64:=x<<<4|||x>>>60
def rotN (n:UInt64):Nat->UInt64
 |0=>n
 |k+1=>rot4 (rotN n k)
def padB (xs:YL)(n:Nat):YL:=xs++List.replicate (n-xs.length) 0
end
section
def arrC (bs:YL):Array Value:=(bs.flatMap u8C).toArray
section
variable {P:Program}{o:Oper}
end
end
section
end
section
set_option linter.unnecessarySimpa false
theorem wd_ne' {s:YL}(h:wdL s=true):s≠[]:=λe=>by subst e;exact absurd h (by decide)
def rcB (r:Rv)(b:Nat):Blk:=⟨b,(rvC r).toArray,29⟩
def brB (x:Bv)(b:Nat):Blk:=⟨b,(bvC x).toArray,77⟩
def ftB (x:Fv)(b:Nat):Blk:=⟨b,(fvC x).toArray,79⟩
theorem ge_of {W w:World}{R o:List Blk}(h:Own [] W w (R++o)):∀ x∈o,W.heap.size<=x.b:=λx hx=>(h.base x (List.mem_append_right _ hx)).elim id λq=>by simp at q
theorem qText_any (r:Rv)(W:World)(hr:RcIn W W.heap.size r)(hfe:∀ n∈r.needs,∀ u∈n.any,∀ s∈u.fs,s≠[])(ht:(yV r.rt).length<=100000000)(hK:RecLib W):YC 58 #[rvV r] W (YR (.string (mkS (yV r.rt))) W):=by
 have hT:yV r.rt=gX r.rt++r.needs.flatMap (λn=>xE n.nt)++r.bars.flatMap (λb=>vB b.bt)++r.fts.flatMap (λf=>kL f.ft):=by
  unfold yV;simp only [Rv.rt,yC,List.flatMap_map]
 have hl:=congrArg List.length hT
 simp only [List.length_append] at hl
 have hsn:=hr.sn
 have hnn:=hr.nn;have hnb:=hr.nb;have hfn:=hr.fts.n
 have hH:gX r.rt=zD 32 [vG,r.name,r.ver.print]++[10]:=by
  show txPack++r.name++[32]++r.ver.print++[10]=_
  simp [zD,txPack,vG]
 have hHl:=congrArg List.length hH
 simp only [List.length_append,List.length_cons,List.length_nil] at hHl
 have hP:∀ w,YB W w->YC 99 #[kY r.ver] w (YR (.string (mkS r.ver.print)) w):=λw hb=>vprint_any r.ver w hsn.2.1 hsn.2.2 (hK.on hb).lib.tab
 refine zF Tryz.func58 (x1 [] λb1=>zQ [] λb3=>kS 7 [] [rcB r b1] (λw hO=>hO.past 1 _) (yJ [0,0] 4 (z7 (v:= .string (mkS r.ver.print)) [] (λw hO=>hP w hO.below) (yJ [] 5 (gZ 3 9 #[.string (mkS vG),.string (mkS r.name),.string (mkS r.ver.print)] λg=>yJ [] 6 ?_)))))
 refine xh_callL [⟨g, #[.string (mkS vG),.string (mkS r.name),.string (mkS r.ver.print)],9⟩,⟨b3, #[.pointer none,.slice none 0 0],156⟩,rcB r b1] [rcB r b1] ([⟨g, #[.string (mkS vG),.string (mkS r.name),.string (mkS r.ver.print)],9⟩]++[⟨b3, #[.pointer none,.slice none 0 0],156⟩]) [rcB r b1] (λw hO=>hO.perm ((List.Perm.cons _ (List.Perm.swap ..)).trans (List.Perm.swap ..))) (λo w hO=>hO.sublist (List.sublist_append_left _ _)) (q_line b3 [] [vG,r.name,r.ver.print] _ [rcB r b1] _ _ (BuR.new b3) (qlit g 3 _ _ rfl rfl Om) (by simp) Om (by simp) (by simp [zD,vG])) λv1 o1 ⟨ob1,k1,k2⟩=> ?_
 subst k2
 rw [List.nil_append,←hH] at k1
 refine zV [0] (rcB r b1::ob1) (λw hO=>(hO.past 0 (rcB r b1::⟨g, #[.string (mkS vG),.string (mkS r.name),.string (mkS r.ver.print)],9⟩::ob1)).swap.past 1 _) (zX (α:=Nat×List Blk) (λx=>[(1,Zp b1 0),(3,Zp b3 0),(18,.slice r.nA r.needs.length r.nc),(19,YI (r.needs.length:Int)),(20,YI (x.1:Int))]) (λx=>rcB r b1::x.2) (λx m=>(x.1<=r.needs.length/\BuR b3 (gX r.rt++(r.needs.take x.1).flatMap (λn=>xE n.nt)) x.2)/\m=r.needs.length-x.1) (0,ob1) r.needs.length [] ⟨⟨Nat.zero_le _,by simp only [List.take_zero,List.flatMap_nil,List.append_nil];exact k1⟩,rfl⟩ ?_)
 rintro ⟨i,o⟩ mm gg kk ⟨⟨hi,ho⟩,hmm⟩ nx hkk
 subst hkk
 replace hi:i<=r.needs.length:=hi
 replace ho:BuR b3 (gX r.rt++(r.needs.take i).flatMap (λn=>xE n.nt)) o:=ho
 refine zG 21 [] ((i:Int)<(r.needs.length:Int)) (λh21=> ?_) (λh21=> ?_)
 ·have hj:i<r.needs.length:=by omega
  obtain ⟨eb,eo,hA,hel⟩:=hr.needs.elem gT i hj
  have hpt:=bI (λn:Nv=>xE n.nt) (l:=r.needs) (i+1)
  rw [qR (λn:Nv=>xE n.nt) hj,List.length_append] at hpt
  have hst:=qR (λn:Nv=>xE n.nt) hj
  have hsm:r.needs[i]∈r.needs:=List.getElem_mem hj
  have hel0:∀ w,YB W w->(loadVar 75 ⟨eb,eo+i*3+0,none⟩).run YP w= .ok (nvV r.needs[i]) w:=λw hw=>hel w hw _ 0 _ Kr
  have hra:=hr.any _ hsm;have hrf:=hr.wfs _ hsm;have hna:=hr.na _ hsm;have hnf:=hr.nf _ hsm;have hsw:=hr.sw _ hsm;have hff:=hfe _ hsm
  have hw2:gX r.rt++(r.needs.take i).flatMap (λn=>xE n.nt)++xE r.needs[i].nt=gX r.rt++(r.needs.take (i+1)).flatMap (λn=>xE n.nt):=by rw [hst,List.append_assoc]
  have hpl:(gX r.rt++(r.needs.take i).flatMap (λn=>xE n.nt)).length+(xE r.needs[i].nt).length<=300000000:=by rw [List.length_append];omega
  generalize r.needs[i]=n at hel0 hra hrf hna hnf hsw hff hw2 hpl
  generalize gX r.rt++(r.needs.take i).flatMap (λn=>xE n.nt)=done at*
  refine zO 22 [] hA r.needs.length r.nc i 3 hj (zL 23 [] 75 eb (eo+i*3+0) (nvV n) (λw hO=>hel0 w hO.below) (zQ [] λb5=> ?_))
  have hc:∀ w,Own [] W w ([ndB n b5,rcB r b1]++o)->YC 100 #[.pointer (some ⟨b3,0,none⟩),nvV n] w λe w'=>∃ v o',e= .returned v/\BuR b3 (done++xE n.nt) o'/\Own (o.map Blk.b) w w' o':=λw hO=>(qNeedW_any W.heap.size b3 done n o w ho (Own.lentR hO) (ge_of hO) hO.size (hra.on hO.below (Nat.le_refl _)) (λu hu=>(hrf u hu).on hO.below (Nat.le_refl _)) hna hnf hff ⟨gqM_len hsw.1,hsw.2⟩ hpl).mono λe w' ⟨o',q1,q2,q3⟩=>⟨_,o',q1,q2,q3⟩
  refine kH [0,0] (ndB n b5::rcB r b1::o) [ndB n b5,rcB r b1] o (λw hO=>hO) hc λv2 o2 q1=> ?_
  rw [hw2] at q1
  exact x_i 20 [] ((i+1:Nat):Int) (zV [] (rcB r b1::o2) (λw hO=>hO.past 1 _) (nx (i+1,o2) (r.needs.length-(i+1)) [] Om ⟨⟨hj,q1⟩,rfl⟩ Kr Kr))
 rw [List.take_of_length_le (show r.needs.length<=i by omega)] at ho
 clear nx
 have hNl:(gX r.rt++r.needs.flatMap (λn=>xE n.nt)).length=(gX r.rt).length+(r.needs.flatMap λn=>xE n.nt).length:=List.length_append
 generalize hN:gX r.rt++r.needs.flatMap (λn=>xE n.nt)=front at*
 refine zX (α:=Nat×List Blk) (λx=>[(1,Zp b1 0),(3,Zp b3 0),(28,.slice r.bA r.bars.length r.bc),(29,YI (r.bars.length:Int)),(30,YI (x.1:Int))]) (λx=>rcB r b1::x.2) (λx m=>(x.1<=r.bars.length/\BuR b3 (front++(r.bars.take x.1).flatMap (λb=>vB b.bt)) x.2)/\m=r.bars.length-x.1) (0,o) r.bars.length [0] ⟨⟨Nat.zero_le _,by simp only [List.take_zero,List.flatMap_nil,List.append_nil];exact ho⟩,rfl⟩ ?_
 clear ho
 rintro ⟨i2,o2⟩ m2 g2 kk ⟨⟨hi2,ho⟩,hm2⟩ nx hkk
 subst hkk
 replace hi2:i2<=r.bars.length:=hi2
 replace ho:BuR b3 (front++(r.bars.take i2).flatMap (λb=>vB b.bt)) o2:=ho
 refine zG 31 [] ((i2:Int)<(r.bars.length:Int)) (λh31=> ?_) (λh31=> ?_)
 ·have hj:i2<r.bars.length:=by omega
  obtain ⟨eb,eo,hA,hel⟩:=hr.bars.elem mP i2 hj
  have hpt:=bI (λb:Bv=>vB b.bt) (l:=r.bars) (i2+1)
  rw [qR (λb:Bv=>vB b.bt) hj,List.length_append] at hpt
  have hst:=qR (λb:Bv=>vB b.bt) hj
  have hsm:r.bars[i2]∈r.bars:=List.getElem_mem hj
  have hel0:∀ w,YB W w->(loadVar 77 ⟨eb,eo+i2*3+0,none⟩).run YP w= .ok (bvV r.bars[i2]) w:=λw hw=>hel w hw _ 0 _ Kr
  have hsb:=hr.sb _ hsm
  have hw2:front++(r.bars.take i2).flatMap (λb=>vB b.bt)++vB r.bars[i2].bt=front++(r.bars.take (i2+1)).flatMap (λb=>vB b.bt):=by rw [hst,List.append_assoc]
  have hpl:(front++(r.bars.take i2).flatMap (λb=>vB b.bt)).length+(vB r.bars[i2].bt).length<=300000000:=by rw [List.length_append];omega
  generalize r.bars[i2]=x at hel0 hsb hw2 hpl
  have hsb2:=gqR_len hsb.2.1
  have hsb3:=gqM_len hsb.2.2
  generalize front++(r.bars.take i2).flatMap (λb=>vB b.bt)=done at*
  have hbT:vB x.bt=zD 32 [j7,x.name,x.rng]++[10]++dV kD x.wh:=by
   rw [maybe_when]
   show txBar++x.name++[32]++x.rng++[10]++gP x.wh=_
   simp [zD,txBar,j7]
  have hbl:=congrArg List.length hbT
  simp only [List.length_append,List.length_cons,List.length_nil] at hbl
  refine zO 32 [] hA r.bars.length r.bc i2 3 hj (zL 33 [] 77 eb (eo+i2*3+0) (bvV x) (λw hO=>hel0 w hO.below) (zQ [] λb7=>jT [0,0,0] 3 9 #[.string (mkS j7),.string (mkS x.name),.string (mkS x.rng)] λg3=> ?_))
  refine kH [] (⟨g3, #[.string (mkS j7),.string (mkS x.name),.string (mkS x.rng)],9⟩::brB x b7::rcB r b1::o2) [brB x b7,rcB r b1] ([⟨g3, #[.string (mkS j7),.string (mkS x.name),.string (mkS x.rng)],9⟩]++o2) (λw hO=>own_rot3 hO) (q_line b3 done [j7,x.name,x.rng] _ _ _ o2 ho (qlit g3 3 _ _ rfl rfl Om) Om Om (by simp) (by simp [zD,j7])) λv2 o3 ⟨ob3,q1,q2⟩=> ?_
  subst q2
  refine kH [0] (brB x b7::rcB r b1::⟨g3, #[.string (mkS j7),.string (mkS x.name),.string (mkS x.rng)],9⟩::ob3) [brB x b7,rcB r b1,⟨g3, #[.string (mkS j7),.string (mkS x.name),.string (mkS x.rng)],9⟩] ob3 (λw hO=>hO) (q_maybe b3 _ kD x.wh _ ob3 q1 (by simp only [List.length_append,List.length_cons,List.length_nil];omega) (by decide) Om) λv3 o4 q3=> ?_
  rw [List.append_assoc] at q3
  refine x_i 30 [] ((i2+1:Nat):Int) (zV [] (rcB r b1::o4) (λw hO=>(hO.past 1 (rcB r b1::⟨g3, #[.string (mkS j7),.string (mkS x.name),.string (mkS x.rng)],9⟩::o4)).swap.past 1 _) (nx (i2+1,o4) (r.bars.length-(i2+1)) [] Om ⟨⟨hj, ?_⟩,rfl⟩ Kr Kr))
  show BuR b3 (front++(r.bars.take (i2+1)).flatMap (λb=>vB b.bt)) o4
  rw [←hw2,hbT];exact q3
 rw [List.take_of_length_le (show r.bars.length<=i2 by omega)] at ho
 clear nx
 have hBl:(front++r.bars.flatMap (λb=>vB b.bt)).length=front.length+(r.bars.flatMap λb=>vB b.bt).length:=List.length_append
 generalize hN2:front++r.bars.flatMap (λb=>vB b.bt)=fore at*
 refine zX (α:=Nat×List Blk) (λx=>[(1,Zp b1 0),(3,Zp b3 0),(45,.slice r.fA r.fts.length r.fc),(46,YI (r.fts.length:Int)),(47,YI (x.1:Int))]) (λx=>rcB r b1::x.2) (λx m=>(x.1<=r.fts.length/\BuR b3 (fore++(r.fts.take x.1).flatMap (λf=>kL f.ft)) x.2)/\m=r.fts.length-x.1) (0,o2) r.fts.length [0] ⟨⟨Nat.zero_le _,by simp only [List.take_zero,List.flatMap_nil,List.append_nil];exact ho⟩,rfl⟩ ?_
 clear ho
 rintro ⟨i3,o3⟩ m3 g3 kk ⟨⟨hi3,ho⟩,hm3⟩ nx hkk
 subst hkk
 replace hi3:i3<=r.fts.length:=hi3
 replace ho:BuR b3 (fore++(r.fts.take i3).flatMap (λf=>kL f.ft)) o3:=ho
 refine zG 48 [] ((i3:Int)<(r.fts.length:Int)) (λh48=> ?_) (λh48=> ?_)
 rotate_left
 ·rw [List.take_of_length_le (show r.fts.length<=i3 by omega)] at ho
  have hR:fore++r.fts.flatMap (λf=>kL f.ft)=yV r.rt:=hT.symm
  rw [hR] at ho
  refine x_callO [] (rcB r b1::o3) (Rr:=λv L'=>v= .string (mkS (yV r.rt))/\L'=[]) (λw hO=>(rstring_any b3 (yV r.rt) o3 W w ho (hO.past 1 _) (λe=>by rw [e] at hl;simp only [List.length_nil] at hl;omega)).mono λe w' ⟨q1,q2⟩=>⟨_,[],q1,⟨rfl,rfl⟩,q2⟩) λv4 L4 ⟨q1,q2⟩=> ?_
  subst q1;subst q2
  exact z8 [] (.string (mkS (yV r.rt))) λw hO=>⟨rfl,hO.below⟩
 have hj:i3<r.fts.length:=by omega
 obtain ⟨eb,eo,hA,hel⟩:=hr.fts.top.elem qQ i3 hj
 have hpt:=bI (λf:Fv=>kL f.ft) (l:=r.fts) (i3+1)
 rw [qR (λf:Fv=>kL f.ft) hj,List.length_append] at hpt
 have hst:=qR (λf:Fv=>kL f.ft) hj
 have hsm:r.fts[i3]∈r.fts:=List.getElem_mem hj
 have hel0:∀ w,YB W w->(loadVar 79 ⟨eb,eo+i3*2+0,none⟩).run YP w= .ok (fvV r.fts[i3]) w:=λw hw=>hel w hw _ 0 _ Kr
 have hru:=hr.fts.each _ hsm;have hmu:=hr.fts.m _ hsm
 have hw2:fore++(r.fts.take i3).flatMap (λf=>kL f.ft)++kL r.fts[i3].ft=fore++(r.fts.take (i3+1)).flatMap (λf=>kL f.ft):=by rw [hst,List.append_assoc]
 have hpl:(fore++(r.fts.take i3).flatMap (λf=>kL f.ft)).length+(kL r.fts[i3].ft).length<=300000000:=by rw [List.length_append];omega
 generalize r.fts[i3]=x at hel0 hru hmu hw2 hpl
 generalize fore++(r.fts.take i3).flatMap (λf=>kL f.ft)=done at*
 have hfT:kL x.ft=zD 32 (y9::x.name::x.of)++[10]:=rfl
 have hfl:=congrArg List.length hfT
 simp only [List.length_append,List.length_cons,List.length_nil] at hfl
 refine zO 49 [] hA r.fts.length r.fc i3 2 hj (zL 50 [] 79 eb (eo+i3*2+0) (fvV x) (λw hO=>hel0 w hO.below) (zQ [] λb9=>jT [0,0] 2 9 #[.string (mkS y9),.string (mkS x.name)] λg5=> ?_))
 refine x_appR (g:=zW) [1] x.of [] [⟨g5, #[.string (mkS y9),.string (mkS x.name)],9⟩] (ftB x b9::rcB r b1::o3) (⟨g5, #[.string (mkS y9),.string (mkS x.name)],9⟩::ftB x b9::rcB r b1::o3) (cp:=x.cap) (λw hO=>hO) zU strC_one (λw hO=>hru.on hO.below hO.below.size) (sl_block (N:=2) rfl (by unfold maxLen;omega)) Om λv' o' h=> ?_
 have hS:SlT v' (y9::x.name::x.of) o':=by
  unfold SlT
  rw [x6,show (y9::x.name::x.of).length=2+x.of.length by simp only [List.length_cons];omega]
  exact h
 refine kH [] ([]++o'++(ftB x b9::rcB r b1::o3)) [ftB x b9,rcB r b1] (o'++o3) (λw hO=>hO.perm (by
  have:=List.perm_append_comm_assoc o' [ftB x b9,rcB r b1] o3
  simpa using this)) (q_line b3 done (y9::x.name::x.of) v' _ o' o3 ho hS Om Om (by simp only [List.length_cons];omega) (by simp [zD,y9])) λv2 o4 ⟨ob4,q1,q2⟩=> ?_
 subst q2
 rw [←hfT,hw2] at q1
 exact x_i 47 [] ((i3+1:Nat):Int) (zV [] (rcB r b1::ob4) (λw hO=>(hO.past 1 (rcB r b1::(o'++ob4))).sublist (List.Sublist.cons_cons _ (List.sublist_append_right _ _))) (nx (i3+1,ob4) (r.fts.length-(i3+1)) [] Om ⟨⟨hj,q1⟩,rfl⟩ Kr Kr))
theorem parts_ne {r:Rt}(h:(kF r).1=0):∀ n∈r.needs,∀ u∈n.any,∀ s∈u.fs,s≠[]:=λn hn u hu s hs=>by
 have h1:=(bU h).1 n hn
 have h2:=(bM h1).2.2.1 u hu
 have h3:=(fC h2).2.2
 unfold vF at h3
 simp only [Bool.and_eq_true] at h3
 exact wd_ne' (List.all_eq_true.1 h3.1.1.1 s hs)
theorem tL (r:Rv)(W:World)(hr:RcIn W W.heap.size r)(hK:RecLib W):YC 33 #[rvV r] W (YR (.tuple #[YI (zM r.rt).1,YI (zM r.rt).2]) W):=by
 have hE:zM r.rt=if nmL r.name=false then (4,0) else if r.ver.may=false then (5,0) else if 8<r.needs.length\/8<r.bars.length then (3,0) else if (kF r.rt).1≠0 then kF r.rt else if 4096<(yV r.rt).length then (3,0) else (0,0):=by
  unfold zM;simp only [Rv.rt,List.length_map]
 have hsn:=hr.sn;have hnn:=hr.nn;have hnb:=hr.nb;have hfn:=hr.fts.n
 have c1:∀ w,YC 63 #[.string (mkS r.name)] w (YR (.bool (nmL r.name)) w):=λw=>wF r.name w hsn.1
 have c2:∀ w,YC 64 #[kY r.ver] w (YR (.bool r.ver.may) w):=λw=>may_any r.ver w (by show r.pre.length<_;omega) (by show r.bld.length<_;omega)
 refine zF Tryz.func33 (x1 [] λb1=>z7 (v:= .bool (nmL r.name)) [0] (λw hO=>c1 w) (zS 16 (nmL r.name) (λe1=> ?_) (λe1=> ?_)))
 rotate_left
 ·exact yG [] (YI 4) (YI 0) λw hO=>⟨by rw [hE,if_pos e1],hO.below⟩
 rw [if_neg (by simp [e1])] at hE
 refine z7 (v:= .bool r.ver.may) [0] (λw hO=>c2 w) (zS 21 r.ver.may (λe2=> ?_) (λe2=> ?_))
 rotate_left
 ·exact yG [] (YI 5) (YI 0) λw hO=>⟨by rw [hE,if_pos e2],hO.below⟩
 rw [if_neg (by simp [e2])] at hE
 refine zG 27 [0] ((r.needs.length:Int)>8) (λh27=> ?_) (λh27=> ?_)
 ·exact yG [] (YI 3) (YI 0) λw hO=>⟨by rw [hE,if_pos (.inl Om)],hO.below⟩
 refine zG 32 [0] ((r.bars.length:Int)>8) (λh32=> ?_) (λh32=> ?_)
 ·exact yG [] (YI 3) (YI 0) λw hO=>⟨by rw [hE,if_pos (.inr Om)],hO.below⟩
 rw [if_neg Om] at hE
 have hP:=partsE_is r
 refine zX (α:=Nat) (λi=>[(1,Zp b1 0),(35,.slice r.nA r.needs.length r.nc),(36,YI (r.needs.length:Int)),(37,YI (i:Int))]) (λ_=>[rcB r b1]) (λi m=>(i<=r.needs.length∧∀ n∈r.needs.take i,xR r.name n.nt=0)/\m=r.needs.length-i) 0 r.needs.length [0] ⟨⟨Nat.zero_le _,λy h=>by simp at h⟩,rfl⟩ ?_
 rintro i mm g kk ⟨⟨hi,hno⟩,hmm⟩ nx hkk
 subst hkk
 refine zG 38 [] ((i:Int)<(r.needs.length:Int)) (λh38=> ?_) (λh38=> ?_)
 ·have hj:i<r.needs.length:=by omega
  obtain ⟨eb,eo,hA,hel⟩:=hr.needs.elem gT i hj
  have hgo:=yD (p:=λn:Nv=>xR r.name n.nt=0) hj hno
  have hat:=wH (f:=λn:Nv=>xR r.name n.nt) 0 hj hno
  have hsm:r.needs[i]∈r.needs:=List.getElem_mem hj
  have hel0:∀ w,YB W w->(loadVar 75 ⟨eb,eo+i*3+0,none⟩).run YP w= .ok (nvV r.needs[i]) w:=λw hw=>hel w hw _ 0 _ Kr
  have hra:=hr.any _ hsm;have hrf:=hr.wfs _ hsm;have hna:=hr.na _ hsm;have hnf:=hr.nf _ hsm;have hsw:=hr.sw _ hsm;have hsu:=hr.su _ hsm
  generalize r.needs[i]=n at hel0 hgo hat hra hrf hna hnf hsw hsu
  have hc:∀ w,YB W w->YC 65 #[nvV n,.string (mkS r.name)] w (YR (YI (xR r.name n.nt)) w):=λw hb=>qNeed_any r.name n w (hra.on hb hb.size) (λu hu=>(hrf u hu).on hb hb.size) hna hnf hsw hsu (hK.on hb)
  refine zO 40 [] hA r.needs.length r.nc i 3 hj (zL 41 [] 75 eb (eo+i*3+0) (nvV n) (λw hO=>hel0 w hO.below) (zQ [] λb5=>z7 (v:=YI (xR r.name n.nt)) [0,0,1] (λw hO=>hc w hO.below) (vK 47 [] (xR r.name n.nt=0) (λh=> ?_) (λh=> ?_))))
  ·exact x_i 37 [] ((i+1:Nat):Int) (zV [] [rcB r b1] (λw hO=>hO.past 1 _) (nx (i+1) (r.needs.length-(i+1)) [] Om ⟨⟨hj,hgo h⟩,rfl⟩ Kr Kr))
  ·refine yG [] (YI (xR r.name n.nt)) (YI (i:Int)) λw hO=>⟨?_,hO.below⟩
   rw [hat h] at hP
   rw [if_pos h] at hP
   rw [hE,if_pos (by rw [hP];exact h),hP];simp only [Nat.zero_add]
 have h1:=kU (k:=0) (yZ (p:=λn:Nv=>xR r.name n.nt=0) (show r.needs.length<=i by omega) hno)
 rw [h1,if_neg (by simp)] at hP
 clear nx
 refine zX (α:=Nat) (λi=>[(1,Zp b1 0),(52,.slice r.bA r.bars.length r.bc),(53,YI (r.bars.length:Int)),(54,YI (i:Int))]) (λ_=>[rcB r b1]) (λi m=>(i<=r.bars.length∧∀ b∈r.bars.take i,qM r.name b.bt=0)/\m=r.bars.length-i) 0 r.bars.length [0] ⟨⟨Nat.zero_le _,λy h=>by simp at h⟩,rfl⟩ ?_
 rintro i2 m2 g2 kk ⟨⟨hi2,hno2⟩,hmm2⟩ nx hkk
 subst hkk
 refine zG 55 [] ((i2:Int)<(r.bars.length:Int)) (λh55=> ?_) (λh55=> ?_)
 ·have hj:i2<r.bars.length:=by omega
  obtain ⟨eb,eo,hA,hel⟩:=hr.bars.elem mP i2 hj
  have hgo:=yD (p:=λb:Bv=>qM r.name b.bt=0) hj hno2
  have hat:=wH (f:=λb:Bv=>qM r.name b.bt) 0 hj hno2
  have hsm:r.bars[i2]∈r.bars:=List.getElem_mem hj
  have hel0:∀ w,YB W w->(loadVar 77 ⟨eb,eo+i2*3+0,none⟩).run YP w= .ok (bvV r.bars[i2]) w:=λw hw=>hel w hw _ 0 _ Kr
  have hsb:=hr.sb _ hsm
  generalize r.bars[i2]=b at hel0 hgo hat hsb
  have hc:∀ w,YB W w->YC 66 #[bvV b,.string (mkS r.name)] w (YR (YI (qM r.name b.bt)) w):=λw hb=>qBar_any b r.name w hsb (hK.on hb)
  refine zO 57 [] hA r.bars.length r.bc i2 3 hj (zL 58 [] 77 eb (eo+i2*3+0) (bvV b) (λw hO=>hel0 w hO.below) (zQ [] λb8=>z7 (v:=YI (qM r.name b.bt)) [0,0,1] (λw hO=>hc w hO.below) (vK 64 [] (qM r.name b.bt=0) (λh=> ?_) (λh=> ?_))))
  ·exact x_i 54 [] ((i2+1:Nat):Int) (zV [] [rcB r b1] (λw hO=>hO.past 1 _) (nx (i2+1) (r.bars.length-(i2+1)) [] Om ⟨⟨hj,hgo h⟩,rfl⟩ Kr Kr))
  ·refine yG [] (YI (qM r.name b.bt)) (YI (i2:Int)) λw hO=>⟨?_,hO.below⟩
   rw [hat h] at hP
   rw [if_pos h] at hP
   rw [hE,if_pos (by rw [hP];exact h),hP];simp only [Nat.zero_add]
 have h2:=kU (k:=0) (yZ (p:=λb:Bv=>qM r.name b.bt=0) (show r.bars.length<=i2 by omega) hno2)
 rw [h2,if_neg (by simp)] at hP
 clear nx
 have hM:∀ w,YB W w->YC 67 #[.slice r.fA r.fts.length r.fc] w (YR (.bool (vM (yC r.fts))) w):=λw hb=>fMay_at r.fA r.fc r.fts w (hr.fts.on hb hb.size)
 refine z7 (v:= .bool (vM (yC r.fts))) [0] (λw hO=>hM w hO.below) (zS 70 (vM (yC r.fts)) (λe3=> ?_) (λe3=> ?_))
 rotate_left
 ·rw [if_pos e3] at hP
  exact yG [] (YI 11) (YI 0) λw hO=>⟨by rw [hE,if_pos (by rw [hP];decide),hP],hO.below⟩
 rw [if_neg (by simp [e3])] at hP
 refine zX (α:=Nat) (λi=>[(1,Zp b1 0),(73,.slice r.fA r.fts.length r.fc),(74,YI (r.fts.length:Int)),(75,YI (i:Int))]) (λ_=>[rcB r b1]) (λi m=>(i<=r.fts.length∧∀ f∈r.fts.take i,yK (yY r.rt.needs) f.of=0)/\m=r.fts.length-i) 0 r.fts.length [0] ⟨⟨Nat.zero_le _,λy h=>by simp at h⟩,rfl⟩ ?_
 rintro i3 m3 g3 kk ⟨⟨hi3,hno3⟩,hmm3⟩ nx hkk
 subst hkk
 refine zG 76 [] ((i3:Int)<(r.fts.length:Int)) (λh76=> ?_) (λh76=> ?_)
 ·have hj:i3<r.fts.length:=by omega
  obtain ⟨eb,eo,hA,hel⟩:=hr.fts.top.elem qQ i3 hj
  have hgo:=yD (p:=λf:Fv=>yK (yY r.rt.needs) f.of=0) hj hno3
  have hat:=wH (f:=λf:Fv=>yK (yY r.rt.needs) f.of) 0 hj hno3
  have hsm:r.fts[i3]∈r.fts:=List.getElem_mem hj
  have hel0:∀ w,YB W w->(loadVar 79 ⟨eb,eo+i3*2+0,none⟩).run YP w= .ok (fvV r.fts[i3]) w:=λw hw=>hel w hw _ 0 _ Kr
  have hru:=hr.fts.each _ hsm;have hmu:=hr.fts.m _ hsm;have htu:=hr.fts.text _ hsm
  generalize r.fts[i3]=u at hel0 hgo hat hru hmu htu
  have hc:∀ w,YB W w->YC 68 #[.slice u.A u.of.length u.cap,.slice r.nA r.needs.length r.nc] w (YR (YI (yK (yY r.rt.needs) u.of)) w):=λw hb=>qItems_any u.A u.cap u.of r.nA r.nc r.needs w (hru.on hb hb.size) Om htu (hr.needs.on hb hb.size) hnn λn hn=>(hr.any n hn).on hb hb.size
  refine zO 78 [] hA r.fts.length r.fc i3 2 hj (zL 79 [] 79 eb (eo+i3*2+0) (fvV u) (λw hO=>hel0 w hO.below) (zQ [] λb9=>z7 (v:=YI (yK (yY r.rt.needs) u.of)) [0,0,1] (λw hO=>hc w hO.below) (vK 86 [] (yK (yY r.rt.needs) u.of=0) (λh=> ?_) (λh=> ?_))))
  ·exact x_i 75 [] ((i3+1:Nat):Int) (zV [] [rcB r b1] (λw hO=>hO.past 1 _) (nx (i3+1) (r.fts.length-(i3+1)) [] Om ⟨⟨hj,hgo h⟩,rfl⟩ Kr Kr))
  ·refine yG [] (YI (yK (yY r.rt.needs) u.of)) (YI (i3:Int)) λw hO=>⟨?_,hO.below⟩
   rw [hat h] at hP
   rw [hE,if_pos (by rw [hP];exact h),hP];simp only [Nat.zero_add]
 rw [kU (k:=0) (yZ (p:=λf:Fv=>yK (yY r.rt.needs) f.of=0) (show r.fts.length<=i3 by omega) hno3)] at hP
 clear nx
 have h33:(kF r.rt).1=0:=by rw [hP]
 rw [if_neg (λh=>h h33)] at hE
 have hs:(yV r.rt).length<=100000000:=rec_small (r:=r.rt) hsn.1 (vprint_short hsn.2.1 hsn.2.2) (by simp only [Rv.rt,List.length_map];omega) (by simp only [Rv.rt,List.length_map];omega) h33 (λf hf s hs=>by
  obtain ⟨y,hy,rfl⟩:=List.mem_map.1 hf
  exact hr.fts.text y hy s hs)
 have hne:=parts_ne h33
 have c4:∀ w,YB W w->YC 58 #[rvV r] w (YR (.string (mkS (yV r.rt))) w):=λw hb=>qText_any r w (hr.on hb hb.size) (λn hn u hu=>hne n.nt (List.mem_map.2 ⟨n,hn,rfl⟩) u.wt (List.mem_map.2 ⟨u,hu,rfl⟩)) hs (hK.on hb)
 have hz:(mkS (yV r.rt)).size=(yV r.rt).length:=jJ _
 refine z7 (v:= .string (mkS (yV r.rt))) [0] (λw hO=>c4 w hO.below) (zG 93 [] (((mkS (yV r.rt)).size:Int)>4096) (λh93=> ?_) (λh93=> ?_))
 ·exact yG [] (YI 3) (YI 0) λw hO=>⟨by rw [hE,if_pos Om],hO.below⟩
 ·exact yG [] (YI 0) (YI 0) λw hO=>⟨by rw [hE,if_neg Om],hO.below⟩
theorem qPrint_any (r:Rv)(W:World)(hr:RcIn W W.heap.size r)(hK:RecLib W):YC 29 #[rvV r] W (YR (.tuple #[.string (mkS (nM r.rt)),YI (zM r.rt).1]) W):=by
 have c1:∀ w,YB W w->YC 33 #[rvV r] w (YR (.tuple #[YI (zM r.rt).1,YI (zM r.rt).2]) w):=λw hb=>tL r w (hr.on hb hb.size) (hK.on hb)
 refine zF Tryz.func29 (x1 [] λb1=>z7 (v:= .tuple #[YI (zM r.rt).1,YI (zM r.rt).2]) [0] (λw hO=>c1 w hO.below) (vK 12 [] ((zM r.rt).1=0) (λh=> ?_) (λh=> ?_)))
 rotate_left
 ·exact yG [] (.string ⟨#[]⟩) (YI (zM r.rt).1) λw hO=>⟨by rw [show nM r.rt=[] from if_neg h];rfl,hO.below⟩
 have hne:=parts_ne (gN h).2.2.2.2.1
 have c2:∀ w,YB W w->YC 58 #[rvV r] w (YR (.string (mkS (yV r.rt))) w):=λw hb=>qText_any r w (hr.on hb hb.size) (λn hn u hu=>hne n.nt (List.mem_map.2 ⟨n,hn,rfl⟩) u.wt (List.mem_map.2 ⟨u,hu,rfl⟩)) (by have:=(gN h).2.2.2.2.2;omega) (hK.on hb)
 exact z7 (v:= .string (mkS (yV r.rt))) [0] (λw hO=>c2 w hO.below) (yG [] (.string (mkS (yV r.rt))) (YI 0) λw hO=>⟨by rw [show nM r.rt=yV r.rt from if_pos h,h],hO.below⟩)
end
section
set_option linter.unnecessarySimpa false
theorem vPins_any (A:Option Addr)(cap:Nat)(ps:List Pn)(W:World)(hx:PmIn W W.heap.size A ps):YC 45 #[.slice A ps.length cap] W (YR (YI (badP ps:Int)) W):=by
 have hn5:=hx.n
 obtain ⟨r,hr⟩:∃ r,badP ps=r:=⟨_,rfl⟩
 have hend:(∀ j,j<ps.length->okP ps j=true)->r=ps.length:=λh=>hr▸fbad_all h
 have hat:∀ i,i<ps.length->(∀ j,j<i->okP ps j=true)->okP ps i=false->r=i:=λi hi h0 h1=>hr▸fbad_at hi h0 h1
 rw [hr]
 refine zF Tryz.func45 (zX (α:=Nat) (λi=>[(0,.slice A ps.length cap),(3,.string (mkS (x4 (ps.map Pn.name) i))),(6,.slice A ps.length cap),(7,YI (ps.length:Int)),(8,YI (i:Int))]) (λ_=>[]) (λi m=>(i<=ps.length∧∀ j,j<i->okP ps j=true)/\m=ps.length-i) 0 ps.length [] ⟨⟨Nat.zero_le _,λj h=>by omega⟩,rfl⟩ ?_)
 rintro i mm g kk ⟨⟨hi,hok⟩,hmm⟩ nx hkk
 subst hkk
 refine zG 9 [] ((i:Int)<(ps.length:Int)) (λh9=> ?_) (λh9=> ?_)
 rotate_left
 ·exact z8 [] (YI (ps.length:Int)) λw hO=>⟨by rw [hend λj hj=>hok j Om],hO.below⟩
 have hj:i<ps.length:=by omega
 have hno:okP ps i=false→∀ w,YB W w->(Ending.returned (YI (i:Int))= .returned (YI (r:Int)))/\YB W w:=λhf w hb=>⟨by rw [hat i hj hok hf],hb⟩
 obtain ⟨eb,eo,hA,hel⟩:=hx.top.elem pmC_len i hj
 have hel0:∀ w,YB W w->(loadVar 57 ⟨eb,eo+i*2+0,none⟩).run YP w= .ok (pmV ps[i]) w:=λw hw=>hel w hw _ 0 _ Kr
 have hq:okP ps i=(nmL ps[i].name && nmL ps[i].shelf && Op.bytesLess (x4 (ps.map Pn.name) i) ps[i].name):=by unfold okP;rw [List.getElem?_eq_getElem hj]
 have hsn:=hx.sn _ (List.getElem_mem hj)
 have hl1:x4 (ps.map Pn.name) (i+1)=ps[i].name:=by rw [bY (by simpa using hj),List.getElem_map]
 generalize ps[i]=u at*
 have cN:∀ w,YC 63 #[.string (mkS u.name)] w (YR (.bool (nmL u.name)) w):=λw=>wF u.name w hsn.1
 have cS:∀ w,YC 63 #[.string (mkS u.shelf)] w (YR (.bool (nmL u.shelf)) w):=λw=>wF u.shelf w hsn.2
 refine zO 11 [] hA ps.length cap i 2 hj (zL 12 [] 57 eb (eo+i*2+0) (pmV u) (λw hO=>hel0 w hO.below) (zQ [] λb5=>z7 (v:= .bool (nmL u.name)) [0,0] (λw hO=>cN w) (zS 15 (nmL u.name) (λh15=> ?_) (λh15=> ?_))))
 rotate_left
 ·exact z8 [] (YI (i:Int)) λw hO=>hno (by rw [hq,h15];rfl) w hO.below
 refine z7 (v:= .bool (nmL u.shelf)) [0] (λw hO=>cS w) (zS 20 (nmL u.shelf) (λh20=> ?_) (λh20=> ?_))
 rotate_left
 ·exact z8 [] (YI (i:Int)) λw hO=>hno (by rw [hq,h15,h20];rfl) w hO.below
 refine x_sle 27 [0] u.name (x4 (ps.map Pn.name) i) (zS 27 (!Op.bytesLess (x4 (ps.map Pn.name) i) u.name) (λh27=> ?_) (λh27=> ?_))
 ·exact z8 [] (YI (i:Int)) λw hO=>hno (by rw [hq,h15,h20];simpa using h27) w hO.below
 have hst:okP ps i=true:=by rw [hq,h15,h20];simpa using h27
 refine gU 3 [0] (.string (mkS u.name)) (.string (mkS (x4 (ps.map Pn.name) (i+1)))) (by rw [hl1]) ?_
 exact x_i 8 [] ((i+1:Nat):Int) (zV [] [] (λw hO=>hO.no) (nx (i+1) (ps.length-(i+1)) [] Om ⟨⟨hj,λj hji=>by
  rcases Nat.lt_succ_iff_lt_or_eq.1 hji with h|h
  ·exact hok j h
  ·rw [h];exact hst⟩,rfl⟩ Kr Kr))
theorem badH_at {l:List Ho}{i:Nat}(hi:i<l.length)(h0:∀ j,j<i->(fM l j && okHr l j)=true)(h1:(fM l i && okHr l i)=false):dE l=(if fM l i then 6 else 4,(i:Int)):=by
 have e:badHi l=i:=fbad_at (f:=λi=>fM l i && okHr l i) hi h0 h1
 unfold dE
 rw [e,if_pos hi]
theorem badH_all {l:List Ho}(h:∀ j,j<l.length->(fM l j && okHr l j)=true):dE l=(0,0):=by
 have e:badHi l=l.length:=fbad_all (f:=λi=>fM l i && okHr l i) h
 unfold dE
 rw [e,if_neg (Nat.lt_irrefl _)]
theorem mHolds_any (A:Option Addr)(cap:Nat)(ps:List Ho)(W:World)(hx:HoIn W W.heap.size A ps)(hK:RecLib W):YC 46 #[.slice A ps.length cap] W (YR (.tuple #[YI (dE ps).1,YI (dE ps).2]) W):=by
 have hn5:=hx.n
 obtain ⟨r,hr⟩:∃ r,dE ps=r:=⟨_,rfl⟩
 have hend:(∀ j,j<ps.length->(fM ps j && okHr ps j)=true)->r=(0,0):=λh=>hr▸badH_all h
 have hat:∀ i,i<ps.length->(∀ j,j<i->(fM ps j && okHr ps j)=true)->(fM ps i && okHr ps i)=false->r=(if fM ps i then 6 else 4,(i:Int)):=λi hi h0 h1=>hr▸badH_at hi h0 h1
 rw [hr]
 refine zF Tryz.func46 (zX (α:=Nat) (λi=>[(4,.string (mkS (x4 (ps.map Ho.name) i))),(7,.slice A ps.length cap),(8,YI (ps.length:Int)),(9,YI (i:Int))]) (λ_=>[]) (λi m=>(i<=ps.length∧∀ j,j<i->(fM ps j && okHr ps j)=true)/\m=ps.length-i) 0 ps.length [] ⟨⟨Nat.zero_le _,λj h=>by omega⟩,rfl⟩ ?_)
 rintro i mm g kk ⟨⟨hi,hok⟩,hmm⟩ nx hkk
 subst hkk
 refine zG 10 [] ((i:Int)<(ps.length:Int)) (λh9=> ?_) (λh9=> ?_)
 rotate_left
 ·exact yG [] (YI 0) (YI 0) λw hO=>⟨by rw [hend λj hj=>hok j Om],hO.below⟩
 have hj:i<ps.length:=by omega
 have hno:∀ z:Int,r=(z,(i:Int))→∀ w,YB W w->(Ending.returned (.tuple #[YI z,YI (i:Int)])= .returned (.tuple #[YI r.1,YI r.2]))/\YB W w:=λz h w hb=>⟨by rw [h],hb⟩
 have hat:=hat i hj hok
 obtain ⟨eb,eo,hA,hel⟩:=hx.top.elem hoC_len i hj
 have hel0:∀ w,YB W w->(loadVar 59 ⟨eb,eo+i*2+0,none⟩).run YP w= .ok (hoV ps[i]) w:=λw hw=>hel w hw _ 0 _ Kr
 have hq1:fM ps i=(nmL ps[i].name && Op.bytesLess (x4 (ps.map Ho.name) i) ps[i].name):=by unfold fM;rw [List.getElem?_eq_getElem hj]
 have hq2:okHr ps i=yH ps[i].rg:=by unfold okHr;rw [List.getElem?_eq_getElem hj]
 have hsn:=hx.sn _ (List.getElem_mem hj)
 have hl1:x4 (ps.map Ho.name) (i+1)=ps[i].name:=by rw [bY (by simpa using hj),List.getElem_map]
 generalize ps[i]=u at*
 have cN:∀ w,YC 63 #[.string (mkS u.name)] w (YR (.bool (nmL u.name)) w):=λw=>wF u.name w hsn.1
 have cR:∀ w,YB W w->YC 87 #[.string (mkS u.rg)] w (YR (.bool (yH u.rg)) w):=λw hb=>qRange_any u.rg w hsn.2 (hK.on hb)
 refine zO 12 [] hA ps.length cap i 2 hj (zL 13 [] 59 eb (eo+i*2+0) (hoV u) (λw hO=>hel0 w hO.below) (zQ [] λb6=>z7 (v:= .bool (nmL u.name)) [0,0] (λw hO=>cN w) (zS 17 (nmL u.name) (λh17=> ?_) (λh17=> ?_))))
 rotate_left
 ·exact yG [] (YI 4) (YI (i:Int)) λw hO=>hno 4 (by have h:=hat (by rw [hq1,h17];rfl);rw [hq1,h17] at h;exact h) w hO.below
 refine x_sle 23 [0] u.name (x4 (ps.map Ho.name) i) (zS 23 (!Op.bytesLess (x4 (ps.map Ho.name) i) u.name) (λh23=> ?_) (λh23=> ?_))
 ·have h23':fM ps i=false:=by rw [hq1,h17];simpa using h23
  exact yG [] (YI 4) (YI (i:Int)) λw hO=>hno 4 (by have h:=hat (by rw [h23'];rfl);rw [h23'] at h;exact h) w hO.below
 have h23':fM ps i=true:=by rw [hq1,h17];simpa using h23
 refine z7 (v:= .bool (yH u.rg)) [0] (λw hO=>cR w hO.below) (zS 29 (yH u.rg) (λh29=> ?_) (λh29=> ?_))
 rotate_left
 ·exact yG [] (YI 6) (YI (i:Int)) λw hO=>hno 6 (by have h:=hat (by rw [h23',hq2,h29];rfl);rw [h23'] at h;exact h) w hO.below
 have hst:(fM ps i && okHr ps i)=true:=by rw [h23',hq2,h29];rfl
 refine gU 4 [0] (.string (mkS u.name)) (.string (mkS (x4 (ps.map Ho.name) (i+1)))) (by rw [hl1]) ?_
 exact x_i 9 [] ((i+1:Nat):Int) (zV [] [] (λw hO=>hO.no) (nx (i+1) (ps.length-(i+1)) [] Om ⟨⟨hj,λj hji=>by
  rcases Nat.lt_succ_iff_lt_or_eq.1 hji with h|h
  ·exact hok j h
  ·rw [h];exact hst⟩,rfl⟩ Kr Kr))
theorem mG (x:Mv)(W:World)(hx:MnIn W W.heap.size x)(hK:RecLib W):YC 19 #[mvV x] W (YR (.tuple #[YI (x5 x.mt).1,YI (x5 x.mt).2]) W):=by
 have hp:=hx.pin.n
 have hh:=hx.hold.n
 have cR:∀ w,YB W w->YC 33 #[rvV x.rec'] w (YR (.tuple #[YI (zM x.rec'.rt).1,YI (zM x.rec'.rt).2]) w):=λw hb=>tL x.rec' w (hx.rc.on hb hb.size) (hK.on hb)
 have cP:∀ w,YB W w->YC 45 #[.slice x.pA x.pins.length x.pc] w (YR (YI (badP x.pins:Int)) w):=λw hb=>vPins_any x.pA x.pc x.pins w (hx.pin.on hb hb.size)
 have cH:∀ w,YB W w->YC 46 #[.slice x.hA x.holds.length x.hc] w (YR (.tuple #[YI (dE x.holds).1,YI (dE x.holds).2]) w):=λw hb=>mHolds_any x.hA x.hc x.holds w (hx.hold.on hb hb.size) (hK.on hb)
 have hE:x5 x.mt=if (zM x.rec'.rt).1≠0 then zM x.rec'.rt else if 8<x.pins.length\/8<x.holds.length then (3,0) else if badP x.pins<x.pins.length then (15,(badP x.pins:Int)) else dE x.holds:=rfl
 rw [hE]
 refine zF Tryz.func19 (x1 [] λb1=>z7 (v:= .tuple #[YI (zM x.rec'.rt).1,YI (zM x.rec'.rt).2]) [0] (λw hO=>cR w hO.below) (vK 14 [] ((zM x.rec'.rt).1=0) (λh=> ?_) (λh=> ?_)))
 rotate_left
 ·exact yG [] (YI (zM x.rec'.rt).1) (YI (zM x.rec'.rt).2) λw hO=>⟨by rw [if_pos h],hO.below⟩
 rw [if_neg (λq=>q h)]
 refine zG 20 [0] ((x.pins.length:Int)>8) (λh1=> ?_) (λh1=> ?_)
 ·exact yG [] (YI 3) (YI 0) λw hO=>⟨by rw [if_pos (.inl Om)],hO.below⟩
 refine zG 25 [0] ((x.holds.length:Int)>8) (λh2=> ?_) (λh2=> ?_)
 ·exact yG [] (YI 3) (YI 0) λw hO=>⟨by rw [if_pos (.inr Om)],hO.below⟩
 rw [if_neg Om]
 refine z7 (v:=YI (badP x.pins:Int)) [0] (λw hO=>cP w hO.below) (zG 34 [0] ((badP x.pins:Int)<(x.pins.length:Int)) (λh3=> ?_) (λh3=> ?_))
 ·exact yG [] (YI 15) (YI (badP x.pins:Int)) λw hO=>⟨by rw [if_pos Om],hO.below⟩
 rw [if_neg Om]
 exact z7 (v:= .tuple #[YI (dE x.holds).1,YI (dE x.holds).2]) [0] (λw hO=>cH w hO.below) (yG [] (YI (dE x.holds).1) (YI (dE x.holds).2) λw hO=>⟨rfl,hO.below⟩)
end
section
def BuS (b:Nat)(l:YL)(ob:List Blk):Prop:=
 ∃ p v g,ob=⟨b, #[p,v],98⟩::g/\(p= .pointer none\/p= .pointer (some ⟨b,0,none⟩))/\Sl 5 1 v l.length (Lib.byteCells l) g
theorem BuS.new (b:Nat):BuS b [] [⟨b, #[.pointer none,.slice none 0 0],98⟩]:=⟨_,_,[],rfl,.inl rfl,Sl.nil _ _⟩
theorem sizeBuS:(Tryz.prog.info? 98).map (·.size)=some 2:=by kernel_rfl
theorem liesBuS:liesAt YP Tryz.prog.depth 98 (2/Tryz.prog.cellsOf 98) 0 98 1=true:=by kernel_rfl
theorem copyCheck_newS (b:Nat)(w:World)(h0:w.cell? ⟨b,0,none⟩=some (.pointer none))(hsh:w.shape? b=some (98,2))(hfz:w.frozen? ⟨b,0,none⟩=false):
  YC 89 #[.pointer (some ⟨b,0,none⟩)] w λe w'=>e= .returned (.tuple #[])/\w'=w.setCell ⟨b,0,none⟩ (.pointer (some ⟨b,0,none⟩)):=by
 obtain ⟨j,hj,hjs⟩:=Option.map_eq_some_iff.1 sizeBuS
 go_enter Tryz.func89,Tryz.ntmps89
 go_wp2
 rw [Lib.run_to_unsafe w ⟨b,0,none⟩ Tryz.underlying95 Tryz.underlying196 hj (by rw [hjs];decide) hsh (Nat.zero_lt_succ 1)]
 simp only [Result.andThen]
 rw [Oper.upon_value]
 go_wp2
 rw [run_callFunc_extern Tryz.func140 Kr Kr Kr (e:=Extern.AbiNoEscape.same) Kr]
 rw [Lib.run_noEscape]
 simp only [Result.andThen]
 rw [Oper.upon_value]
 go_wp2
 rw [Lib.run_from_unsafe w ⟨b,0,none⟩ Tryz.underlying196 Tryz.underlying95 hj hsh liesBuS]
 simp only [Result.andThen]
 rw [Oper.upon_value]
 go_wp2
 go_end0
 exact ⟨rfl,rfl⟩
theorem bcheck_any (b:Nat)(p v:Value)(R:List Blk)(M:List Nat)(W w:World)(hp:p= .pointer none\/p= .pointer (some ⟨b,0,none⟩))(hO:Own M W w (⟨b, #[p,v],98⟩::R)):
  YC 89 #[.pointer (some ⟨b,0,none⟩)] w λe w'=>e= .returned (.tuple #[])/\Own M W w' (⟨b, #[.pointer (some ⟨b,0,none⟩),v],98⟩::R):=by
 have hb:w.heap[b]?=some (.cells #[p,v] 98 (0,0)):=hO.held ⟨b, #[p,v],98⟩ (List.mem_cons_self ..)
 have c0:w.cell? ⟨b,0,none⟩=some p:=by rw [Lib.cell_of_heap hb];rfl
 rcases hp with rfl|rfl
 ·refine (copyCheck_newS b w c0 (by simp [World.shape?,hb]) (Lib.frozen_of_heap hb 0)).mono λe w' ⟨he,hw⟩=>⟨he, ?_⟩
  rw [hw,setCell_eq_setRow w b 0 _ _ _ _ hb]
  exact hO.put (i:=0) (x:=⟨b, #[.pointer none,v],98⟩) rfl _
 ·exact (d9 b w c0).mono λe w' ⟨he,hw⟩=>⟨he,hw▸hO⟩
theorem infoU8S:∃ i,Tryz.prog.info? 5=some i/\i.zero=some (.int .u8 0)/\i.size=1/\i.bytes=1:=info_parts infoByte
theorem buS_own {B b:Nat}{l:YL}{ob:List Blk}{M:List Nat}{W w:World}(hB:BuS b l ob)(hO:Own M W w ob)(hM:∀ x∈ob,B<=x.b):Lib.IsBuilder 98 5 B b (Lib.byteCells l) w:=by
 obtain ⟨p,v,g,rfl,hp,hv⟩:=hB
 have hb:w.heap[b]?=some (.cells #[p,v] 98 (0,0)):=hO.held ⟨b, #[p,v],98⟩ (List.mem_cons_self ..)
 have key:Lib.BuilderAt 98 5 B b p (Lib.byteCells l) w:=by
  refine ⟨hM ⟨b, #[p,v],98⟩ (List.mem_cons_self ..),v,hb, ?_, ?_⟩
  ·rw [Lib.byteCells_length]
   refine ⟨hv.1, ?_⟩
   rcases hv.2 with ⟨h1,h2,_⟩|⟨k,cap,cur,h1,rfl,h3,h4,h5,h6⟩
   ·exact .inl ⟨h1,h2⟩
   ·exact .inr ⟨k,cap,cur,h1,hM ⟨k,cur,5⟩ (by simp),hO.held ⟨k,cur,5⟩ (by simp),h3,h4,h5,h6⟩
  ·rcases hv.2 with ⟨rfl,_,_⟩|⟨k,cap,cur,rfl,rfl,_⟩
   ·simp [Value.ownBlock]
   ·intro e
    have hk:k=b:=by simpa [Value.ownBlock] using e
    have:=hO.apart
    simp [hk] at this
 rcases hp with rfl|rfl
 ·exact .inl key
 ·exact .inr key
theorem bstring_any0 (B b:Nat)(l:YL)(w:World)(h:Lib.IsBuilder 98 5 B b (Lib.byteCells l) w)(h0:l≠[]):
  YC 50 #[.pointer (some ⟨b,0,none⟩)] w λe w'=>e= .returned (.string ⟨l.toArray⟩)/\Below B w w':=by
 obtain ⟨p,hB,v,hbk,hown,hne⟩:∃ p,Lib.BuilderAt 98 5 B b p (Lib.byteCells l) w:=h.elim (λq=>⟨_,q⟩) (λq=>⟨_,q⟩)
 rcases hown.2 with ⟨_,hz⟩|⟨g,cap,cur,rfl,hbg,hg,hnc,hcm,hcs,htake⟩
 ·exact absurd hz (mO h0)
 rw [Lib.byteCells_length] at hown hnc hbk htake
 have hl0:l.length≠0:=λe=>h0 (List.eq_nil_of_length_eq_zero e)
 have hg':w.drew.heap[g]?=some (.cells cur 5 (0,0)):=hg
 have c1:w.drew.cell? ⟨b,1,none⟩=some (.slice (some ⟨g,0,none⟩) l.length cap):=by
  rw [Lib.cell_of_heap (show w.drew.heap[b]?=_ from hbk)];rfl
 have hSD:=Lib.run_unsafeSliceData_row (P:=YP) w.drew #[96] 146 ⟨g,0,none⟩ l.length cap Om
 have hUS:=Lib.run_unsafeString_row (P:=YP) w.drew 146 3 9 5 Tryz.underlying146 Kr g cur.size (by unfold World.shape?;rw [hg']) l h0 Om (by unfold maxLen at hcm;omega)
  (λj x hx=>hown.cells (g:=g) rfl j (.int .u8 x.toNat) (by simp [Lib.byteCells,hx]))
 go_enter Tryz.func50,Tryz.ntmps50
 go_wp2
 have mixed:Tryz.prog.follows .mixedOrders=true:=by kernel_rfl
 go_region_o
 all_goals
  go_wp2
  go_ret
  have hf:=Lib.below_freeze (Go.RowKit.Below.drew (Go.RowKit.Below.refl B w)) (p:=⟨g,0,none⟩) hbg l.length
  exact ⟨rfl,hf.os,hf.tape,hf.output,hf.size,by rw [mJ];exact Nat.le_succ _,hf.block⟩
theorem bstring_any (b:Nat)(l:YL)(ob:List Blk)(W w:World)(hB:BuS b l ob)(hO:Own [] W w ob)(h0:l≠[]):
  YC 50 #[.pointer (some ⟨b,0,none⟩)] w λe w'=>e= .returned (.string (mkS l))/\Own [] W w' []:=
 (bstring_any0 W.heap.size b l w (buS_own hB hO λx hx=>(hO.base x hx).elim id λq=>by simp at q) h0).mono λe w' ⟨he,hb⟩=>by
  have hb2:=hO.below.trans hb
  exact ⟨he,hb2.os,hb2.tape,hb2.output,hb2.size,hb2.drawn,λk hk _=>hb2.block k hk,by simp,by simp,by simp⟩
theorem bWrite_any (b:Nat)(l:YL)(s:YL)(ob:List Blk)(W:World)(hB:BuS b l ob)(hO:Own (ob.map Blk.b) W W ob)(hl:l.length<=1000000000000)(hs:s.length<=1000000000000):
  YC 49 #[.pointer (some ⟨b,0,none⟩),.string (mkS s)] W λe w'=>∃ ob',e= .returned (.tuple #[YI ((mkS s).size:Int),.nilIface])/\BuS b (l++s) ob'/\Own (ob.map Blk.b) W w' ob':=by
 obtain ⟨p,v,g,rfl,hp,hv⟩:=hB
 obtain ⟨A,cap,rfl⟩:=Sl.form hv
 have hsz:=y7 s
 refine pP (n:=19) hO Tryz.func49 rfl Kr Kr (ZO (Zv (YI 0) (Zv (.nilIface) (ZR (Zv (Zp b 0) (Zr (k:=89) (args:= #[Zp b 0]) (λv' L'=>v'= .tuple #[]/\L'=⟨b, #[Zp b 0,.slice A l.length cap],98⟩::g) (λw hO=>(bcheck_any b p _ _ _ _ w hp hO).mono λe w' ⟨k1,k2⟩=>⟨_,_,k1,⟨rfl,rfl⟩,k2⟩) (λv0 L0 hv0=> ?_)))))))
 obtain ⟨rfl,rfl⟩:=hv0
 refine ZR (Zv (Zp b 0) (Zv (Zp b 0) (Zv (Zp b 0) (Zv (Zp b 1) (Zl 0 ⟨b, #[Zp b 0,.slice A l.length cap],98⟩ (off:=1) (.slice A l.length cap) (Zv (.string (mkS s)) ?_))))))
 obtain ⟨i0,e1,e2,e3,e4⟩:=infoU8S
 refine s_cast (L':=[⟨b, #[Zp b 0,.slice A l.length cap],98⟩]++g++[]) (by simp) (s_appstr Kr rfl Tryz.underlying96 Tryz.underlying9 e1 e2 e3 e4 Kr hv (s:=mkS s) Kr (by rw [hsz];unfold maxLen;omega) (by rw [hsz];omega) (λv2 g2 hv2=> ?_))
 have hv3:Sl 5 1 v2 (l++s).length (Lib.byteCells (l++s)) g2:=by rw [List.length_append,Lib.byteCells_append];rw [hsz,qV] at hv2;exact hv2
 obtain ⟨A2,cap2,rfl⟩:=Sl.form hv3
 refine s_cast (L':=⟨b, #[Zp b 0,.slice A l.length cap],98⟩::(g2)) (by simp) (Zv (Zp b 0) (Zv (Zp b 1) (Zs 0 ⟨b, #[Zp b 0,.slice A l.length cap],98⟩ (off:=1) (.slice A2 ((l++s).length) cap2) (ZR (Zv (.string (mkS s)) (Zv (YI ((mkS s).size)) (Zv (YI ((mkS s).size)) (Zv (.nilIface) ?_))))))))
 exact ZN (wX (ZG (YI ((mkS s).size)) (.nilIface) Tryz.results49 (λw hO=>⟨_,rfl,⟨_,_,g2,rfl,.inr rfl,hv3⟩,hO⟩)))
end
section
set_option linter.unnecessarySimpa false
theorem bm_write (b:Nat)(l s:YL)(R ob:List Blk){M:List Nat}{W:World}(hB:BuS b l ob)(hl:l.length<=1000000000000)(hs:s.length<=1000000000000):∀ w,Own M W w (R++ob)->YC 49 #[.pointer (some ⟨b,0,none⟩),.string (mkS s)] w λe w'=>∃ v ob',e= .returned v/\BuS b (l++s) ob'/\Own (ob.map Blk.b) w w' ob':=
 λw hO=>(bWrite_any b l s ob w hB (Own.lentR hO) hl hs).mono λe w' ⟨ob',k1,k2,k3⟩=>⟨_,ob',k1,k2,k3⟩
theorem recT_ne (r:Rt):yV r≠[]:=λq=>by
 have h:=congrArg List.length q
 unfold yV gX at h
 simp only [List.length_append,List.length_nil] at h
 have h8:0<txPack.length:=by decide
 omega
theorem tU (x:Mv)(W:World)(hx:MnIn W W.heap.size x)(hK:RecLib W):YC 21 #[mvV x] W (YR (.tuple #[.string (mkS (prMn x.mt)),YI (x5 x.mt).1]) W):=by
 have cC:∀ w,YB W w->YC 19 #[mvV x] w (YR (.tuple #[YI (x5 x.mt).1,YI (x5 x.mt).2]) w):=λw hb=>mG x w (hx.on hb hb.size) (hK.on hb)
 refine zF Tryz.func21 (x1 [] λb1=>z7 (v:= .tuple #[YI (x5 x.mt).1,YI (x5 x.mt).2]) [0] (λw hO=>cC w hO.below) (vK 19 [] ((x5 x.mt).1=0) (λh=> ?_) (λh=> ?_)))
 rotate_left
 ·exact yG [] (.string ⟨#[]⟩) (YI (x5 x.mt).1) λw hO=>⟨by rw [show prMn x.mt=[] from if_neg h];rfl,hO.below⟩
 have hn5:=hx.pin.n
 have hh5:=hx.hold.n
 obtain ⟨_,hg⟩:=dN h
 have hrc:(zM x.rec'.rt).1=0:=hg.rc
 have hrl:=(gN hrc).2.2.2.2.2
 have hrn:=recT_ne x.rec'.rt
 have hpl:∀ i,((x.pins.take i).flatMap pnT).length<=8*38:=fm_tk (λp hp=>pnT_len (hg.pin p hp)) hg.np
 have hhl:∀ i,((x.holds.take i).flatMap v6).length<=8*119:=fm_tk (λp hp=>holdT_len (hg.hold p hp)) hg.nh
 have hp38:∀ p∈x.pins,(pnT p).length<=38:=λp hp=>pnT_len (hg.pin p hp)
 have hh119:∀ p∈x.holds,(v6 p).length<=119:=λp hp=>holdT_len (hg.hold p hp)
 have cP:∀ w,YB W w->YC 29 #[rvV x.rec'] w (YR (.tuple #[.string (mkS (yV x.rec'.rt)),YI 0]) w):=λw hb=>by
  have h:=qPrint_any x.rec' w (hx.rc.on hb hb.size) (hK.on hb)
  rw [show nM x.rec'.rt=yV x.rec'.rt from if_pos hrc,hrc] at h;exact h
 rw [show prMn x.mt=bH x.mt from if_pos h,h]
 have hT:bH x.mt=yV x.rec'.rt++x.pins.flatMap pnT++x.holds.flatMap v6:=rfl
 rw [hT]
 generalize yV x.rec'.rt=front at*
 refine zQ [] λb6=>z7 (v:= .tuple #[.string (mkS front),YI 0]) [1] (λw hO=>cP w hO.below) (kH (k:=49) (args:= #[Zp b6 0,.string (mkS front)]) (Rr:=λ_ ob'=>BuS b6 ([]++front) ob') [] [⟨b6, #[.pointer none,.slice none 0 0],98⟩,mvB b1 x] [mvB b1 x] [⟨b6, #[.pointer none,.slice none 0 0],98⟩] (λw hO=>hO.perm (List.Perm.swap ..)) (bm_write b6 [] front [mvB b1 x] [⟨b6, #[.pointer none,.slice none 0 0],98⟩] (BuS.new b6) (by decide) Om) λv1 o1 h1=> ?_)
 rw [List.nil_append] at h1
 refine zV [0] (mvB b1 x::o1) (λw hO=>hO.past 0 _) (zX (α:=Nat×List Blk) (λy=>[(1,Zp b1 0),(6,Zp b6 0),(30,.slice x.pA x.pins.length x.pc),(31,YI (x.pins.length:Int)),(32,YI (y.1:Int))]) (λy=>mvB b1 x::y.2) (λy m=>(y.1<=x.pins.length/\BuS b6 (front++(x.pins.take y.1).flatMap pnT) y.2)/\m=x.pins.length-y.1) (0,o1) x.pins.length [] ⟨⟨Nat.zero_le _,by simp only [List.take_zero,List.flatMap_nil,List.append_nil];exact h1⟩,rfl⟩ ?_)
 clear h1
 rintro ⟨i,o⟩ mm gg kk ⟨⟨hi,ho⟩,hmm⟩ nx hkk
 subst hkk
 replace hi:i<=x.pins.length:=hi
 replace ho:BuS b6 (front++(x.pins.take i).flatMap pnT) o:=ho
 refine zG 33 [] ((i:Int)<(x.pins.length:Int)) (λh33=> ?_) (λh33=> ?_)
 ·have hj:i<x.pins.length:=by omega
  obtain ⟨eb,eo,hA,hel⟩:=hx.pin.top.elem pmC_len i hj
  have hel0:∀ w,YB W w->(loadVar 57 ⟨eb,eo+i*2+0,none⟩).run YP w= .ok (pmV x.pins[i]) w:=λw hw=>hel w hw _ 0 _ Kr
  have hsn:=hx.pin.sn _ (List.getElem_mem hj)
  have hst:=qR pnT hj
  have hw2:front++(x.pins.take i).flatMap pnT++pnT x.pins[i]=front++(x.pins.take (i+1)).flatMap pnT:=by rw [hst,List.append_assoc]
  have hul:=hp38 _ (List.getElem_mem hj)
  have hdl:=hpl i
  generalize x.pins[i]=u at*
  have hdl2:(front++(x.pins.take i).flatMap pnT).length<=330000:=by rw [List.length_append];omega
  generalize front++(x.pins.take i).flatMap pnT=done at*
  refine zO 34 [] hA x.pins.length x.pc i 2 hj (zL 35 [] 57 eb (eo+i*2+0) (pmV u) (λw hO=>hel0 w hO.below) (zQ [] λb10=>xB 38 [0,0] [112,105,110,32] u.name (xB 39 [] ([112,105,110,32]++u.name) [32] (xB 42 [0] ([112,105,110,32]++u.name++[32]) u.shelf (xB 43 [] ([112,105,110,32]++u.name++[32]++u.shelf) [10] ?_)))))
  refine kH (k:=49) (args:= #[Zp b6 0,.string (mkS (pnT u))]) (Rr:=λ_ ob'=>BuS b6 (done++pnT u) ob') [] ([⟨b10, #[.string (mkS u.name),.string (mkS u.shelf)],57⟩,mvB b1 x]++o) [⟨b10, #[.string (mkS u.name),.string (mkS u.shelf)],57⟩,mvB b1 x] o (λw hO=>hO) (bm_write b6 done (pnT u) _ o ho Om Om) λv2 o2 q1=> ?_
  rw [hw2] at q1
  exact x_i 32 [] ((i+1:Nat):Int) (zV [] (mvB b1 x::o2) (λw hO=>hO.past 1 _) (nx (i+1,o2) (x.pins.length-(i+1)) [] Om ⟨⟨hj,q1⟩,rfl⟩ Kr Kr))
 rw [List.take_of_length_le (show x.pins.length<=i by omega)] at ho
 have hfl:(front++x.pins.flatMap pnT).length<=5000:=by
  have:=hpl x.pins.length
  rw [List.take_length] at this
  rw [List.length_append];omega
 have hfn:front++x.pins.flatMap pnT≠[]:=λq=>hrn (List.append_eq_nil_iff.1 q).1
 generalize front++x.pins.flatMap pnT=front2 at*
 clear nx
 refine zV [0] (mvB b1 x::o) (λw hO=>hO.past 0 _) (zX (α:=Nat×List Blk) (λy=>[(6,Zp b6 0),(47,.slice x.hA x.holds.length x.hc),(48,YI (x.holds.length:Int)),(49,YI (y.1:Int))]) (λy=>mvB b1 x::y.2) (λy m=>(y.1<=x.holds.length/\BuS b6 (front2++(x.holds.take y.1).flatMap v6) y.2)/\m=x.holds.length-y.1) (0,o) x.holds.length [] ⟨⟨Nat.zero_le _,by simp only [List.take_zero,List.flatMap_nil,List.append_nil];exact ho⟩,rfl⟩ ?_)
 clear ho
 rintro ⟨i,o⟩ mm gg kk ⟨⟨hi,ho⟩,hmm⟩ nx hkk
 subst hkk
 replace hi:i<=x.holds.length:=hi
 replace ho:BuS b6 (front2++(x.holds.take i).flatMap v6) o:=ho
 refine zG 50 [] ((i:Int)<(x.holds.length:Int)) (λh50=> ?_) (λh50=> ?_)
 ·have hj:i<x.holds.length:=by omega
  obtain ⟨eb,eo,hA,hel⟩:=hx.hold.top.elem hoC_len i hj
  have hel0:∀ w,YB W w->(loadVar 59 ⟨eb,eo+i*2+0,none⟩).run YP w= .ok (hoV x.holds[i]) w:=λw hw=>hel w hw _ 0 _ Kr
  have hsn:=(hx.hold.sn _ (List.getElem_mem hj)).1
  have hrg:=nN (hg.hold _ (List.getElem_mem hj)).2
  have hst:=qR v6 hj
  have hw2:front2++(x.holds.take i).flatMap v6++v6 x.holds[i]=front2++(x.holds.take (i+1)).flatMap v6:=by rw [hst,List.append_assoc]
  have hul:=hh119 _ (List.getElem_mem hj)
  have hdl:=hhl i
  replace hrg:x.holds[i].rg.length<=96:=hrg
  generalize x.holds[i]=u at*
  have hdl2:(front2++(x.holds.take i).flatMap v6).length<=330000:=by rw [List.length_append];omega
  generalize front2++(x.holds.take i).flatMap v6=done at*
  refine zO 51 [] hA x.holds.length x.hc i 2 hj (zL 52 [] 59 eb (eo+i*2+0) (hoV u) (λw hO=>hel0 w hO.below) (zQ [] λb12=>xB 55 [0,0] [104,111,108,100,32] u.name (xB 56 [] ([104,111,108,100,32]++u.name) [32] (xB 59 [0] ([104,111,108,100,32]++u.name++[32]) u.rg (xB 60 [] ([104,111,108,100,32]++u.name++[32]++u.rg) [10] ?_)))))
  refine kH (k:=49) (args:= #[Zp b6 0,.string (mkS (v6 u))]) (Rr:=λ_ ob'=>BuS b6 (done++v6 u) ob') [] ([⟨b12, #[.string (mkS u.name),.string (mkS u.rg)],59⟩,mvB b1 x]++o) [⟨b12, #[.string (mkS u.name),.string (mkS u.rg)],59⟩,mvB b1 x] o (λw hO=>hO) (bm_write b6 done (v6 u) _ o ho Om Om) λv2 o2 q1=> ?_
  rw [hw2] at q1
  exact x_i 49 [] ((i+1:Nat):Int) (zV [] (mvB b1 x::o2) (λw hO=>hO.past 1 _) (nx (i+1,o2) (x.holds.length-(i+1)) [] Om ⟨⟨hj,q1⟩,rfl⟩ Kr Kr))
 rw [List.take_of_length_le (show x.holds.length<=i by omega)] at ho
 have hne:front2++x.holds.flatMap v6≠[]:=λq=>hfn (List.append_eq_nil_iff.1 q).1
 generalize front2++x.holds.flatMap v6=T at*
 refine x_callO [] (mvB b1 x::o) (Rr:=λv L'=>v= .string (mkS T)/\L'=[]) (λw hO=>(bstring_any b6 T o W w ho (hO.past 1 _) hne).mono λe w' ⟨q1,q2⟩=>⟨_,[],q1,⟨rfl,rfl⟩,q2⟩) λv4 L4 ⟨q1,q2⟩=> ?_
 subst q1;subst q2
 exact yG [] (.string (mkS T)) (YI 0) λw hO=>⟨rfl,hO.below⟩
end
section
set_option linter.unnecessarySimpa false
def laV (l:La):Value:= .agg #[YI (l.kind:Int),.string (mkS l.word),YI (l.lo:Int),YI (l.hi:Int),YI (l.parts:Int),.bool l.opn,.bool l.more]
def laB (l:La)(b:Nat):Blk:=⟨b,(laV l).cells,120⟩
theorem laPs_ne (l:La)(s:YL):0<(x7 l s).length:=by
 unfold x7
 split
 ·exact (bT 32 _ s).1
 ·exact List.length_pos_iff.2 (vE 32 _ _)
theorem laPs_few (l:La)(s:YL)(hp:l.parts<=1000):(x7 l s).length<=s.length+1001:=by
 unfold x7
 split
 ·have:=(bT 32 (l.parts-1) s).2;omega
 ·have:=split_len32 32 s;omega
theorem qCut_any (l:La)(s:YL)(W:World)(hs:s.length<=1048576)(hp:1<=l.parts/\l.parts<=1000):YC 61 #[laV l,.string (mkS s)] W λe w'=>∃ v' ob',e= .returned (.tuple #[v',.bool (wQ l s)])/\SlT v' (x7 l s) ob'/\Own [] W w' ob':=by
 obtain ⟨z0,hz0⟩:∃ z:Int,z=if l.opn then (l.parts:Int) else-1:=⟨_,rfl⟩
 have hsp:∀ w,YC 103 #[.string (mkS s),.string ⟨#[32]⟩,YI z0] w λe w'=>∃ v ob,e= .returned v/\SlT v (x7 l s) ob/\Own [] w w' ob:=λw=>by
  have h:=splitN32_any s z0 w hs (by rw [hz0];split<;>omega)
  have e:(if z0<0 then zB 32 [] s else jR 32 (z0.toNat-1) s)=x7 l s:=by
   unfold x7
   rw [hz0]
   cases l.opn with
   |true=>rw [if_pos rfl,if_pos rfl,if_neg Om,Int.toNat_natCast]
   |false=>rw [if_neg Bool.false_ne_true,if_neg Bool.false_ne_true,if_pos (by decide)]
  rw [e] at h
  exact h
 refine zF Tryz.func61 (x1 [] λb2=>vS 10 (α:=Int) (λz=>[(1,.string (mkS s)),(2,Zp b2 0),(6,YI z)]) (λ_=>[laB l b2]) (λz=>z=z0) [0] (λnj=>zS 10 l.opn (λh=>nj (l.parts:Int) [0] (by rw [hz0,h];rfl) Kr) (λh=>nj (-1) [] (by rw [hz0,h];rfl) Kr)) (λz g hz=> ?_))
 subst hz
 refine k7 (R:=λv ob=>SlT v (x7 l s) ob) [] (λw hO=>hsp w) λv ob hR=> ?_
 have hne:=laPs_ne l s
 have hfew:=laPs_few l s hp.2
 obtain ⟨g1,cap,cur,rfl,rfl,hcap⟩:∃ g cap cur,v= .slice (some ⟨g,0,none⟩) (x7 l s).length cap/\ob=[⟨g,cur,9⟩]/\True:=by
  rcases hR.2 with ⟨_,h,_⟩|⟨g,cap,cur,h1,h2,_⟩
  ·omega
  ·exact ⟨g,cap,cur,h1,h2,trivial⟩
 have hrd:∀ w,Own [] W w [laB l b2,⟨g1,cur,9⟩]->Reads zW w w.heap.size (some ⟨g1,0,none⟩) (x7 l s):=λw hO=>SlT.reads hR rfl hO λx hx=>List.mem_cons_of_mem _ hx
 obtain ⟨a,ha⟩:∃ a,(x7 l s)[0]=a:=⟨_,rfl⟩
 have ha0:(x7 l s).getD 0 []=a:=by rw [List.getD_eq_getElem?_getD,List.getElem?_eq_getElem hne,ha];rfl
 have hld:∀ w,Own [] W w [laB l b2,⟨g1,cur,9⟩]->(loadVar 9 ⟨g1,0+0*1+0,none⟩).run YP w= .ok (.string (mkS a)) w:=λw hO=>by
  obtain ⟨b,off,e,hel⟩:=(hrd w hO).elem zU 0 hne
  obtain ⟨rfl,rfl⟩:g1=b/\0=off:=by cases e;exact ⟨rfl,rfl⟩
  exact hel w (Below.refl _ _) _ 0 _ (by rw [ha];kernel_rfl)
 have hno:∀ w,Own [] W w [laB l b2,⟨g1,cur,9⟩]->YC 104 #[.slice (some ⟨g1,0,none⟩) (x7 l s).length cap,.string ⟨#[]⟩] w (YR (.bool (!noE (x7 l s))) w):=λw hO=>qHole_any _ cap (x7 l s) w (hrd w hO) Om
 have hE:wQ l s=((decide (((x7 l s).length:Int)=(l.parts:Int))||(l.more && decide (((x7 l s).length:Int)>(l.parts:Int)))) && decide (a=l.word) && noE (x7 l s)):=by
  unfold wQ
  rw [ha0]
  congr 3
  ·exact decide_eq_decide.2 Om
  ·congr 1;exact decide_eq_decide.2 Om
 have bad:∀ w,wQ l s=false->Own [] W w [laB l b2,⟨g1,cur,9⟩]→∃ v' ob',Ending.returned (.tuple #[.slice (some ⟨g1,0,none⟩) (x7 l s).length cap,.bool false])= .returned (.tuple #[v',.bool (wQ l s)])/\SlT v' (x7 l s) ob'/\Own [] W w ob':=λw h hO=>⟨_,_,by rw [h],hR,hO.past 1 _⟩
 generalize x7 l s=ps at*
 refine zG 20 [0] ((ps.length:Int)=(l.parts:Int)) (λh20=> ?_) (λh20=>pQ 23 [0] l.more (λh23=>zG 29 [0] ((ps.length:Int)>(l.parts:Int)) (λh29=> ?_) (λh29=> ?_)) (λh23=> ?_))
 case refine_3=>exact yG [] (.slice (some ⟨g1,0,none⟩) ps.length cap) (.bool false) λw hO=>bad w (by rw [hE,decide_eq_false h20,decide_eq_false h29];simp) (hO.past 0 _)
 case refine_4=>exact yG [] (.slice (some ⟨g1,0,none⟩) ps.length cap) (.bool false) λw hO=>bad w (by rw [hE,decide_eq_false h20,h23];simp) (hO.past 0 _)
 all_goals
  have hN:(decide ((ps.length:Int)=(l.parts:Int))||(l.more && decide ((ps.length:Int)>(l.parts:Int))))=true:=by
   first|(rw [decide_eq_true h20];rfl)|(rw [h23,decide_eq_true h29];simp)
  rw [hN,Bool.true_and] at hE
  refine zO 36 [] (A:=some ⟨g1,0,none⟩) rfl ps.length cap 0 1 hne (zL 37 [] 9 g1 (0+0*1+0) (.string (mkS a)) (λw hO=>hld w (hO.past 0 _)) (qF 40 [0] a l.word (λh40=> ?_) (λh40=> ?_)))
  rotate_left
  ·exact yG [] (.slice (some ⟨g1,0,none⟩) ps.length cap) Z5 λw hO=>bad w (by rw [hE,decide_eq_false h40];rfl) (hO.past 0 _)
  refine z7 (v:= .bool (!noE ps)) [] (λw hO=>hno w (hO.past 0 _)) (zS 44 (!noE ps) (λh44=> ?_) (λh44=> ?_))
  ·exact yG [] (.slice (some ⟨g1,0,none⟩) ps.length cap) Z5 λw hO=>bad w (by rw [hE,show noE ps=false by simpa using h44];simp) (hO.past 0 _)
  ·exact yG [] (.slice (some ⟨g1,0,none⟩) ps.length cap) Z4 λw hO=>⟨_,_,by rw [hE,decide_eq_true h40,show noE ps=true by simpa using h44];rfl,hR,hO.past 1 _⟩
theorem qFeats_any (s:YL)(W:World)(hs:s.length<=1048576)(hK:HasLib W):YC 107 #[.string (mkS s)] W λe w'=>∃ v' ob',e= .returned v'/\SlT v' (if s=[45] then [] else zB 44 [] s) ob'/\Own [] W w' ob':=by
 have hc:∀ w,YB W w->YC 154 #[.string (mkS s),.string ⟨#[44]⟩] w λe w'=>∃ v ob,e= .returned v/\SlT v (zB 44 [] s) ob/\Own [] w w' ob:=λw hb=>split_comma s w hs (hK.on hb)
 refine zF Tryz.func107 (qF 4 [] s [45] (λh=> ?_) (λh=> ?_))
 ·exact z8 [] (.slice none 0 0) λw hO=>⟨_,[],rfl,by rw [if_pos h];exact Sl.nil _ _,hO.past 0 _⟩
 ·exact k7 (R:=λv ob=>SlT v (zB 44 [] s) ob) [] (λw hO=>hc w hO.below) λv ob hR=>(z8 [] v λw hO=>⟨v,ob,rfl,by rw [if_neg h];exact hR,hO.past 0 _⟩)
theorem qLastN_any (g n cap:Nat)(W:World)(hn:n+1<=1048576):YC 106 #[.slice (some ⟨g,0,none⟩) (n+1) cap] W (YR (.pointer (some ⟨g,n*3,none⟩)) W):=by
 refine zF Tryz.func106 (gU 6 [] (YI (IntKind.i64.wrap (((n+1:Nat):Int) -1))) (YI (n:Int)) (by rw [show (((n+1:Nat):Int) -1)=(n:Int) by omega,IntWalk.i64_in _ Om]) ?_)
 refine zO 7 [] (A:=some ⟨g,0,none⟩) rfl (n+1) cap n 3 (Nat.lt_succ_self _) (z8 [] (Zp g (0+(n:Int).toNat*3)) λw hO=>⟨?_,hO.below⟩)
 rw [Nat.zero_add,Int.toNat_natCast]
theorem qLastB_any (g n cap:Nat)(W:World)(hn:n+1<=1048576):YC 108 #[.slice (some ⟨g,0,none⟩) (n+1) cap] W (YR (.pointer (some ⟨g,n*3,none⟩)) W):=by
 refine zF Tryz.func108 (gU 6 [] (YI (IntKind.i64.wrap (((n+1:Nat):Int) -1))) (YI (n:Int)) (by rw [show (((n+1:Nat):Int) -1)=(n:Int) by omega,IntWalk.i64_in _ Om]) ?_)
 refine zO 7 [] (A:=some ⟨g,0,none⟩) rfl (n+1) cap n 3 (Nat.lt_succ_self _) (z8 [] (Zp g (0+(n:Int).toNat*3)) λw hO=>⟨?_,hO.below⟩)
 rw [Nat.zero_add,Int.toNat_natCast]
end
section
set_option linter.unnecessarySimpa false
theorem Sl.putLast {α:Type}{gC:α->List Value}{T sz g cap:Nat}(hg:∀ x,(gC x).length=sz){cur:Array Value}{ini:List α}{n:α}(h:Sl T sz (.slice (some ⟨g,0,none⟩) (ini.length+1) cap) (ini.length+1) ((ini++[n]).flatMap gC) [⟨g,cur,T⟩])(n':α)(fo:Nat)(vs:Array Value)(hfit:fo+vs.size<=sz)(hy:gC n'=(gC n).take fo++vs.toList++(gC n).drop (fo+vs.size)):
  Sl T sz (.slice (some ⟨g,0,none⟩) (ini.length+1) cap) (ini.length+1) ((ini++[n']).flatMap gC) [⟨g,zT cur (ini.length*sz+fo) vs,T⟩]/\ini.length*sz+fo+vs.size<=cur.size:=by
 obtain ⟨h1,h2⟩:=h
 rcases h2 with ⟨e,_⟩|⟨g',cap',cur',e1,e2,e3,e4,e5,e6⟩
 ·cases e
 ·obtain ⟨rfl,rfl⟩:g=g'/\cap=cap':=by cases e1;exact ⟨rfl,rfl⟩
  obtain rfl:cur=cur':=by cases e2;rfl
  have hk:ini.length<(ini++[n]).length:=by simp
  have hs:=store_elem hg (cur:=cur) (l:=ini++[n]) (by rw [List.length_append];exact e6) ini.length fo hk vs n' hfit (by rw [List.getElem_append_right (Nat.le_refl _)];simpa using hy)
  have hset:(ini++[n]).set ini.length n'=ini++[n']:=by simp
  rw [hset,List.length_append,List.length_singleton] at hs
  have hcap:(ini.length+1)*sz<=cap*sz:=Nat.mul_le_mul_right _ e3
  have hm:(ini.length+1)*sz=ini.length*sz+sz:=Nat.succ_mul ..
  refine ⟨⟨?_,.inr ⟨g,cap,_,rfl,rfl,e3,e4,by rw [hs.2];exact e5,hs.1⟩⟩,by omega⟩
  rw [vN hg];simp
theorem Sl.lastAt {α:Type}{gC:α->List Value}{T sz g cap:Nat}(hg:∀ x,(gC x).length=sz){cur:Array Value}{ini:List α}{n:α}(h:Sl T sz (.slice (some ⟨g,0,none⟩) (ini.length+1) cap) (ini.length+1) ((ini++[n]).flatMap gC) [⟨g,cur,T⟩])(j:Nat)(u:Value)(hj:(gC n)[j]?=some u):cur[ini.length*sz+j]?=some u:=by
 obtain ⟨h1,h2⟩:=h
 rcases h2 with ⟨e,_⟩|⟨g',cap',cur',e1,e2,e3,e4,e5,e6⟩
 ·cases e
 ·obtain rfl:cur=cur':=by cases e2;rfl
  have hjs:j<sz:=by have:=(List.getElem?_eq_some_iff.1 hj).1;rwa [hg] at this
  have hm:(ini.length+1)*sz=ini.length*sz+sz:=Nat.succ_mul ..
  have h3:(cur.toList.take ((ini.length+1)*sz))[ini.length*sz+j]?=some u:=by
   rw [e6,List.flatMap_append,List.getElem?_append_right (by rw [vN hg];omega),vN hg,show ini.length*sz+j-ini.length*sz=j by omega,List.flatMap_singleton]
   exact hj
  rw [List.getElem?_take,if_pos Om] at h3
  simpa using h3
structure NdL (A:Option Addr)(c:Nat)(xs:List Nv)(o1 oa og oi:List Blk):Prop where
 top:Sl 75 3 (.slice A xs.length c) xs.length (xs.flatMap nvC) o1
 split:(xs=[]/\oa=[]/\og=[])∨∃ ini n,xs=ini++[n]/\(∀ x∈ini,∃ o,WsO x.A x.cap x.any o∧∀ b∈o,b∈oi)/\Sl 134 4 (.slice n.A n.any.length n.cap) n.any.length (n.any.flatMap wvC) oa∧∀ u∈n.any,∃ o,SlT (.slice u.A u.fs.length u.cap) u.fs o∧∀ b∈o,b∈og
def rdC (x:Rv)(k:Nat):List Value:=rvC x++[YI (k:Int)]
def rdB (x:Rv)(k rb:Nat):Blk:=⟨rb,(rdC x k).toArray,62⟩
structure RdQ (x:Rv)(o1 oa og oi o4 o7 o8:List Blk):Prop where
 needs:NdL x.nA x.nc x.needs o1 oa og oi
 bars:Sl 77 3 (.slice x.bA x.bars.length x.bc) x.bars.length (x.bars.flatMap bvC) o4
 fts:FtO x.fA x.fc x.fts o7 o8
def zY (oa og oi o4 o7 o8:List Blk):List Blk:=oa++(og++(oi++(o4++(o7++o8))))
def RdR (rb k:Nat)(x:Rv)(ob:List Blk):Prop:=∃ o1 oa og oi o4 o7 o8,ob=rdB x k rb::(o1++zY oa og oi o4 o7 o8)/\RdQ x o1 oa og oi o4 o7 o8
structure Few (x:Rv):Prop where
 n:x.needs.length<=5000
 b:x.bars.length<=5000
 f:x.fts.length<=5000
 a:∀ n∈x.needs,n.any.length<=5000
theorem bV {M:List Nat}{A:Option Addr}{ps:List YL}{W:World}(hv:ReadsA M zW W A ps)(h0:0<ps.length):∃ pb po,A=some ⟨pb,po,none⟩∧∀ (w:World),Own M W w []→∀ j,j<ps.length->(loadVar 9 ⟨pb,po+j*1+0,none⟩).run YP w= .ok (.string (mkS (ps.getD j []))) w:=by
 obtain ⟨pb,po,e,hlt,hm,hc⟩:=hv h0
 refine ⟨pb,po,e,λw hO j hj=> ?_⟩
 obtain ⟨b,off,e2,hel⟩:=(hv.at hO).elem zU j hj
 obtain ⟨rfl,rfl⟩:pb=b/\po=off:=by rw [e] at e2;cases e2;exact ⟨rfl,rfl⟩
 exact hel w (Below.refl _ _) _ 0 _ (by rw [show ps.getD j []=ps[j] by rw [List.getD_eq_getElem?_getD,List.getElem?_eq_getElem hj];rfl];kernel_rfl)
structure AddB (rb kd:Nat)(x:Rv)(ps:List YL)(ob:List Blk)(W:World)(e:Ending)(w':World):Prop where
 ex:∃ x' ob',e= .returned (.bool (dZ x.rt kd ps).2)/\x'.rt=(dZ x.rt kd ps).1/\RdR rb kd x' ob'/\Own (ob.map Blk.b) W w' ob'
section
variable {M:List Nat}{P:Program}{n:Nat}{W:World}{Q:Exit->Act->World->Prop}{c:Xc}
theorem fZ (L1 L2:List Blk)(hs:∀ w,Own M W w L1->Own M W w L2)(hg:zE M P n W Q {c with L:=L2})(hkt:(c.L,xQ c)=(L1,false):=by kernel_rfl):zE M P n W Q c:=by
 simp only [Prod.mk.injEq] at hkt
 obtain ⟨f1,hqq⟩:=hkt
 obtain ⟨top,kk,L,f⟩:=c
 dsimp only at f1
 subst f1
 cases top with
 |ops a r=>exact ⟨λhq=>s_take hs (hg.go hq)⟩
 |code x=>exact ⟨λhq=>ok_take hs (hg.go hq)⟩
 |fin e=>exact ⟨λhq=>fin_take hs (hg.go hq)⟩
 |_=>cases hqq
end
theorem lastN_at (g m cap N:Nat)(hN:N=m+1)(hm:m<=5000):∀ w,YC 106 #[.slice (some ⟨g,0,none⟩) N cap] w (YR (.pointer (some ⟨g,m*3,none⟩)) w):=λw=>by subst hN;exact qLastN_any g m cap w Om
theorem lastB_at (g m cap N:Nat)(hN:N=m+1)(hm:m<=5000):∀ w,YC 108 #[.slice (some ⟨g,0,none⟩) N cap] w (YR (.pointer (some ⟨g,m*3,none⟩)) w):=λw=>by subst hN;exact qLastB_any g m cap w Om
theorem sl_addr {T sz N c:Nat}{A:Option Addr}{xs:List Value}{o1:List Blk}(h:Sl T sz (.slice A N c) N xs o1)(h0:0<N):∃ g cur,A=some ⟨g,0,none⟩/\o1=[⟨g,cur,T⟩]:=by
 rcases h.2 with ⟨_,q,_⟩|⟨g,cap,cur,e1,e2,_⟩
 ·omega
 ·cases e1;exact ⟨g,cur,rfl,e2⟩
theorem rd_lastN {x:Rv}{ini:List Nv}{n n':Nv}(hx:x.needs=ini++[n]){k rb:Nat}:rdB {x with needs:=ini++[n']} k rb=rdB x k rb:=by
 have:(ini++[n']).length=x.needs.length:=by rw [hx];simp
 unfold rdB rdC rvC
 simp only [this]
theorem rt_lastN {x:Rv}{ini:List Nv}{n n':Nv}{f:Nt->Nt}(hx:x.needs=ini++[n])(hn:n'.nt=f n.nt):Rv.rt {x with needs:=ini++[n']}={x.rt with needs:=yM f x.rt.needs}:=by
 have e:x.rt.needs=ini.map Nv.nt++[n.nt]:=by show x.needs.map Nv.nt=_;rw [hx];simp
 rw [e,qB,←hn]
 unfold Rv.rt
 simp [Rv.ver]
theorem sl_len {α:Type}{gC:α->List Value}{T sz c:Nat}{A:Option Addr}{ini:List α}{y:α}{o:List Blk}(h:Sl T sz (.slice A (ini.length+1) c) (ini.length+1) ((ini++[y]).flatMap gC) o):Sl T sz (.slice A (ini++[y]).length c) (ini++[y]).length ((ini++[y]).flatMap gC) o:=by
 rw [List.length_append,List.length_singleton];exact h
theorem add_when (rb:Nat)(x:Rv)(ps:List YL)(A:Option Addr)(cap:Nat)(ob:List Blk)(W:World)(hR:RdR rb 4 x ob)(hO:Own (ob.map Blk.b) W W ob)(hv:ReadsA (ob.map Blk.b) zW W A ps)(hp:2<=ps.length)(hF:Few x)(hne:x.needs≠[]):YC 62 #[.pointer (some ⟨rb,0,none⟩),.slice A ps.length cap] W (AddB rb 4 x ps ob W):=by
 obtain ⟨o1,oa,og,oi,o4,o7,o8,rfl,hN,hB,hT⟩:=hR
 obtain ⟨pb,po,hA,hld⟩:=bV hv Om
 rcases hN.split with ⟨e,_⟩|⟨ini,n,hx,hi,hw,hf⟩
 ·exact absurd e hne
 have hlen:x.needs.length=ini.length+1:=by rw [hx];simp
 obtain ⟨g,cur,hg,rfl⟩:=sl_addr hN.top Om
 have hS:Sl 75 3 (.slice (some ⟨g,0,none⟩) (ini.length+1) x.nc) (ini.length+1) ((ini++[n]).flatMap nvC) [⟨g,cur,75⟩]:=by have:=hN.top;rw [hlen,hx,hg] at this;exact this
 have hFn:=hF.n
 have hput:=Sl.putLast gT hS {n with wh:=ps.getD 1 []} 1 #[.string (mkS (ps.getD 1 []))] (by simp) rfl
 have hlast:=lastN_at g ini.length x.nc x.needs.length hlen Om
 rw [←hg] at hlast
 refine kQ hO Tryz.func62 (kS 8 [0] [rdB x 4 rb] (λw hO=>(hO.past 0 (rdB x 4 rb::([⟨g,cur,75⟩]++zY oa og oi o4 o7 o8))).sublist (by simp)) ?_)
 refine q9 50098 [0] 6 hA ps.length cap 1 1 Om (gY 50099 [] 7 9 pb (po+1*1+0) (.string (mkS (ps.getD 1 []))) (λw hO=>hld w hO.no 1 Om) (yJ [] 4 (z7 (v:=Zp g (ini.length*3)) [] (λw hO=>hlast w) ?_)))
 refine gU 101 [] (Zp g (ini.length*3+1)) (Zp g (ini.length*3+1)) rfl (x_sto 1 ⟨g,cur,75⟩ (ini.length*3+1) 1 (.string (mkS (ps.getD 1 []))) (rdB x 4 rb::⟨g,cur,75⟩::zY oa og oi o4 o7 o8) hput.2 ?_)
 refine z8 [] Z4 λw hO=>⟨{x with needs:=ini++[{n with wh:=ps.getD 1 []}]},rdB {x with needs:=ini++[{n with wh:=ps.getD 1 []}]} 4 rb::([⟨g,zT cur (ini.length*3+1) #[.string (mkS (ps.getD 1 []))],75⟩]++zY oa og oi o4 o7 o8),rfl, ?_,⟨[⟨g,zT cur (ini.length*3+1) #[.string (mkS (ps.getD 1 []))],75⟩],oa,og,oi,o4,o7,o8,rfl,⟨⟨?_,.inr ⟨ini,{n with wh:=ps.getD 1 []},rfl,hi,hw,hf⟩⟩,hB,hT⟩⟩, ?_⟩
 ·exact rt_lastN hx (f:=λn=>{n with wh:=ps.getD 1 []}) rfl
 ·exact hg▸sl_len hput.1
 ·rw [rd_lastN hx]
  exact hO.past 0 (rdB x 4 rb::⟨g,zT cur (ini.length*3+1) #[.string (mkS (ps.getD 1 []))],75⟩::zY oa og oi o4 o7 o8)
theorem add_opt (rb:Nat)(x:Rv)(ps:List YL)(A:Option Addr)(cap:Nat)(ob:List Blk)(W:World)(hR:RdR rb 5 x ob)(hO:Own (ob.map Blk.b) W W ob)(hv:ReadsA (ob.map Blk.b) zW W A ps)(hp:2<=ps.length)(hF:Few x)(hne:x.needs≠[]):YC 62 #[.pointer (some ⟨rb,0,none⟩),.slice A ps.length cap] W (AddB rb 5 x ps ob W):=by
 obtain ⟨o1,oa,og,oi,o4,o7,o8,rfl,hN,hB,hT⟩:=hR
 obtain ⟨pb,po,hA,hld⟩:=bV hv Om
 rcases hN.split with ⟨e,_⟩|⟨ini,n,hx,hi,hw,hf⟩
 ·exact absurd e hne
 have hlen:x.needs.length=ini.length+1:=by rw [hx];simp
 obtain ⟨g,cur,hg,rfl⟩:=sl_addr hN.top Om
 have hS:Sl 75 3 (.slice (some ⟨g,0,none⟩) (ini.length+1) x.nc) (ini.length+1) ((ini++[n]).flatMap nvC) [⟨g,cur,75⟩]:=by have:=hN.top;rw [hlen,hx,hg] at this;exact this
 have hFn:=hF.n
 have hput:=Sl.putLast gT hS {n with opt:=ps.getD 1 []} 2 #[.string (mkS (ps.getD 1 []))] (by simp) rfl
 have hlast:=lastN_at g ini.length x.nc x.needs.length hlen Om
 rw [←hg] at hlast
 refine kQ hO Tryz.func62 (kS 8 [0] [rdB x 5 rb] (λw hO=>(hO.past 0 (rdB x 5 rb::([⟨g,cur,75⟩]++zY oa og oi o4 o7 o8))).sublist (by simp)) ?_)
 refine q9 50110 [0] 6 hA ps.length cap 1 1 Om (gY 50111 [] 7 9 pb (po+1*1+0) (.string (mkS (ps.getD 1 []))) (λw hO=>hld w hO.no 1 Om) (yJ [] 4 (z7 (v:=Zp g (ini.length*3)) [] (λw hO=>hlast w) ?_)))
 refine gU 113 [] (Zp g (ini.length*3+2)) (Zp g (ini.length*3+2)) rfl (x_sto 1 ⟨g,cur,75⟩ (ini.length*3+2) 1 (.string (mkS (ps.getD 1 []))) (rdB x 5 rb::⟨g,cur,75⟩::zY oa og oi o4 o7 o8) hput.2 ?_)
 refine z8 [] Z4 λw hO=>⟨{x with needs:=ini++[{n with opt:=ps.getD 1 []}]},rdB {x with needs:=ini++[{n with opt:=ps.getD 1 []}]} 5 rb::([⟨g,zT cur (ini.length*3+2) #[.string (mkS (ps.getD 1 []))],75⟩]++zY oa og oi o4 o7 o8),rfl, ?_,⟨[⟨g,zT cur (ini.length*3+2) #[.string (mkS (ps.getD 1 []))],75⟩],oa,og,oi,o4,o7,o8,rfl,⟨⟨?_,.inr ⟨ini,{n with opt:=ps.getD 1 []},rfl,hi,hw,hf⟩⟩,hB,hT⟩⟩, ?_⟩
 ·exact rt_lastN hx (f:=λn=>{n with opt:=ps.getD 1 []}) rfl
 ·exact hg▸sl_len hput.1
 ·rw [rd_lastN hx]
  exact hO.past 0 (rdB x 5 rb::⟨g,zT cur (ini.length*3+2) #[.string (mkS (ps.getD 1 []))],75⟩::zY oa og oi o4 o7 o8)
end
section
set_option linter.unnecessarySimpa false
theorem rd_lastB {x:Rv}{ini:List Bv}{n n':Bv}(hx:x.bars=ini++[n]){k rb:Nat}:rdB {x with bars:=ini++[n']} k rb=rdB x k rb:=by
 have:(ini++[n']).length=x.bars.length:=by rw [hx];simp
 unfold rdB rdC rvC
 simp only [this]
theorem add_bwhen (rb:Nat)(x:Rv)(ps:List YL)(A:Option Addr)(cap:Nat)(ob:List Blk)(W:World)(hR:RdR rb 7 x ob)(hO:Own (ob.map Blk.b) W W ob)(hv:ReadsA (ob.map Blk.b) zW W A ps)(hp:2<=ps.length)(hF:Few x)(hne:x.bars≠[]):YC 62 #[.pointer (some ⟨rb,0,none⟩),.slice A ps.length cap] W (AddB rb 7 x ps ob W):=by
 obtain ⟨o1,oa,og,oi,o4,o7,o8,rfl,hN,hB,hT⟩:=hR
 obtain ⟨pb,po,hA,hld⟩:=bV hv Om
 obtain ⟨ini,n,hx⟩:∃ ini n,x.bars=ini++[n]:=⟨x.bars.dropLast,x.bars.getLast hne,(List.dropLast_concat_getLast hne).symm⟩
 have hlen:x.bars.length=ini.length+1:=by rw [hx];simp
 obtain ⟨g,cur,hg,rfl⟩:=sl_addr hB Om
 have hS:Sl 77 3 (.slice (some ⟨g,0,none⟩) (ini.length+1) x.bc) (ini.length+1) ((ini++[n]).flatMap bvC) [⟨g,cur,77⟩]:=by rw [hlen,hx,hg] at hB;exact hB
 have hFb:=hF.b
 have hput:=Sl.putLast mP hS {n with wh:=ps.getD 1 []} 2 #[.string (mkS (ps.getD 1 []))] (by simp) rfl
 have hlast:=lastB_at g ini.length x.bc x.bars.length hlen Om
 rw [←hg] at hlast
 refine kQ hO Tryz.func62 (kS 8 [0] [rdB x 7 rb] (λw hO=>(hO.past 0 (rdB x 7 rb::(o1++zY oa og oi [⟨g,cur,77⟩] o7 o8))).sublist (by simp)) ?_)
 refine q9 50140 [0] 6 hA ps.length cap 1 1 Om (gY 50141 [] 7 9 pb (po+1*1+0) (.string (mkS (ps.getD 1 []))) (λw hO=>hld w hO.no 1 Om) (yJ [] 4 (z7 (v:=Zp g (ini.length*3)) [] (λw hO=>hlast w) ?_)))
 refine gU 143 [] (Zp g (ini.length*3+2)) (Zp g (ini.length*3+2)) rfl (fZ (rdB x 7 rb::(o1++zY oa og oi [⟨g,cur,77⟩] o7 o8)) (rdB x 7 rb::⟨g,cur,77⟩::(o1++zY oa og oi [] o7 o8)) (λw hO=>x2 [] hO λp=>by
  simp only [zY,List.countP_append,List.countP_cons,List.countP_nil,List.cons_append,List.nil_append];omega) ?_)
 refine x_sto 1 ⟨g,cur,77⟩ (ini.length*3+2) 1 (.string (mkS (ps.getD 1 []))) (rdB x 7 rb::⟨g,cur,77⟩::(o1++zY oa og oi [] o7 o8)) hput.2 (z8 [] Z4 λw hO=>⟨{x with bars:=ini++[{n with wh:=ps.getD 1 []}]},rdB {x with bars:=ini++[{n with wh:=ps.getD 1 []}]} 7 rb::(o1++zY oa og oi [⟨g,zT cur (ini.length*3+2) #[.string (mkS (ps.getD 1 []))],77⟩] o7 o8),rfl, ?_,⟨o1,oa,og,oi,[⟨g,zT cur (ini.length*3+2) #[.string (mkS (ps.getD 1 []))],77⟩],o7,o8,rfl,⟨hN, ?_,hT⟩⟩, ?_⟩)
 ·have e:x.rt.bars=ini.map Bv.bt++[n.bt]:=by show x.bars.map Bv.bt=_;rw [hx];simp
  show Rv.rt _={x.rt with bars:=yM (λb=>{b with wh:=ps.getD 1 []}) x.rt.bars}
  rw [e,qB]
  unfold Rv.rt
  simp [Rv.ver,Bv.bt]
 ·exact hg▸sl_len hput.1
 ·rw [rd_lastB hx]
  exact x2 [] (hO.past 0 (rdB x 7 rb::⟨g,zT cur (ini.length*3+2) #[.string (mkS (ps.getD 1 []))],77⟩::(o1++zY oa og oi [] o7 o8))) λp=>by
   simp only [zY,List.countP_append,List.countP_cons,List.countP_nil,List.cons_append,List.nil_append];omega
end
section
set_option linter.unnecessarySimpa false
def hd (x:Rv)(p2:YL)(ps:List YL):Rv:={x with name:=ps.getD 1 [],maj:=(bG p2).maj,min:=(bG p2).min,pat:=(bG p2).pat,pre:=(bG p2).pre,bld:=(bG p2).build}
theorem add_head (rb:Nat)(x:Rv)(ps:List YL)(A:Option Addr)(cap:Nat)(ob:List Blk)(W:World)(hR:RdR rb 1 x ob)(hO:Own (ob.map Blk.b) W W ob)(hv:ReadsA (ob.map Blk.b) zW W A ps)(hp:3<=ps.length)(hs:∀ s∈ps,s.length<=1048576)(hK:∀ w,Own (ob.map Blk.b) W w []->HasTab w):YC 62 #[.pointer (some ⟨rb,0,none⟩),.slice A ps.length cap] W (AddB rb 1 x ps ob W):=by
 obtain ⟨o1,oa,og,oi,o4,o7,o8,rfl,hN,hB,hT⟩:=hR
 obtain ⟨pb,po,hA,hld⟩:=bV hv Om
 obtain ⟨p2,hp2⟩:∃ p,ps.getD 2 []=p:=⟨_,rfl⟩
 have hs2:p2.length<=1048576:=by
  rw [←hp2,List.getD_eq_getElem?_getD,List.getElem?_eq_getElem (by omega)];exact hs _ (List.getElem_mem _)
 have hld2:∀ (w:World),Own ((rdB x 1 rb::(o1++zY oa og oi o4 o7 o8)).map Blk.b) W w []->(loadVar 9 ⟨pb,po+2*1+0,none⟩).run YP w= .ok (.string (mkS p2)) w:=λw hO=>by have:=hld w hO 2 Om;rw [hp2] at this;exact this
 have hc:∀ w,Own ((rdB x 1 rb::(o1++zY oa og oi o4 o7 o8)).map Blk.b) W w []->YC 105 #[.string (mkS p2)] w (YR (.tuple #[kY (bG p2),YI (pU p2)]) w):=λw hO=>parse_any p2 w Om (hK w hO)
 refine kQ hO Tryz.func62 (zO 20 [0] hA ps.length cap 2 1 Om (zL 21 [] 9 pb (po+2*1+0) (.string (mkS p2)) (λw hO=>hld2 w hO.no) ?_))
 refine z7 (v:= .tuple #[kY (bG p2),YI (pU p2)]) [] (λw hO=>hc w hO.no) (zQ [] λb6=>(kS 9 [0] [⟨b6,(kY (bG p2)).cells,24⟩] (λw hO=>Own.nth 0 ⟨b6,(kY (bG p2)).cells,24⟩ hO) (q9 50028 [] 3 hA ps.length cap 1 1 Om (gY 50029 [] 4 9 pb (po+1*1+0) (.string (mkS (ps.getD 1 []))) (λw hO=>hld w hO.no 1 Om) (yJ [0] 8 ?_)))))
 refine xh_sto 1 (rdB x 1 rb) 0 1 (.string (mkS (ps.getD 1 []))) (⟨b6,(kY (bG p2)).cells,24⟩::rdB x 1 rb::(o1++zY oa og oi o4 o7 o8)) [⟨b6,(kY (bG p2)).cells,24⟩] (by show 0+1<=10;omega) (λw hO=>Own.nth 0 ⟨b6,(kY (bG p2)).cells,24⟩ hO) (z8 [1] (.bool (decide (pU p2=0))) λw hO=>⟨hd x p2 ps,rdB (hd x p2 ps) 1 rb::(o1++zY oa og oi o4 o7 o8),by rw [←hp2];rfl, ?_,⟨o1,oa,og,oi,o4,o7,o8,rfl,⟨hN,hB,hT⟩⟩,hO.past 1 _⟩)
 rw [←hp2];rfl
end
section
set_option linter.unnecessarySimpa false
theorem NdL.push {A A':Option Addr}{c c':Nat}{xs:List Nv}{o1 o1' oa og oi:List Blk}(h:NdL A c xs o1 oa og oi)(ht:Sl 75 3 (.slice A' (xs.length+1) c') (xs.length+1) (xs.flatMap nvC++nvC ⟨none,0,[],[],[]⟩) o1'):NdL A' c' (xs++[⟨none,0,[],[],[]⟩]) o1' [] [] (oi++(oa++og)):=by
 refine ⟨by rw [List.length_append,List.length_singleton,List.flatMap_append,List.flatMap_singleton];exact ht,.inr ⟨xs,_,rfl,λy hy=> ?_,Sl.nil _ _,λu hu=>by cases hu⟩⟩
 rcases h.split with ⟨e,_⟩|⟨ini,n,e,hi,hw,hf⟩
 ·rw [e] at hy;cases hy
 ·rw [e] at hy
  rcases List.mem_append.1 hy with hy|hy
  ·obtain ⟨o,q1,q2⟩:=hi y hy
   exact ⟨o,q1,λb hb=>List.mem_append_left _ (q2 b hb)⟩
  ·rw [List.mem_singleton.1 hy]
   exact ⟨oa++og,⟨oa,og,rfl,hw,hf⟩,λb hb=>List.mem_append_right _ hb⟩
def rdL (x:Rv)(n1 n2 n3:Value)(k rb:Nat):Blk:=⟨rb, #[.string (mkS x.name),YI x.maj,YI x.min,YI x.pat,.string (mkS x.pre),.string (mkS x.bld),n1,n2,n3,YI (k:Int)],62⟩
theorem add_need (rb:Nat)(x:Rv)(ps:List YL)(A:Option Addr)(cap:Nat)(ob:List Blk)(W:World)(hR:RdR rb 2 x ob)(hO:Own (ob.map Blk.b) W W ob)(hF:Few x):YC 62 #[.pointer (some ⟨rb,0,none⟩),.slice A ps.length cap] W (AddB rb 2 x ps ob W):=by
 obtain ⟨o1,oa,og,oi,o4,o7,o8,rfl,hN,hB,hT⟩:=hR
 have hFn:=hF.n
 refine kQ hO Tryz.func62 (jT [0,0] 1 75 #[.slice none 0 0,.string (mkS []),.string (mkS [])] λb=> ?_)
 refine x_app (m:=1) (cp:=1) [] [⟨b, #[.slice none 0 0,.string (mkS []),.string (mkS [])],75⟩] o1 (rdB x 2 rb::zY oa og oi o4 o7 o8) 0 (⟨b, #[.slice none 0 0,.string (mkS []),.string (mkS [])],75⟩::rdB x 2 rb::(o1++zY oa og oi o4 o7 o8)) (λw hO=>x2 [] hO λp=>by
  simp only [List.countP_append,List.countP_cons,List.countP_nil,List.cons_append,List.nil_append];omega) hN.top Om λv' ob' h=> ?_
 obtain ⟨A',c',rfl⟩:=h.form
 refine gU 48 [] (Zp rb 6) (Zp rb 6) rfl (fZ ([⟨b, #[.slice none 0 0,.string (mkS []),.string (mkS [])],75⟩]++ob'++(rdB x 2 rb::zY oa og oi o4 o7 o8)) (rdB x 2 rb::(ob'++zY [] [] (oi++(oa++og)) o4 o7 o8)) (λw hO=>x2 [⟨b, #[.slice none 0 0,.string (mkS []),.string (mkS [])],75⟩] hO λp=>by
  simp only [zY,List.countP_append,List.countP_cons,List.countP_nil,List.cons_append,List.nil_append];omega) ?_)
 have hl:(x.needs++[(⟨none,0,[],[],[]⟩:Nv)]).length=x.needs.length+1:=by simp
 have hrd:rdB {x with nA:=A',nc:=c',needs:=x.needs++[⟨none,0,[],[],[]⟩]} 2 rb=rdL x (.slice A' (x.needs.length+1) c') (.slice x.bA x.bars.length x.bc) (.slice x.fA x.fts.length x.fc) 2 rb:=by
  unfold rdB rdC rvC rdL;simp only [hl];rfl
 refine z8 [0] Z4 λw hO=>⟨{x with nA:=A',nc:=c',needs:=x.needs++[⟨none,0,[],[],[]⟩]},rdB {x with nA:=A',nc:=c',needs:=x.needs++[⟨none,0,[],[],[]⟩]} 2 rb::(ob'++zY [] [] (oi++(oa++og)) o4 o7 o8),rfl, ?_,⟨ob',[],[],oi++(oa++og),o4,o7,o8,rfl,⟨hN.push h,hB,hT⟩⟩, ?_⟩
 ·unfold Rv.rt dZ;simp [Nv.nt,Rv.ver]
 ·rw [hrd]
  exact hO.past 0 (rdL x (.slice A' (x.needs.length+1) c') (.slice x.bA x.bars.length x.bc) (.slice x.fA x.fts.length x.fc) 2 rb::(ob'++zY [] [] (oi++(oa++og)) o4 o7 o8))
theorem add_bar (rb:Nat)(x:Rv)(ps:List YL)(A:Option Addr)(cap:Nat)(ob:List Blk)(W:World)(hR:RdR rb 6 x ob)(hO:Own (ob.map Blk.b) W W ob)(hv:ReadsA (ob.map Blk.b) zW W A ps)(hp:3<=ps.length)(hF:Few x):YC 62 #[.pointer (some ⟨rb,0,none⟩),.slice A ps.length cap] W (AddB rb 6 x ps ob W):=by
 obtain ⟨o1,oa,og,oi,o4,o7,o8,rfl,hN,hB,hT⟩:=hR
 obtain ⟨pb,po,hA,hld⟩:=bV hv Om
 have hFb:=hF.b
 obtain ⟨p1,hp1⟩:∃ p,ps.getD 1 []=p:=⟨_,rfl⟩
 obtain ⟨p2,hp2⟩:∃ p,ps.getD 2 []=p:=⟨_,rfl⟩
 have hl1:∀ w,Own ((rdB x 6 rb::(o1++zY oa og oi o4 o7 o8)).map Blk.b) W w []->(loadVar 9 ⟨pb,po+1*1+0,none⟩).run YP w= .ok (.string (mkS p1)) w:=λw hO=>by have:=hld w hO 1 Om;rw [hp1] at this;exact this
 have hl2:∀ w,Own ((rdB x 6 rb::(o1++zY oa og oi o4 o7 o8)).map Blk.b) W w []->(loadVar 9 ⟨pb,po+2*1+0,none⟩).run YP w= .ok (.string (mkS p2)) w:=λw hO=>by have:=hld w hO 2 Om;rw [hp2] at this;exact this
 refine kQ hO Tryz.func62 (kS 14 [0] [rdB x 6 rb] (λw hO=>Own.nth 0 (rdB x 6 rb) hO) ?_)
 refine q9 50122 [0] 6 hA ps.length cap 1 1 Om (gY 50123 [] 7 9 pb (po+1*1+0) (.string (mkS p1)) (λw hO=>hl1 w hO.no) (q9 50125 [] 9 hA ps.length cap 2 1 Om (gY 50126 [] 10 9 pb (po+2*1+0) (.string (mkS p2)) (λw hO=>hl2 w hO.no) (yJ [] 12 (gZ 1 77 #[.string (mkS p1),.string (mkS p2),.string (mkS [])] λb=>yJ [] 13 ?_)))))
 refine vH (m:=1) (cp:=1) [⟨b, #[.string (mkS p1),.string (mkS p2),.string (mkS [])],77⟩] o4 (rdB x 6 rb::(o1++zY oa og oi [] o7 o8)) 0 (⟨b, #[.string (mkS p1),.string (mkS p2),.string (mkS [])],77⟩::rdB x 6 rb::(o1++zY oa og oi o4 o7 o8)) [rdB x 6 rb] (λw hO=>x2 [] hO λp=>by
  simp only [zY,List.countP_append,List.countP_cons,List.countP_nil,List.cons_append,List.nil_append];omega) (λo w hO=>hO.take (λy hy=>by rw [List.mem_singleton.1 hy];simp) (by simp)) hB Om λv' ob' h=> ?_
 obtain ⟨A',c',rfl⟩:=h.form
 refine gU 131 [] (Zp rb 7) (Zp rb 7) rfl (fZ ([⟨b, #[.string (mkS p1),.string (mkS p2),.string (mkS [])],77⟩]++ob'++(rdB x 6 rb::(o1++zY oa og oi [] o7 o8))) (rdB x 6 rb::(o1++zY oa og oi ob' o7 o8)) (λw hO=>x2 [⟨b, #[.string (mkS p1),.string (mkS p2),.string (mkS [])],77⟩] hO λp=>by
  simp only [zY,List.countP_append,List.countP_cons,List.countP_nil,List.cons_append,List.nil_append];omega) ?_)
 have hl:(x.bars++[(⟨p1,p2,[]⟩:Bv)]).length=x.bars.length+1:=by simp
 have hrd:rdB {x with bA:=A',bc:=c',bars:=x.bars++[⟨p1,p2,[]⟩]} 6 rb=rdL x (.slice x.nA x.needs.length x.nc) (.slice A' (x.bars.length+1) c') (.slice x.fA x.fts.length x.fc) 6 rb:=by
  unfold rdB rdC rvC rdL;simp only [hl];rfl
 refine z8 [0] Z4 λw hO=>⟨{x with bA:=A',bc:=c',bars:=x.bars++[⟨p1,p2,[]⟩]},rdB {x with bA:=A',bc:=c',bars:=x.bars++[⟨p1,p2,[]⟩]} 6 rb::(o1++zY oa og oi ob' o7 o8),rfl, ?_,⟨o1,oa,og,oi,ob',o7,o8,rfl,⟨hN, ?_,hT⟩⟩, ?_⟩
 ·show Rv.rt _={x.rt with bars:=x.rt.bars++[⟨ps.getD 1 [],ps.getD 2 [],[]⟩]}
  rw [hp1,hp2];unfold Rv.rt;simp [Bv.bt,Rv.ver]
 ·show Sl _ 3 (.slice A' (x.bars++[_]).length c') _ _ _
  rw [hl,List.flatMap_append,List.flatMap_singleton];exact h
 ·rw [hrd]
  exact hO.past 0 (rdL x (.slice x.nA x.needs.length x.nc) (.slice A' (x.bars.length+1) c') (.slice x.fA x.fts.length x.fc) 6 rb::(o1++zY oa og oi ob' o7 o8))
theorem reads_from {w:World}{pb po cap:Nat}{ps:List YL}(h:Reads zW w w.heap.size (some ⟨pb,po,none⟩) ps)(h2:2<=ps.length)(hc:ps.length<=cap):Reads zW w w.heap.size (some ⟨pb,po+(if cap=2 then 0 else 2),none⟩) (ps.drop 2):=λh0=>by
 obtain ⟨b,off,e,hlt,hcell⟩:=h Om
 obtain ⟨rfl,rfl⟩:pb=b/\po=off:=by cases e;exact ⟨rfl,rfl⟩
 rw [List.length_drop] at h0
 rw [if_neg Om]
 refine ⟨pb,po+2,rfl,hlt,λk u hk=> ?_⟩
 have:(ps.flatMap zW)[2+k]?=some u:=by
  have hs:ps.flatMap zW=(ps.take 2).flatMap zW++(ps.drop 2).flatMap zW:=by rw [←List.flatMap_append,List.take_append_drop]
  have h2':((ps.take 2).flatMap zW).length=2:=by rw [vN zU,List.length_take,Nat.min_eq_left h2]
  rw [hs,List.getElem?_append_right Om,h2',show 2+k-2=k by omega];exact hk
 have:=hcell (2+k) u this
 rw [←Nat.add_assoc] at this;exact this
theorem add_feat (rb:Nat)(x:Rv)(ps:List YL)(A:Option Addr)(cap:Nat)(ob:List Blk)(W:World)(hR:RdR rb 8 x ob)(hO:Own (ob.map Blk.b) W W ob)(hv:ReadsA (ob.map Blk.b) zW W A ps)(hp:2<=ps.length/\ps.length<=100000)(hcap:ps.length<=cap)(hF:Few x):YC 62 #[.pointer (some ⟨rb,0,none⟩),.slice A ps.length cap] W (AddB rb 8 x ps ob W):=by
 obtain ⟨o1,oa,og,oi,o4,o7,o8,rfl,hN,hB,hT⟩:=hR
 obtain ⟨pb,po,hA,hld⟩:=bV hv Om
 have hFf:=hF.f
 obtain ⟨p1,hp1⟩:∃ p,ps.getD 1 []=p:=⟨_,rfl⟩
 have hl1:∀ w,Own ((rdB x 8 rb::(o1++zY oa og oi o4 o7 o8)).map Blk.b) W w []->(loadVar 9 ⟨pb,po+1*1+0,none⟩).run YP w= .ok (.string (mkS p1)) w:=λw hO=>by have:=hld w hO 1 Om;rw [hp1] at this;exact this
 have hds:(ps.drop 2).length=ps.length-2:=List.length_drop ..
 have hRd:∀ w,Own ((rdB x 8 rb::(o1++zY oa og oi o4 o7 o8)).map Blk.b) W w []->Reads zW w w.heap.size (some ⟨pb,po+(if cap=2 then 0 else 2),none⟩) (ps.drop 2):=λw hO=>reads_from (hA▸hv.at hO) hp.1 hcap
 refine kQ hO Tryz.func62 (kS 14 [0] [rdB x 8 rb] (λw hO=>Own.nth 0 (rdB x 8 rb) hO) ?_)
 refine q9 50152 [0] 6 hA ps.length cap 1 1 Om (gY 50153 [] 7 9 pb (po+1*1+0) (.string (mkS p1)) (λw hO=>hl1 w hO.no) (xh_sllo 50155 [] 9 hA ps.length cap 1 2 Om Om (.slice (some ⟨pb,po+(if cap=2 then 0 else 2),none⟩) (ps.drop 2).length (cap-2)) (by rw [hds];rfl) (yJ [] 10 ?_)))
 refine qO (g:=zW) (T:=9) (k:=0) (v:= .slice none 0 0) (xs:=[]) (ps.drop 2) [] [] (rdB x 8 rb::(o1++zY oa og oi o4 o7 o8)) (rdB x 8 rb::(o1++zY oa og oi o4 o7 o8)) [rdB x 8 rb] (cp:=cap-2) (λw hO=>hO) (λo w hO=>hO.take (λy hy=>by rw [List.mem_singleton.1 hy];simp) (by simp)) zU strC_one (λw hO=>hRd w hO.no) (Sl.nil _ _) Om λv1 ob1 h1=> ?_
 have hS:SlT v1 (ps.drop 2) ob1:=by
  unfold SlT;rw [x6]
  have:=h1
  rw [Nat.zero_add,List.nil_append] at this;exact this
 obtain ⟨A1,c1,rfl⟩:=hS.form
 refine yJ [] 12 (gZ 1 79 #[.string (mkS p1),.slice A1 (ps.drop 2).length c1] λb=>yJ [] 13 ?_)
 refine vH (m:=1) (cp:=1) [⟨b, #[.string (mkS p1),.slice A1 (ps.drop 2).length c1],79⟩] o7 (rdB x 8 rb::(o1++zY oa og oi o4 [] (o8++ob1))) 0 (⟨b, #[.string (mkS p1),.slice A1 (ps.drop 2).length c1],79⟩::([]++ob1++(rdB x 8 rb::(o1++zY oa og oi o4 o7 o8)))) [rdB x 8 rb] (λw hO=>x2 [] hO λp=>by
  simp only [zY,List.countP_append,List.countP_cons,List.countP_nil,List.cons_append,List.nil_append];omega) (λo w hO=>hO.take (λy hy=>by rw [List.mem_singleton.1 hy];simp) (by simp)) hT.top Om λv' ob' h=> ?_
 obtain ⟨A',c',rfl⟩:=h.form
 refine gU 161 [] (Zp rb 8) (Zp rb 8) rfl (fZ ([⟨b, #[.string (mkS p1),.slice A1 (ps.drop 2).length c1],79⟩]++ob'++(rdB x 8 rb::(o1++zY oa og oi o4 [] (o8++ob1)))) (rdB x 8 rb::(o1++zY oa og oi o4 ob' (o8++ob1))) (λw hO=>x2 [⟨b, #[.string (mkS p1),.slice A1 (ps.drop 2).length c1],79⟩] hO λp=>by
  simp only [zY,List.countP_append,List.countP_cons,List.countP_nil,List.cons_append,List.nil_append];omega) ?_)
 have hl:(x.fts++[(⟨p1,A1,ps.drop 2,c1⟩:Fv)]).length=x.fts.length+1:=by simp
 have hrd:rdB {x with fA:=A',fc:=c',fts:=x.fts++[⟨p1,A1,ps.drop 2,c1⟩]} 8 rb=rdL x (.slice x.nA x.needs.length x.nc) (.slice x.bA x.bars.length x.bc) (.slice A' (x.fts.length+1) c') 8 rb:=by
  unfold rdB rdC rvC rdL;simp only [hl];rfl
 refine z8 [0] Z4 λw hO=>⟨{x with fA:=A',fc:=c',fts:=x.fts++[⟨p1,A1,ps.drop 2,c1⟩]},rdB {x with fA:=A',fc:=c',fts:=x.fts++[⟨p1,A1,ps.drop 2,c1⟩]} 8 rb::(o1++zY oa og oi o4 ob' (o8++ob1)),rfl, ?_,⟨o1,oa,og,oi,o4,ob',o8++ob1,rfl,⟨hN,hB, ?_⟩⟩, ?_⟩
 ·show Rv.rt _={x.rt with fts:=x.rt.fts++[⟨ps.getD 1 [],ps.drop 2⟩]}
  rw [hp1];unfold Rv.rt;simp [yC,Fv.ft,Rv.ver]
 ·exact (hT.more λb hb=>List.mem_append_left _ hb).add h ⟨ob1,hS,λb hb=>List.mem_append_right _ hb⟩
 ·rw [hrd]
  exact hO.past 0 (rdL x (.slice x.nA x.needs.length x.nc) (.slice x.bA x.bars.length x.bc) (.slice A' (x.fts.length+1) c') 8 rb::(o1++zY oa og oi o4 ob' (o8++ob1)))
end
section
set_option linter.unnecessarySimpa false
theorem add_wish (rb:Nat)(x:Rv)(ps:List YL)(A:Option Addr)(cap:Nat)(ob:List Blk)(W:World)(hR:RdR rb 3 x ob)(hO:Own (ob.map Blk.b) W W ob)(hv:ReadsA (ob.map Blk.b) zW W A ps)(hp:5<=ps.length)(hs:∀ s∈ps,s.length<=1048576)(hF:Few x)(hne:x.needs≠[])(hK:∀ w,Own (ob.map Blk.b) W w []->HasLib w):YC 62 #[.pointer (some ⟨rb,0,none⟩),.slice A ps.length cap] W (AddB rb 3 x ps ob W):=by
 obtain ⟨o1,oa,og,oi,o4,o7,o8,rfl,hN,hB,hT⟩:=hR
 obtain ⟨pb,po,hA,hld⟩:=bV hv Om
 rcases hN.split with ⟨e,_⟩|⟨ini,n,hx,hi,hw,hf⟩
 ·exact absurd e hne
 have hlen:x.needs.length=ini.length+1:=by rw [hx];simp
 obtain ⟨g,cur,hg,rfl⟩:=sl_addr hN.top Om
 have hS:Sl 75 3 (.slice (some ⟨g,0,none⟩) (ini.length+1) x.nc) (ini.length+1) ((ini++[n]).flatMap nvC) [⟨g,cur,75⟩]:=by have:=hN.top;rw [hlen,hx,hg] at this;exact this
 have hFn:=hF.n
 have hFa:n.any.length<=5000:=hF.a n (by rw [hx];simp)
 have hlast:=lastN_at g ini.length x.nc x.needs.length hlen Om
 rw [←hg] at hlast
 obtain ⟨p1,hp1⟩:∃ p,ps.getD 1 []=p:=⟨_,rfl⟩
 obtain ⟨p2,hp2⟩:∃ p,ps.getD 2 []=p:=⟨_,rfl⟩
 obtain ⟨p3,hp3⟩:∃ p,ps.getD 3 []=p:=⟨_,rfl⟩
 obtain ⟨p4,hp4⟩:∃ p,ps.getD 4 []=p:=⟨_,rfl⟩
 have hs2:p2.length<=1048576:=by
  rw [←hp2,List.getD_eq_getElem?_getD,List.getElem?_eq_getElem (by omega)];exact hs _ (List.getElem_mem _)
 obtain ⟨M,hM⟩:∃ M,(rdB x 3 rb::([⟨g,cur,75⟩]++zY oa og oi o4 o7 o8)).map Blk.b=M:=⟨_,rfl⟩
 rw [hM] at hO hld hK
 have hl1:∀ w,Own M W w []->(loadVar 9 ⟨pb,po+1*1+0,none⟩).run YP w= .ok (.string (mkS p1)) w:=λw hO=>by have:=hld w hO 1 Om;rw [hp1] at this;exact this
 have hl2:∀ w,Own M W w []->(loadVar 9 ⟨pb,po+2*1+0,none⟩).run YP w= .ok (.string (mkS p2)) w:=λw hO=>by have:=hld w hO 2 Om;rw [hp2] at this;exact this
 have hl3:∀ w,Own M W w []->(loadVar 9 ⟨pb,po+3*1+0,none⟩).run YP w= .ok (.string (mkS p3)) w:=λw hO=>by have:=hld w hO 3 Om;rw [hp3] at this;exact this
 have hl4:∀ w,Own M W w []->(loadVar 9 ⟨pb,po+4*1+0,none⟩).run YP w= .ok (.string (mkS p4)) w:=λw hO=>by have:=hld w hO 4 Om;rw [hp4] at this;exact this
 obtain ⟨fs,hfs⟩:∃ fs,(if p2=[45] then [] else zB 44 [] p2)=fs:=⟨_,rfl⟩
 have hc:∀ w,Own M W w []->YC 107 #[.string (mkS p2)] w λe w'=>∃ v ob',e= .returned v/\SlT v fs ob'/\Own [] w w' ob':=λw hO=>hfs▸qFeats_any p2 w hs2 (hK w hO)
 have hrd:cur[ini.length*3+0]?=some (.slice n.A n.any.length n.cap):=hS.lastAt gT 0 (.slice n.A n.any.length n.cap) rfl
 refine kQ hO Tryz.func62 (z7 (v:=Zp g (ini.length*3)) [0] (λw hO=>hlast w) ?_)
 refine kS 22 [] [⟨g,cur,75⟩] (λw hO=>Own.nth 1 ⟨g,cur,75⟩ hO) (xh_ldk 50060 [] 4 0 cur (ini.length*3+0) 73 (.slice n.A n.any.length n.cap) hrd (q9 50062 [] 6 hA ps.length cap 1 1 Om (gY 50063 [] 7 9 pb (po+1*1+0) (.string (mkS p1)) (λw hO=>hl1 w hO.no) ?_)))
 refine q9 50065 [] 9 hA ps.length cap 2 1 Om (gY 50066 [] 10 9 pb (po+2*1+0) (.string (mkS p2)) (λw hO=>hl2 w hO.no) ?_)
 refine q9 50069 [] 13 hA ps.length cap 3 1 Om (gY 50070 [] 14 9 pb (po+3*1+0) (.string (mkS p3)) (λw hO=>hl3 w hO.no) ?_)
 refine xh_seqv 50071 [] 15 p3 g0 (q9 50073 [] 17 hA ps.length cap 4 1 Om (gY 50074 [] 18 9 pb (po+4*1+0) (.string (mkS p4)) (λw hO=>hl4 w hO.no) ?_))
 refine yJ [] 11 (qE (R:=λv ob=>SlT v fs ob) (λw hO=>hc w hO.no) λv obF hF=> ?_)
 obtain ⟨fA,fc,rfl⟩:=hF.form
 refine yJ [] 20 (gZ 1 134 #[.string (mkS p1),.string (mkS p4),.slice fA fs.length fc,.bool (decide (p3=g0))] λb=>yJ [] 21 ?_)
 refine vH (m:=1) (cp:=1) [⟨b, #[.string (mkS p1),.string (mkS p4),.slice fA fs.length fc,.bool (decide (p3=g0))],134⟩] oa (rdB x 3 rb::⟨g,cur,75⟩::zY [] (og++obF) oi o4 o7 o8) 0 (⟨b, #[.string (mkS p1),.string (mkS p4),.slice fA fs.length fc,.bool (decide (p3=g0))],134⟩::((rdB x 3 rb::([⟨g,cur,75⟩]++zY oa og oi o4 o7 o8))++obF)) [⟨g,cur,75⟩] (λw hO=>x2 [] hO λp=>by
  simp only [zY,List.countP_append,List.countP_cons,List.countP_nil,List.cons_append,List.nil_append];omega) (λo w hO=>hO.take (λy hy=>by rw [List.mem_singleton.1 hy];simp) (by simp)) hw Om λv' ob' h=> ?_
 obtain ⟨A',c',rfl⟩:=h.form
 obtain ⟨u,hu⟩:∃ u:Wv,u=⟨p1,p4,fA,fc,fs,decide (p3=g0)⟩:=⟨_,rfl⟩
 have hl:(n.any++[u]).length=n.any.length+1:=by simp
 have hput:=Sl.putLast gT hS {n with A:=A',cap:=c',any:=n.any++[u]} 0 #[.slice A' (n.any.length+1) c'] (by simp) (by unfold nvC;simp only [hl];rfl)
 refine gU 79 [] (Zp g (ini.length*3+0)) (Zp g (ini.length*3+0)) rfl (fZ ([⟨b, #[.string (mkS p1),.string (mkS p4),.slice fA fs.length fc,.bool (decide (p3=g0))],134⟩]++ob'++(rdB x 3 rb::⟨g,cur,75⟩::zY [] (og++obF) oi o4 o7 o8)) (rdB x 3 rb::⟨g,cur,75⟩::zY ob' (og++obF) oi o4 o7 o8) (λw hO=>x2 [⟨b, #[.string (mkS p1),.string (mkS p4),.slice fA fs.length fc,.bool (decide (p3=g0))],134⟩] hO λp=>by
  simp only [zY,List.countP_append,List.countP_cons,List.countP_nil,List.cons_append,List.nil_append];omega) ?_)
 refine x_sto 1 ⟨g,cur,75⟩ (ini.length*3+0) 1 (.slice A' (n.any.length+1) c') (rdB x 3 rb::⟨g,cur,75⟩::zY ob' (og++obF) oi o4 o7 o8) hput.2 ?_
 have hfin:∀ w,Own M W w (rdB x 3 rb::⟨g,zT cur (ini.length*3+0) #[.slice A' (n.any.length+1) c'],75⟩::zY ob' (og++obF) oi o4 o7 o8)->AddB rb 3 x ps (rdB x 3 rb::([⟨g,cur,75⟩]++zY oa og oi o4 o7 o8)) W (.returned (.bool (dZ x.rt 3 ps).2)) w:=λw hO=>by
  refine ⟨{x with needs:=ini++[{n with A:=A',cap:=c',any:=n.any++[u]}]},rdB {x with needs:=ini++[{n with A:=A',cap:=c',any:=n.any++[u]}]} 3 rb::([⟨g,zT cur (ini.length*3+0) #[.slice A' (n.any.length+1) c'],75⟩]++zY ob' (og++obF) oi o4 o7 o8),rfl, ?_,⟨_,ob',og++obF,oi,o4,o7,o8,rfl,⟨⟨?_,.inr ⟨ini,_,rfl,hi, ?_,λy hy=> ?_⟩⟩,hB,hT⟩⟩, ?_⟩
  ·refine rt_lastN hx (f:=λn=>{n with any:=n.any++[anyW ps (ps.getD 4 [])]}) ?_
   unfold Nv.nt anyW
   rw [hp1,hp2,hp3,hp4,hfs,hu];simp [Wv.wt]
  ·exact hg▸sl_len hput.1
  ·show Sl _ 4 (.slice A' (n.any++[u]).length c') _ _ _
   rw [hl,List.flatMap_append,List.flatMap_singleton,hu];exact h
  ·rcases List.mem_append.1 hy with hy|hy
   ·obtain ⟨o,q1,q2⟩:=hf y hy
    exact ⟨o,q1,λb hb=>List.mem_append_left _ (q2 b hb)⟩
   ·rw [List.mem_singleton.1 hy,hu]
    exact ⟨obF,hF,λb hb=>List.mem_append_right _ hb⟩
  ·rw [rd_lastN hx,hM];exact hO
 have hb:(dZ x.rt 3 ps).2=(decide (p3=g0)||decide (p3=jC)):=by rw [←hp3];rfl
 refine zO 81 [] hA ps.length cap 3 1 (by omega) (zL 82 [] 9 pb (po+3*1+0) (.string (mkS p3)) (λw hO=>hl3 w hO.no) (qF 83 [] p3 g0 (λq=> ?_) (λq=> ?_)))
 ·refine z8 [] Z4 λw hO=> ?_
  have:=hfin w (hO.past 0 (rdB x 3 rb::⟨g,zT cur (ini.length*3+0) #[.slice A' (n.any.length+1) c'],75⟩::zY ob' (og++obF) oi o4 o7 o8))
  rw [hb,decide_eq_true q,Bool.true_or] at this;exact this
 ·refine zO 86 [] hA ps.length cap 3 1 (by omega) (zL 87 [] 9 pb (po+3*1+0) (.string (mkS p3)) (λw hO=>hl3 w hO.no) (qF 88 [] p3 jC (λq2=> ?_) (λq2=> ?_)))
  ·refine z8 [] Z4 λw hO=> ?_
   have:=hfin w (hO.past 0 (rdB x 3 rb::⟨g,zT cur (ini.length*3+0) #[.slice A' (n.any.length+1) c'],75⟩::zY ob' (og++obF) oi o4 o7 o8))
   rw [hb,decide_eq_true q2,Bool.or_true] at this;exact this
  ·refine z8 [] Z5 λw hO=> ?_
   have:=hfin w (hO.past 0 (rdB x 3 rb::⟨g,zT cur (ini.length*3+0) #[.slice A' (n.any.length+1) c'],75⟩::zY ob' (og++obF) oi o4 o7 o8))
   rw [hb,decide_eq_false q,decide_eq_false q2,Bool.or_false] at this;exact this
end
section
set_option linter.unnecessarySimpa false
theorem pcsB_le (b:UInt8):∀ (k:Nat) (s:YL),∀ x∈jR b k s,x.length<=s.length
 |0,s=>λx hx=>by rw [jR,List.mem_singleton] at hx;rw [hx];exact Nat.le_refl _
 |k+1,s=>λx hx=>by
  have hb:=d8 b s
  unfold jR at hx
  split at hx
  ·rename_i h
   rw [if_pos h] at hb
   have hl:=congrArg List.length hb
   simp only [List.length_append,List.length_cons] at hl
   rcases List.mem_cons.1 hx with rfl|hx
   ·omega
   ·have:=pcsB_le b k _ x hx;omega
  ·rw [List.mem_singleton.1 hx];exact Nat.le_refl _
theorem laPs_le (l:La)(s:YL):∀ p∈x7 l s,p.length<=s.length:=λp hp=>by
 unfold x7 at hp
 split at hp
 ·exact pcsB_le _ _ _ p hp
 ·have:=split_le 32 s [] p hp;simpa using this
theorem laOk_len {l:La}{s:YL}(h:wQ l s=true):l.parts<=(x7 l s).length:=by
 unfold wQ at h
 simp only [Bool.and_eq_true,Bool.or_eq_true,decide_eq_true_eq] at h
 omega
theorem qAdd_any (l:La)(hl:l∈lays)(s:YL)(hls:wQ l s=true)(hs:s.length<=90000)(rb:Nat)(x:Rv)(A:Option Addr)(cap:Nat)(ob:List Blk)(W:World)(hR:RdR rb l.kind x ob)(hO:Own (ob.map Blk.b) W W ob)(hv:ReadsA (ob.map Blk.b) zW W A (x7 l s))(hcap:(x7 l s).length<=cap)(hF:Few x)(hn:3<=l.kind->l.kind<=5->x.needs≠[])(hb:l.kind=7->x.bars≠[])(hK:∀ w,Own (ob.map Blk.b) W w []->HasLib w):YC 62 #[.pointer (some ⟨rb,0,none⟩),.slice A (x7 l s).length cap] W (AddB rb l.kind x (x7 l s) ob W):=by
 have hle:=laOk_len hls
 have hps:∀ p∈x7 l s,p.length<=1048576:=λp hp=>by have:=laPs_le l s p hp;omega
 have hfew:l.parts<=1000->(x7 l s).length<=s.length+1001:=laPs_few l s
 clear hls
 generalize x7 l s=ps at*
 simp only [lays,List.mem_cons,List.not_mem_nil,or_false] at hl
 rcases hl with rfl|rfl|rfl|rfl|rfl|rfl|rfl|rfl
 ·exact add_head rb x ps A cap ob W hR hO hv hle hps λw hw=>(hK w hw).tab
 ·exact add_need rb x ps A cap ob W hR hO hF
 ·exact add_wish rb x ps A cap ob W hR hO hv hle hps hF (hn (by decide) (by decide)) hK
 ·exact add_when rb x ps A cap ob W hR hO hv hle hF (hn (by decide) (by decide))
 ·exact add_opt rb x ps A cap ob W hR hO hv hle hF (hn (by decide) (by decide))
 ·exact add_bar rb x ps A cap ob W hR hO hv hle hF
 ·exact add_bwhen rb x ps A cap ob W hR hO hv hle hF (hb rfl)
 ·exact add_feat rb x ps A cap ob W hR hO hv ⟨hle,by have:=hfew (by decide);omega⟩ hcap hF
def layC:Array Value:=(lays.flatMap λl=>(laV l).cells.toList).toArray
structure LyAt (W:World):Prop where
 lt:0<W.heap.size
 held:∃ T,W.heap[(0:Nat)]?=some (.cells layC T)
theorem LyAt.on {W w:World}(h:LyAt W)(hb:YB W w):LyAt w:=
 ⟨Nat.lt_of_lt_of_le h.lt hb.size,by obtain ⟨T,q⟩:=h.held;exact ⟨T,by rw [hb.block _ h.lt];exact q⟩⟩
theorem LyAt.all {W:World}(h:LyAt W):(loadVar 121 ⟨0,0,none⟩).run YP W= .ok (.agg layC) W:=by
 obtain ⟨T,q⟩:=h.held
 exact yQ Kr q
theorem lay_part:∀ (k:Nat) (l:La),lays[k]?=some l→∀ w,(part 120 layC (k*7)).run YP w= .ok (laV l) w
 |0,_,h,w=>by cases h;kernel_rfl
 |1,_,h,w=>by cases h;kernel_rfl
 |2,_,h,w=>by cases h;kernel_rfl
 |3,_,h,w=>by cases h;kernel_rfl
 |4,_,h,w=>by cases h;kernel_rfl
 |5,_,h,w=>by cases h;kernel_rfl
 |6,_,h,w=>by cases h;kernel_rfl
 |7,_,h,w=>by cases h;kernel_rfl
 |k+8,_,h,w=>by cases h
theorem run_idxS {P:Program}{ρ:Operand->Value}{o:Oper}{t e:TypeId}{x y:Operand}{n k sz:Nat}{vals:Array Value}{v:Value}(hk:k<n)(ho:o.op= .index t x y)(hx:ρ x= .agg vals)(hy:ρ y=YI (k:Int))
  (hu:P.underlying t=some (.array n e)) (hp:∀ w,(part e vals (k*sz)).run P w= .ok v w) (hs:(P.info? e).map (·.size)=some sz) (w:World):(execOp ρ o).run P w= .ok (.value v) w:=by
 cases he:P.info? e with
 |none=>rw [he] at hs;cases hs
 |some i=>
  rw [he] at hs
  have hs1:i.size=sz:=Option.some.inj hs
  unfold execOp
  have hkn:¬ n<=k:=by omega
  simp [ho,hx,hy,Instr.index,Sem.run_bind,asIntOf,run_underlying hu,sizeOf,typeInfo,he,hs1,hp,hk,hkn]
theorem slT_out {M:List Nat}{W w:World}{R ob op:List Blk}{A:Option Addr}{n cap:Nat}{l:List YL}(hO:Own M W w (R++ob))(h:SlT (.slice A n cap) l op)(hn:l.length=n)(hs:∀ b∈op,b∈R):ReadsA (ob.map Blk.b) zW w A l:=λh0=>by
 subst hn
 obtain ⟨g,cur,e1,e2,_⟩:=Sl.block h h0
 obtain ⟨b,off,e3,hlt,hc⟩:=SlT.reads h rfl hO (λx hx=>List.mem_append_left _ (hs x hx)) h0
 refine ⟨b,off,e3,hlt,λhb=> ?_,hc⟩
 rw [e1] at e3
 injection e3 with e3
 injection e3 with e4 _
 have ha:=hO.apart
 rw [List.map_append,List.nodup_append] at ha
 refine ha.2.2 b ?_ b hb rfl
 rw [←e4]
 exact List.mem_map.2 ⟨⟨g,cur,9⟩,hs _ (by rw [e2];exact List.mem_singleton.2 rfl),rfl⟩
end
section
set_option linter.unnecessarySimpa false
section
variable {M:List Nat}{P:Program}{n:Nat}{W:World}{Q:Exit->Act->World->Prop}{c:Xc}
theorem x_idxS (d:Nat)(h:List Nat)(k N sz:Nat)(v:Value)(vals:Array Value)(e:TypeId)(hN:k<N)(hp:∀ w,(part e vals (k*sz)).run P w= .ok v w)(hg:zE M P n W Q ((xgo P n (d+50000) h c).put v))
  (hkt:(xgl P n (d+50000) h c,xW n (xgo P n (d+50000) h c),(xO (xgo P n (d+50000) h c)).op,ev n (xgo P n (d+50000) h c).f (oX (xO (xgo P n (d+50000) h c))),ev n (xgo P n (d+50000) h c).f (oY (xO (xgo P n (d+50000) h c))),P.underlying (oT (xO (xgo P n (d+50000) h c))),(P.info? e).map (·.size))
   =(xgr P n (d+50000) h c,true,.index (oT (xO (xgo P n (d+50000) h c))) (oX (xO (xgo P n (d+50000) h c))) (oY (xO (xgo P n (d+50000) h c))),.agg vals,YI (k:Int),some (.array N e),some sz):=by kernel_rfl):zE M P n W Q c:=by
 simp only [Prod.mk.injEq] at hkt
 obtain ⟨hk,e1,e2,e3,e4,e5,e6⟩:=hkt
 exact zK h c hk (xN e1 (run_idxS hN e2 e3 e4 e5 hp e6) hg)
end
structure TakeB (rb k:Nat)(x:Rv)(s:YL)(ob:List Blk)(W:World)(e:Ending)(w':World):Prop where
 ex:∃ b x' k' ob',e= .returned (.bool b)/\RdR rb k' x' ob'/\Own (ob.map Blk.b) W w' ob'/\(match k6 x.rt k s lays with|some (y,kk)=>b=true/\x'.rt=y/\k'=kk|none=>b=false)
theorem lays_at {i:Nat}(h:i<8):∃ l,lays[i]?=some l/\lays.drop i=l::lays.drop (i+1)/\l∈lays:=by
 have h':i<lays.length:=h
 exact ⟨lays[i],List.getElem?_eq_getElem h',List.drop_eq_getElem_cons h',List.getElem_mem h'⟩
theorem lays_fits:∀ l∈lays,(3<=l.kind->l.kind<=5->2<=l.lo/\l.hi<=5)/\(l.kind=7->6<=l.lo/\l.hi<=7)/\1<=l.parts/\l.parts<=1000:=by decide
theorem qTake_any (rb k:Nat)(x:Rv)(s:YL)(ob:List Blk)(W:World)(hR:RdR rb k x ob)(hO:Own (ob.map Blk.b) W W ob)(hs:s.length<=90000)(hF:Few x)(hI:InvA x.rt k)(hK:∀ w,Own (ob.map Blk.b) W w []->HasLib w/\LyAt w):YC 32 #[.pointer (some ⟨rb,0,none⟩),.string (mkS s)] W (TakeB rb k x s ob W):=by
 obtain ⟨o1,oa,og,oi,o4,o7,o8,hob,hQ⟩:=hR
 obtain ⟨T,hT⟩:∃ T,o1++zY oa og oi o4 o7 o8=T:=⟨_,rfl⟩
 rw [hT] at hob
 subst hob
 have hRd:∀ j,RdR rb j x (rdB x j rb::T):=λj=>⟨o1,oa,og,oi,o4,o7,o8,by rw [hT],hQ⟩
 obtain ⟨M,hM⟩:∃ M,(rdB x k rb::T).map Blk.b=M:=⟨_,rfl⟩
 have hMj:∀ j,(rdB x j rb::T).map Blk.b=M:=λj=>hM
 rw [hM] at hO hK
 refine kQ hO Tryz.func32 (zL 9 [] 121 0 0 (.agg layC) (λw hO=>(hK w hO.no).2.all) ?_)
 refine zX (α:=Nat) (λi=>[(0,Zp rb 0),(1,.string (mkS s)),(9,.agg layC),(10,YI (i:Int))]) (λ_=>rdB x k rb::T) (λi m=>(i<=8/\k6 x.rt k s lays=k6 x.rt k s (lays.drop i))/\m=8-i) 0 8 [] ⟨⟨Nat.zero_le _,rfl⟩,rfl⟩ ?_
 rintro i mm g kk ⟨⟨hi,hE⟩,hmm⟩ nx hkk
 subst hkk
 refine zG 11 [] ((i:Int)<8) (λh11=> ?_) (λh11=> ?_)
 rotate_left
 ·refine z8 [] Z5 λw hO=>⟨false,x,k,rdB x k rb::T,rfl,hRd k,by rw [hM];exact hO.past 0 _, ?_⟩
  rw [hE,List.drop_eq_nil_of_le (by show 8<=i;omega)];rfl
 obtain ⟨l,hl,hd,hlm⟩:=lays_at (show i<8 by omega)
 obtain ⟨hf1,hf2,hp⟩:=lays_fits l hlm
 rw [hd] at hE
 refine x_idxS 12 [] i 8 7 (laV l) layC 120 (by omega) (lay_part i l hl) (zQ [] λb6=>zG 19 [0,1,0] ((k:Int)<(l.lo:Int)) (λh19=> ?_) (λh19=>zG 27 [1,0] ((k:Int)>(l.hi:Int)) (λh27=> ?_) (λh27=> ?_)))
 ·refine x_i 10 [] ((i+1:Nat):Int) (zV [] (rdB x k rb::T) (λw hO=>hO.past 1 _) (nx (i+1) (8-(i+1)) [] Om ⟨⟨by omega, ?_⟩,rfl⟩ Kr Kr))
  rw [hE,k6,if_neg (λq=>by have:=q.1;omega)]
 ·refine x_i 10 [] ((i+1:Nat):Int) (zV [] (rdB x k rb::T) (λw hO=>hO.past 1 _) (nx (i+1) (8-(i+1)) [] Om ⟨⟨by omega, ?_⟩,rfl⟩ Kr Kr))
  rw [hE,k6,if_neg (λq=>by have:=q.2.1;omega)]
 have hcut:∀ w,YC 61 #[laV l,.string (mkS s)] w λe w'=>∃ v ob',e= .returned v/\(∃ A cap,v= .tuple #[.slice A (x7 l s).length cap,.bool (wQ l s)]/\SlT (.slice A (x7 l s).length cap) (x7 l s) ob'/\(x7 l s).length<=cap)/\Own [] w w' ob':=λw=>by
  refine (qCut_any l s w Om hp).mono λe w' ⟨v',ob',k1,k2,k3⟩=> ?_
  obtain ⟨A,cap,rfl⟩:=k2.form
  refine ⟨_,ob',k1,⟨A,cap,rfl,k2, ?_⟩,k3⟩
  rcases k2.2 with ⟨_,q,_⟩|⟨g,cap',cur,e1,e2,e3,_⟩
  ·omega
  ·cases e1;exact e3
 refine k7 (R:=λv ob=>∃ A cap,v= .tuple #[.slice A (x7 l s).length cap,.bool (wQ l s)]/\SlT (.slice A (x7 l s).length cap) (x7 l s) ob/\(x7 l s).length<=cap) [0] (λw hO=>hcut w) ?_
 rintro v obp ⟨A,cap,rfl,hSl,hcap⟩
 refine pQ 35 [] (wQ l s) (λh35=> ?_) (λh35=> ?_)
 rotate_left
 ·refine x_i 10 [] ((i+1:Nat):Int) (zV [] (rdB x k rb::T) (λw hO=>x2 (laB l b6::obp) (hO.past 0 (laB l b6::rdB x k rb::(T++obp))) λp=>by
   simp only [List.countP_append,List.countP_cons,List.countP_nil,List.cons_append,List.nil_append];omega) (nx (i+1) (8-(i+1)) [] Om ⟨⟨by omega, ?_⟩,rfl⟩ Kr Kr))
  rw [hE,k6,if_neg (λq=>by rw [h35] at q;exact Bool.false_ne_true q.2.2)]
 have hfit:l.lo<=k/\k<=l.hi/\wQ l s=true:=⟨by omega,by omega,h35⟩
 refine kH (k:=62) (args:= #[Zp rb 0,.slice A (x7 l s).length cap]) (Rr:=λv ob'=>∃ x',v= .bool (dZ x.rt l.kind (x7 l s)).2/\x'.rt=(dZ x.rt l.kind (x7 l s)).1/\RdR rb l.kind x' ob') [0,1] (laB l b6::rdB x l.kind rb::(T++obp)) (laB l b6::obp) (rdB x l.kind rb::T) (λw hO=>x2 [] hO λp=>by
   simp only [List.countP_append,List.countP_cons,List.countP_nil,List.cons_append,List.nil_append];omega) (λw hO=> ?_) λv ob' ⟨x',k1,k2,k3⟩=> ?_
 ·refine (qAdd_any l hlm s h35 hs rb x A cap (rdB x l.kind rb::T) w (hRd l.kind) (Own.lentR hO) (slT_out hO hSl rfl λb hb=>List.mem_cons_of_mem _ hb) hcap hF (λq1 q2=> ?_) (λq=> ?_) (λw' hw'=>(hK w' (hO.no.and ((hMj l.kind)▸hw'))).1)).mono λe w' ⟨x',ob',q1,q2,q3,q4⟩=>⟨_,ob',q1,⟨x',rfl,q2,q3⟩,q4⟩
  ·have:=hf1 q1 q2
   exact λe=>hI.n Om Om (by show x.needs.map Nv.nt=[];rw [e];rfl)
  ·have:=hf2 q
   exact λe=>hI.b Om Om (by show x.bars.map Bv.bt=[];rw [e];rfl)
 subst k1
 refine z8 [] (.bool (dZ x.rt l.kind (x7 l s)).2) λw hO=>⟨_,x',l.kind,ob',rfl,k3, ?_, ?_⟩
 ·rw [hM];exact (hO.past 0 ((laB l b6::obp)++ob')).sublist (List.sublist_append_right _ _)
 ·rw [hE,k6,if_pos hfit]
  cases h:(dZ x.rt l.kind (x7 l s)).2 with
  |true=>rw [if_pos rfl];exact ⟨rfl,k2,rfl⟩
  |false=>rw [if_neg Bool.false_ne_true]
end
section
def noDef (o:Oper):Bool:=match o.op with
 | .defer _=>false
 |_=>true
theorem noDef_is {o:Oper}(h:noDef o=true):∀ c,o.op≠ .defer c:=λc e=>by
 unfold noDef at h;rw [e] at h;cases h
section
variable {M:List Nat}{P:Program}{n:Nat}{W:World}{Q:Exit->Act->World->Prop}{c:Xc}
theorem list_round {l m:Nat}{ops:Array Oper}(hout:¬ LetsOut Q):∀ (rest:List Oper),(rest.all noDef=true)→∀ a w,wpList P ops Q rest a w->wpListIn (Fence.wide.inRound l) m P ops Q rest a w
 | [],_,a,w,h=>h
 |o::rest,hn,a,w,h=>by
  rw [List.all_cons,Bool.and_eq_true] at hn
  have ih:=list_round (l:=l) (m:=m) (ops:=ops) hout rest hn.2
  unfold wpList at h
  unfold wpListIn
  split at h
  ·rename_i hw
   rw [if_pos hw]
   rcases h with h|⟨_,h⟩
   ·refine ⟨λ_ _=>trivial, ?_⟩
    rw [Oper.semAt_eq _ _ _ (noDef_is hn.1)]
    unfold Oper.wp at h
    generalize (execOp a.eval o).run P w=r at h ⊢
    unfold Oper.upon at h
    split at h
    ·exact ih _ _ h
    ·exact ih _ _ h
    ·exact ih _ _ h
    ·refine ⟨λq=>(by cases q),CallsIn.inRound l (callsIn_wide.2 (h.mono λe w' k=> ?_))⟩
     cases e with
     |returned v=>exact ih _ _ k
     |panicked ch=>exact k
     |outgrown=>exact k
    ·refine ⟨λq=>(by cases q),λcc cs _=> ?_⟩
     obtain ⟨v,w',r1,r2⟩:=h cc cs
     exact ⟨v,w',ih _ _ r1,stepsIn_wide.2 r2⟩
    ·exact h
    ·exact h.elim
   ·exact absurd h hout
  ·rename_i hw
   rw [if_neg hw]
   exact ⟨λ_ _=>trivial,ih _ _ h⟩
theorem jE {l m id:Nat}{ops:Array Oper}{L:List Blk}{f:Nat->Value}(hq:PQ Q)(hout:¬ LetsOut Q)(hn:ops.toList.all noDef=true)(hg:zE M P n W Q ⟨.ops ops ops.toList,[],L,f⟩):∀ w,Own M W w L->(Code.region id ops false).wpIn (Fence.wide.inRound l) m P Q (Fr n f) w:=λw hO=>
 wpIn_region_list (list_round hout _ hn _ _ ((hg.go hq).go w hO))
theorem x_fin (h:List Nat)(lv:List (Nat×Value))(hR:∀ w g,Own M W w (xgo P n nS h c).L->Q .normal (Fr n (jP g lv)) w)
  (hkt:(xgl P n nS h c,(xgo P n nS h c).top,(xgo P n nS h c).k,xV (xgo P n nS h c).f lv)=(xgr P n nS h c,.fin .normal,[],lv.map Prod.snd):=by kernel_rfl):zE M P n W Q c:=by
 simp only [Prod.mk.injEq] at hkt
 obtain ⟨hk,e1,e2,e3⟩:=hkt
 refine zK h c hk ?_
 generalize xgo P n nS h c=d at*
 obtain ⟨top,kk,L,f⟩:=d
 dsimp only at e1 e2 e3 hR
 subst e1;subst e2
 exact ⟨λ_=>⟨λw hO=>by have:=hR w f hO;rw [←g8 _ (kV e3)] at this;exact this⟩⟩
def xRg (c:Xc):Nat:=match c.top with
 | .code (.region id _ _)=>id
 |_=>0
def yo (c:Xc)(i:Nat):Oper:=match c.top with
 | .code (.region _ a _)=>a.getD i default
 |_=>default
def yF (d:Xc)(v0 v1:Value):Nat->Value:=upd (upd d.f (yo d 0).dst v0) (yo d 1).dst v1
def yF3 (d:Xc)(v0 v1:Value)(b:Bool):Nat->Value:=upd (upd (yF d v0 v1) (yo d 2).dst (.bool b)) (yo d 3).dst (.bool (!b))
def yA (d:Xc):Array Oper:= #[yo d 0,yo d 1,yo d 2,yo d 3]
theorem ok_yield {id l:Nat}{o0 o1 o2 o3:Oper}{L:List Blk}{f:Nat->Value}{s v0 v1:Value}
  (w0:zR #[o0,o1,o2,o3] n f o0=true) (w1:zR #[o0,o1,o2,o3] n (upd f o0.dst v0) o1=true) (w2:zR #[o0,o1,o2,o3] n (upd (upd f o0.dst v0) o1.dst v1) o2=true) (w3:∀ b,zR #[o0,o1,o2,o3] n (upd (upd (upd f o0.dst v0) o1.dst v1) o2.dst (.bool b)) o3=true)
  (q0:∀ w,(execOp (ev n f) o0).run P w= .ok (.value v0) w) (q1:∀ w,(execOp (ev n (upd f o0.dst v0)) o1).run P w= .ok (.value v1) w) (q2:∀ w,(execOp (ev n (upd (upd f o0.dst v0) o1.dst v1)) o2).run P w=(Instr.yield l #[s]).run P w)
  (q3:∀ b w,(execOp (ev n (upd (upd (upd f o0.dst v0) o1.dst v1) o2.dst (.bool b))) o3).run P w= .ok (.value (.bool (!b))) w)
  (hs:∀ w,Own M W w L->YieldAt Fence.wide 1 P l #[s] w λe w'=>∃ b,e= .returned (.bool b)/\Q .normal (Fr n (upd (upd (upd (upd f o0.dst v0) o1.dst v1) o2.dst (.bool b)) o3.dst (.bool (!b)))) w'):Ok M P n W Q (.region id #[o0,o1,o2,o3] false) L f:=by
 refine ⟨λw hO=>(wpIn_wide (n:=2)).1 (wpIn_region_list ?_)⟩
 obtain ⟨fn,tmps,assign,body,hy,hR⟩:=hs w hO
 show wpListIn Fence.wide 2 P #[o0,o1,o2,o3] Q [o0,o1,o2,o3] (Fr n f) w
 unfold wpListIn
 rw [gF,if_pos w0]
 refine ⟨λ_ _=>trivial, ?_⟩
 rw [show Fence.wide.round=none from rfl,Oper.semAt_none,x3,q0,Oper.uponIn_value,gO]
 unfold wpListIn
 rw [gF,if_pos w1]
 refine ⟨λ_ _=>trivial, ?_⟩
 rw [show Fence.wide.round=none from rfl,Oper.semAt_none,x3,q1,Oper.uponIn_value,gO]
 unfold wpListIn
 rw [gF,if_pos w2]
 refine ⟨λ_ _=>trivial, ?_⟩
 rw [show Fence.wide.round=none from rfl,Oper.semAt_none,x3,q2,hy,Oper.uponIn_round]
 refine ⟨λq=>(by cases q),hR.mono λe w' ⟨b,k1,k3⟩=> ?_⟩
 subst k1
 dsimp only
 rw [gO]
 unfold wpListIn
 rw [gF,if_pos (w3 b)]
 refine ⟨λ_ _=>trivial, ?_⟩
 rw [show Fence.wide.round=none from rfl,Oper.semAt_none,x3,q3,Oper.uponIn_value,gO]
 exact k3
theorem yield_good {d:Xc}(l:Nat)(s v0 v1:Value)
  (hs:∀ w,Own M W w d.L->YieldAt Fence.wide 1 P l #[s] w λe w'=>∃ b M' L',e= .returned (.bool b)/\Own M' w' w' L'/\zE M' P n w' Q ⟨.fin .normal,d.k,L',yF3 d v0 v1 b⟩)
  (e1:d.top= .code (.region (xRg d) (yA d) false)) (e2:xNl d.k=true)
  (hw:(zR (yA d) n d.f (yo d 0),zR (yA d) n (upd d.f (yo d 0).dst v0) (yo d 1),zR (yA d) n (yF d v0 v1) (yo d 2),λb=>zR (yA d) n (upd (yF d v0 v1) (yo d 2).dst (.bool b)) (yo d 3))=(true,true,true,λ_=>true))
  (h0:(λw=>(execOp (ev n d.f) (yo d 0)).run P w)=λw=> .ok (.value v0) w)
  (h1:(λw=>(execOp (ev n (upd d.f (yo d 0).dst v0)) (yo d 1)).run P w)=λw=> .ok (.value v1) w)
  (h2:(λw=>(execOp (ev n (yF d v0 v1)) (yo d 2)).run P w)=λw=>(Instr.yield l #[s]).run P w)
  (h3:(λb w=>(execOp (ev n (upd (yF d v0 v1) (yo d 2).dst (.bool b))) (yo d 3)).run P w)=λb w=> .ok (.value (.bool (!b))) w):zE M P n W Q d:=by
 have:d=⟨.code (.region (xRg d) (yA d) false),d.k,d.L,d.f⟩:=by rw [←e1]
 obtain ⟨w0,hw2⟩:=Prod.mk.inj hw
 obtain ⟨w1,hw3⟩:=Prod.mk.inj hw2
 obtain ⟨w2,w3⟩:=Prod.mk.inj hw3
 have key:PQ Q->Ok M P n W (KQ M P n W Q d.k) (.region (xRg d) (yA d) false) d.L d.f:=λhq=>ok_yield (l:=l) (s:=s) (v0:=v0) (v1:=v1) w0 w1 w2 (λb=>congrFun w3 b) (λw=>congrFun h0 w) (λw=>congrFun h1 w) (λw=>congrFun h2 w) (λb w=>congrFun (congrFun h3 b) w) λw hO=>by
  obtain ⟨fn,tmps,assign,body,hy,hR⟩:=hs w hO
  refine ⟨fn,tmps,assign,body,hy,hR.mono λe w' ⟨b,M',L',k1,k2,k3⟩=>⟨b,k1, ?_⟩⟩
  have:=(k3.go hq).go w' k2
  rw [mU (M:=M) (W:=W) (M':=M') (W':=w') e2];exact this
 generalize xRg d=i at*
 generalize yA d=a at*
 rw [this]
 exact ⟨key⟩
theorem x_yield (fu:Fuel1)(h:List Nat)(l:Nat)(s v0 v1:Value)
  (hs:∀ w,Own M W w (xY P n nS fu h c).L->YieldAt Fence.wide 1 P l #[s] w λe w'=>∃ b M' L',e= .returned (.bool b)/\Own M' w' w' L'/\zE M' P n w' Q ⟨.fin .normal,(xY P n nS fu h c).k,L',yF3 (xY P n nS fu h c) v0 v1 b⟩)
  (hkt:(xl P n nS fu h c,(xY P n nS fu h c).top,xNl (xY P n nS fu h c).k)=(xr P n nS (tZ fu) h c,.code (.region (xRg (xY P n nS fu h c)) (yA (xY P n nS fu h c)) false),true):=by kernel_rfl)
  (hw:(zR (yA (xY P n nS fu h c)) n (xY P n nS fu h c).f (yo (xY P n nS fu h c) 0),zR (yA (xY P n nS fu h c)) n (upd (xY P n nS fu h c).f (yo (xY P n nS fu h c) 0).dst v0) (yo (xY P n nS fu h c) 1),zR (yA (xY P n nS fu h c)) n (yF (xY P n nS fu h c) v0 v1) (yo (xY P n nS fu h c) 2),λb=>zR (yA (xY P n nS fu h c)) n (upd (yF (xY P n nS fu h c) v0 v1) (yo (xY P n nS fu h c) 2).dst (.bool b)) (yo (xY P n nS fu h c) 3))=(true,true,true,λ_=>true):=by kernel_rfl)
  (h0:(λw=>(execOp (ev n (xY P n nS fu h c).f) (yo (xY P n nS fu h c) 0)).run P w)=λw=> .ok (.value v0) w:=by kernel_rfl)
  (h1:(λw=>(execOp (ev n (upd (xY P n nS fu h c).f (yo (xY P n nS fu h c) 0).dst v0)) (yo (xY P n nS fu h c) 1)).run P w)=λw=> .ok (.value v1) w:=by kernel_rfl)
  (h2:(λw=>(execOp (ev n (yF (xY P n nS fu h c) v0 v1)) (yo (xY P n nS fu h c) 2)).run P w)=λw=>(Instr.yield l #[s]).run P w:=by kernel_rfl)
  (h3:(λb w=>(execOp (ev n (upd (yF (xY P n nS fu h c) v0 v1) (yo (xY P n nS fu h c) 2).dst (.bool b))) (yo (xY P n nS fu h c) 3)).run P w)=λb w=> .ok (.value (.bool (!b))) w:=by kernel_rfl):zE M P n W Q c:=by
 obtain ⟨hk,hkt2⟩:=Prod.mk.inj hkt
 obtain ⟨e1,e2⟩:=Prod.mk.inj hkt2
 refine xrun_ok fu h c hk ?_
 clear hk hkt hkt2
 generalize xY P n nS fu h c=d at*
 exact yield_good l s v0 v1 hs e1 e2 hw h0 h1 h2 h3
end
end
section
def lnH (r:YL):YL:=if (zA 10 r).2.2 then (zA 10 r).1++[10] else r
def lnR (r:YL):YL:=if (zA 10 r).2.2 then (zA 10 r).2.1 else []
theorem ix_cut (c:UInt8):∀ r:YL,((zA c r).2.2=true/\Lib.indexByte r c=((zA c r).1.length:Int)/\r.take ((zA c r).1.length+1)=(zA c r).1++[c]/\r.drop ((zA c r).1.length+1)=(zA c r).2.1/\(zA c r).1.length<r.length)\/((zA c r).2.2=false/\Lib.indexByte r c= -1)
 | []=> .inr ⟨rfl,rfl⟩
 |b::r=>by
  unfold zA Lib.indexByte
  by_cases h:b=c
  ·subst h
   left
   simp
  ·have hb:(b==c)=false:=by simpa using h
   rw [if_neg h,hb,if_neg Bool.false_ne_true]
   rcases ix_cut c r with ⟨h1,h2,h3,h4,h5⟩|⟨h1,h2⟩
   ·left
    rw [h2]
    have hn:(((zA c r).1.length:Int)== -1)=false:=by simp
    rw [hn,if_neg Bool.false_ne_true]
    refine ⟨h1,by simp, ?_, ?_,by simpa using h5⟩
    ·simp only [List.length_cons,List.take_succ_cons,h3,List.cons_append]
    ·simp only [List.length_cons,List.drop_succ_cons,h4]
   ·right
    rw [h2]
    exact ⟨h1,by simp⟩
theorem lnR_len {r:YL}(h:r≠[]):(lnR r).length<r.length:=by
 unfold lnR
 rcases ix_cut 10 r with ⟨h1,_,_,h4,h5⟩|⟨h1,_⟩
 ·rw [if_pos h1,←h4,List.length_drop];omega
 ·rw [h1,if_neg Bool.false_ne_true];exact List.length_pos_iff.2 h
section
variable {M:List Nat}{P:Program}{n:Nat}{W:World}{Q:Exit->Act->World->Prop}{c:Xc}
theorem xh_shi (t:Nat)(h:List Nat)(i:Nat)(s:YL)(j:Int)(h0:0<=j)(h1:j<=s.length)(v:Value)(hv: .string (mkS (s.take j.toNat))=v)(hg:zE M P n W Q (xHn (xgo P n t h c) i v))
  (hkt:(xgl P n t h c,fB n i (xgo P n t h c),(shQ (xOi i (xgo P n t h c))).2.2.2,ev n (xgo P n t h c).f (shQ (xOi i (xgo P n t h c))).2.1,ev n (xgo P n t h c).f (shQ (xOi i (xgo P n t h c))).2.2.1,P.underlying (shQ (xOi i (xgo P n t h c))).1)
   =(xgr P n t h c,jX i (xgo P n t h c),true,.string (mkS s),YI j,some .string):=by kernel_rfl):zE M P n W Q c:=by
 simp only [Prod.mk.injEq] at hkt
 obtain ⟨hk,e1,e2,e3,e4,e5⟩:=hkt
 exact zK h c hk (nB (λw _=>by rw [run_strhi (shQ_op e2) e3 e4 e5 h0 h1 w,hv]) hg e1)
theorem xh_slo (t:Nat)(h:List Nat)(i:Nat)(s:YL)(j:Int)(h0:0<=j)(h1:j<=s.length)(v:Value)(hv: .string (mkS (s.drop j.toNat))=v)(hg:zE M P n W Q (xHn (xgo P n t h c) i v))
  (hkt:(xgl P n t h c,fB n i (xgo P n t h c),(slQ (xOi i (xgo P n t h c))).2.2.2,ev n (xgo P n t h c).f (slQ (xOi i (xgo P n t h c))).2.1,ev n (xgo P n t h c).f (slQ (xOi i (xgo P n t h c))).2.2.1,P.underlying (slQ (xOi i (xgo P n t h c))).1)
   =(xgr P n t h c,jX i (xgo P n t h c),true,.string (mkS s),YI j,some .string):=by kernel_rfl):zE M P n W Q c:=by
 simp only [Prod.mk.injEq] at hkt
 obtain ⟨hk,e1,e2,e3,e4,e5⟩:=hkt
 exact zK h c hk (nB (λw _=>by rw [run_strlo (slQ_op e2) e3 e4 e5 h0 h1 w,hv]) hg e1)
end
def yN (B:Nat)(r:YL):Blk:=⟨B, #[.string (mkS r)],9⟩
theorem ixb_any (r:YL)(w:World):YC 97 #[.string (mkS r),.int .u8 10] w (YR (YI (Lib.indexByte r 10)) w):=
 (Tryz.strings_IndexByte _ _ w).mono λe w' ⟨h1,h2⟩=>⟨by rw [h1];rfl,h2▸Below.refl _ _⟩
theorem lines_any (l B:Nat)(J:YL->World->Prop)(K:YL->YL->World->Prop)(Jx:World->Prop)
  (hJ:∀ r w,J r w->Own [B] w w [yN B r])
  (hS:∀ r w w',J r w->Own [B] w w' [yN B r]->J r w')
  (hT:∀ r w w',J r w->r≠[]->Own [B] w w' [yN B (lnR r)]->K (lnH r) (lnR r) w')
  (hX:∀ w w',Jx w->YB w w'->Jx w')
  (hY:∀ p r w,K p r w->YieldAt Fence.wide 1 YP l #[.string (mkS p)] w λe w'=>(e= .returned (.bool true)/\J r w')\/(e= .returned (.bool false)/\Jx w'))
  (s:YL) (W:World) (h0:J s W) (hs:s.length<=1048576):YC 96 #[.func (.yield l) #[] #[],.pointer (some ⟨B,0,none⟩)] W λe w'=>e= .returned (.tuple #[])/\(J [] w'\/Jx w'):=by
 refine kQ (hJ s W h0) Tryz.func96 (x_loopW (α:=YL) (λ_=>[(0,.func (.yield l) #[] #[]),(1,Zp B 0)]) (λ_=>[B]) (λr=>[yN B r]) (λr w m=>J r w/\r.length<=1048576/\m=r.length) s s.length [] (λw hO=>⟨⟨hS s W w h0 hO,hs,rfl⟩,(hJ s w (hS s W w h0 hO))⟩) ?_)
 rintro r w mm g ⟨hj,hr,rfl⟩ hO
 refine zG 7 [0] ((r.length:Int)>0) (λh7=> ?_) (λh7=> ?_)
 rotate_left
 ·have hnil:r=[]:=List.eq_nil_of_length_eq_zero Om
  subst hnil
  refine x_outW (.exit 0) [] (x_end0 [] λw3 hO3=>⟨rfl,.inl (hS [] w w3 hj (hO3.past 0 [yN B []]))⟩) rfl
 have hne:r≠[]:=λe=>by rw [e] at h7;exact absurd h7 (by decide)
 have hround:∀ w',Own [B] w w' [yN B (lnR r)]->YieldAt Fence.wide 1 YP l #[.string (mkS (lnH r))] w' λe w2=>(e= .returned (.bool true)/\J (lnR r) w2)\/(e= .returned (.bool false)/\Jx w2):=λw' hO'=>hY _ _ _ (hT r w w' hj hne hO')
 obtain ⟨z,hz⟩:∃ z,Lib.indexByte r 10=z:=⟨_,rfl⟩
 have hix:∀ w,YC 97 #[.string (mkS r),.int .u8 10] w (YR (YI z) w):=λw=>hz▸ixb_any r w
 have hcut:(0<=z/\z<r.length/\r.take (z+1).toNat=lnH r/\r.drop (z+1).toNat=lnR r)\/(z= -1/\lnH r=r/\lnR r=[]):=by
  unfold lnH lnR
  rcases ix_cut 10 r with ⟨c1,c2,c3,c4,c5⟩|⟨c1,c2⟩
  ·left
   rw [hz] at c2
   subst c2
   rw [c1,if_pos rfl,if_pos rfl]
   exact ⟨by omega,by omega,c3,c4⟩
  ·right
   rw [c1]
   exact ⟨hz.symm.trans c2,rfl,rfl⟩
 have hlen:=lnR_len hne
 refine z7 (v:=YI z) [0] (λw hO=>hix w) (zG 11 [] (z>=0) (λh11=> ?_) (λh11=> ?_))
 ·rcases hcut with ⟨q1,q2,q3,q4⟩|⟨q1,_⟩
  rotate_left
  ·exact absurd h11 Om
  refine kS 9 [] [yN B r] (λw hO=>Own.nth 0 (yN B r) hO) (x_i 14 [0] (z+1) (xh_shi 50015 [] 3 r (z+1) Om Om (.string (mkS (lnH r))) (by rw [q3]) (x_i 18 [0] (z+1) (xh_slo 50019 [] 7 r (z+1) Om Om (.string (mkS (lnR r))) (by rw [q4]) ?_))))
  refine x_yield (.s (.s (.s (.s (.s (.s (.s .z))))))) [0] l (.string (mkS (lnH r))) (.func (.yield l) #[] #[]) (.string (mkS (lnH r))) λw' hO'=> ?_
  obtain ⟨fn,tmps,assign,body,hy,hR⟩:=hround w' (hO'.past 0 [yN B (lnR r)])
  refine ⟨fn,tmps,assign,body,hy,hR.mono λe w2 h=> ?_⟩
  rcases h with ⟨rfl,hJ2⟩|⟨rfl,hx2⟩
  ·exact ⟨true,[B],[yN B (lnR r)],rfl,hJ _ _ hJ2,x_nxW (lnR r) (lnR r).length [] hlen λw3 hO3=>⟨⟨hS _ w2 w3 hJ2 (hO3.past 0 [yN B (lnR r)]),by omega,rfl⟩,hJ _ _ (hS _ w2 w3 hJ2 (hO3.past 0 [yN B (lnR r)]))⟩⟩
  ·exact ⟨false,[],[],rfl,Own.start [] w2,x_outW .ret [] (x_ret0 [] λw3 hO3=>⟨rfl,.inr (hX w2 w3 hx2 (hO3.past 0 []).below)⟩) rfl⟩
 ·rcases hcut with ⟨q1,_⟩|⟨q1,q2,q3⟩
  ·exact absurd h11 Om
  rw [q2,q3] at hround
  rw [q3] at hlen
  refine x_yield (.s (.s (.s (.s (.s (.s (.s (.s (.s (.s .z)))))))))) [0,0] l (.string (mkS r)) (.func (.yield l) #[] #[]) (.string (mkS r)) λw' hO'=> ?_
  obtain ⟨fn,tmps,assign,body,hy,hR⟩:=hround w' (hO'.past 0 [yN B []])
  refine ⟨fn,tmps,assign,body,hy,hR.mono λe w2 h=> ?_⟩
  rcases h with ⟨rfl,hJ2⟩|⟨rfl,hx2⟩
  ·exact ⟨true,[B],[yN B []],rfl,hJ _ _ hJ2,x_nxW [] 0 [] hlen λw3 hO3=>⟨⟨hS _ w2 w3 hJ2 (hO3.past 0 [yN B []]),by simp,rfl⟩,hJ _ _ (hS _ w2 w3 hJ2 (hO3.past 0 [yN B []]))⟩⟩
  ·exact ⟨false,[],[],rfl,Own.start [] w2,x_outW .ret [] (x_ret0 [] λw3 hO3=>⟨rfl,.inr (hX w2 w3 hx2 (hO3.past 0 []).below)⟩) rfl⟩
end
end Go.Proofs.YtobimfnmnkegdaaGreatDoor
