import Derived.Laws.IdiomStrings
import Derived.Laws.IdiomCopy
import Derived.Laws.BitsAllLaws
import Derived.Lib.ConvBytes
import Derived.Lib.Builder
import Derived.RangeFuncIn
import Derived.RangeFuncLeaves
import Derived.RangeFuncCalls
import Derived.RangeFuncNested
import Derived.Test.YtflhcaljcoekpaaGreatDoorIG11
import Derived.Test.YtflhcaljcoekpaaGreatDoorIG12
import Derived.Test.YtflhcaljcoekpaaGreatDoorIG13
import Derived.Test.YtflhcaljcoekpaaGreatDoorIG14
set_option maxRecDepth 1000000
set_option maxHeartbeats 8000000
set_option linter.unusedVariables false
set_option linter.unusedSimpArgs false
set_option linter.unnecessarySimpa false
namespace Go.Proofs.YtflhcaljcoekpaaGreatDoor
open Go.RowKit

section
theorem finrrngs_is:rngs=[[42],[94,48,46,48,46,48],[94,48,46,49,46,48],[94,49,46,48,46,48],[94,49,46,49,46,48],[94,50,46,48,46,48],[94,50,46,49,46,48],[62,61,48,46,48,46,48]]++([[62,61,48,46,49,46,48],[62,61,49,46,48,46,48],[62,61,49,46,49,46,48],[62,61,50,46,48,46,48],[62,61,50,46,49,46,48],[60,48,46,48,46,48],[60,48,46,49,46,48],[60,49,46,48,46,48]]++([[60,49,46,49,46,48],[60,50,46,48,46,48],[60,50,46,49,46,48],[61,48,46,48,46,48],[61,48,46,49,46,48],[61,49,46,48,46,48],[61,49,46,49,46,48],[61,50,46,48,46,48]]++([[61,50,46,49,46,48],[33,61,48,46,48,46,48],[33,61,48,46,49,46,48],[33,61,49,46,48,46,48],[33,61,49,46,49,46,48],[33,61,50,46,48,46,48],[33,61,50,46,49,46,48]]))):=by decide+kernel
theorem r7Plain_any (s:YL)(W:World)(hs:GqR s):YC 219 #[.string (mkS s)] W (YR (.bool (kE s)) W):=by
 rw [plainG_in hs]
 have h:s∈rngs:=hs
 rw [finrrngs_is] at h
 rcases List.mem_append.1 h with h|h
 ·exact finr_r1 W s h
 rcases List.mem_append.1 h with h|h
 ·exact finr_r2 W s h
 rcases List.mem_append.1 h with h|h
 ·exact finr_r3 W s h
 exact finr_r4 W s h
theorem finrmrks_is:mrks=[[],[111,115,32,61,32,120],[111,115,32,61,32,121],[111,115,32,61,32,122],[111,115,32,61,32,119,95,49],[111,115,32,33,61,32,120],[111,115,32,33,61,32,121],[111,115,32,33,61,32,122]]++([[111,115,32,33,61,32,119,95,49],[97,114,99,104,32,61,32,120],[97,114,99,104,32,61,32,121],[97,114,99,104,32,61,32,122],[97,114,99,104,32,61,32,119,95,49],[97,114,99,104,32,33,61,32,120],[97,114,99,104,32,33,61,32,121],[97,114,99,104,32,33,61,32,122]]++([[97,114,99,104,32,33,61,32,119,95,49],[97,98,105,32,61,32,120],[97,98,105,32,61,32,121],[97,98,105,32,61,32,122],[97,98,105,32,61,32,119,95,49],[97,98,105,32,33,61,32,120],[97,98,105,32,33,61,32,121],[97,98,105,32,33,61,32,122]]++([[97,98,105,32,33,61,32,119,95,49]]))):=by decide+kernel
theorem r10Plain_any (s:YL)(W:World)(hs:GqM s):YC 217 #[.string (mkS s)] W (YR (.bool (x7 s)) W):=by
 rw [plainM_in hs]
 have h:s∈mrks:=hs
 rw [finrmrks_is] at h
 rcases List.mem_append.1 h with h|h
 ·exact finr_m1 W s h
 rcases List.mem_append.1 h with h|h
 ·exact finr_m2 W s h
 rcases List.mem_append.1 h with h|h
 ·exact finr_m3 W s h
 exact finr_m4 W s h
end
section
set_option linter.unnecessarySimpa false
theorem r12feats_any (A:Option Addr)(cap:Nat)(l:List YL)(al:Bool)(W:World)(hv:Reads zW W W.heap.size A l)(hn:l.length<=5000)(ht:∀ s∈l,s.length<=1000000):YC 254 #[.slice A l.length cap,.bool al] W (YR (.bool (jK l al)) W):=by
 refine zD Tryz.func254 (zT (α:=Nat) (λi=>[(0,.slice A l.length cap),(1,.bool al),(5,YI (i:Int))]) (λ_=>[]) (λi m=>(i<=l.length∧∀ s∈l.take i,wdL s=true)/\m=l.length-i) 0 l.length [] ⟨⟨Nat.zero_le _,λy h=>by simp at h⟩,rfl⟩ ?_)
 rintro i mm g kk ⟨⟨hi,hno⟩,hmm⟩ nx hkk
 subst hkk
 refine zG 9 [] ((i:Int)<(l.length:Int)) (λh9=> ?_) (λh9=> ?_)
 ·have hj:i<l.length:=by omega
  obtain ⟨eb,eo,hA,hel⟩:=hv.elem zR i hj
  have hgo:=yH (p:=λs:YL=>wdL s=true) hj hno
  have hsm:l[i]∈l:=List.getElem_mem hj
  have hel0:∀ w,YB W w->(loadVar 9 ⟨eb,eo+i*1+0,none⟩).run YP w= .ok (.string (mkS l[i])) w:=λw hw=>hel w hw _ 0 _ Kr
  generalize l[i]=s at hel0 hgo hsm
  have hW:∀ w,YB W w->YC 218 #[.string (mkS s)] w (YR (.bool (wdL s)) w):=λw hb=>bR s w (ht s hsm)
  refine zL 14 [] hA l.length cap i 1 hj (zI 15 [] 9 eb (eo+i*1+0) (.string (mkS s)) (λw hO=>hel0 w hO.below) (z7 (v:= .bool (wdL s)) [] (λw hO=>hW w hO.below) (zV 16 (wdL s) (λh=> ?_) (λh=> ?_))))
  ·exact x_i 11 [] ((i+1:Nat):Int) (nx (i+1) (l.length-(i+1)) [] Om ⟨⟨hj,hgo h⟩,rfl⟩ Kr Kr)
  ·refine z8 [] Z5 λw hO=>⟨?_,hO.below⟩
   unfold jK
   rw [show l.all wdL=false from by rw [List.all_eq_false];exact ⟨s,hsm,by simp [h]⟩];rfl
 have hall:=xE (p:=λs:YL=>wdL s=true) (show l.length<=i by omega) hno
 have hal:l.all wdL=true:=List.all_eq_true.2 hall
 have hR:∀ w,YB W w->YC 259 #[.slice A l.length cap] w (YR (.bool (xR l)) w):=λw hb=>r1Rising_any A cap l w (hv.on hb hb.size) Om
 refine zG 20 [] ((l.length:Int)<=6) (λh20=> ?_) (λh20=> ?_)
 rotate_left
 ·exact z8 [] Z5 λw hO=>⟨by unfold jK;rw [hal,decide_eq_false (show ¬ l.length<=6 by omega)];rfl,hO.below⟩
 have h6:decide (l.length<=6)=true:=decide_eq_true Om
 refine z7 (v:= .bool (xR l)) [] (λw hO=>hR w hO.below) (zV 23 (xR l) (λh=> ?_) (λh=> ?_))
 rotate_left
 ·exact z8 [] Z5 λw hO=>⟨by unfold jK;rw [hal,h6,h];rfl,hO.below⟩
 cases al with
 |true=>exact z8 [] (.bool true) λw hO=>⟨by unfold jK;rw [hal,h6,h];rfl,hO.below⟩
 |false=>
  refine zG 30 [] ((l.length:Int)=0) (λh30=> ?_) (λh30=> ?_)
  ·exact z8 [] Z4 λw hO=>⟨by unfold jK;rw [hal,h6,h,decide_eq_true (List.eq_nil_of_length_eq_zero Om)];rfl,hO.below⟩
  ·exact z8 [] Z5 λw hO=>⟨by unfold jK;rw [hal,h6,h,decide_eq_false (λe=>h30 (by rw [e];rfl))];rfl,hO.below⟩
theorem r12wish_any (r:Rv)(x:Wv)(al:Bool)(W:World)(hv:Reads zW W W.heap.size x.A x.fs)(hn:x.fs.length<=5000)(ht:x.name.length<=1000000/\GqR x.rng∧∀ s∈x.fs,s.length<=1000000):YC 216 #[rvV r,wvV x,.bool al] W (YR (YI (kQ r.name x.wt al)) W):=by
 have h1:∀ w,YB W w->YC 76 #[.string (mkS x.name)] w (YR (.bool (nmL x.name)) w):=λw hb=>fK x.name w ht.1
 have h2:∀ w,YB W w->YC 219 #[.string (mkS x.rng)] w (YR (.bool (kE x.rng)) w):=λw hb=>r7Plain_any x.rng w ht.2.1
 have h3:∀ w,YB W w->YC 254 #[.slice x.A x.fs.length x.cap,.bool al] w (YR (.bool (jK x.fs al)) w):=λw hb=>r12feats_any x.A x.cap x.fs al w (hv.on hb hb.size) hn ht.2.2
 have hE:kQ r.name x.wt al=if nmL x.name=false then 4 else if x.name=r.name then 8 else if kE x.rng=false then 6 else if jK x.fs al=false then 11 else 0:=rfl
 refine zD Tryz.func216 (zY [] λb3=>zY [] λb4=>z7 (v:= .bool (nmL x.name)) [0] (λw hO=>h1 w hO.below) (zV 10 (nmL x.name) (λe1=> ?_) (λe1=> ?_)))
 rotate_left
 ·exact z8 [] (YI 4) λw hO=>⟨by rw [hE,if_pos e1],hO.below⟩
 refine xH 17 [0,1] x.name r.name (λe2=> ?_) (λe2=> ?_)
 ·exact z8 [] (YI 8) λw hO=>⟨by rw [hE,if_neg (by simp [e1]),if_pos e2],hO.below⟩
 refine z7 (v:= .bool (kE x.rng)) [0] (λw hO=>h2 w hO.below) (zV 21 (kE x.rng) (λe3=> ?_) (λe3=> ?_))
 rotate_left
 ·exact z8 [] (YI 6) λw hO=>⟨by rw [hE,if_neg (by simp [e1]),if_neg e2,if_pos e3],hO.below⟩
 refine z7 (v:= .bool (jK x.fs al)) [0] (λw hO=>h3 w hO.below) (zV 27 (jK x.fs al) (λe4=> ?_) (λe4=> ?_))
 ·exact z8 [] (YI 0) λw hO=>⟨by rw [hE,if_neg (by simp [e1]),if_neg e2,if_neg (by simp [e3]),if_neg (by simp [e4])],hO.below⟩
 ·exact z8 [] (YI 11) λw hO=>⟨by rw [hE,if_neg (by simp [e1]),if_neg e2,if_neg (by simp [e3]),if_pos e4],hO.below⟩
theorem r12bar_any (r:Rv)(x:Bv)(W:World)(ht:x.name.length<=1000000/\GqR x.rng/\GqM x.wh):YC 171 #[rvV r,bvV x] W (YR (YI (vQ r.name x.bt)) W):=by
 have h1:∀ w,YB W w->YC 76 #[.string (mkS x.name)] w (YR (.bool (nmL x.name)) w):=λw hb=>fK x.name w ht.1
 have h2:∀ w,YB W w->YC 219 #[.string (mkS x.rng)] w (YR (.bool (kE x.rng)) w):=λw hb=>r7Plain_any x.rng w ht.2.1
 have h3:∀ w,YB W w->YC 217 #[.string (mkS x.wh)] w (YR (.bool (x7 x.wh)) w):=λw hb=>r10Plain_any x.wh w ht.2.2
 have hE:vQ r.name x.bt=if nmL x.name=false then 4 else if x.name=r.name then 8 else if kE x.rng=false then 6 else if x7 x.wh=false then 7 else 0:=rfl
 refine zD Tryz.func171 (zY [] λb3=>zY [] λb4=>z7 (v:= .bool (nmL x.name)) [0] (λw hO=>h1 w hO.below) (zV 8 (nmL x.name) (λe1=> ?_) (λe1=> ?_)))
 rotate_left
 ·exact z8 [] (YI 4) λw hO=>⟨by rw [hE,if_pos e1],hO.below⟩
 refine xH 15 [0,1] x.name r.name (λe2=> ?_) (λe2=> ?_)
 ·exact z8 [] (YI 8) λw hO=>⟨by rw [hE,if_neg (by simp [e1]),if_pos e2],hO.below⟩
 refine z7 (v:= .bool (kE x.rng)) [0] (λw hO=>h2 w hO.below) (zV 19 (kE x.rng) (λe3=> ?_) (λe3=> ?_))
 rotate_left
 ·exact z8 [] (YI 6) λw hO=>⟨by rw [hE,if_neg (by simp [e1]),if_neg e2,if_pos e3],hO.below⟩
 refine z7 (v:= .bool (x7 x.wh)) [0] (λw hO=>h3 w hO.below) (zV 24 (x7 x.wh) (λe4=> ?_) (λe4=> ?_))
 ·exact z8 [] (YI 0) λw hO=>⟨by rw [hE,if_neg (by simp [e1]),if_neg e2,if_neg (by simp [e3]),if_neg (by simp [e4])],hO.below⟩
 ·exact z8 [] (YI 7) λw hO=>⟨by rw [hE,if_neg (by simp [e1]),if_neg e2,if_neg (by simp [e3]),if_pos e4],hO.below⟩
end
section
set_option linter.unnecessarySimpa false
def SuW (x:Wv):Prop:=x.name.length<=1000000/\GqR x.rng∧∀ s∈x.fs,s.length<=1000000
theorem needE_is (own:YL)(x:Nv):kK own x.nt=if x.any=[] then 9 else if 3<x.any.length then 3 else if yR (λu:Wv=>kQ own u.wt (decide (x.any.length=1))) x.any≠0 then yR (λu:Wv=>kQ own u.wt (decide (x.any.length=1))) x.any
 else if x7 x.wh=false then 7 else if x.opt≠[]/\wdL x.opt=false then 14 else 0:=by
 unfold kK
 simp only [Nv.nt,firstE_map,List.length_map,List.map_eq_nil_iff]
 rfl
theorem r12need_any (r:Rv)(x:Nv)(W:World)(hv:Reads wvC W W.heap.size x.A x.any)(hf:∀ u∈x.any,Reads zW W W.heap.size u.A u.fs)(hn:x.any.length<=5000)(hnf:∀ u∈x.any,u.fs.length<=5000)(hs:GqM x.wh/\x.opt.length<=1000000)(hsu:∀ u∈x.any,SuW u):YC 170 #[rvV r,nvV x] W (YR (YI (kK r.name x.nt)) W):=by
 have hE:=needE_is r.name x
 refine zD Tryz.func170 (zY [] λb2=>zY [] λb3=>zG 10 [0] ((x.any.length:Int)=0) (λh10=> ?_) (λh10=> ?_))
 ·exact z8 [] (YI 9) λw hO=>⟨by rw [hE,if_pos (List.eq_nil_of_length_eq_zero Om)],hO.below⟩
 have h10':¬ x.any=[]:=λe=>h10 (by rw [e];rfl)
 rw [if_neg h10'] at hE
 refine zG 14 [0] ((x.any.length:Int)>3) (λh14=> ?_) (λh14=> ?_)
 ·exact z8 [] (YI 3) λw hO=>⟨by rw [hE,if_pos Om],hO.below⟩
 rw [if_neg (show ¬ 3<x.any.length by omega)] at hE
 refine zT (α:=Nat) (λi=>[(2,Zp b2 0),(3,Zp b3 0),(5,YI (i:Int))]) (λ_=>[⟨b3, #[.slice x.A x.any.length x.cap,.string (mkS x.wh),.string (mkS x.opt)],72⟩,⟨b2,(rvC r).toArray,47⟩]) (λi m=>(i<=x.any.length∧∀ u∈x.any.take i,kQ r.name u.wt (decide (x.any.length=1))=0)/\m=x.any.length-i) 0 x.any.length [] ⟨⟨Nat.zero_le _,λy h=>by simp at h⟩,rfl⟩ ?_
 rintro i mm g kk ⟨⟨hi,hno⟩,hmm⟩ nx hkk
 subst hkk
 refine zG 19 [0] ((i:Int)<(x.any.length:Int)) (λh19=> ?_) (λh19=> ?_)
 ·have hj:i<x.any.length:=by omega
  obtain ⟨eb,eo,hA,hel⟩:=hv.elem v8 i hj
  have hgo:=yH (p:=λu:Wv=>kQ r.name u.wt (decide (x.any.length=1))=0) hj hno
  have hat:=nG (f:=λu:Wv=>kQ r.name u.wt (decide (x.any.length=1))) hj hno
  have hsm:x.any[i]∈x.any:=List.getElem_mem hj
  have hel0:∀ w,YB W w->(loadVar 139 ⟨eb,eo+i*4+0,none⟩).run YP w= .ok (wvV x.any[i]) w:=λw hw=>hel w hw _ 0 _ Kr
  have hru:=hf _ hsm;have hnu:=hnf _ hsm;have hlu:=hsu _ hsm
  generalize x.any[i]=u at hel0 hgo hat hru hnu hlu
  have hc:∀ w,YB W w->YC 216 #[rvV r,wvV u,.bool (decide ((x.any.length:Int)=1))] w (YR (YI (kQ r.name u.wt (decide (x.any.length=1)))) w):=λw hb=>by
   rw [show decide (x.any.length=1)=decide ((x.any.length:Int)=1) from decide_eq_decide.2 Om]
   exact r12wish_any r u _ w (hru.on hb hb.size) hnu hlu
  refine zL 26 [1,0] hA x.any.length x.cap i 4 hj (zI 27 [] 139 eb (eo+i*4+0) (wvV u) (λw hO=>hel0 w hO.below) (z7 (v:=YI (kQ r.name u.wt (decide (x.any.length=1)))) [0] (λw hO=>hc w hO.below) (gE 34 [] (kQ r.name u.wt (decide (x.any.length=1))=0) (λh=> ?_) (λh=> ?_))))
  ·exact x_i 21 [] ((i+1:Nat):Int) (nx (i+1) (x.any.length-(i+1)) [] Om ⟨⟨hj,hgo h⟩,rfl⟩ Kr Kr)
  ·refine z8 [] (YI (kQ r.name u.wt (decide (x.any.length=1)))) λw hO=>⟨?_,hO.below⟩
   rw [hE,hat h,if_pos h]
 have hall:=j8 (xE (p:=λu:Wv=>kQ r.name u.wt (decide (x.any.length=1))=0) (show x.any.length<=i by omega) hno)
 rw [hall,if_neg (by simp)] at hE
 have h2:∀ w,YB W w->YC 217 #[.string (mkS x.wh)] w (YR (.bool (x7 x.wh)) w):=λw hb=>r10Plain_any x.wh w hs.1
 have h3:∀ w,YB W w->YC 218 #[.string (mkS x.opt)] w (YR (.bool (wdL x.opt)) w):=λw hb=>bR x.opt w hs.2
 refine z7 (v:= .bool (x7 x.wh)) [0] (λw hO=>h2 w hO.below) (zV 38 (x7 x.wh) (λe3=> ?_) (λe3=> ?_))
 rotate_left
 ·exact z8 [] (YI 7) λw hO=>⟨by rw [hE,if_pos e3],hO.below⟩
 rw [if_neg (by simp [e3])] at hE
 refine jJ 42 [0] x.opt [] (λe4=> ?_) (λe4=> ?_)
 ·exact z8 [] (YI 0) λw hO=>⟨by rw [hE,if_neg (λh=>h.1 e4)],hO.below⟩
 refine z7 (v:= .bool (wdL x.opt)) [0] (λw hO=>h3 w hO.below) (zV 46 (wdL x.opt) (λe5=> ?_) (λe5=> ?_))
 ·exact z8 [] (YI 0) λw hO=>⟨by rw [hE,if_neg (λh=>by rw [e5] at h;simp at h)],hO.below⟩
 ·exact z8 [] (YI 14) λw hO=>⟨by rw [hE,if_pos ⟨e4,e5⟩],hO.below⟩
theorem optR_is (r:Rv)(s:YL):optR r.rt.needs s=r.needs.any λn=>decide (n.opt=s):=by
 unfold optR;simp only [Rv.rt,List.any_map];rfl
theorem r12option_any (r:Rv)(s:YL)(W:World)(hv:Reads nvC W W.heap.size r.nA r.needs)(hn:r.needs.length<=5000):YC 222 #[rvV r,.string (mkS s)] W (YR (.bool (optR r.rt.needs s)) W):=by
 rw [optR_is]
 refine zD Tryz.func222 (zY [] λb2=>zT (α:=Nat) (λi=>[(1,.string (mkS s)),(2,Zp b2 0),(5,YI (i:Int))]) (λ_=>[⟨b2,(rvC r).toArray,47⟩]) (λi m=>(i<=r.needs.length∧∀ n∈r.needs.take i,n.opt≠s)/\m=r.needs.length-i) 0 r.needs.length [] ⟨⟨Nat.zero_le _,λy h=>by simp at h⟩,rfl⟩ ?_)
 rintro i mm g kk ⟨⟨hi,hno⟩,hmm⟩ nx hkk
 subst hkk
 refine zG 10 [0] ((i:Int)<(r.needs.length:Int)) (λh10=> ?_) (λh10=> ?_)
 rotate_left
 ·refine z8 [] Z5 λw hO=>⟨?_,hO.below⟩
  have hall:=xE (p:=λn:Nv=>n.opt≠s) (show r.needs.length<=i by omega) hno
  rw [show (r.needs.any λn=>decide (n.opt=s))=false from by rw [List.any_eq_false];exact λn h=>by simpa using hall n h]
 have hj:i<r.needs.length:=by omega
 obtain ⟨eb,eo,hA,hel⟩:=hv.elem qD i hj
 have hgo:=yH (p:=λn:Nv=>n.opt≠s) hj hno
 have hsm:r.needs[i]∈r.needs:=List.getElem_mem hj
 have hel0:∀ w,YB W w->(loadVar 9 ⟨eb,eo+i*3+2,none⟩).run YP w= .ok (.string (mkS r.needs[i].opt)) w:=λw hw=>hel w hw _ 2 _ Kr
 generalize r.needs[i]=n at hel0 hgo hsm
 refine zL 16 [0] hA r.needs.length r.nc i 3 hj (zI 18 [] 9 eb (eo+i*3+2) (.string (mkS n.opt)) (λw hO=>hel0 w hO.below) (xH 20 [] n.opt s (λh=> ?_) (λh=> ?_)))
 ·refine z8 [] Z4 λw hO=>⟨?_,hO.below⟩
  rw [show (r.needs.any λn=>decide (n.opt=s))=true from List.any_eq_true.2 ⟨n,hsm,decide_eq_true h⟩]
 ·exact x_i 12 [] ((i+1:Nat):Int) (nx (i+1) (r.needs.length-(i+1)) [] Om ⟨⟨hj,hgo h⟩,rfl⟩ Kr Kr)
theorem pulR_is (r:Rv)(s:YL):pulR r.rt.needs s=r.needs.any λn=>pulN s n.nt:=by
 unfold pulR;simp only [Rv.rt,List.any_map];rfl
theorem pulN_one (s:YL)(n:Nv)(h0:0<n.any.length)(h1:n.any.length=1):pulN s n.nt=decide (n.any[0].name=s):=by
 obtain ⟨A,cap,any,wh,opt⟩:=n
 match any,h0,h1 with
 | [u],_,_=>rfl
theorem r12pulled_any (r:Rv)(s:YL)(W:World)(hv:Reads nvC W W.heap.size r.nA r.needs)(hf:∀ n∈r.needs,Reads wvC W W.heap.size n.A n.any)(hn:r.needs.length<=5000):YC 223 #[rvV r,.string (mkS s)] W (YR (.bool (pulR r.rt.needs s)) W):=by
 rw [pulR_is]
 refine zD Tryz.func223 (zY [] λb2=>zT (α:=Nat) (λi=>[(1,.string (mkS s)),(2,Zp b2 0),(5,YI (i:Int))]) (λ_=>[⟨b2,(rvC r).toArray,47⟩]) (λi m=>(i<=r.needs.length∧∀ n∈r.needs.take i,pulN s n.nt=false)/\m=r.needs.length-i) 0 r.needs.length [] ⟨⟨Nat.zero_le _,λy h=>by simp at h⟩,rfl⟩ ?_)
 rintro i mm g kk ⟨⟨hi,hno⟩,hmm⟩ nx hkk
 subst hkk
 refine zG 10 [0] ((i:Int)<(r.needs.length:Int)) (λh10=> ?_) (λh10=> ?_)
 rotate_left
 ·refine z8 [] Z5 λw hO=>⟨?_,hO.below⟩
  have hall:=xE (p:=λn:Nv=>pulN s n.nt=false) (show r.needs.length<=i by omega) hno
  rw [show (r.needs.any λn=>pulN s n.nt)=false from by rw [List.any_eq_false];exact λn h=>by simpa using hall n h]
 have hj:i<r.needs.length:=by omega
 obtain ⟨eb,eo,hA,hel⟩:=hv.elem qD i hj
 have hgo:=yH (p:=λn:Nv=>pulN s n.nt=false) hj hno
 have hsm:r.needs[i]∈r.needs:=List.getElem_mem hj
 have hel0:∀ w,YB W w->(loadVar 70 ⟨eb,eo+i*3+0,none⟩).run YP w= .ok (.slice r.needs[i].A r.needs[i].any.length r.needs[i].cap) w:=λw hw=>hel w hw _ 0 _ Kr
 have hra:=hf _ hsm
 generalize r.needs[i]=n at hel0 hgo hsm hra
 refine zL 16 [0] hA r.needs.length r.nc i 3 hj (zI 18 [] 70 eb (eo+i*3+0) (.slice n.A n.any.length n.cap) (λw hO=>hel0 w hO.below) (zG 20 [] ((n.any.length:Int)=1) (λh20=> ?_) (λh20=> ?_)))
 rotate_left
 ·have hp0:pulN s n.nt=false:=by
   unfold pulN Nv.nt
   match hm:n.any with
   | []=>rfl
   | [_]=>rw [hm] at h20;simp at h20
   |_::_::_=>rfl
  exact x_i 12 [] ((i+1:Nat):Int) (nx (i+1) (r.needs.length-(i+1)) [] Om ⟨⟨hj,hgo hp0⟩,rfl⟩ Kr Kr)
 have h0:0<n.any.length:=by omega
 obtain ⟨fb,fo,hA2,hel2⟩:=hra.elem v8 0 h0
 have hpu:=pulN_one s n h0 Om
 have l0:∀ w,YB W w->(loadVar 9 ⟨fb,fo+0*4+0,none⟩).run YP w= .ok (.string (mkS n.any[0].name)) w:=λw hw=>hel2 w hw _ 0 _ Kr
 generalize n.any[0]=u at hpu l0
 refine zL 25 [0] hA r.needs.length r.nc i 3 hj (zI 27 [] 70 eb (eo+i*3+0) (.slice n.A n.any.length n.cap) (λw hO=>hel0 w hO.below) (zL 28 [] hA2 n.any.length n.cap 0 4 h0 (zI 30 [] 9 fb (fo+0*4+0) (.string (mkS u.name)) (λw hO=>l0 w hO.below) (xH 32 [] u.name s (λh=> ?_) (λh=> ?_)))))
 ·refine z8 [] Z4 λw hO=>⟨?_,hO.below⟩
  rw [show (r.needs.any λn=>pulN s n.nt)=true from List.any_eq_true.2 ⟨n,hsm,by rw [hpu];exact decide_eq_true h⟩]
 ·exact x_i 12 [] ((i+1:Nat):Int) (nx (i+1) (r.needs.length-(i+1)) [] Om ⟨⟨hj,hgo (by rw [hpu];exact decide_eq_false h)⟩,rfl⟩ Kr Kr)
theorem r12items_any (r:Rv)(A:Option Addr)(cap:Nat)(l:List YL)(W:World)(hr:RcIn W W.heap.size r)(hv:Reads zW W W.heap.size A l)(hn:l.length<=5000)(ht:∀ s∈l,s.length<=1000000):YC 173 #[rvV r,.slice A l.length cap] W (YR (YI (yR (xF r.rt.needs) l)) W):=by
 refine zD Tryz.func173 (zY [] λb2=>zT (α:=Nat) (λi=>[(1,.slice A l.length cap),(2,Zp b2 0),(5,YI (i:Int))]) (λ_=>[⟨b2,(rvC r).toArray,47⟩]) (λi m=>(i<=l.length∧∀ s∈l.take i,xF r.rt.needs s=0)/\m=l.length-i) 0 l.length [] ⟨⟨Nat.zero_le _,λy h=>by simp at h⟩,rfl⟩ ?_)
 rintro i mm g kk ⟨⟨hi,hno⟩,hmm⟩ nx hkk
 subst hkk
 refine zG 12 [] ((i:Int)<(l.length:Int)) (λh12=> ?_) (λh12=> ?_)
 rotate_left
 ·refine z8 [] (YI 0) λw hO=>⟨?_,hO.below⟩
  rw [j8 (xE (p:=λs=>xF r.rt.needs s=0) (show l.length<=i by omega) hno)]
 have hj:i<l.length:=by omega
 obtain ⟨eb,eo,hA,hel⟩:=hv.elem zR i hj
 have hgo:=yH (p:=λs=>xF r.rt.needs s=0) hj hno
 have hat:=nG (f:=xF r.rt.needs) hj hno
 have hsm:l[i]∈l:=List.getElem_mem hj
 have hel0:∀ w,YB W w->(loadVar 9 ⟨eb,eo+i*1+0,none⟩).run YP w= .ok (.string (mkS l[i])) w:=λw hw=>hel w hw _ 0 _ Kr
 have hls:=ht _ hsm
 generalize l[i]=s at hel0 hgo hat hls
 have hE:xF r.rt.needs s=if (zO s).1=2/\optR r.rt.needs (zO s).2.1=false then 14 else if (zO s).1=3/\pulR r.rt.needs (zO s).2.1=false then 16 else 0:=rfl
 have hI:∀ w,YB W w->YC 221 #[.string (mkS s)] w (YR (.tuple #[YI (zO s).1,.string (mkS (zO s).2.1),.string (mkS (zO s).2.2)]) w):=λw hb=>r11Item_any s w hls
 generalize zO s=q at hE hI
 obtain ⟨kd,nm,sf⟩:=q
 have hO1:∀ w,YB W w->YC 222 #[rvV r,.string (mkS nm)] w (YR (.bool (optR r.rt.needs nm)) w):=λw hb=>r12option_any r nm w (hr.needs.on hb hb.size) hr.nn
 have hP1:∀ w,YB W w->YC 223 #[rvV r,.string (mkS nm)] w (YR (.bool (pulR r.rt.needs nm)) w):=λw hb=>r12pulled_any r nm w (hr.needs.on hb hb.size) (λn h=>(hr.any n h).on hb hb.size) hr.nn
 refine zL 18 [] hA l.length cap i 1 hj (zI 19 [] 9 eb (eo+i*1+0) (.string (mkS s)) (λw hO=>hel0 w hO.below) (z7 (v:= .tuple #[YI kd,.string (mkS nm),.string (mkS sf)]) [] (λw hO=>hI w hO.below) (zG 25 [] (kd=2) (λh25=> ?_) (λh25=> ?_))))
 ·subst h25
  refine z7 (v:= .bool (optR r.rt.needs nm)) [0] (λw hO=>hO1 w hO.below) (zV 29 (optR r.rt.needs nm) (λe1=> ?_) (λe1=> ?_))
  ·exact x_i 14 [] ((i+1:Nat):Int) (nx (i+1) (l.length-(i+1)) [] Om ⟨⟨hj,hgo (by rw [hE,if_neg (λh=>by have:=h.2;rw [e1] at this;simp at this),if_neg (λh=>by simp at h)])⟩,rfl⟩ Kr Kr)
  ·have h14:xF r.rt.needs s=14:=by rw [hE,if_pos ⟨rfl,e1⟩]
   exact z8 [] (YI 14) λw hO=>⟨by rw [hat (by rw [h14];decide),h14],hO.below⟩
 refine zG 33 [] (kd=3) (λh33=> ?_) (λh33=> ?_)
 ·subst h33
  refine z7 (v:= .bool (pulR r.rt.needs nm)) [0] (λw hO=>hP1 w hO.below) (zV 37 (pulR r.rt.needs nm) (λe1=> ?_) (λe1=> ?_))
  ·exact x_i 14 [] ((i+1:Nat):Int) (nx (i+1) (l.length-(i+1)) [] Om ⟨⟨hj,hgo (by rw [hE,if_neg (λh=>by simp at h),if_neg (λh=>by have:=h.2;rw [e1] at this;simp at this)])⟩,rfl⟩ Kr Kr)
  ·have h16:xF r.rt.needs s=16:=by rw [hE,if_neg (λh=>by simp at h),if_pos ⟨rfl,e1⟩]
   exact z8 [] (YI 16) λw hO=>⟨by rw [hat (by rw [h16];decide),h16],hO.below⟩
 ·exact x_i 14 [] ((i+1:Nat):Int) (nx (i+1) (l.length-(i+1)) [] Om ⟨⟨hj,hgo (by rw [hE,if_neg (λh=>h25 h.1),if_neg (λh=>h33 h.1)])⟩,rfl⟩ Kr Kr)
end
section
set_option linter.unnecessarySimpa false
theorem wishE_targ (own:YL)(u:Wt)(al:Bool):kQ own u al=if vV own u.name u.rng≠0 then vV own u.name u.rng else if jK u.fs al=false then 11 else 0:=by
 unfold kQ vV
 split
 ·simp
 ·split
  ·simp
  ·split<;>simp
def needC (n:Nv)(b:Nat):Blk:=⟨b, #[.slice n.A n.any.length n.cap,.string (mkS n.wh),.string (mkS n.opt)],72⟩
theorem qNeed_any (own:YL)(n:Nv)(W:World)(hv:Reads wvC W W.heap.size n.A n.any)(hf:∀ u∈n.any,Reads zW W W.heap.size u.A u.fs)(hn:n.any.length<=5000)(hnf:∀ u∈n.any,u.fs.length<=5000)(hs:GqM n.wh/\n.opt.length<=1000000)(hsu:∀ u∈n.any,SuW u)(hK:RecLib W):YC 112 #[nvV n,.string (mkS own)] W (YR (YI (kK own n.nt)) W):=by
 have hE:=needE_is own n
 refine zD Tryz.func112 (zY [] λb2=>zG 11 [0] ((n.any.length:Int)=0) (λh11=> ?_) (λh11=> ?_))
 ·exact z8 [] (YI 9) λw hO=>⟨by rw [hE,if_pos (List.eq_nil_of_length_eq_zero Om)],hO.below⟩
 have h11':¬ n.any=[]:=λe=>h11 (by rw [e];rfl)
 rw [if_neg h11'] at hE
 refine zG 15 [0] ((n.any.length:Int)>3) (λh15=> ?_) (λh15=> ?_)
 ·exact z8 [] (YI 3) λw hO=>⟨by rw [hE,if_pos Om],hO.below⟩
 rw [if_neg (show ¬ 3<n.any.length by omega)] at hE
 refine zT (α:=Nat) (λi=>[(1,.string (mkS own)),(2,Zp b2 0),(17,.slice n.A n.any.length n.cap),(18,YI (n.any.length:Int)),(19,YI (i:Int))]) (λ_=>[needC n b2]) (λi m=>(i<=n.any.length∧∀ u∈n.any.take i,kQ own u.wt (decide (n.any.length=1))=0)/\m=n.any.length-i) 0 n.any.length [0] ⟨⟨Nat.zero_le _,λy h=>by simp at h⟩,rfl⟩ ?_
 rintro i mm g kk ⟨⟨hi,hno⟩,hmm⟩ nx hkk
 subst hkk
 refine zG 20 [] ((i:Int)<(n.any.length:Int)) (λh20=> ?_) (λh20=> ?_)
 ·have hj:i<n.any.length:=by omega
  obtain ⟨eb,eo,hA,hel⟩:=hv.elem v8 i hj
  have hgo:=yH (p:=λu:Wv=>kQ own u.wt (decide (n.any.length=1))=0) hj hno
  have hat:=nG (f:=λu:Wv=>kQ own u.wt (decide (n.any.length=1))) hj hno
  have hsm:n.any[i]∈n.any:=List.getElem_mem hj
  have hel0:∀ w,YB W w->(loadVar 139 ⟨eb,eo+i*4+0,none⟩).run YP w= .ok (wvV n.any[i]) w:=λw hw=>hel w hw _ 0 _ Kr
  have hru:=hf _ hsm;have hnu:=hnf _ hsm;have hlu:=hsu _ hsm
  generalize n.any[i]=u at hel0 hgo hat hru hnu hlu
  have hW:kQ own u.wt (decide (n.any.length=1))=if vV own u.name u.rng≠0 then vV own u.name u.rng else if (askB u.fs && (decide (n.any.length=1)||decide (u.fs=[])))=false then 11 else 0:=wishE_targ own u.wt _
  have c1:∀ w,YB W w->YC 159 #[.string (mkS u.name),.string (mkS u.rng),.string (mkS own)] w (YR (YI (vV own u.name u.rng)) w):=λw h=>qTarget_any u.name u.rng own w hlu.1 hlu.2.1 (hK.on h)
  have c2:∀ w,YB W w->YC 160 #[.slice u.A u.fs.length u.cap] w (YR (.bool (askB u.fs)) w):=λw hb=>qAsk_any u.A u.cap u.fs w (hru.on hb hb.size) hnu hlu.2.2
  refine zL 21 [] hA n.any.length n.cap i 4 hj (zI 22 [] 139 eb (eo+i*4+0) (wvV u) (λw hO=>hel0 w hO.below) (zH [] λb6=>z7 (v:=YI (vV own u.name u.rng)) [0,0,0] (λw hO=>c1 w hO.below) (gE 30 [] (vV own u.name u.rng=0) (λh1=> ?_) (λh1=> ?_))))
  rotate_left
  ·rw [if_pos h1] at hW
   refine z8 [] (YI (vV own u.name u.rng)) λw hO=>⟨?_,hO.below⟩
   rw [hE,hat (by rw [hW];exact h1),hW,if_pos h1]
  rw [if_neg (λq=>q h1)] at hW
  have fin:askB u.fs=false->kQ own u.wt (decide (n.any.length=1))=11:=λh=>by rw [hW,h];rfl
  have out:kQ own u.wt (decide (n.any.length=1))=11->kK own n.nt=11:=λh=>by
   rw [hE,hat (by rw [h];decide),h];rfl
  refine zG 35 [0] ((u.fs.length:Int)>0) (λh35=> ?_) (λh35=> ?_)
  ·refine zG 40 [1] ((n.any.length:Int)>1) (λh40=> ?_) (λh40=> ?_)
   ·refine z8 [] (YI 11) λw hO=>⟨?_,hO.below⟩
    rw [out (by rw [hW,decide_eq_false (show ¬ n.any.length=1 by omega),decide_eq_false (λe=>by rw [e] at h35;simp at h35)];simp)]
   ·refine z7 (v:= .bool (askB u.fs)) [0] (λw hO=>c2 w hO.below) (zV 45 (askB u.fs) (λh45=> ?_) (λh45=> ?_))
    ·have hz:kQ own u.wt (decide (n.any.length=1))=0:=by rw [hW,h45,decide_eq_true (show n.any.length=1 by omega)];rfl
     exact x_i 19 [] ((i+1:Nat):Int) (zQ [] [needC n b2] (λw hO=>hO.past 1 _) (nx (i+1) (n.any.length-(i+1)) [] Om ⟨⟨hj,hgo hz⟩,rfl⟩ Kr Kr))
    ·exact z8 [] (YI 11) λw hO=>⟨by rw [out (fin h45)],hO.below⟩
  ·refine z7 (v:= .bool (askB u.fs)) [0] (λw hO=>c2 w hO.below) (zV 45 (askB u.fs) (λh45=> ?_) (λh45=> ?_))
   ·have hz:kQ own u.wt (decide (n.any.length=1))=0:=by
     rw [hW,h45,decide_eq_true (show u.fs=[] from List.eq_nil_of_length_eq_zero Om)];simp
    exact x_i 19 [] ((i+1:Nat):Int) (zQ [] [needC n b2] (λw hO=>hO.past 1 _) (nx (i+1) (n.any.length-(i+1)) [] Om ⟨⟨hj,hgo hz⟩,rfl⟩ Kr Kr))
   ·exact z8 [] (YI 11) λw hO=>⟨by rw [out (fin h45)],hO.below⟩
 have hall:=j8 (xE (p:=λu:Wv=>kQ own u.wt (decide (n.any.length=1))=0) (show n.any.length<=i by omega) hno)
 rw [hall,if_neg (by simp)] at hE
 have h2:∀ w,YB W w->YC 161 #[.string (mkS n.wh)] w (YR (.bool (x7 n.wh)) w):=λw hb=>qMark_any n.wh w hs.1 (hK.on hb)
 have h3:∀ w,YB W w->YC 162 #[.string (mkS n.opt)] w (YR (.bool (wdL n.opt)) w):=λw hb=>bV n.opt w hs.2
 refine z7 (v:= .bool (x7 n.wh)) [0] (λw hO=>h2 w hO.below) (zV 51 (x7 n.wh) (λe3=> ?_) (λe3=> ?_))
 rotate_left
 ·exact z8 [] (YI 7) λw hO=>⟨by rw [hE,if_pos e3],hO.below⟩
 rw [if_neg (by simp [e3])] at hE
 refine jJ 55 [0] n.opt [] (λe4=> ?_) (λe4=> ?_)
 ·exact z8 [] (YI 0) λw hO=>⟨by rw [hE,if_neg (λh=>h.1 e4)],hO.below⟩
 refine z7 (v:= .bool (wdL n.opt)) [0] (λw hO=>h3 w hO.below) (zV 59 (wdL n.opt) (λe5=> ?_) (λe5=> ?_))
 ·exact z8 [] (YI 0) λw hO=>⟨by rw [hE,if_neg (λh=>by rw [e5] at h;simp at h)],hO.below⟩
 ·exact z8 [] (YI 14) λw hO=>⟨by rw [hE,if_pos ⟨e4,e5⟩],hO.below⟩
def pulB (s:YL)(n:Nv):Bool:=pulN s n.nt
theorem qOpt_any (n:Nv)(s:YL)(b:Nat)(W:World)(hc:W.heap[b]?=some (.cells #[.string (mkS s)] 9)):YC 165 #[nvV n,.pointer (some ⟨b,0,none⟩)] W (YR (.bool (decide (n.opt=s))) W):=by
 have hb:b<W.heap.size:=(Array.getElem?_eq_some_iff.1 hc).1
 refine zD Tryz.func165 (zY [] λb2=>zI 6 [0] 9 b 0 (.string (mkS s)) (λw hO=>yM Kr ((hO.below.block b hb).trans hc)) (xH 7 [] n.opt s (λh=> ?_) (λh=> ?_)))
 ·exact z8 [] Z4 λw hO=>⟨by rw [decide_eq_true h],hO.below⟩
 ·exact z8 [] Z5 λw hO=>⟨by rw [decide_eq_false h],hO.below⟩
theorem qPul_any (n:Nv)(s:YL)(b:Nat)(W:World)(hv:Reads wvC W W.heap.size n.A n.any)(hc:W.heap[b]?=some (.cells #[.string (mkS s)] 9)):YC 167 #[nvV n,.pointer (some ⟨b,0,none⟩)] W (YR (.bool (pulB s n)) W):=by
 have hb:b<W.heap.size:=(Array.getElem?_eq_some_iff.1 hc).1
 refine zD Tryz.func167 (zY [] λb2=>zG 7 [0] ((n.any.length:Int)=1) (λh7=> ?_) (λh7=> ?_))
 rotate_left
 ·refine z8 [] Z5 λw hO=>⟨?_,hO.below⟩
  have:pulB s n=false:=by
   unfold pulB pulN
   split
   ·rename_i x h
    have:=congrArg List.length h
    simp only [Nv.nt,List.length_map,List.length_cons,List.length_nil] at this
    omega
   ·rfl
  rw [this]
 have h1:n.any.length=1:=by omega
 obtain ⟨eb,eo,hA,hel⟩:=hv.elem v8 0 Om
 have hel0:∀ w,YB W w->(loadVar 9 ⟨eb,eo+0*4+0,none⟩).run YP w= .ok (.string (mkS (n.any[0]'Om).name)) w:=λw hw=>hel w hw _ 0 _ Kr
 have hp:pulB s n=decide ((n.any[0]'Om).name=s):=by
  obtain ⟨x,hx⟩:=List.length_eq_one_iff.1 h1
  have e:n.any[0]'Om=x:=by simp only [hx,List.getElem_cons_zero]
  rw [e]
  unfold pulB pulN
  rw [show n.nt.any=[x.wt] from by show n.any.map Wv.wt=_;rw [hx];rfl];rfl
 generalize n.any[0]=u at hel0 hp
 refine zL 11 [0] hA n.any.length n.cap 0 4 (by omega) (zI 13 [] 9 eb (eo+0*4+0) (.string (mkS u.name)) (λw hO=>hel0 w hO.below) (zI 14 [] 9 b 0 (.string (mkS s)) (λw hO=>yM Kr ((hO.below.block b hb).trans hc)) (xH 15 [] u.name s (λh=> ?_) (λh=> ?_))))
 ·exact z8 [] Z4 λw hO=>⟨by rw [hp,decide_eq_true h],hO.below⟩
 ·exact z8 [] Z5 λw hO=>⟨by rw [hp,decide_eq_false h],hO.below⟩
theorem qHas1_any (p:Nv->Bool)(A:Option Addr)(cap:Nat)(l:List Nv)(b:Nat)(W:World)(hv:Reads nvC W W.heap.size A l)(hn:l.length<=5000)(hp:∀ n∈l,∀ w,YB W w->YC 165 #[nvV n,.pointer (some ⟨b,0,none⟩)] w (YR (.bool (p n)) w)):YC 166 #[.slice A l.length cap,.func (.func 165) #[] #[.pointer (some ⟨b,0,none⟩)]] W (YR (.bool (l.any p)) W):=by
 have key:∀ w,YB W w->YC 214 #[.slice A l.length cap,.func (.func 165) #[] #[.pointer (some ⟨b,0,none⟩)]] w λe w'=>∃ v,e= .returned v/\(∃ z:Int,v=YI z/\decide (0<=z)=l.any p)/\YB w w':=λw0 hb0=>by
  have hv0:=hv.on hb0 hb0.size
  have hp0:∀ n∈l,∀ w,YB w0 w->YC 165 #[nvV n,.pointer (some ⟨b,0,none⟩)] w (YR (.bool (p n)) w):=λn hn w hb=>hp n hn w (hb0.trans (hb.mono hb0.size))
  clear hp hv hb0
  refine zD Tryz.func214 (zT (α:=Nat) (λi=>[(0,.slice A l.length cap),(1,.func (.func 165) #[] #[Zp b 0]),(7,YI (l.length:Int)),(8,YI (i:Int))]) (λ_=>[]) (λi m=>(i<=l.length∧∀ y∈l.take i,p y=false)/\m=l.length-i) 0 l.length [] ⟨⟨Nat.zero_le _,λy h=>by simp at h⟩,rfl⟩ ?_)
  rintro i mm g kk ⟨⟨hi,hno⟩,hmm⟩ nx hkk
  subst hkk
  refine zG 9 [] ((i:Int)<(l.length:Int)) (λh9=> ?_) (λh9=> ?_)
  rotate_left
  ·refine z8 [] (YI (-1)) λw hO=>⟨_,rfl,⟨-1,rfl, ?_⟩,hO.below⟩
   have hall:=xE (p:=λy:Nv=>p y=false) (show l.length<=i by omega) hno
   rw [show l.any p=false from List.any_eq_false.2 λy hy=>by rw [hall y hy];decide];rfl
  have hj:i<l.length:=by omega
  obtain ⟨eb,eo,hA,hel⟩:=hv0.elem qD i hj
  have hgo:=yH (p:=λy:Nv=>p y=false) hj hno
  have hsm:l[i]∈l:=List.getElem_mem hj
  have hel0:∀ w,YB w0 w->(loadVar 72 ⟨eb,eo+i*3+0,none⟩).run YP w= .ok (nvV l[i]) w:=λw hw=>hel w hw _ 0 _ Kr
  have hcf:=hp0 _ hsm
  generalize l[i]=n at hel0 hgo hcf hsm
  refine zL 14 [] hA l.length cap i 3 hj (zI 15 [] 72 eb (eo+i*3+0) (nvV n) (λw hO=>hel0 w hO.below) (z7 (v:= .bool (p n)) [] (λw hO=>hcf w hO.below) (zV 16 (p n) (λh16=> ?_) (λh16=> ?_))))
  ·refine z8 [] (YI (i:Int)) λw hO=>⟨_,rfl,⟨(i:Int),rfl, ?_⟩,hO.below⟩
   rw [show l.any p=true from List.any_eq_true.2 ⟨n,hsm,h16⟩,decide_eq_true Om]
  ·exact x_i 18 [] ((i+1:Nat):Int) (nx (i+1) (l.length-(i+1)) [] Om ⟨⟨hj,hgo h16⟩,rfl⟩ Kr Kr)
 refine zD Tryz.func166 (wS (R:=λv=>∃ z:Int,v=YI z/\decide (0<=z)=l.any p) [] (λw hO=>key w hO.below) ?_)
 rintro v ⟨z,rfl,hz⟩
 exact z8 [] (.bool (decide (0<=z))) λw hO=>⟨by rw [hz],hO.below⟩
theorem qHas2_any (p:Nv->Bool)(A:Option Addr)(cap:Nat)(l:List Nv)(b:Nat)(W:World)(hv:Reads nvC W W.heap.size A l)(hn:l.length<=5000)(hp:∀ n∈l,∀ w,YB W w->YC 167 #[nvV n,.pointer (some ⟨b,0,none⟩)] w (YR (.bool (p n)) w)):YC 166 #[.slice A l.length cap,.func (.func 167) #[] #[.pointer (some ⟨b,0,none⟩)]] W (YR (.bool (l.any p)) W):=by
 have key:∀ w,YB W w->YC 214 #[.slice A l.length cap,.func (.func 167) #[] #[.pointer (some ⟨b,0,none⟩)]] w λe w'=>∃ v,e= .returned v/\(∃ z:Int,v=YI z/\decide (0<=z)=l.any p)/\YB w w':=λw0 hb0=>by
  have hv0:=hv.on hb0 hb0.size
  have hp0:∀ n∈l,∀ w,YB w0 w->YC 167 #[nvV n,.pointer (some ⟨b,0,none⟩)] w (YR (.bool (p n)) w):=λn hn w hb=>hp n hn w (hb0.trans (hb.mono hb0.size))
  clear hp hv hb0
  refine zD Tryz.func214 (zT (α:=Nat) (λi=>[(0,.slice A l.length cap),(1,.func (.func 167) #[] #[Zp b 0]),(7,YI (l.length:Int)),(8,YI (i:Int))]) (λ_=>[]) (λi m=>(i<=l.length∧∀ y∈l.take i,p y=false)/\m=l.length-i) 0 l.length [] ⟨⟨Nat.zero_le _,λy h=>by simp at h⟩,rfl⟩ ?_)
  rintro i mm g kk ⟨⟨hi,hno⟩,hmm⟩ nx hkk
  subst hkk
  refine zG 9 [] ((i:Int)<(l.length:Int)) (λh9=> ?_) (λh9=> ?_)
  rotate_left
  ·refine z8 [] (YI (-1)) λw hO=>⟨_,rfl,⟨-1,rfl, ?_⟩,hO.below⟩
   have hall:=xE (p:=λy:Nv=>p y=false) (show l.length<=i by omega) hno
   rw [show l.any p=false from List.any_eq_false.2 λy hy=>by rw [hall y hy];decide];rfl
  have hj:i<l.length:=by omega
  obtain ⟨eb,eo,hA,hel⟩:=hv0.elem qD i hj
  have hgo:=yH (p:=λy:Nv=>p y=false) hj hno
  have hsm:l[i]∈l:=List.getElem_mem hj
  have hel0:∀ w,YB w0 w->(loadVar 72 ⟨eb,eo+i*3+0,none⟩).run YP w= .ok (nvV l[i]) w:=λw hw=>hel w hw _ 0 _ Kr
  have hcf:=hp0 _ hsm
  generalize l[i]=n at hel0 hgo hcf hsm
  refine zL 14 [] hA l.length cap i 3 hj (zI 15 [] 72 eb (eo+i*3+0) (nvV n) (λw hO=>hel0 w hO.below) (z7 (v:= .bool (p n)) [] (λw hO=>hcf w hO.below) (zV 16 (p n) (λh16=> ?_) (λh16=> ?_))))
  ·refine z8 [] (YI (i:Int)) λw hO=>⟨_,rfl,⟨(i:Int),rfl, ?_⟩,hO.below⟩
   rw [show l.any p=true from List.any_eq_true.2 ⟨n,hsm,h16⟩,decide_eq_true Om]
  ·exact x_i 18 [] ((i+1:Nat):Int) (nx (i+1) (l.length-(i+1)) [] Om ⟨⟨hj,hgo h16⟩,rfl⟩ Kr Kr)
 refine zD Tryz.func166 (wS (R:=λv=>∃ z:Int,v=YI z/\decide (0<=z)=l.any p) [] (λw hO=>key w hO.below) ?_)
 rintro v ⟨z,rfl,hz⟩
 exact z8 [] (.bool (decide (0<=z))) λw hO=>⟨by rw [hz],hO.below⟩
theorem qItems_any (A:Option Addr)(cap:Nat)(of:List YL)(B:Option Addr)(capb:Nat)(l:List Nv)(W:World)(hu:Reads zW W W.heap.size A of)(ho:of.length<=5000)(ht:∀ s∈of,s.length<=1000000)(hv:Reads nvC W W.heap.size B l)(hn:l.length<=5000)(hva:∀ n∈l,Reads wvC W W.heap.size n.A n.any):YC 115 #[.slice A of.length cap,.slice B l.length capb] W (YR (YI (yR (xF (l.map Nv.nt)) of)) W):=by
 refine zD Tryz.func115 (zT (α:=Nat) (λi=>[(1,.slice B l.length capb),(12,.slice A of.length cap),(13,YI (of.length:Int)),(14,YI (i:Int))]) (λ_=>[]) (λi m=>(i<=of.length∧∀ s∈of.take i,xF (l.map Nv.nt) s=0)/\m=of.length-i) 0 of.length [] ⟨⟨Nat.zero_le _,λy h=>by simp at h⟩,rfl⟩ ?_)
 rintro i mm g kk ⟨⟨hi,hno⟩,hmm⟩ nx hkk
 subst hkk
 refine zG 15 [] ((i:Int)<(of.length:Int)) (λh15=> ?_) (λh15=> ?_)
 rotate_left
 ·refine z8 [] (YI 0) λw hO=>⟨?_,hO.below⟩
  rw [j8 (xE (p:=λs=>xF (l.map Nv.nt) s=0) (show of.length<=i by omega) hno)]
 have hj:i<of.length:=by omega
 obtain ⟨eb,eo,hA,hel⟩:=hu.elem zR i hj
 have hgo:=yH (p:=λs=>xF (l.map Nv.nt) s=0) hj hno
 have hat:=nG (f:=xF (l.map Nv.nt)) hj hno
 have hsh:=ht _ (List.getElem_mem hj)
 have hel0:∀ w,YB W w->(loadVar 9 ⟨eb,eo+i*1+0,none⟩).run YP w= .ok (.string (mkS of[i])) w:=λw hw=>hel w hw _ 0 _ Kr
 generalize of[i]=s at hel0 hgo hat hsh
 have hI:xF (l.map Nv.nt) s=if (zO s).1=2/\(l.any λn=>decide (n.opt=(zO s).2.1))=false then 14 else if (zO s).1=3/\l.any (pulB (zO s).2.1)=false then 16 else 0:=by
  unfold xF optR pulR
  simp only [List.any_map];rfl
 refine zL 16 [] hA of.length cap i 1 hj (zI 17 [] 9 eb (eo+i*1+0) (.string (mkS s)) (λw hO=>hel0 w hO.below) (z7 (v:= .tuple #[YI (zO s).1,.string (mkS (zO s).2.1),.string (mkS (zO s).2.2)]) [] (λw hO=>fItem_at s w hsh) (zH [] λb8=> ?_)))
 have hc1:∀ w,Own [] W w [⟨b8, #[.string (mkS (zO s).2.1)],9⟩]->YC 166 #[.slice B l.length capb,.func (.func 165) #[] #[.pointer (some ⟨b8,0,none⟩)]] w (YR (.bool (l.any λn=>decide (n.opt=(zO s).2.1))) w):=λw hO=>by
  have hg:w.heap[b8]?=some (.cells #[.string (mkS (zO s).2.1)] 9):=hO.get (i:=0) rfl
  exact qHas1_any _ B capb l b8 w (hv.on hO.below hO.size) hn λn hn w2 hb=>qOpt_any n (zO s).2.1 b8 w2 ((hb.block b8 (Array.getElem?_eq_some_iff.1 hg).1).trans hg)
 have hc2:∀ w,Own [] W w [⟨b8, #[.string (mkS (zO s).2.1)],9⟩]->YC 166 #[.slice B l.length capb,.func (.func 167) #[] #[.pointer (some ⟨b8,0,none⟩)]] w (YR (.bool (l.any (pulB (zO s).2.1))) w):=λw hO=>by
  have hg:w.heap[b8]?=some (.cells #[.string (mkS (zO s).2.1)] 9):=hO.get (i:=0) rfl
  exact qHas2_any _ B capb l b8 w (hv.on hO.below hO.size) hn λn hn w2 hb=>qPul_any n (zO s).2.1 b8 w2 (((hva n hn).on hO.below hO.size).on hb hb.size) ((hb.block b8 (Array.getElem?_eq_some_iff.1 hg).1).trans hg)
 have next:xF (l.map Nv.nt) s=0→∀ m',m'=of.length-(i+1)->m'<mm/\(i+1<=of.length∧∀ s∈of.take (i+1),xF (l.map Nv.nt) s=0)/\m'=of.length-(i+1):=λh m' e=>⟨by omega,⟨hj,hgo h⟩,e⟩
 refine x_val 24 [0] (.func (.func 165) #[] #[Zp b8 0]) (λw=>Kr) (zG 26 [] ((zO s).1=2) (λh26=> ?_) (λh26=> ?_))
 ·refine z7 (v:= .bool (l.any λn=>decide (n.opt=(zO s).2.1))) [] (λw hO=>hc1 w (hO.past 0 _)) (zV 30 (l.any λn=>decide (n.opt=(zO s).2.1)) (λh30=> ?_) (λh30=> ?_))
  rotate_left
  ·refine z8 [] (YI 14) λw hO=>⟨?_,hO.below⟩
   have:xF (l.map Nv.nt) s=14:=by rw [hI,if_pos ⟨h26,h30⟩]
   rw [hat (by rw [this];decide),this]
  have hz:xF (l.map Nv.nt) s=0:=by rw [hI,if_neg (by rw [h30];simp),if_neg (λq=>by rw [h26] at q;exact absurd q.1 (by decide))]
  obtain ⟨q1,q2,q3⟩:=next hz _ rfl
  exact x_val 33 [] (.func (.func 167) #[] #[Zp b8 0]) (λw=>Kr) (zG 35 [] ((zO s).1=3) (λh=>absurd (h26.symm.trans h) (by decide)) (λh=>x_i 14 [] ((i+1:Nat):Int) (zQ [] [] (λw hO=>hO.no) (nx (i+1) _ [] q1 ⟨q2,q3⟩ Kr Kr))))
 ·refine x_val 33 [] (.func (.func 167) #[] #[Zp b8 0]) (λw=>Kr) (zG 35 [] ((zO s).1=3) (λh35=> ?_) (λh35=> ?_))
  rotate_left
  ·have hz:xF (l.map Nv.nt) s=0:=by rw [hI,if_neg (λq=>h26 q.1),if_neg (λq=>h35 q.1)]
   obtain ⟨q1,q2,q3⟩:=next hz _ rfl
   exact x_i 14 [] ((i+1:Nat):Int) (zQ [] [] (λw hO=>hO.no) (nx (i+1) _ [] q1 ⟨q2,q3⟩ Kr Kr))
  refine z7 (v:= .bool (l.any (pulB (zO s).2.1))) [] (λw hO=>hc2 w (hO.past 0 _)) (zV 39 (l.any (pulB (zO s).2.1)) (λh39=> ?_) (λh39=> ?_))
  ·have hz:xF (l.map Nv.nt) s=0:=by rw [hI,if_neg (λq=>h26 q.1),if_neg (by rw [h39];simp)]
   obtain ⟨q1,q2,q3⟩:=next hz _ rfl
   exact x_i 14 [] ((i+1:Nat):Int) (zQ [] [] (λw hO=>hO.no) (nx (i+1) _ [] q1 ⟨q2,q3⟩ Kr Kr))
  ·refine z8 [] (YI 16) λw hO=>⟨?_,hO.below⟩
   have:xF (l.map Nv.nt) s=16:=by rw [hI,if_neg (λq=>h26 q.1),if_pos ⟨h35,h39⟩]
   rw [hat (by rw [this];decide),this]
end
section
set_option linter.unnecessarySimpa false
theorem strC_one (s:YL):∀ u∈zW s,u.oneCell'=true:=λu hu=>by rw [List.mem_singleton.1 hu];rfl
theorem r12text_any (r:Rv)(W:World)(hr:RcIn W W.heap.size r)(ht:(yK r.rt).length<=100000000):YC 80 #[rvV r] W (YR (.string (mkS (yK r.rt))) W):=by
 have hT:yK r.rt=vO r.rt++r.needs.flatMap (λn=>k8 n.nt)++r.bars.flatMap (λb=>jD b.bt)++r.fts.flatMap (λf=>g0 f.ft):=by
  unfold yK;simp only [Rv.rt,yI,List.flatMap_map]
 have hl:=congrArg List.length hT
 simp only [List.length_append] at hl
 have hp8:txPack.length=8:=rfl
 have hn5:txNeed.length=5:=rfl
 have ho7:txOpt.length=7:=rfl
 have hb4:txBar.length=4:=rfl
 have hsn:=hr.sn
 have hnn:=hr.nn;have hnb:=hr.nb;have hfn:=hr.fts.n
 have hH:(vO r.rt).length=8+r.name.length+1+r.ver.print.length+1:=by
  show (txPack++r.name++[32]++r.ver.print++[10]).length=_
  simp only [List.length_append,List.length_cons,List.length_nil,hp8]
 have hP:∀ w,YB W w->YC 125 #[yT r.ver] w (YR (.string (mkS r.ver.print)) w):=λw hb=>rprint_any r.ver w hsn.2.1 hsn.2.2
 refine zD Tryz.func80 (zY [] λb1=>gD 10 [0] txPack r.name (gD 11 [] (txPack++r.name) [32] (z7 (v:= .string (mkS r.ver.print)) [0] (λw hO=>hP w hO.below) (gD 15 [] (txPack++r.name++[32]) r.ver.print (gD 16 [] (txPack++r.name++[32]++r.ver.print) [10] ?_)))))
 refine zT (α:=Nat×YL) (λx=>[(1,Zp b1 0),(3,.string (mkS x.2)),(4,YI (x.1:Int))]) (λ_=>[⟨b1,(rvC r).toArray,47⟩]) (λx m=>(x.1<=r.needs.length/\x.2=vO r.rt++(r.needs.take x.1).flatMap (λn=>k8 n.nt))/\m=r.needs.length-x.1) (0,txPack++r.name++[32]++r.ver.print++[10]) r.needs.length [] ⟨⟨Nat.zero_le _,by show _=vO r.rt++[];rw [List.append_nil];rfl⟩,rfl⟩ ?_
 rintro ⟨i,s⟩ mm g kk ⟨⟨hi,hs⟩,hmm⟩ nx hkk
 subst hkk
 replace hi:i<=r.needs.length:=hi
 replace hs:s=vO r.rt++(r.needs.take i).flatMap (λn=>k8 n.nt):=hs
 have hsl:s.length<=100000000:=by
  have:=dY (λn:Nv=>k8 n.nt) (l:=r.needs) i
  rw [hs,List.length_append];omega
 refine zG 21 [0] ((i:Int)<(r.needs.length:Int)) (λh21=> ?_) (λh21=> ?_)
 ·have hj:i<r.needs.length:=by omega
  obtain ⟨eb,eo,hA,hel⟩:=hr.needs.elem qD i hj
  have hst:=jI (λn:Nv=>k8 n.nt) hj
  have hmem:r.needs[i]∈r.needs:=List.getElem_mem hj
  have hone:=fm_one (λn:Nv=>k8 n.nt) hmem
  have la:∀ w,YB W w->(loadVar 70 ⟨eb,eo+i*3+0,none⟩).run YP w= .ok (.slice r.needs[i].A r.needs[i].any.length r.needs[i].cap) w:=λw hw=>hel w hw _ 0 _ Kr
  have lw:∀ w,YB W w->(loadVar 9 ⟨eb,eo+i*3+1,none⟩).run YP w= .ok (.string (mkS r.needs[i].wh)) w:=λw hw=>hel w hw _ 1 _ Kr
  have lo:∀ w,YB W w->(loadVar 9 ⟨eb,eo+i*3+2,none⟩).run YP w= .ok (.string (mkS r.needs[i].opt)) w:=λw hw=>hel w hw _ 2 _ Kr
  have hra:=hr.any _ hmem;have hrf:=hr.wfs _ hmem;have hna:=hr.na _ hmem;have hnf:=hr.nf _ hmem;have hsw:=hr.sw _ hmem
  have hs2:s++k8 r.needs[i].nt=vO r.rt++(r.needs.take (i+1)).flatMap (λn=>k8 n.nt):=by rw [hst,hs,List.append_assoc]
  generalize r.needs[i]=n at la lw lo hone hra hrf hna hnf hsw hs2
  have hnT:k8 n.nt=txNeed++n.any.flatMap (λu=>kH u.wt)++qM n.wh++n6 n.opt:=by
   unfold k8;simp only [Nv.nt,List.flatMap_map]
  have hnl:=congrArg List.length hnT
  simp only [List.length_append] at hnl
  rw [hnT] at hs2
  have hWh:∀ w,YB W w->YC 127 #[.string (mkS n.wh)] w (YR (.string (mkS (qM n.wh))) w):=λw hb=>r12when_any n.wh w (gqM_len hsw.1)
  refine gD 25 [] s txNeed (zT (α:=Nat×YL) (λx=>[(1,Zp b1 0),(3,.string (mkS x.2)),(4,YI (i:Int)),(5,YI (x.1:Int))]) (λ_=>[⟨b1,(rvC r).toArray,47⟩]) (λx m=>(x.1<=n.any.length/\x.2=s++txNeed++(n.any.take x.1).flatMap (λu=>kH u.wt))/\m=n.any.length-x.1) (0,s++txNeed) n.any.length [] ⟨⟨Nat.zero_le _,by show _=s++txNeed++[];rw [List.append_nil]⟩,rfl⟩ ?_)
  rintro ⟨k,y⟩ mk gk kk ⟨⟨hk,hy⟩,hmk⟩ ny hkk
  subst hkk
  replace hk:k<=n.any.length:=hk
  replace hy:y=s++txNeed++(n.any.take k).flatMap (λu=>kH u.wt):=hy
  have hyl:y.length<=300000000:=by
   have:=dY (λu:Wv=>kH u.wt) (l:=n.any) k
   rw [hy,List.length_append,List.length_append];omega
  refine zL 30 [0] hA r.needs.length r.nc i 3 hj (zI 32 [] 70 eb (eo+i*3+0) (.slice n.A n.any.length n.cap) (λw hO=>la w hO.below) (zG 34 [] ((k:Int)<(n.any.length:Int)) (λh34=> ?_) (λh34=> ?_)))
  ·have hkj:k<n.any.length:=by omega
   obtain ⟨fb,fo,hA2,hel2⟩:=hra.elem v8 k hkj
   have hst2:=jI (λu:Wv=>kH u.wt) hkj
   have hmem2:n.any[k]∈n.any:=List.getElem_mem hkj
   have hone2:=fm_one (λu:Wv=>kH u.wt) hmem2
   have lu:∀ w,YB W w->(loadVar 139 ⟨fb,fo+k*4+0,none⟩).run YP w= .ok (wvV n.any[k]) w:=λw hw=>hel2 w hw _ 0 _ Kr
   have hru:=hrf _ hmem2;have hnu:=hnf _ hmem2
   have hy2:y++kH n.any[k].wt=s++txNeed++(n.any.take (k+1)).flatMap (λu=>kH u.wt):=by rw [hst2,hy,List.append_assoc]
   generalize n.any[k]=u at lu hone2 hru hnu hy2
   have hc:∀ w,YB W w->YC 126 #[wvV u] w (YR (.string (mkS (kH u.wt))) w):=λw hb=>r12wished_any u w (hru.on hb hb.size) hnu Om
   refine zL 41 [0] hA r.needs.length r.nc i 3 hj (zI 43 [] 70 eb (eo+i*3+0) (.slice n.A n.any.length n.cap) (λw hO=>la w hO.below) (zL 45 [] hA2 n.any.length n.cap k 4 hkj (zI 46 [] 139 fb (fo+k*4+0) (wvV u) (λw hO=>lu w hO.below) (z7 (v:= .string (mkS (kH u.wt))) [] (λw hO=>hc w hO.below) (gD 48 [] y (kH u.wt) (x_i 36 [] ((k+1:Nat):Int) (ny (k+1,y++kH u.wt) (n.any.length-(k+1)) [] Om ⟨⟨hkj,hy2⟩,rfl⟩ Kr Kr)))))))
  have hy2:y=s++txNeed++n.any.flatMap (λu=>kH u.wt):=by rw [hy,List.take_of_length_le Om]
  clear ny
  refine zL 53 [0] hA r.needs.length r.nc i 3 hj (zI 55 [] 9 eb (eo+i*3+1) (.string (mkS n.wh)) (λw hO=>lw w hO.below) (z7 (v:= .string (mkS (qM n.wh))) [] (λw hO=>hWh w hO.below) (gD 57 [] y (qM n.wh) (zL 61 [0] hA r.needs.length r.nc i 3 hj (zI 63 [] 9 eb (eo+i*3+2) (.string (mkS n.opt)) (λw hO=>lo w hO.below) (jJ 64 [] n.opt [] (λh64=> ?_) (λh64=> ?_)))))))
  ·exact x_i 23 [] ((i+1:Nat):Int) (nx (i+1,y++qM n.wh) (r.needs.length-(i+1)) [] Om ⟨⟨hj,by
    rw [←hs2,show n6 n.opt=[] from if_pos h64,hy2,List.append_nil];simp only [List.append_assoc]⟩,rfl⟩ Kr Kr)
  ·have hol:(n6 n.opt).length=7+n.opt.length+1:=by
    rw [show n6 n.opt=txOpt++n.opt++[10] from if_neg h64];simp only [List.length_append,List.length_cons,List.length_nil,ho7]
   refine gD 66 [] (y++qM n.wh) txOpt (zL 70 [0] hA r.needs.length r.nc i 3 hj (zI 72 [] 9 eb (eo+i*3+2) (.string (mkS n.opt)) (λw hO=>lo w hO.below) (gD 73 [] (y++qM n.wh++txOpt) n.opt (gD 74 [] (y++qM n.wh++txOpt++n.opt) [10] ?_))))
   exact x_i 23 [] ((i+1:Nat):Int) (nx (i+1,y++qM n.wh++txOpt++n.opt++[10]) (r.needs.length-(i+1)) [] Om ⟨⟨hj,by
    rw [←hs2,show n6 n.opt=txOpt++n.opt++[10] from if_neg h64,hy2];simp only [List.append_assoc]⟩,rfl⟩ Kr Kr)
 have hs':s=vO r.rt++r.needs.flatMap (λn=>k8 n.nt):=by rw [hs,List.take_of_length_le Om]
 clear nx hs
 refine zT (α:=Nat×YL) (λx=>[(1,Zp b1 0),(3,.string (mkS x.2)),(6,YI (x.1:Int))]) (λ_=>[⟨b1,(rvC r).toArray,47⟩]) (λx m=>(x.1<=r.bars.length/\x.2=s++(r.bars.take x.1).flatMap (λb=>jD b.bt))/\m=r.bars.length-x.1) (0,s) r.bars.length [] ⟨⟨Nat.zero_le _,by show _=s++[];rw [List.append_nil]⟩,rfl⟩ ?_
 rintro ⟨i2,z⟩ m2 g2 kk ⟨⟨hi2,hz⟩,hm2⟩ nx hkk
 subst hkk
 replace hi2:i2<=r.bars.length:=hi2
 replace hz:z=s++(r.bars.take i2).flatMap (λb=>jD b.bt):=hz
 have hzl:z.length<=200000000:=by
  have:=dY (λb:Bv=>jD b.bt) (l:=r.bars) i2
  rw [hz,List.length_append];omega
 refine zG 79 [0] ((i2:Int)<(r.bars.length:Int)) (λh79=> ?_) (λh79=> ?_)
 ·have hj:i2<r.bars.length:=by omega
  obtain ⟨eb,eo,hA,hel⟩:=hr.bars.elem mE i2 hj
  have hst:=jI (λb:Bv=>jD b.bt) hj
  have hmem:r.bars[i2]∈r.bars:=List.getElem_mem hj
  have hone:=fm_one (λb:Bv=>jD b.bt) hmem
  have l0:∀ w,YB W w->(loadVar 9 ⟨eb,eo+i2*3+0,none⟩).run YP w= .ok (.string (mkS r.bars[i2].name)) w:=λw hw=>hel w hw _ 0 _ Kr
  have l1:∀ w,YB W w->(loadVar 9 ⟨eb,eo+i2*3+1,none⟩).run YP w= .ok (.string (mkS r.bars[i2].rng)) w:=λw hw=>hel w hw _ 1 _ Kr
  have l2:∀ w,YB W w->(loadVar 9 ⟨eb,eo+i2*3+2,none⟩).run YP w= .ok (.string (mkS r.bars[i2].wh)) w:=λw hw=>hel w hw _ 2 _ Kr
  have hsb:=hr.sb _ hmem
  have hz2:z++jD r.bars[i2].bt=s++(r.bars.take (i2+1)).flatMap (λb=>jD b.bt):=by rw [hst,hz,List.append_assoc]
  generalize r.bars[i2]=b at l0 l1 l2 hone hsb hz2
  have hbT:jD b.bt=txBar++b.name++[32]++b.rng++[10]++qM b.wh:=rfl
  have hbl:=congrArg List.length hbT
  simp only [List.length_append,List.length_cons,List.length_nil] at hbl
  rw [hbT] at hz2
  have hWh:∀ w,YB W w->YC 127 #[.string (mkS b.wh)] w (YR (.string (mkS (qM b.wh))) w):=λw hb=>r12when_any b.wh w (gqM_len hsb.2.2)
  refine gD 83 [] z txBar (zL 87 [0] hA r.bars.length r.bc i2 3 hj (zI 89 [] 9 eb (eo+i2*3+0) (.string (mkS b.name)) (λw hO=>l0 w hO.below) (gD 90 [] (z++txBar) b.name (gD 91 [] (z++txBar++b.name) [32] (zL 95 [0] hA r.bars.length r.bc i2 3 hj (zI 97 [] 9 eb (eo+i2*3+1) (.string (mkS b.rng)) (λw hO=>l1 w hO.below) (gD 98 [] (z++txBar++b.name++[32]) b.rng (gD 99 [] (z++txBar++b.name++[32]++b.rng) [10] (zL 103 [0] hA r.bars.length r.bc i2 3 hj (zI 105 [] 9 eb (eo+i2*3+2) (.string (mkS b.wh)) (λw hO=>l2 w hO.below) (z7 (v:= .string (mkS (qM b.wh))) [] (λw hO=>hWh w hO.below) (gD 107 [] (z++txBar++b.name++[32]++b.rng++[10]) (qM b.wh) ?_))))))))))))
  exact x_i 81 [] ((i2+1:Nat):Int) (nx (i2+1,z++txBar++b.name++[32]++b.rng++[10]++qM b.wh) (r.bars.length-(i2+1)) [] Om ⟨⟨hj,by rw [←hz2];simp only [List.append_assoc]⟩,rfl⟩ Kr Kr)
 have hz':z=s++r.bars.flatMap (λb=>jD b.bt):=by rw [hz,List.take_of_length_le Om]
 clear nx hz
 refine zT (α:=Nat×YL) (λx=>[(1,Zp b1 0),(3,.string (mkS x.2)),(7,YI (x.1:Int))]) (λ_=>[⟨b1,(rvC r).toArray,47⟩]) (λx m=>(x.1<=r.fts.length/\x.2=z++(r.fts.take x.1).flatMap (λf=>g0 f.ft))/\m=r.fts.length-x.1) (0,z) r.fts.length [] ⟨⟨Nat.zero_le _,by show _=z++[];rw [List.append_nil]⟩,rfl⟩ ?_
 rintro ⟨i3,q⟩ m3 g3 kk ⟨⟨hi3,hq⟩,hm3⟩ nx hkk
 subst hkk
 replace hi3:i3<=r.fts.length:=hi3
 replace hq:q=z++(r.fts.take i3).flatMap (λf=>g0 f.ft):=hq
 have hql:q.length<=300000000:=by
  have:=dY (λf:Fv=>g0 f.ft) (l:=r.fts) i3
  rw [hq,List.length_append];omega
 refine zG 112 [0] ((i3:Int)<(r.fts.length:Int)) (λh112=> ?_) (λh112=> ?_)
 rotate_left
 ·refine z8 [] (.string (mkS q)) λw hO=>⟨?_,hO.below⟩
  rw [hT,hq,List.take_of_length_le Om,hz',hs']
 have hj:i3<r.fts.length:=by omega
 obtain ⟨eb,eo,hA,hel⟩:=hr.fts.top.elem vH i3 hj
 have hst:=jI (λf:Fv=>g0 f.ft) hj
 have hmem:r.fts[i3]∈r.fts:=List.getElem_mem hj
 have hone:=fm_one (λf:Fv=>g0 f.ft) hmem
 have l0:∀ w,YB W w->(loadVar 9 ⟨eb,eo+i3*2+0,none⟩).run YP w= .ok (.string (mkS r.fts[i3].name)) w:=λw hw=>hel w hw _ 0 _ Kr
 have l1:∀ w,YB W w->(loadVar 85 ⟨eb,eo+i3*2+1,none⟩).run YP w= .ok (.slice r.fts[i3].A r.fts[i3].of.length r.fts[i3].cap) w:=λw hw=>hel w hw _ 1 _ Kr
 have hru:=hr.fts.each _ hmem;have hmu:=hr.fts.m _ hmem
 have hq2:q++g0 r.fts[i3].ft=z++(r.fts.take (i3+1)).flatMap (λf=>g0 f.ft):=by rw [hst,hq,List.append_assoc]
 generalize r.fts[i3]=u at l0 l1 hone hru hmu hq2
 have hfT:g0 u.ft=zE 32 (yE::u.name::u.of)++[10]:=rfl
 have hfl:=congrArg List.length hfT
 simp only [List.length_append,List.length_cons,List.length_nil] at hfl
 rw [hfT] at hq2
 refine dJ 18 [] (qJ 50119 [0] 4 hA r.fts.length r.fc i3 2 hj (qT 50121 [] 6 9 eb (eo+i3*2+0) (.string (mkS u.name)) (λw hO=>l0 w hO.below) (qJ 50126 [0] 11 hA r.fts.length r.fc i3 2 hj (qT 50128 [] 13 85 eb (eo+i3*2+1) (.slice u.A u.of.length u.cap) (λw hO=>l1 w hO.below) ?_))))
 refine zX [] 7 (gR 2 9 #[.string (mkS yE),.string (mkS u.name)] λb3=>zX [] 14 (qR (g:=zW) u.of [] [⟨b3, #[.string (mkS yE),.string (mkS u.name)],9⟩] [⟨b1,(rvC r).toArray,47⟩] [⟨b3, #[.string (mkS yE),.string (mkS u.name)],9⟩,⟨b1,(rvC r).toArray,47⟩] [⟨b1,(rvC r).toArray,47⟩] (cp:=u.cap) (λw hO=>by simpa using hO) (λo w hO=>Own.sub o (by simpa using hO)) zR strC_one (λw hO=>hru.on hO.below hO.below.size) (sl_block (N:=2) rfl (by unfold maxLen;omega)) Om λv' ob' h=> ?_))
 have hS:SlT v' (yE::u.name::u.of) ob':=by
  unfold SlT
  rw [xK,show (yE::u.name::u.of).length=2+u.of.length by simp only [List.length_cons];omega]
  exact h
 have hJ:∀ w,Own [] W w (ob'++[⟨b1,(rvC r).toArray,47⟩])->YC 128 #[v',.int .u8 32] w (YR (.string (mkS (zE 32 (yE::u.name::u.of)))) w):=λw hO=>tT v' _ 32 w (hS.readsT hO λx hx=>List.mem_append_left _ hx) Om (by simp only [List.length_cons];omega)
 refine zX [] 15 (z7 (v:= .string (mkS (zE 32 (yE::u.name::u.of)))) [] (λw hO=>hJ w (hO.past 0 _)) (wQ 50131 [] 16 q (zE 32 (yE::u.name::u.of)) (wQ 50132 [] 17 (q++zE 32 (yE::u.name::u.of)) [10] ?_)))
 refine x_i 114 [] ((i3+1:Nat):Int) (zQ [] [⟨b1,(rvC r).toArray,47⟩] (λw hO=>Own.sub ob' (hO.past 0 _)) ?_)
 exact (nx (i3+1,q++zE 32 (yE::u.name::u.of)++[10]) (r.fts.length-(i3+1)) [] Om ⟨⟨hj,by rw [←hq2];simp only [List.append_assoc]⟩,rfl⟩ Kr Kr)
end
section
def BuR (b:Nat)(l:YL)(ob:List Blk):Prop:=
 ∃ p v g,ob=⟨b, #[p,v],162⟩::g/\(p= .pointer none\/p= .pointer (some ⟨b,0,none⟩))/\Sl 5 1 v l.length (Lib.byteCells l) g
theorem BuR.new (b:Nat):BuR b [] [⟨b, #[.pointer none,.slice none 0 0],162⟩]:=⟨_,_,[],rfl,.inl rfl,Sl.nil _ _⟩
theorem sizeWriterR:(Tryz.prog.info? 75).map (·.size)=some 2:=by kernel_rfl
theorem liesWriterR:liesAt YP Tryz.prog.depth 162 (2/Tryz.prog.cellsOf 162) 0 75 1=true:=by kernel_rfl
theorem copyCheck_newR (b:Nat)(w:World)(h0:w.cell? ⟨b,0,none⟩=some (.pointer none))(hsh:w.shape? b=some (162,2))(hfz:w.frozen? ⟨b,0,none⟩=false):
  YC 71 #[.pointer (some ⟨b,0,none⟩)] w λe w'=>e= .returned (.tuple #[])/\w'=w.setCell ⟨b,0,none⟩ (.pointer (some ⟨b,0,none⟩)):=by
 obtain ⟨j,hj,hjs⟩:=Option.map_eq_some_iff.1 sizeWriterR
 go_enter Tryz.func71,Tryz.ntmps71
 go_wp2
 rw [Lib.run_to_unsafe w ⟨b,0,none⟩ Tryz.underlying73 Tryz.underlying154 hj (by rw [hjs];decide) hsh (Nat.zero_lt_succ 1)]
 simp only [Result.andThen]
 rw [Oper.upon_value]
 go_wp2
 rw [run_callFunc_extern Tryz.func110 Kr Kr Kr (e:=Extern.AbiNoEscape.same) Kr]
 rw [Lib.run_noEscape]
 simp only [Result.andThen]
 rw [Oper.upon_value]
 go_wp2
 rw [Lib.run_from_unsafe w ⟨b,0,none⟩ Tryz.underlying154 Tryz.underlying73 hj hsh liesWriterR]
 simp only [Result.andThen]
 rw [Oper.upon_value]
 go_wp2
 go_end0
 exact ⟨rfl,rfl⟩
theorem rcheck_any (b:Nat)(p v:Value)(R:List Blk)(M:List Nat)(W w:World)(hp:p= .pointer none\/p= .pointer (some ⟨b,0,none⟩))(hO:Own M W w (⟨b, #[p,v],162⟩::R)):
  YC 71 #[.pointer (some ⟨b,0,none⟩)] w λe w'=>e= .returned (.tuple #[])/\Own M W w' (⟨b, #[.pointer (some ⟨b,0,none⟩),v],162⟩::R):=by
 have hb:w.heap[b]?=some (.cells #[p,v] 162 (0,0)):=hO.held ⟨b, #[p,v],162⟩ (List.mem_cons_self ..)
 have c0:w.cell? ⟨b,0,none⟩=some p:=by rw [Lib.cell_of_heap hb];rfl
 rcases hp with rfl|rfl
 ·refine (copyCheck_newR b w c0 (by simp [World.shape?,hb]) (Lib.frozen_of_heap hb 0)).mono λe w' ⟨he,hw⟩=>⟨he, ?_⟩
  rw [hw,setCell_eq_setRow w b 0 _ _ _ _ hb]
  exact hO.put (i:=0) (x:=⟨b, #[.pointer none,v],162⟩) rfl _
 ·exact (fW b w c0).mono λe w' ⟨he,hw⟩=>⟨he,hw▸hO⟩
theorem infoU8R:∃ i,Tryz.prog.info? 5=some i/\i.zero=some (.int .u8 0)/\i.size=1/\i.bytes=1:=info_parts infoByte
theorem buR_own {B b:Nat}{l:YL}{ob:List Blk}{M:List Nat}{W w:World}(hB:BuR b l ob)(hO:Own M W w ob)(hM:∀ x∈ob,B<=x.b):Lib.IsBuilder 162 5 B b (Lib.byteCells l) w:=by
 obtain ⟨p,v,g,rfl,hp,hv⟩:=hB
 have hb:w.heap[b]?=some (.cells #[p,v] 162 (0,0)):=hO.held ⟨b, #[p,v],162⟩ (List.mem_cons_self ..)
 have key:Lib.BuilderAt 162 5 B b p (Lib.byteCells l) w:=by
  refine ⟨hM ⟨b, #[p,v],162⟩ (List.mem_cons_self ..),v,hb, ?_, ?_⟩
  ·rw [Lib.byteCells_length]
   refine ⟨hv.1, ?_⟩
   rcases hv.2 with ⟨h1,h2,_⟩|⟨k,cap,cur,h1,rfl,h3,h4,h5,h6⟩
   ·exact .inl ⟨h1,h2⟩
   ·exact .inr ⟨k,cap,cur,h1,hM ⟨k,cur,5⟩ (by simp),hO.held ⟨k,cur,5⟩ (by simp),h3,h4,h5,h6⟩
  ·rcases hv.2 with ⟨rfl,_,_⟩|⟨k,cap,cur,rfl,rfl,_⟩
   ·simp [Value.ownBlock]
   ·intro e
    have hk:k=b:=by simpa [Value.ownBlock] using e
    have:=hO.apart
    simp [hk] at this
 rcases hp with rfl|rfl
 ·exact .inl key
 ·exact .inr key
theorem rstring_any0 (B b:Nat)(l:YL)(w:World)(h:Lib.IsBuilder 162 5 B b (Lib.byteCells l) w)(h0:l≠[]):
  YC 39 #[.pointer (some ⟨b,0,none⟩)] w λe w'=>e= .returned (.string ⟨l.toArray⟩)/\Below B w w':=by
 obtain ⟨p,hB,v,hbk,hown,hne⟩:∃ p,Lib.BuilderAt 162 5 B b p (Lib.byteCells l) w:=h.elim (λq=>⟨_,q⟩) (λq=>⟨_,q⟩)
 rcases hown.2 with ⟨_,hz⟩|⟨g,cap,cur,rfl,hbg,hg,hnc,hcm,hcs,htake⟩
 ·exact absurd hz (pC h0)
 rw [Lib.byteCells_length] at hown hnc hbk htake
 have hl0:l.length≠0:=λe=>h0 (List.eq_nil_of_length_eq_zero e)
 have hg':w.drew.heap[g]?=some (.cells cur 5 (0,0)):=hg
 have c1:w.drew.cell? ⟨b,1,none⟩=some (.slice (some ⟨g,0,none⟩) l.length cap):=by
  rw [Lib.cell_of_heap (show w.drew.heap[b]?=_ from hbk)];rfl
 have hSD:=Lib.run_unsafeSliceData_row (P:=YP) w.drew #[36] 122 ⟨g,0,none⟩ l.length cap Om
 have hUS:=Lib.run_unsafeString_row (P:=YP) w.drew 122 3 9 5 Tryz.underlying122 Kr g cur.size (by unfold World.shape?;rw [hg']) l h0 Om (by unfold maxLen at hcm;omega)
  (λj x hx=>hown.cells (g:=g) rfl j (.int .u8 x.toNat) (by simp [Lib.byteCells,hx]))
 go_enter Tryz.func39,Tryz.ntmps39
 go_wp2
 have mixed:Tryz.prog.follows .mixedOrders=true:=by kernel_rfl
 go_region_o
 all_goals
  go_wp2
  go_ret
  have hf:=Lib.below_freeze (Go.RowKit.Below.drew (Go.RowKit.Below.refl B w)) (p:=⟨g,0,none⟩) hbg l.length
  exact ⟨rfl,hf.os,hf.tape,hf.output,hf.size,by rw [p7];exact Nat.le_succ _,hf.block⟩
theorem rstring_any (b:Nat)(l:YL)(ob:List Blk)(W w:World)(hB:BuR b l ob)(hO:Own [] W w ob)(h0:l≠[]):
  YC 39 #[.pointer (some ⟨b,0,none⟩)] w λe w'=>e= .returned (.string (mkS l))/\Own [] W w' []:=
 (rstring_any0 W.heap.size b l w (buR_own hB hO λx hx=>(hO.base x hx).elim id λq=>by simp at q) h0).mono λe w' ⟨he,hb⟩=>by
  have hb2:=hO.below.trans hb
  exact ⟨he,hb2.os,hb2.tape,hb2.output,hb2.size,hb2.drawn,λk hk _=>hb2.block k hk,by simp,by simp,by simp⟩
theorem rWrite_any (b:Nat)(l:YL)(s:YL)(ob:List Blk)(W:World)(hB:BuR b l ob)(hO:Own (ob.map Blk.b) W W ob)(hl:l.length<=1000000000000)(hs:s.length<=1000000000000):
  YC 35 #[.pointer (some ⟨b,0,none⟩),.string (mkS s)] W λe w'=>∃ ob',e= .returned (.tuple #[YI ((mkS s).size:Int),.nilIface])/\BuR b (l++s) ob'/\Own (ob.map Blk.b) W w' ob':=by
 obtain ⟨p,v,g,rfl,hp,hv⟩:=hB
 obtain ⟨A,cap,rfl⟩:=Sl.form hv
 have hsz:=y7 s
 refine calls_okL (n:=19) hO Tryz.func35 rfl Kr Kr (ZO (Zv (YI 0) (Zv (.nilIface) (ZR (Zv (Zp b 0) (Zr (k:=71) (args:= #[Zp b 0]) (λv' L'=>v'= .tuple #[]/\L'=⟨b, #[Zp b 0,.slice A l.length cap],162⟩::g) (λw hO=>(rcheck_any b p _ _ _ _ w hp hO).mono λe w' ⟨k1,k2⟩=>⟨_,_,k1,⟨rfl,rfl⟩,k2⟩) (λv0 L0 hv0=> ?_)))))))
 obtain ⟨rfl,rfl⟩:=hv0
 refine ZR (Zv (Zp b 0) (Zv (Zp b 0) (Zv (Zp b 0) (Zv (Zp b 1) (Zl 0 ⟨b, #[Zp b 0,.slice A l.length cap],162⟩ (off:=1) (.slice A l.length cap) (Zv (.string (mkS s)) ?_))))))
 obtain ⟨i0,e1,e2,e3,e4⟩:=infoU8R
 refine s_cast (L':=[⟨b, #[Zp b 0,.slice A l.length cap],162⟩]++g++[]) (by simp) (s_appstr Kr rfl Tryz.underlying36 Tryz.underlying9 e1 e2 e3 e4 Kr hv (s:=mkS s) Kr (by rw [hsz];unfold maxLen;omega) (by rw [hsz];omega) (λv2 g2 hv2=> ?_))
 have hv3:Sl 5 1 v2 (l++s).length (Lib.byteCells (l++s)) g2:=by rw [List.length_append,Lib.byteCells_append];rw [hsz,vW] at hv2;exact hv2
 obtain ⟨A2,cap2,rfl⟩:=Sl.form hv3
 refine s_cast (L':=⟨b, #[Zp b 0,.slice A l.length cap],162⟩::(g2)) (by simp) (Zv (Zp b 0) (Zv (Zp b 1) (Zs 0 ⟨b, #[Zp b 0,.slice A l.length cap],162⟩ (off:=1) (.slice A2 ((l++s).length) cap2) (ZR (Zv (.string (mkS s)) (Zv (YI ((mkS s).size)) (Zv (YI ((mkS s).size)) (Zv (.nilIface) ?_))))))))
 exact ZN (qX (ZG (YI ((mkS s).size)) (.nilIface) Tryz.results35 (λw hO=>⟨_,rfl,⟨_,_,g2,rfl,.inr rfl,hv3⟩,hO⟩)))
theorem rByte_any (b:Nat)(l:YL)(c:UInt8)(z:Int)(ob:List Blk)(W:World)(hB:BuR b l ob)(hO:Own (ob.map Blk.b) W W ob)(hl:l.length<=1000000000000)(hz:(c.toNat:Int)=z):
  YC 111 #[.pointer (some ⟨b,0,none⟩),.int .u8 z] W λe w'=>∃ ob',e= .returned (.nilIface)/\BuR b (l++[c]) ob'/\Own (ob.map Blk.b) W w' ob':=by
 obtain ⟨p,v,g,rfl,hp,hv⟩:=hB
 obtain ⟨A,cap,rfl⟩:=Sl.form hv
 subst hz
 refine calls_okL (n:=17) hO Tryz.func111 rfl Kr Kr (ZO (Zv (.nilIface) (ZR (Zv (Zp b 0) (Zr (k:=71) (args:= #[Zp b 0]) (λv' L'=>v'= .tuple #[]/\L'=⟨b, #[Zp b 0,.slice A l.length cap],162⟩::g) (λw hO=>(rcheck_any b p _ _ _ _ w hp hO).mono λe w' ⟨k1,k2⟩=>⟨_,_,k1,⟨rfl,rfl⟩,k2⟩) (λv0 L0 hv0=> ?_))))))
 obtain ⟨rfl,rfl⟩:=hv0
 refine ZR (Zv (Zp b 0) (Zv (Zp b 0) (Zv (Zp b 0) (Zv (Zp b 1) (Zl 0 ⟨b, #[Zp b 0,.slice A l.length cap],162⟩ (off:=1) (.slice A l.length cap) (Zv (.int .u8 (c.toNat:Int)) (s_lit 5 #[.int .u8 (c.toNat:Int)] Kr rfl (λ_=>Kr) (λb1=> ?_))))))))
 obtain ⟨i0,e1,e2,e3,e4⟩:=infoU8R
 refine s_cast (L':=[⟨b1, #[.int .u8 (c.toNat:Int)],5⟩,⟨b, #[Zp b 0,.slice A l.length cap],162⟩]++g++[]) (by simp) (s_append (sz:=1) Kr rfl Tryz.underlying36 e1 e2 e3 rfl Kr hv (a:=⟨b1,0,none⟩) (m:=1) (c:=1) (news:=Lib.byteCells [c]) Kr rfl (λw hO j u hj=> ?_) (λu hu=>by rw [List.mem_singleton.1 hu];rfl) (by unfold maxLen;omega) (by rw [e4];omega) (λv2 g2 hv2=> ?_))
 ·rw [yJ,cell_of_row w b1 (0+j) (Lib.byteCells [c]).toArray 5 _ (hO.held ⟨b1,(Lib.byteCells [c]).toArray,5⟩ (List.mem_append_left _ (List.mem_append_left _ (List.mem_cons_self ..))))];simpa using hj
 have hv3:Sl 5 1 v2 (l++[c]).length (Lib.byteCells (l++[c])) g2:=by rw [List.length_append,Lib.byteCells_append];exact hv2
 obtain ⟨A2,cap2,rfl⟩:=Sl.form hv3
 refine s_cast (L':=⟨b1, #[.int .u8 (c.toNat:Int)],5⟩::(⟨b, #[Zp b 0,.slice A l.length cap],162⟩::(g2))) (by simp) (Zv (Zp b 0) (Zv (Zp b 1) (Zs 1 ⟨b, #[Zp b 0,.slice A l.length cap],162⟩ (off:=1) (.slice A2 ((l++[c]).length) cap2) (ZR (Zv (.nilIface) (ZN (qX ?_)))))))
 exact ZF (.nilIface) Tryz.results111 (λw hO=>⟨_,rfl,⟨_,_,g2,rfl,.inr rfl,hv3⟩,Own.sub [⟨b1, #[.int .u8 (c.toNat:Int)],5⟩] hO⟩)
end
section
set_option linter.unnecessarySimpa false
theorem rq_write (b:Nat)(l s:YL)(R ob:List Blk){M:List Nat}{W:World}(hB:BuR b l ob)(hl:l.length<=1000000000000)(hs:s.length<=1000000000000):∀ w,Own M W w (R++ob)->YC 35 #[.pointer (some ⟨b,0,none⟩),.string (mkS s)] w λe w'=>∃ v ob',e= .returned v/\BuR b (l++s) ob'/\Own (ob.map Blk.b) w w' ob':=
 λw hO=>(rWrite_any b l s ob w hB (Own.lentR hO) hl hs).mono λe w' ⟨ob',k1,k2,k3⟩=>⟨_,ob',k1,k2,k3⟩
theorem qLine_any (b:Nat)(l:YL)(ws:List YL)(v:Value)(wb ob:List Blk)(W:World)(hB:BuR b l ob)(hw:SlT v ws wb)(hO:Own ((wb++ob).map Blk.b) W W (wb++ob))(hl:l.length<=1000000000)(hj:(zE 32 ws).length<=400000000)(hn:ws.length<=1000000)(hne:zE 32 ws≠[]):YC 116 #[.pointer (some ⟨b,0,none⟩),v] W λe w'=>∃ ob',e= .returned (.tuple #[])/\BuR b (l++(zE 32 ws++[10])) ob'/\Own ((wb++ob).map Blk.b) W w' (wb++ob'):=by
 obtain ⟨A,cap,rfl⟩:=SlT.form hw
 have hJ:∀ w,Own ((wb++ob).map Blk.b) W w (wb++ob)->YC 72 #[.slice A ws.length cap,.int .u8 32] w (YR (.string (mkS (zE 32 ws))) w):=λw hO=>dD _ ws 32 w (hw.readsT hO λx hx=>List.mem_append_left _ hx) Om Om hne
 refine q9 hO Tryz.func116 (x_drawLF (.s .z) 6 [] wb (λw hO=>(hO.past 0 (wb++ob)).sublist (List.sublist_append_left _ _)) (zX [] 4 (z7 (v:= .string (mkS (zE 32 ws))) [] (λw hO=>hJ w (hO.past 0 _)) (zX [] 5 ?_))))
 exact xh_callL (Rr:=λ_ ob'=>BuR b (l++zE 32 ws) ob') (wb++ob) wb ob wb (λw hO=>hO) (λo w hO=>hO.sublist (List.sublist_append_left _ _)) (rq_write b l (zE 32 ws) wb ob hB Om Om) λv1 o1 h1=>(kW (k:=111) (args:= #[Zp b 0,.int .u8 10]) (Rr:=λ_ ob'=>BuR b (l++zE 32 ws++[10]) ob') [] (wb++o1) wb o1 (λw hO=>hO) (λw hO=>(rByte_any b (l++zE 32 ws) 10 10 o1 w h1 (Own.lentR hO) (by simp only [List.length_append];omega) rfl).mono λe w' ⟨ob',k1,k2,k3⟩=>⟨_,ob',k1,k2,k3⟩) λv2 o2 h2=>(x_end0 [] λw hO=>⟨o2,rfl,by rw [←List.append_assoc];exact h2,hO.past 0 _⟩))
def mI (w s:YL):YL:=if s=[] then [] else w++[32]++s++[10]
theorem qlit (b N:Nat)(cs:Array Value)(ws:List YL)(hc:cs.toList=jQ ws)(hN:ws.length=N)(hM:N<=1000):SlT (.slice (some ⟨b,0,none⟩) N N) ws [⟨b,cs,9⟩]:=by
 subst hN
 unfold SlT
 rw [←hc]
 refine sl_block ?_ (by unfold maxLen;omega)
 rw [←Array.length_toList,hc,xK]
 have:=jX zR ws
 omega
theorem q_line {M:List Nat}{W:World}(b:Nat)(l:YL)(ws:List YL)(v:Value)(R wb ob:List Blk)(hB:BuR b l ob)(hw:SlT v ws wb)(hl:l.length<=1000000000)(hj:(zE 32 ws).length<=400000000)(hn:ws.length<=1000000)(hne:zE 32 ws≠[]):∀ w,Own M W w (R++(wb++ob))->YC 116 #[.pointer (some ⟨b,0,none⟩),v] w λe w'=>∃ v' o,e= .returned v'/\(∃ ob',BuR b (l++(zE 32 ws++[10])) ob'/\o=wb++ob')/\Own ((wb++ob).map Blk.b) w w' o:=
 λw hO=>(qLine_any b l ws v wb ob w hB hw (Own.lentR hO) hl hj hn hne).mono λe w' ⟨ob',k1,k2,k3⟩=>⟨_,_,k1,⟨ob',k2,rfl⟩,k3⟩
theorem qMaybe_any (b:Nat)(l wd s:YL)(ob:List Blk)(W:World)(hB:BuR b l ob)(hO:Own (ob.map Blk.b) W W ob)(hl:l.length<=900000000)(hw:wd≠[]/\wd.length<=100)(hs:s.length<=100000000):YC 119 #[.pointer (some ⟨b,0,none⟩),.string (mkS wd),.string (mkS s)] W λe w'=>∃ ob',e= .returned (.tuple #[])/\BuR b (l++mI wd s) ob'/\Own (ob.map Blk.b) W w' ob':=by
 have hT:zE 32 [wd,s]=wd++32::s:=rfl
 refine q9 hO Tryz.func119 (jJ 7 [] s [] (λh=> ?_) (λh=> ?_))
 ·exact x_end0 [] λw hO=>⟨ob,rfl,by rw [mI,if_pos h,List.append_nil];exact hB,hO.past 0 _⟩
 refine vL [] 2 9 #[.string (mkS wd),.string (mkS s)] λg=>(kW [] ([⟨g, #[.string (mkS wd),.string (mkS s)],9⟩]++ob) [] ([⟨g, #[.string (mkS wd),.string (mkS s)],9⟩]++ob) (λw hO=>hO) (q_line b l [wd,s] _ [] _ ob hB (qlit g 2 _ [wd,s] rfl rfl Om) Om (by rw [hT];simp only [List.length_append,List.length_cons];omega) (by simp) (by rw [hT];simp [hw.1])) λv1 o1 ⟨ob',k1,k2⟩=> ?_)
 subst k2
 have hz:l++(zE 32 [wd,s]++[10])=l++mI wd s:=by rw [mI,if_neg h,hT];simp
 rw [hz] at k1
 exact x_end0 [] λw hO=>⟨ob',rfl,k1,hO.past 1 _⟩
theorem q_maybe {M:List Nat}{W:World}(b:Nat)(l wd s:YL)(R ob:List Blk)(hB:BuR b l ob)(hl:l.length<=900000000)(hw:wd≠[]/\wd.length<=100)(hs:s.length<=100000000):∀ w,Own M W w (R++ob)->YC 119 #[.pointer (some ⟨b,0,none⟩),.string (mkS wd),.string (mkS s)] w λe w'=>∃ v' o,e= .returned v'/\BuR b (l++mI wd s) o/\Own (ob.map Blk.b) w w' o:=
 λw hO=>(qMaybe_any b l wd s ob w hB (Own.lentR hO) hl hw hs).mono λe w' ⟨ob',k1,k2,k3⟩=>⟨_,_,k1,k2,k3⟩
theorem maybe_when (s:YL):mI kR s=qM s:=by
 unfold mI qM
 split
 ·rfl
 ·simp [kR,nR]
theorem maybe_opt (s:YL):mI dL s=n6 s:=by
 unfold mI n6
 split
 ·rfl
 ·simp [dL,txOpt]
theorem joinL_ne (b:UInt8):∀ {l:List YL},l≠[]->(∀ s∈l,s≠[])->zE b l≠[]
 | [],h,_=>absurd rfl h
 | [x],_,h=>h x (List.mem_singleton.2 rfl)
 |x::y::r,_,_=>by rw [zE];simp
theorem own_rot3 {M:List Nat}{W w:World}{x y z:Blk}{L:List Blk}(h:Own M W w (x::y::z::L)):Own M W w (y::z::x::L):=h.perm ((List.Perm.swap ..).trans (List.Perm.cons _ (List.Perm.swap ..)))
def ndB (n:Nv)(b:Nat):Blk:=⟨b, #[.slice n.A n.any.length n.cap,.string (mkS n.wh),.string (mkS n.opt)],72⟩
def wsB (u:Wv)(b:Nat):Blk:=⟨b, #[.string (mkS u.name),.string (mkS u.rng),.slice u.A u.fs.length u.cap,.bool u.bare],139⟩
theorem qNeedW_any (B b:Nat)(l:YL)(n:Nv)(ob:List Blk)(W:World)(hB:BuR b l ob)(hO:Own (ob.map Blk.b) W W ob)(hge:∀ x∈ob,B<=x.b)(hBW:B<=W.heap.size)(hv:Reads wvC W B n.A n.any)(hf:∀ u∈n.any,Reads zW W B u.A u.fs)(hn:n.any.length<=5000)(hnf:∀ u∈n.any,u.fs.length<=5000)(hfe:∀ u∈n.any,∀ s∈u.fs,s≠[])(hs:n.wh.length<=1000000/\n.opt.length<=1000000)(hl:l.length+(k8 n.nt).length<=300000000):YC 118 #[.pointer (some ⟨b,0,none⟩),nvV n] W λe w'=>∃ ob',e= .returned (.tuple #[])/\BuR b (l++k8 n.nt) ob'/\Own (ob.map Blk.b) W w' ob':=by
 have hM':∀ k∈ob.map Blk.b,B<=k:=λk hk=>by obtain ⟨x,hx,rfl⟩:=List.mem_map.1 hk;exact hge x hx
 have hnT:k8 n.nt=txNeed++n.any.flatMap (λu=>kH u.wt)++qM n.wh++n6 n.opt:=by
  unfold k8;simp only [Nv.nt,List.flatMap_map]
 have hnl:=congrArg List.length hnT
 simp only [List.length_append] at hnl
 have hn5:txNeed.length=5:=rfl
 refine q9 hO Tryz.func118 (zY [] λb3=>vL [] 1 9 #[.string (mkS vM)] λg=> ?_)
 refine kW [] (⟨g, #[.string (mkS vM)],9⟩::ndB n b3::ob) [ndB n b3] ([⟨g, #[.string (mkS vM)],9⟩]++ob) (λw hO=>hO.swap) (q_line b l [vM] _ _ _ ob hB (qlit g 1 _ [vM] rfl rfl Om) Om (by decide) (by simp) (by decide)) λv1 o1 ⟨ob1,k1,k2⟩=> ?_
 subst k2
 refine zQ [0] (ndB n b3::ob1) (λw hO=>(hO.past 0 (ndB n b3::⟨g, #[.string (mkS vM)],9⟩::ob1)).swap.past 1 _) (zT (α:=Nat×List Blk) (λx=>[(0,Zp b 0),(3,Zp b3 0),(12,.slice n.A n.any.length n.cap),(13,YI (n.any.length:Int)),(14,YI (x.1:Int))]) (λx=>ndB n b3::x.2) (λx m=>(x.1<=n.any.length/\BuR b (l++txNeed++(n.any.take x.1).flatMap (λu=>kH u.wt)) x.2)/\m=n.any.length-x.1) (0,ob1) n.any.length [] ⟨⟨Nat.zero_le _,by simp only [List.take_zero,List.flatMap_nil,List.append_nil];exact k1⟩,rfl⟩ ?_)
 rintro ⟨i,o⟩ mm gg kk ⟨⟨hi,ho⟩,hmm⟩ nx hkk
 subst hkk
 replace hi:i<=n.any.length:=hi
 replace ho:BuR b (l++txNeed++(n.any.take i).flatMap (λu=>kH u.wt)) o:=ho
 have hpt:=dY (λu:Wv=>kH u.wt) (l:=n.any) i
 have hpl:(l++txNeed++(n.any.take i).flatMap (λu=>kH u.wt)).length<=300000000:=by simp only [List.length_append];omega
 refine zG 15 [] ((i:Int)<(n.any.length:Int)) (λh15=> ?_) (λh15=> ?_)
 ·have hj:i<n.any.length:=by omega
  obtain ⟨eb,eo,hA,hel⟩:=hv.elem v8 i hj
  have hst:=jI (λu:Wv=>kH u.wt) hj
  have hsm:n.any[i]∈n.any:=List.getElem_mem hj
  have hone:=fm_one (λu:Wv=>kH u.wt) hsm
  have hel0:∀ w,Below B W w->(loadVar 139 ⟨eb,eo+i*4+0,none⟩).run YP w= .ok (wvV n.any[i]) w:=λw hw=>hel w hw _ 0 _ Kr
  have hru:=hf _ hsm;have hnu:=hnf _ hsm;have hfu:=hfe _ hsm
  have hw2:l++txNeed++(n.any.take i).flatMap (λu=>kH u.wt)++kH n.any[i].wt=l++txNeed++(n.any.take (i+1)).flatMap (λu=>kH u.wt):=by rw [hst,←List.append_assoc]
  generalize n.any[i]=u at hel0 hone hru hnu hfu hw2
  generalize l++txNeed++(n.any.take i).flatMap (λu=>kH u.wt)=done at*
  have huT:kH u.wt=zE 32 [bG,u.name,qU u.fs,qE u.bare,u.rng]++[10]:=(wishL_text u.wt).symm
  have hul:=congrArg List.length huT
  rw [List.length_append] at hul
  have hfl:(qU u.fs).length<=(zE 32 [bG,u.name,qU u.fs,qE u.bare,u.rng]).length:=jn_part 32 (by simp)
  have hJ:∀ w,Below B W w->u.fs≠[]->YC 72 #[.slice u.A u.fs.length u.cap,.int .u8 44] w (YR (.string (mkS (qU u.fs))) w):=λw hb hne=>by
   have hw:qU u.fs=zE 44 u.fs:=if_neg hne
   rw [hw]
   exact dD _ u.fs 44 w (reads_t (hru.on hb (Nat.le_trans hBW hb.size)) (Nat.le_refl _)) (by rw [←hw];omega) Om (joinL_ne 44 hne hfu)
  refine zL 16 [] hA n.any.length n.cap i 4 hj (zI 17 [] 139 eb (eo+i*4+0) (wvV u) (λw hO=>hel0 w (hO.belowB hM' hBW)) (zH [] λb5=>d6 21 (α:=YL) (λfl=>[(0,Zp b 0),(3,Zp b3 0),(5,Zp b5 0),(6,.string (mkS fl)),(7,.string (mkS wU)),(12,.slice n.A n.any.length n.cap),(13,YI (n.any.length:Int)),(14,YI (i:Int))]) (λ_=>wsB u b5::ndB n b3::o) (λfl=>fl=qU u.fs) [0,0] (λnj=>fI 21 ((u.fs.length:Int)>0) (λh=> ?_) (λh=> ?_)) (λfl g1 hfl1=> ?_)))
  ·exact z7 (v:= .string (mkS (qU u.fs))) [0] (λw hO=>hJ w (hO.belowB hM' hBW) (λe=>by rw [e] at h;simp at h)) (nj (qU u.fs) [] rfl Kr)
  ·exact nj [45] [] (show [45]=qU u.fs from by unfold qU;rw [if_pos (List.eq_nil_of_length_eq_zero Om)]) Kr
  refine d6 26 (α:=YL) (λkd=>[(0,Zp b 0),(3,Zp b3 0),(5,Zp b5 0),(6,.string (mkS fl)),(7,.string (mkS kd)),(12,.slice n.A n.any.length n.cap),(13,YI (n.any.length:Int)),(14,YI (i:Int))]) (λ_=>wsB u b5::ndB n b3::o) (λkd=>kd=qE u.bare) [0] (λnj=>zV 26 u.bare (λh=>nj gT [] (by rw [h];rfl) Kr) (λh=>nj wU [] (by rw [h];rfl) Kr)) (λkd g2 hkd=> ?_)
  subst hfl1;subst hkd
  refine vL [0,0] 5 9 #[.string (mkS bG),.string (mkS u.name),.string (mkS (qU u.fs)),.string (mkS (qE u.bare)),.string (mkS u.rng)] λg3=>(kW [] (⟨g3, #[.string (mkS bG),.string (mkS u.name),.string (mkS (qU u.fs)),.string (mkS (qE u.bare)),.string (mkS u.rng)],9⟩::wsB u b5::ndB n b3::o) [wsB u b5,ndB n b3] ([⟨g3, #[.string (mkS bG),.string (mkS u.name),.string (mkS (qU u.fs)),.string (mkS (qE u.bare)),.string (mkS u.rng)],9⟩]++o) (λw hO=>own_rot3 hO) (q_line b done [bG,u.name,qU u.fs,qE u.bare,u.rng] _ _ _ o ho (qlit g3 5 _ _ rfl rfl Om) Om Om (by simp) (by simp [zE,bG])) λv2 o2 ⟨ob2,q1,q2⟩=> ?_)
  subst q2
  rw [←huT,hw2] at q1
  exact x_i 14 [] ((i+1:Nat):Int) (zQ [] (ndB n b3::ob2) (λw hO=>(hO.past 1 (ndB n b3::⟨g3, #[.string (mkS bG),.string (mkS u.name),.string (mkS (qU u.fs)),.string (mkS (qE u.bare)),.string (mkS u.rng)],9⟩::ob2)).swap.past 1 _) (nx (i+1,ob2) (n.any.length-(i+1)) [] Om ⟨⟨hj,q1⟩,rfl⟩ Kr Kr))
 rw [List.take_of_length_le (show n.any.length<=i by omega)] at ho
 clear nx
 have hwl:(qM n.wh).length<=300000000:=by omega
 refine kW [0] (ndB n b3::o) [ndB n b3] o (λw hO=>hO) (q_maybe b _ kR n.wh [ndB n b3] o ho (by simp only [List.length_append];omega) (by decide) Om) λv3 o3 h3=> ?_
 rw [maybe_when] at h3
 refine kW [0] (ndB n b3::o3) [ndB n b3] o3 (λw hO=>hO) (q_maybe b _ dL n.opt [ndB n b3] o3 h3 (by simp only [List.length_append];omega) (by decide) Om) λv4 o4 h4=> ?_
 rw [maybe_opt] at h4
 refine x_end0 [] λw hO=>⟨o4,rfl, ?_,hO.past 1 _⟩
 rw [hnT]
 simpa only [List.append_assoc] using h4
end
section
set_option linter.unnecessarySimpa false
theorem partsE_is (r:Rv):kS r.rt=if (gB (λn:Nv=>kK r.name n.nt) 0 r.needs).1≠0 then gB (λn:Nv=>kK r.name n.nt) 0 r.needs
 else if (gB (λb:Bv=>vQ r.name b.bt) 0 r.bars).1≠0 then gB (λb:Bv=>vQ r.name b.bt) 0 r.bars
 else if jU (yI r.fts)=false then (11,0)
 else gB (λf:Fv=>yR (xF r.rt.needs) f.of) 0 r.fts:=by
 unfold kS
 rw [show r.rt.needs=r.needs.map Nv.nt from rfl,show r.rt.bars=r.bars.map Bv.bt from rfl,show r.rt.fts=r.fts.map Fv.ft from rfl,p9,p9,p9];rfl
theorem r12parts_any (r:Rv)(W:World)(hr:RcIn W W.heap.size r):YC 124 #[rvV r] W (YR (.tuple #[YI (kS r.rt).1,YI (kS r.rt).2]) W):=by
 have hE:=partsE_is r
 have hnn:=hr.nn;have hnb:=hr.nb;have hfn:=hr.fts.n
 refine zD Tryz.func124 (zY [] λb1=>zT (α:=Nat) (λi=>[(1,Zp b1 0),(4,YI (i:Int))]) (λ_=>[⟨b1,(rvC r).toArray,47⟩]) (λi m=>(i<=r.needs.length∧∀ n∈r.needs.take i,kK r.name n.nt=0)/\m=r.needs.length-i) 0 r.needs.length [] ⟨⟨Nat.zero_le _,λy h=>by simp at h⟩,rfl⟩ ?_)
 rintro i mm g kk ⟨⟨hi,hno⟩,hmm⟩ nx hkk
 subst hkk
 refine zG 14 [0] ((i:Int)<(r.needs.length:Int)) (λh14=> ?_) (λh14=> ?_)
 ·have hj:i<r.needs.length:=by omega
  obtain ⟨eb,eo,hA,hel⟩:=hr.needs.elem qD i hj
  have hgo:=yH (p:=λn:Nv=>kK r.name n.nt=0) hj hno
  have hat:=bW (f:=λn:Nv=>kK r.name n.nt) 0 hj hno
  have hsm:r.needs[i]∈r.needs:=List.getElem_mem hj
  have hel0:∀ w,YB W w->(loadVar 72 ⟨eb,eo+i*3+0,none⟩).run YP w= .ok (nvV r.needs[i]) w:=λw hw=>hel w hw _ 0 _ Kr
  have hra:=hr.any _ hsm;have hrf:=hr.wfs _ hsm;have hna:=hr.na _ hsm;have hnf:=hr.nf _ hsm;have hsw:=hr.sw _ hsm;have hsu:=hr.su _ hsm
  generalize r.needs[i]=n at hel0 hgo hat hra hrf hna hnf hsw hsu
  have hc:∀ w,YB W w->YC 170 #[rvV r,nvV n] w (YR (YI (kK r.name n.nt)) w):=λw hb=>r12need_any r n w (hra.on hb hb.size) (λu hu=>(hrf u hu).on hb hb.size) hna hnf hsw hsu
  refine zL 21 [0,0] hA r.needs.length r.nc i 3 hj (zI 22 [] 72 eb (eo+i*3+0) (nvV n) (λw hO=>hel0 w hO.below) (z7 (v:=YI (kK r.name n.nt)) [] (λw hO=>hc w hO.below) (gE 25 [] (kK r.name n.nt=0) (λh=> ?_) (λh=> ?_))))
  ·exact x_i 16 [] ((i+1:Nat):Int) (nx (i+1) (r.needs.length-(i+1)) [] Om ⟨⟨hj,hgo h⟩,rfl⟩ Kr Kr)
  ·refine yP [] (YI (kK r.name n.nt)) (YI (i:Int)) λw hO=>⟨?_,hO.below⟩
   rw [hE,hat h,if_pos h];simp only [Nat.zero_add]
 have h1:=gI (k:=0) (xE (p:=λn:Nv=>kK r.name n.nt=0) (show r.needs.length<=i by omega) hno)
 rw [h1,if_neg (by simp)] at hE
 clear nx
 refine zT (α:=Nat) (λi=>[(1,Zp b1 0),(6,YI (i:Int))]) (λ_=>[⟨b1,(rvC r).toArray,47⟩]) (λi m=>(i<=r.bars.length∧∀ b∈r.bars.take i,vQ r.name b.bt=0)/\m=r.bars.length-i) 0 r.bars.length [] ⟨⟨Nat.zero_le _,λy h=>by simp at h⟩,rfl⟩ ?_
 rintro i2 m2 g2 kk ⟨⟨hi2,hno2⟩,hmm2⟩ nx hkk
 subst hkk
 refine zG 32 [0] ((i2:Int)<(r.bars.length:Int)) (λh32=> ?_) (λh32=> ?_)
 ·have hj:i2<r.bars.length:=by omega
  obtain ⟨eb,eo,hA,hel⟩:=hr.bars.elem mE i2 hj
  have hgo:=yH (p:=λb:Bv=>vQ r.name b.bt=0) hj hno2
  have hat:=bW (f:=λb:Bv=>vQ r.name b.bt) 0 hj hno2
  have hsm:r.bars[i2]∈r.bars:=List.getElem_mem hj
  have hel0:∀ w,YB W w->(loadVar 102 ⟨eb,eo+i2*3+0,none⟩).run YP w= .ok (bvV r.bars[i2]) w:=λw hw=>hel w hw _ 0 _ Kr
  have hsb:=hr.sb _ hsm
  generalize r.bars[i2]=b at hel0 hgo hat hsb
  have hc:∀ w,YB W w->YC 171 #[rvV r,bvV b] w (YR (YI (vQ r.name b.bt)) w):=λw hb=>r12bar_any r b w hsb
  refine zL 39 [0,0] hA r.bars.length r.bc i2 3 hj (zI 40 [] 102 eb (eo+i2*3+0) (bvV b) (λw hO=>hel0 w hO.below) (z7 (v:=YI (vQ r.name b.bt)) [] (λw hO=>hc w hO.below) (gE 43 [] (vQ r.name b.bt=0) (λh=> ?_) (λh=> ?_))))
  ·exact x_i 34 [] ((i2+1:Nat):Int) (nx (i2+1) (r.bars.length-(i2+1)) [] Om ⟨⟨hj,hgo h⟩,rfl⟩ Kr Kr)
  ·refine yP [] (YI (vQ r.name b.bt)) (YI (i2:Int)) λw hO=>⟨?_,hO.below⟩
   rw [hE,hat h,if_pos h];simp only [Nat.zero_add]
 have h2:=gI (k:=0) (xE (p:=λb:Bv=>vQ r.name b.bt=0) (show r.bars.length<=i2 by omega) hno2)
 rw [h2,if_neg (by simp)] at hE
 clear nx
 have hM:∀ w,YB W w->YC 172 #[.slice r.fA r.fts.length r.fc] w (YR (.bool (jU (yI r.fts))) w):=λw hb=>r11May_any r.fA r.fc r.fts w (hr.fts.on hb hb.size)
 refine z7 (v:= .bool (jU (yI r.fts))) [0] (λw hO=>hM w hO.below) (zV 48 (jU (yI r.fts)) (λe3=> ?_) (λe3=> ?_))
 rotate_left
 ·exact yP [] (YI 11) (YI 0) λw hO=>⟨by rw [hE,if_pos e3],hO.below⟩
 rw [if_neg (by simp [e3])] at hE
 refine zT (α:=Nat) (λi=>[(1,Zp b1 0),(8,YI (i:Int))]) (λ_=>[⟨b1,(rvC r).toArray,47⟩]) (λi m=>(i<=r.fts.length∧∀ f∈r.fts.take i,yR (xF r.rt.needs) f.of=0)/\m=r.fts.length-i) 0 r.fts.length [] ⟨⟨Nat.zero_le _,λy h=>by simp at h⟩,rfl⟩ ?_
 rintro i3 m3 g3 kk ⟨⟨hi3,hno3⟩,hmm3⟩ nx hkk
 subst hkk
 refine zG 54 [0] ((i3:Int)<(r.fts.length:Int)) (λh54=> ?_) (λh54=> ?_)
 rotate_left
 ·refine yP [] (YI 0) (YI 0) λw hO=>⟨?_,hO.below⟩
  rw [hE,gI (k:=0) (xE (p:=λf:Fv=>yR (xF r.rt.needs) f.of=0) (show r.fts.length<=i3 by omega) hno3)]
 have hj:i3<r.fts.length:=by omega
 obtain ⟨eb,eo,hA,hel⟩:=hr.fts.top.elem vH i3 hj
 have hgo:=yH (p:=λf:Fv=>yR (xF r.rt.needs) f.of=0) hj hno3
 have hat:=bW (f:=λf:Fv=>yR (xF r.rt.needs) f.of) 0 hj hno3
 have hsm:r.fts[i3]∈r.fts:=List.getElem_mem hj
 have hel0:∀ w,YB W w->(loadVar 85 ⟨eb,eo+i3*2+1,none⟩).run YP w= .ok (.slice r.fts[i3].A r.fts[i3].of.length r.fts[i3].cap) w:=λw hw=>hel w hw _ 1 _ Kr
 have hru:=hr.fts.each _ hsm;have hmu:=hr.fts.m _ hsm;have htu:=hr.fts.text _ hsm
 generalize r.fts[i3]=u at hel0 hgo hat hru hmu htu
 have hc:∀ w,YB W w->YC 173 #[rvV r,.slice u.A u.of.length u.cap] w (YR (YI (yR (xF r.rt.needs) u.of)) w):=λw hb=>r12items_any r u.A u.cap u.of w (hr.on hb hb.size) (hru.on hb hb.size) Om htu
 refine zL 61 [0,0] hA r.fts.length r.fc i3 2 hj (zI 63 [] 85 eb (eo+i3*2+1) (.slice u.A u.of.length u.cap) (λw hO=>hel0 w hO.below) (z7 (v:=YI (yR (xF r.rt.needs) u.of)) [] (λw hO=>hc w hO.below) (gE 66 [] (yR (xF r.rt.needs) u.of=0) (λh=> ?_) (λh=> ?_))))
 ·exact x_i 56 [] ((i3+1:Nat):Int) (nx (i3+1) (r.fts.length-(i3+1)) [] Om ⟨⟨hj,hgo h⟩,rfl⟩ Kr Kr)
 ·refine yP [] (YI (yR (xF r.rt.needs) u.of)) (YI (i3:Int)) λw hO=>⟨?_,hO.below⟩
  rw [hE,hat h];simp only [Nat.zero_add]
theorem vprint_short {v:Ver}(hp:v.pre.length<=1000000)(hq:v.build.length<=1000000):v.print.length<=3000000:=by
 unfold Ver.print
 split
 case isTrue h=>
  obtain ⟨n1,n2,n3⟩:=bD h
  have hnl:(wZ v).length<=14:=nums_len n1 n2 n3
  have h1:(xP 45 v.pre).length<=1000001:=by unfold xP;split<;>simp<;>omega
  have h2:(xP 43 v.build).length<=1000001:=by unfold xP;split<;>simp<;>omega
  unfold Ver.text
  simp only [List.length_append];omega
 case isFalse=>simp
theorem r12Check_any (r:Rv)(W:World)(hr:RcIn W W.heap.size r):YC 79 #[rvV r] W (YR (.tuple #[YI (zK r.rt).1,YI (zK r.rt).2]) W):=by
 have hE:zK r.rt=if nmL r.name=false then (4,0) else if r.ver.may=false then (5,0) else if 8<r.needs.length\/8<r.bars.length then (3,0) else if (kS r.rt).1≠0 then kS r.rt else if 4096<(yK r.rt).length then (3,0) else (0,0):=by
  unfold zK;simp only [Rv.rt,List.length_map]
 have hsn:=hr.sn
 have c1:∀ w,YB W w->YC 76 #[.string (mkS r.name)] w (YR (.bool (nmL r.name)) w):=λw hb=>fK r.name w hsn.1
 have c2:∀ w,YB W w->YC 105 #[yT r.ver] w (YR (.bool r.ver.may) w):=λw hb=>wI r.ver w hsn.2.1 hsn.2.2
 have c3:∀ w,YB W w->YC 124 #[rvV r] w (YR (.tuple #[YI (kS r.rt).1,YI (kS r.rt).2]) w):=λw hb=>r12parts_any r w (hr.on hb hb.size)
 refine zD Tryz.func79 (zY [] λb1=>z7 (v:= .bool (nmL r.name)) [0] (λw hO=>c1 w hO.below) (zV 9 (nmL r.name) (λe1=> ?_) (λe1=> ?_)))
 rotate_left
 ·exact yP [] (YI 4) (YI 0) λw hO=>⟨by rw [hE,if_pos e1],hO.below⟩
 rw [if_neg (by simp [e1])] at hE
 refine z7 (v:= .bool r.ver.may) [0] (λw hO=>c2 w hO.below) (zV 14 r.ver.may (λe2=> ?_) (λe2=> ?_))
 rotate_left
 ·exact yP [] (YI 5) (YI 0) λw hO=>⟨by rw [hE,if_pos e2],hO.below⟩
 rw [if_neg (by simp [e2])] at hE
 refine zG 20 [0] ((r.needs.length:Int)>8) (λh20=> ?_) (λh20=> ?_)
 ·exact yP [] (YI 3) (YI 0) λw hO=>⟨by rw [hE,if_pos (.inl Om)],hO.below⟩
 refine zG 25 [0] ((r.bars.length:Int)>8) (λh25=> ?_) (λh25=> ?_)
 ·exact yP [] (YI 3) (YI 0) λw hO=>⟨by rw [hE,if_pos (.inr Om)],hO.below⟩
 rw [if_neg Om] at hE
 refine z7 (v:= .tuple #[YI (kS r.rt).1,YI (kS r.rt).2]) [0] (λw hO=>c3 w hO.below) (gE 33 [] ((kS r.rt).1=0) (λh33=> ?_) (λh33=> ?_))
 rotate_left
 ·exact yP [] (YI (kS r.rt).1) (YI (kS r.rt).2) λw hO=>⟨by rw [hE,if_pos h33],hO.below⟩
 rw [if_neg (λh=>h h33)] at hE
 have hs:(yK r.rt).length<=100000000:=rec_small (r:=r.rt) hsn.1 (vprint_short hsn.2.1 hsn.2.2) (by simp only [Rv.rt,List.length_map];omega) (by simp only [Rv.rt,List.length_map];omega) h33 (λf hf s hs=>by
  obtain ⟨y,hy,rfl⟩:=List.mem_map.1 hf
  exact hr.fts.text y hy s hs)
 have c4:∀ w,YB W w->YC 80 #[rvV r] w (YR (.string (mkS (yK r.rt))) w):=λw hb=>r12text_any r w (hr.on hb hb.size) hs
 have hz:(mkS (yK r.rt)).size=(yK r.rt).length:=bC _
 refine z7 (v:= .string (mkS (yK r.rt))) [0] (λw hO=>c4 w hO.below) (zG 39 [] (((mkS (yK r.rt)).size:Int)>4096) (λh39=> ?_) (λh39=> ?_))
 ·exact yP [] (YI 3) (YI 0) λw hO=>⟨by rw [hE,if_pos Om],hO.below⟩
 ·exact yP [] (YI 0) (YI 0) λw hO=>⟨by rw [hE,if_neg Om],hO.below⟩
theorem r12Print_any (r:Rv)(W:World)(hr:RcIn W W.heap.size r):YC 41 #[rvV r] W (YR (.tuple #[.string (mkS (bS r.rt)),YI (zK r.rt).1]) W):=by
 have c1:∀ w,YB W w->YC 79 #[rvV r] w (YR (.tuple #[YI (zK r.rt).1,YI (zK r.rt).2]) w):=λw hb=>r12Check_any r w (hr.on hb hb.size)
 refine zD Tryz.func41 (zY [] λb1=>z7 (v:= .tuple #[YI (zK r.rt).1,YI (zK r.rt).2]) [0] (λw hO=>c1 w hO.below) (gE 12 [] ((zK r.rt).1=0) (λh=> ?_) (λh=> ?_)))
 rotate_left
 ·exact yP [] (.string ⟨#[]⟩) (YI (zK r.rt).1) λw hO=>⟨by rw [show bS r.rt=[] from if_neg h];rfl,hO.below⟩
 have c2:∀ w,YB W w->YC 80 #[rvV r] w (YR (.string (mkS (yK r.rt))) w):=λw hb=>r12text_any r w (hr.on hb hb.size) (by have:=(yS h).2.2.2.2.2;omega)
 exact z7 (v:= .string (mkS (yK r.rt))) [0] (λw hO=>c2 w hO.below) (yP [] (.string (mkS (yK r.rt))) (YI 0) λw hO=>⟨by rw [show bS r.rt=yK r.rt from if_pos h,h],hO.below⟩)
end
section
def BytesAt (w:World)(e:TypeId)(g:Nat)(l:YL):Prop:=
 ∃ row,w.heap[g]?=some (.cells row e (row.size,row.size+1))/\l.length<=row.size∧∀ j (h:j<l.length),row[j]?=some (.int .u8 (l[j].toNat:Int))
theorem BytesAt.on {w w':World}{e:TypeId}{g:Nat}{l:YL}(h:BytesAt w e g l)(hk:w'.heap[g]?=w.heap[g]?):BytesAt w' e g l:=by
 obtain ⟨row,h1,h2,h3⟩:=h
 exact ⟨row,hk.trans h1,h2,h3⟩
theorem BytesAt.lt {w:World}{e:TypeId}{g:Nat}{l:YL}(h:BytesAt w e g l):g<w.heap.size:=by
 obtain ⟨row,h1,_⟩:=h
 exact (Array.getElem?_eq_some_iff.1 h1).1
theorem BytesAt.cell {w:World}{e:TypeId}{g:Nat}{l:YL}(h:BytesAt w e g l){j:Nat}(hj:j<l.length):w.cell? ⟨g,j,none⟩=some (.int .u8 (l[j].toNat:Int)):=by
 obtain ⟨row,h1,_,h3⟩:=h
 rw [Lib.cell_of_heap h1];exact h3 j hj
theorem BytesAt.below {W w:World}{L:List Blk}{e:TypeId}{g:Nat}{l:YL}(h:BytesAt W e g l)(hO:Own [] W w L):BytesAt w e g l:=h.on (hO.kept g h.lt (by simp))
theorem BytesAt.made (w:World)(e:TypeId)(s:YL):BytesAt (Lib.bytesWorld w e (mkS s)) e w.heap.size s/\Below w.heap.size w (Lib.bytesWorld w e (mkS s))/\w.heap.size<(Lib.bytesWorld w e (mkS s)).heap.size:=by
 have hsz:=Lib.bytesWorld_size w e (mkS s)
 refine ⟨⟨Lib.bytesCells w e (mkS s),Lib.bytesWorld_at_new w e (mkS s), ?_,λj hj=> ?_⟩,⟨?_, ?_, ?_,by omega, ?_,λk hk=>Lib.bytesWorld_at_old w e (mkS s) k hk⟩,by omega⟩
 ·unfold Lib.bytesCells mkS;simp
 ·unfold Lib.bytesCells mkS
  rw [Array.getElem?_append_left (by simpa using hj)]
  simp [hj]
 all_goals
  unfold Lib.bytesWorld World.freeze
  split<;>first|rfl|exact Nat.le_succ _
section
variable {M:List Nat}{P:Program}{n0:Nat}{ops:Array Oper}{W:World}{Q:Exit->Act->World->Prop}{rest:List Oper}{o:Oper}{L:List Blk}{f:Nat->Value}
theorem s_poke {T e:TypeId}{t:TypeInfo}{p q:Operand}{g k:Nat}{l:YL}{b:UInt8}(hw:zS ops n0 f o=true)(ho:o.op= .store T p q)(hd:o.dst=none)(hp:ev n0 f p= .pointer (some ⟨g,k,none⟩))(hq:ev n0 f q= .int .u8 (b.toNat:Int))(hi:P.info? T=some t)(hs:t.size=1)(hB:BytesAt W e g l)(hk:k<l.length)
  (h:∀ w2,BytesAt w2 e g (l.set k b)->Below g W w2->W.heap.size<=w2.heap.size->Seg [] P n0 ops w2 Q rest [] f):Seg [] P n0 ops W Q (o::rest) [] f:=
 qV hw λw hO=>by
  have hBw:=hB.below hO
  have hc:=hBw.cell hk
  obtain ⟨row,h1,h2,h3⟩:=hBw
  have hf:w.frozen? ⟨g,k,none⟩=false:=by
   have:k<row.size:=by omega
   simp [World.frozen?,h1];omega
  have hst:=run_storeCells_cells (P:=P) g k [.int .u8 (b.toNat:Int)] 0 w (λj hj=>by obtain rfl:j=0:=(by simpa using hj);show (w.cell? ⟨g,k,none⟩).isSome=true;rw [hc];rfl) (λj hj=>by obtain rfl:j=0:=(by simpa using hj);exact hf) (λv hv=>by rw [List.mem_singleton.1 hv];rfl)
  have hsc:w.setCells g (k+0) [.int .u8 (b.toNat:Int)]=w.setCell ⟨g,k,none⟩ (.int .u8 (b.toNat:Int)):=rfl
  rw [hsc] at hst
  unfold Oper.wp
  rw [xG]
  have hr:(execOp (ev n0 f) o).run P w= .ok .skip (w.setCell ⟨g,k,none⟩ (.int .u8 (b.toNat:Int))):=by
   unfold execOp
   have hcs:(Value.int .u8 (b.toNat:Int)).cells.size=t.size:=by rw [hs];rfl
   simp only [ho,hp,hq,Instr.storeAt,Instr.sureAddr,Sem.run_bind,Sem.run_pure,Result.andThen_ok,storeVar,sizeOf,typeInfo,hi,hcs,run_program]
   simp only [ne_eq,not_true_eq_false,if_false]
   have e1:(Value.int .u8 (b.toNat:Int)).cells.toList=[.int .u8 (b.toNat:Int)]:=rfl
   rw [e1]
   simp [hst]
  rw [hr]
  show wpList P ops Q rest ((Fr n0 f).put o.dst undef) _
  rw [gV,hd]
  have hbb:Below g W (w.setCell ⟨g,k,none⟩ (.int .u8 (b.toNat:Int))):=(hO.below.mono (Nat.le_of_lt hB.lt)).setCell (p:=⟨g,k,none⟩) (Nat.le_refl _) _
  refine (h _ ⟨row.set k (.int .u8 (b.toNat:Int)) (by omega), ?_, ?_,λj hj=> ?_⟩ hbb hbb.size).go _ (Own.start [] _)
  ·have e2:row.setIfInBounds k (.int .u8 (b.toNat:Int))=row.set k (.int .u8 (b.toNat:Int)) Om:=by
    unfold Array.setIfInBounds;rw [dif_pos Om]
   rw [←e2]
   simp [World.setCell,Array.getElem?_modify,h1]
  ·rw [List.length_set,Array.size_set];exact h2
  ·rw [List.length_set] at hj
   rw [Array.getElem?_set,List.getElem_set]
   by_cases hjk:k=j
   ·subst hjk;simp
   ·rw [if_neg hjk,if_neg hjk];exact h3 j hj
theorem run_back {src dst e:TypeId}{ρ:Operand->Value}{x:Operand}{g cap:Nat}{l:YL}{w:World}(ho:o.op= .convert src dst x)(hs:P.underlying src=some (.slice e))(he:P.underlying e=some (.int .u8))(hd:P.underlying dst=some .string)(hx:ρ x= .slice (some ⟨g,0,none⟩) l.length cap)(hB:BytesAt w e g l):(execOp ρ o).run P w= .ok (.value (.string (mkS l))) w:=by
 have hr:=run_convert_bytes_back (P:=P) w src dst e ⟨g,0,none⟩ cap l hs he hd (λj hj=>by
  rw [yJ,Nat.zero_add];exact hB.cell hj)
 unfold execOp
 simp only [ho,hx,Sem.run_bind,Sem.run_pure,Result.andThen_ok,hr]
 rfl
theorem byte_load {ty e:TypeId}{w:World}{g k:Nat}{l:YL}(hB:BytesAt w e g l)(hk:k<l.length)(hr:yZ P ty #[.int .u8 (l[k].toNat:Int)] 0=some (.int .u8 (l[k].toNat:Int))):(loadVar ty ⟨g,k,none⟩).run P w= .ok (.int .u8 (l[k].toNat:Int)) w:=
 old_load [.int .u8 (l[k].toNat:Int)] _ (λj u hj=>by
  cases j with
  |zero=>rw [Nat.add_zero,hB.cell hk];simpa using hj
  |succ j=>simp at hj) hr
end
end
section
theorem BytesAt.reads {w:World}{e:TypeId}{g:Nat}{l:YL}(h:BytesAt w e g l):Reads u8C w w.heap.size (some ⟨g,0,none⟩) l:=λh0=>⟨g,0,rfl,h.lt,λj u hj=>by
 rw [u8_flat,List.getElem?_map] at hj
 cases hl:l[j]? with
 |none=>rw [hl] at hj;cases hj
 |some b=>
  rw [hl] at hj
  obtain ⟨hlt,hb⟩:=List.getElem?_eq_some_iff.1 hl
  have:=h.cell hlt
  rw [Nat.zero_add,this,hb]
  exact hj⟩
section
variable {M:List Nat}{P:Program}{n:Nat}{W:World}{Q:Exit->Act->World->Prop}{c:Xc}
theorem x_bytes (d:Nat)(h:List Nat)(s:YL){src dst e:TypeId}{x:Operand}(hg:∀ w0 w1 cap,Own M W w0 (xgo P n (d+50000) h c).L->BytesAt w1 e w0.heap.size s->YB w0 w1->w0.heap.size<w1.heap.size->s.length<=cap->zF [] P n w1 Q (xNx (xgo P n (d+50000) h c) [] (.slice (some ⟨w0.heap.size,0,none⟩) s.length cap)))
  (hkt:(xgl P n (d+50000) h c,(xgo P n (d+50000) h c).top,zS (xA (xgo P n (d+50000) h c)) n (xgo P n (d+50000) h c).f (xO (xgo P n (d+50000) h c)),xNl (xgo P n (d+50000) h c).k,(xO (xgo P n (d+50000) h c)).op,ev n (xgo P n (d+50000) h c).f x,P.underlying src,P.underlying dst,P.underlying e)
   =(xgr P n (d+50000) h c,.ops (xA (xgo P n (d+50000) h c)) (xO (xgo P n (d+50000) h c)::xT (xgo P n (d+50000) h c)),true,true,.convert src dst x,.string (mkS s),some .string,some (.slice e),some (.int .u8)):=by kernel_rfl):zF M P n W Q c:=by
 simp only [Prod.mk.injEq] at hkt
 obtain ⟨hk,e1,e2,e3,e4,e5,e6,e7,e8⟩:=hkt
 refine zJ h c hk ?_
 generalize xgo P n (d+50000) h c=d at*
 have:d=⟨.ops (xA d) (xO d::xT d),d.k,d.L,d.f⟩:=by rw [←e1]
 rw [this]
 refine ⟨λhq=>qV e2 λw hO=> ?_⟩
 obtain ⟨h1,h2,h3⟩:=BytesAt.made w e s
 have hr:=Lib.run_convert_string_bytes (P:=P) w src dst e (mkS s) e6 e7 e8
 rw [y7] at hr
 refine kN (.slice (some ⟨w.heap.size,0,none⟩) s.length (grownCap w s.length 0 e)) (w':=Lib.bytesWorld w e (mkS s)) ?_ ?_
 ·unfold execOp
  simp only [e4,e5,Sem.run_bind,Sem.run_pure,Result.andThen_ok,hr]
 ·have:=((hg w _ (grownCap w s.length 0 e) hO h1 h2 h3 (grownCap_ge w s.length 0 e)).go hq).go _ (Own.start [] _)
  rw [tP (M:=M) (W:=W) (M':=[]) (W':=Lib.bytesWorld w e (mkS s)) e3];exact this
end
end
section
def yN (l:YL)(k:Nat):UInt64:=(l.take k).foldl dStep dI
theorem dMixK_step {l:YL}{k:Nat}(hk:k<l.length):dStep (yN l k) l[k]=yN l (k+1):=by
 unfold yN
 rw [List.take_succ_eq_append_getElem hk,List.foldl_append];rfl
theorem dMixK_all {l:YL}{k:Nat}(hk:k=l.length):yN l k=dMix l:=by unfold yN dMix;rw [hk,List.take_length]
def dRootK (l:List UInt64)(k:Nat):UInt64:=(l.take k).foldl dPair (tK [])
def dig9S:YL:=[48,49,50,51,52,53,54,55,56,57,97,98,99,100,101,102]
theorem hex_at {m:Nat}(h:m<16):dig9S[m]'(by exact h)=jH m:=by
 have key:∀ m:_root_.Fin 16,dig9S[m.val]'(by exact m.isLt)=jH m.val:=by decide
 exact key ⟨m,h⟩
def hexI (c:UInt8):Int:=match pP c with|some d=>(d:Int)|none=> -1
theorem hexI_neg {c:UInt8}(h:hexI c<0):pP c=none:=by
 unfold hexI at h
 cases hv:pP c with
 |none=>rfl
 |some d=>rw [hv] at h;change (d:Int)<0 at h;omega
theorem hexI_pos {c:UInt8}(h:¬ hexI c<0):∃ d,pP c=some d/\hexI c=(d:Int)/\d<16:=by
 unfold hexI at h ⊢
 cases hv:pP c with
 |none=>rw [hv] at h;exact absurd (by decide:(-1:Int)<0) h
 |some d=>exact ⟨d,rfl,rfl,(hexD_V hv).1⟩
theorem take_step {s:YL}{i:Nat}(hi:i<s.length){m d:Nat}(h:wG 0 (s.take i)=some m)(hd:pP s[i]=some d):wG 0 (s.take (i+1))=some (m*16+d):=by
 rw [List.take_succ_eq_append_getElem hi,hexN_app _ _ _ _ h,wG,hd]
 rfl
theorem take_bad {s:YL}{i:Nat}(hi:i<s.length){m:Nat}(h:wG 0 (s.take i)=some m)(hd:pP s[i]=none):wG 0 s=none:=by
 have q:wG 0 (s.take (i+1))=none:=by rw [List.take_succ_eq_append_getElem hi,hexN_app _ _ _ _ h,wG,hd]
 have e:=hexN_bad (s.take (i+1)) (s.drop (i+1)) 0 q
 rwa [List.take_append_drop] at e
theorem take_lt {s:YL}{i:Nat}(hi:i<=16){m:Nat}(h:wG 0 (s.take i)=some m):m<16^i:=by
 have q:=hexN_lt _ _ _ h
 have e:(s.take i).length<=i:=by rw [List.length_take];omega
 have:=Nat.pow_le_pow_right (show 0<16 by decide) e
 omega
theorem read_no {s:YL}(h:bF s=none):vK s=0/\jO s=false:=by unfold vK jO;rw [h];exact ⟨rfl,rfl⟩
theorem read_some {s:YL}{n:UInt64}(h:bF s=some n.toNat):vK s=n/\jO s=true:=by
 unfold vK jO;rw [h];exact ⟨by simp,rfl⟩
theorem dread_len {s:YL}(h:¬ s.length=16):bF s=none:=if_neg h
theorem dread_16 {s:YL}(h:s.length=16):bF s=wG 0 s:=if_pos h
theorem r9turn_any (x:UInt64)(W:World):YC 169 #[.int .u64 (x.toNat:Int),.int .u64 13] W (YR (.int .u64 ((fJ x).toNat:Int)) W):=by
 refine Z2 (n:=13) Tryz.func169 rfl (ZO (Zv (.int .u64 0) (ZR (Zv (.int .u64 (x.toNat:Int)) (Zv (.int .u64 13) (kI (.int .u64 ((x<<<UInt64.ofNat 13).toNat:Int)) Kr (tS (x:=x) (yk:= .u64) (n:=13) rfl Kr Kr (by decide)) (Zv (.int .u64 (x.toNat:Int)) ?_)))))))
 exact Zv (.int .u64 13) (Zv (.int .u64 51) (kI (.int .u64 ((x>>>UInt64.ofNat 51).toNat:Int)) Kr (mV (x:=x) (yk:= .u64) (n:=51) rfl Kr Kr (by decide)) (kI (.int .u64 (((x<<<UInt64.ofNat 13)|||(x>>>UInt64.ofNat 51)).toNat:Int)) Kr (run_or64 (x:=(x<<<UInt64.ofNat 13)) (y:=(x>>>UInt64.ofNat 51)) rfl Kr Kr) (Zv (.int .u64 (((x<<<UInt64.ofNat 13)|||(x>>>UInt64.ofNat 51)).toNat:Int)) (ZN (qX (ZF (.int .u64 (((x<<<UInt64.ofNat 13)|||(x>>>UInt64.ofNat 51)).toNat:Int)) Tryz.results169 (λw hO=>⟨by rw [show fJ x=((x<<<UInt64.ofNat 13)|||(x>>>UInt64.ofNat 51)) from rfl],hO.below⟩))))))))
theorem r9Sum_any (A:Option Addr)(cap:Nat)(l:YL)(W:World)(hv:Reads u8C W W.heap.size A l)(hn:l.length<=1000000):YC 122 #[.slice A l.length cap] W (YR (.int .u64 ((tK l).toNat:Int)) W):=by
 refine Z2 (n:=24) Tryz.func122 rfl (ZO (Zv (.int .u64 0) (ZR (Zv (.int .u64 11400714819323198485) (ZN (k6 ?_))))))
 refine ZO (Zv (YI 0) (ZN (wY (ok_loop (λL f m=>∃ (k:Nat) (j:Nat->Value),(k<=l.length)/\L=[]/\f=jP j [(0,.slice A l.length cap),(3,.int .u64 ((yN l k).toNat:Int)),(4,YI (k:Int))]/\m=l.length-k) (l.length-0) ⟨0,_,Nat.zero_le _,rfl,ZU,rfl⟩ ?_))))
 rintro L f m ⟨k,j,hrel,rfl,rfl,rfl⟩
 refine k6 (ZO (Zv (YI (k:Int)) (Zv (.slice A l.length cap) (Zv (YI (l.length:Int)) ?_))))
 by_cases h1:(k:Int)<(l.length:Int)
 ·have hk:k<l.length:=by omega
  obtain ⟨bp,off,hA,hlt,hcell⟩:=hv Om
  obtain ⟨s,hs⟩:∃ s,l[k]=s:=⟨_,rfl⟩
  refine Zg h1 (ZY (ZB (k6 (wY (xM (Zv (.int .u64 ((yN l k).toNat:Int)) (Zv (.slice A l.length cap) (Zv (YI (k:Int)) ?_))))))))
  refine kI (Zp bp (off+k*1)) Kr (ZA (b:=bp) (off:=off) (c:=cap) (n:=l.length) (k:= .i64) (j:=(k:Int)) (e:=5) (sz:=1) hA) (Zo (.int .u8 (s.toNat:Int)) (a:=⟨bp,off+k*1,none⟩) (λw hO=>elem_load (ty:=5) u8C_len (λj u h=>(hO.below.cell (p:=⟨bp,off+j,none⟩) hlt).trans (hcell j u h)) k 0 hk Om _ (by rw [hs];kernel_rfl)) (kI (.int .u64 (((s).toUInt64).toNat:Int)) Kr (run_to64 (x:=s) rfl Kr (by rw [Tryz.underlying5];rfl) Tryz.underlying67) (kI (.int .u64 (((yN l k)^^^(s).toUInt64).toNat:Int)) Kr (tR (x:=(yN l k)) (y:=(s).toUInt64) rfl Kr Kr) (Zc (k:=169) (args:= #[.int .u64 (((yN l k)^^^(s).toUInt64).toNat:Int),.int .u64 13]) (.int .u64 ((fJ ((yN l k)^^^(s).toUInt64)).toNat:Int)) (λw _=>r9turn_any ((yN l k)^^^(s).toUInt64) w) (kI (.int .u64 (((fJ ((yN l k)^^^(s).toUInt64))*(18397679294719823053:UInt64)).toNat:Int)) Kr (run_mul64 (x:=(fJ ((yN l k)^^^(s).toUInt64))) (y:=(18397679294719823053:UInt64)) rfl Kr Kr) (Zv (.int .u64 (((fJ ((yN l k)^^^(s).toUInt64))*(18397679294719823053:UInt64)).toNat:Int)) (pJ (nJ (vS (xM (Zv (YI (k:Int)) ?_)))))))))))
  refine Zu (k:= .i64) (((k+1:Nat):Int)) (IntWalk.i64_in _ Om) (Zv (YI ((k+1:Nat):Int)) (pJ ?_))
  have hstep:((fJ ((yN l k)^^^(s).toUInt64))*(18397679294719823053:UInt64))=yN l (k+1):=by rw [←dMixK_step hk,hs];rfl
  rw [hstep]
  exact nI (m':=l.length-(k+1)) Om ⟨k+1,_,by omega,rfl,ZU,rfl⟩
 refine Zh h1 (ZX (tX (vI (j9 (jA (vS (ZO (Zv (.int .u64 ((yN l k).toNat:Int)) ?_))))))))
 exact Zv (.int .u64 ((yN l k).toNat:Int)) (kI (.int .u64 (((yN l k)>>>UInt64.ofNat 29).toNat:Int)) Kr (mV (x:=(yN l k)) (yk:= .u64) (n:=29) rfl Kr Kr (by decide)) (kI (.int .u64 (((yN l k)^^^((yN l k)>>>UInt64.ofNat 29)).toNat:Int)) Kr (tR (x:=(yN l k)) (y:=((yN l k)>>>UInt64.ofNat 29)) rfl Kr Kr) (Zv (.int .u64 (((yN l k)^^^((yN l k)>>>UInt64.ofNat 29)).toNat:Int)) (ZN (qX (ZF (.int .u64 (((yN l k)^^^((yN l k)>>>UInt64.ofNat 29)).toNat:Int)) Tryz.results122 (λw hO=>⟨by rw [show tK l=((yN l k)^^^((yN l k)>>>UInt64.ofNat 29)) from by unfold tK dEnd;rw [←dMixK_all (l:=l) (k:=k) Om];rfl],hO.below⟩)))))))
end
section
theorem r12Sum_any (r:Rv)(W:World)(hr:RcIn W W.heap.size r):YC 77 #[rvV r] W (YR (.tuple #[.int .u64 (yL r.rt),YI (zK r.rt).1]) W):=by
 have c1:∀ w,YB W w->YC 41 #[rvV r] w (YR (.tuple #[.string (mkS (bS r.rt)),YI (zK r.rt).1]) w):=λw hb=>r12Print_any r w (hr.on hb hb.size)
 refine zD Tryz.func77 (zY [] λb1=>z7 (v:= .tuple #[.string (mkS (bS r.rt)),YI (zK r.rt).1]) [0] (λw hO=>c1 w hO.below) (gE 12 [] ((zK r.rt).1=0) (λh=> ?_) (λh=> ?_)))
 rotate_left
 ·exact yP [] (.int .u64 0) (YI (zK r.rt).1) λw hO=>⟨by rw [show yL r.rt=0 from if_neg h],hO.below⟩
 have hl:(yK r.rt).length<=4096:=(yS h).2.2.2.2.2
 have hp:bS r.rt=yK r.rt:=if_pos h
 rw [hp]
 refine x_bytes 15 [] (yK r.rt) (src:=9) (dst:=36) (e:=5) (x:= .tmp 14) λw0 w1 cap hO hB hb hlt hcap=> ?_
 have hb0:=hO.below
 have c2:∀ w,YB w1 w->YC 122 #[.slice (some ⟨w0.heap.size,0,none⟩) (yK r.rt).length cap] w (YR (.int .u64 ((tK (yK r.rt)).toNat:Int)) w):=λw hw=>r9Sum_any _ cap (yK r.rt) w (hB.reads.on hw hw.size) Om
 exact z7 (v:= .int .u64 ((tK (yK r.rt)).toNat:Int)) [] (λw hO=>c2 w hO.below) (yP [] (.int .u64 ((tK (yK r.rt)).toNat:Int)) (YI 0) λw hO2=>⟨by rw [show yL r.rt=_ from if_pos h,h],hb0.trans ((hb.mono hb0.size).trans (hO2.below.mono (Nat.le_trans hb0.size (Nat.le_of_lt hlt))))⟩)
end
section
set_option linter.unnecessarySimpa false
theorem fMay_at (A:Option Addr)(cap:Nat)(xs:List Fv)(W:World)(hv:FtIn W W.heap.size A xs):YC 114 #[.slice A xs.length cap] W (YR (.bool (jU (yI xs))) W):=by
 refine zD Tryz.func114 (zG 8 [] ((8:Int)<(xs.length:Int)) (λh8=> ?_) (λh8=> ?_))
 ·exact z8 [] Z5 λw hO=>⟨by rw [n7 (.inl (by rw [j7];omega))],hO.below⟩
 refine zT (α:=Nat) (λi=>[(0,.slice A xs.length cap),(3,.string (mkS (qP (xs.map Fv.name) i))),(9,.slice A xs.length cap),(10,YI (xs.length:Int)),(11,YI (i:Int))]) (λ_=>[]) (λi m=>UpTo xs i/\m=xs.length-i) 0 xs.length [] ⟨UpTo.zero xs,rfl⟩ ?_
 rintro i mm g kk ⟨hup,hmm⟩ nx hkk
 subst hkk
 refine zG 12 [] ((i:Int)<(xs.length:Int)) (λh12=> ?_) (λh12=> ?_)
 rotate_left
 ·exact z8 [] Z4 λw hO=>⟨by rw [hup.may Om Om],hO.below⟩
 have hj:i<xs.length:=by omega
 have hxm:xs[i]∈xs:=List.getElem_mem hj
 have hnl:i<(xs.map Fv.name).length:=by rw [List.length_map];exact hj
 have hl1:qP (xs.map Fv.name) (i+1)=xs[i].name:=by rw [lastT_succ hnl,List.getElem_map]
 have hlast:∀ h0:0<i,qP (xs.map Fv.name) i=(xs[i-1]'Om).name:=λh=>by unfold qP;rw [dif_pos ⟨h,by omega⟩,List.getElem_map]
 obtain ⟨eb,eo,hA,hel⟩:=hv.top.elem vH i hj
 have hnm:=hv.name _ hxm
 refine zL 13 [] hA xs.length cap i 2 hj (zI 14 [] 148 eb (eo+i*2+0) (fvV xs[i]) (λw hO=>hel w hO.below _ 0 _ Kr) (zH [] λb5=>z7 (v:= .bool (wdL xs[i].name)) [0,0] (λw hO=>bV _ w hnm) (zV 17 (wdL xs[i].name) (λh17=> ?_) (λh17=> ?_))))
 rotate_left
 ·exact z8 [] Z5 λw hO=>⟨by rw [may_no1 hxm h17],hO.below⟩
 refine x_sle 23 [0] xs[i].name (qP (xs.map Fv.name) i) (zV 23 (!Op.bytesLess (qP (xs.map Fv.name) i) xs[i].name) (λh23=> ?_) (λh23=> ?_))
 ·refine z8 [] Z5 λw hO=>⟨?_,hO.below⟩
  have h0:0<i:=Nat.pos_of_ne_zero λh0=>by
   subst h0
   have:qP (xs.map Fv.name) 0=[]:=by unfold qP;rw [dif_neg Om]
   rw [this,less_nil (λe=>by rw [e] at h17;revert h17;decide)] at h23;cases h23
  rw [hlast h0] at h23
  have e2:xs[i-1+1]'Om=xs[i]:=by congr 1;omega
  rw [may_no2 (z:=i-1) Om (by rw [e2];simpa using h23)]
 have h2:∀ h0:0<i,Op.bytesLess (xs[i-1]'Om).name xs[i].name=true:=λh0=>by rw [←hlast h0];simpa using h23
 have hc:∀ w,YB W w->YC 163 #[.slice xs[i].A xs[i].of.length xs[i].cap,.slice A xs.length cap] w (YR (.bool (kA (yI xs) xs[i].of)) w):=λw hb=>fmayOf_any A cap xs xs[i].A xs[i].cap xs[i].of w (hv.on hb hb.size) ((hv.each _ hxm).on hb hb.size) (hv.m _ hxm) (hv.text _ hxm)
 refine z7 (v:= .bool (kA (yI xs) xs[i].of)) [0] (λw hO=>hc w hO.below) (zV 29 (kA (yI xs) xs[i].of) (λh29=> ?_) (λh29=> ?_))
 rotate_left
 ·exact z8 [] Z5 λw hO=>⟨by rw [may_no3 hxm h29],hO.below⟩
 exact xY 3 [0] (.string (mkS xs[i].name)) (.string (mkS (qP (xs.map Fv.name) (i+1)))) (by rw [hl1]) (x_i 34 [] ((i+1:Nat):Int) (zQ [] [] (λw hO=>hO.no) (nx (i+1) (xs.length-(i+1)) [] Om ⟨hup.next hj h17 h2 h29,rfl⟩ Kr Kr)))
end
section
def byK (n:UInt64)(k:Nat):YL:=(List.range k).map λi=>(n>>>UInt64.ofNat (8*(7-i))).toUInt8
end
section
def rot4 (x:UInt64):UInt64:=x<<<4|||x>>>60
def rotN (n:UInt64):Nat->UInt64
 |0=>n
 |k+1=>rot4 (rotN n k)
theorem rot4_nat (x:UInt64):(rot4 x).toNat=x.toNat*16 % 18446744073709551616+x.toNat/1152921504606846976:=by
 have h0:=x.toNat_lt
 unfold rot4
 rw [UInt64.toNat_or,UInt64.toNat_shiftLeft,UInt64.toNat_shiftRight,show (4:UInt64).toNat % 64=4 from rfl,show (60:UInt64).toNat % 64=60 from rfl,Nat.shiftLeft_eq,Nat.shiftRight_eq_div_pow,
  show x.toNat*2^4 % 2^64=2^4*(x.toNat % 2^60) by omega,←Nat.two_pow_add_eq_or_of_lt Om]
theorem rot_step {N q p a d r b:Nat}(hq:q*p=1152921504606846976)(hr:r<q)(hb:b<p)(ha:a=(q*d+r)*p+b)(hd:d<16):
  a*16 % 18446744073709551616+a/1152921504606846976=r*(16*p)+(16*b+d):=by
 have h1:a=1152921504606846976*d+(r*p+b):=by rw [ha,←hq,Nat.add_mul,Nat.mul_right_comm];omega
 have h2:r*p+b<1152921504606846976:=by
  rw [←hq]
  have:r*p+p<=q*p:=by rw [←Nat.succ_mul];exact Nat.mul_le_mul_right p hr
  omega
 have h3:r*(16*p)=16*(r*p):=by rw [Nat.mul_left_comm]
 rw [h3]
 omega
theorem pow_parts {k:Nat}(hk:k<16):(16:Nat)^(15-k)*16^k=1152921504606846976:=by
 rw [←Nat.pow_add,show 15-k+k=15 by omega]
theorem rotN_nat (n:UInt64):∀ k,k<=16->(rotN n k).toNat=n.toNat % 16^(16-k)*16^k+n.toNat/16^(16-k)
 |0,_=>by
  have h0:=n.toNat_lt
  show n.toNat=_
  rw [show (16:Nat)^(16-0)=18446744073709551616 from rfl,Nat.pow_zero,Nat.mul_one]
  omega
 |k+1,hk=>by
  have h0:=n.toNat_lt
  have ih:=rotN_nat n k Om
  have hp:=pow_parts (k:=k) Om
  rw [show 16-(k+1)=15-k by omega]
  rw [show 16-k=(15-k)+1 by omega] at ih
  obtain ⟨q,hq⟩:∃ q,16^(15-k)=q:=⟨_,rfl⟩
  obtain ⟨p,hpp⟩:∃ p,16^k=p:=⟨_,rfl⟩
  rw [Nat.pow_succ,hq,hpp] at ih
  rw [hq,hpp] at hp
  rw [hq,show (16:Nat)^(k+1)=16*p by rw [Nat.pow_succ,hpp,Nat.mul_comm]]
  have hq0:0<q:=by rw [←hq];exact Nat.pow_pos (by decide)
  have hp0:0<p:=by rw [←hpp];exact Nat.pow_pos (by decide)
  have e1:n.toNat % (q*16)=q*(n.toNat/q % 16)+n.toNat % q:=by rw [Nat.mod_mul];omega
  have e2:n.toNat/(q*16)=n.toNat/q/16:=(Nat.div_div_eq_div_mul _ _ _).symm
  have e3:n.toNat/q/16<p:=by
   rw [Nat.div_div_eq_div_mul,Nat.div_lt_iff_lt_mul Om]
   rw [show p*(q*16)=(q*p)*16 by rw [Nat.mul_comm q p,Nat.mul_assoc],hp]
   omega
  rw [e1,e2] at ih
  show (rot4 (rotN n k)).toNat=_
  rw [rot4_nat]
  have:=rot_step (N:=0) hp (Nat.mod_lt n.toNat hq0) e3 ih (Nat.mod_lt (n.toNat/q) (by decide))
  rw [this]
  omega
theorem rotN_dig (n:UInt64){k:Nat}(hk:k<16):(rotN n (k+1) &&& 15).toNat=n.toNat/16^(15-k) % 16:=by
 rw [UInt64.toNat_and,show (15:UInt64).toNat=2^4-1 from rfl,Nat.and_two_pow_sub_one_eq_mod,rotN_nat n (k+1) Om,show 16-(k+1)=15-k by omega,Nat.pow_succ]
 have:n.toNat % 16^(15-k)*(16^k*16)=(n.toNat % 16^(15-k)*16^k)*16:=by rw [Nat.mul_assoc]
 rw [this]
 omega
def padB (xs:YL)(n:Nat):YL:=xs++List.replicate (n-xs.length) 0
theorem padB_len {xs:YL}{n:Nat}(h:xs.length<=n):(padB xs n).length=n:=by unfold padB;simp;omega
theorem padB_set {xs:YL}{n k:Nat}(hk:xs.length=k)(h:k<n)(c:UInt8):(padB xs n).set k c=padB (xs++[c]) n:=by
 unfold padB
 rw [List.set_append_right _ _ Om,hk,Nat.sub_self,List.length_append,List.length_singleton,hk,show n-k=(n-(k+1))+1 by omega,List.replicate_succ,List.set_cons_zero,List.append_assoc]
 rfl
theorem padB_all {xs:YL}{n:Nat}(h:xs.length=n):padB xs n=xs:=by unfold padB;rw [h,Nat.sub_self];simp
end
section
def arrC (bs:YL):Array Value:=(bs.flatMap u8C).toArray
theorem arrC_size (bs:YL):(arrC bs).size=bs.length:=by unfold arrC;rw [u8_flat];simp
theorem u8_flat_len (l:YL):(l.flatMap u8C).length=l.length:=by rw [u8_flat];simp
theorem arrC_set {bs:YL}{k:Nat}(hk:k<bs.length)(c:UInt8):zP (arrC bs) k (Value.int .u8 (c.toNat:Int)).cells=arrC (bs.set k c):=by
 have h:=store_byte (cur:=arrC bs) (l:=bs) hk (by rw [arrC_size];exact Nat.le_refl _) (by unfold arrC;rw [Nat.mul_one,List.take_of_length_le (by rw [u8_flat_len];exact Nat.le_refl _)]) c
 have h2:(zP (arrC bs) k (Value.int .u8 (c.toNat:Int)).cells).size=bs.length:=by
  have e:=arrC_size bs
  have e2:(arrC bs).toList.length=bs.length:=by rw [←e];simp
  unfold zP
  simp [Value.cells,e2]
  omega
 apply Array.toList_inj.1
 rw [List.length_set,Nat.mul_one,List.take_of_length_le (by rw [Array.length_toList,h2];exact Nat.le_refl _)] at h
 rw [h];unfold arrC;simp
section
variable {P:Program}{o:Oper}
theorem run_slarr {ρ:Operand->Value}{t e:TypeId}{x:Operand}{b n sz:Nat}(ho:o.op= .slice t x none none none)(hx:ρ x= .pointer (some ⟨b,0,none⟩))
  (hu:P.underlying t=some (.array n e)) (hs:(P.info? e).map (·.size)=some sz) (w:World):(execOp ρ o).run P w= .ok (.value (.slice (some ⟨b,0,none⟩) n n)) w:=by
 cases he:P.info? e with
 |none=>rw [he] at hs;cases hs
 |some i=>
  unfold execOp
  simp [ho,hx,Instr.sliceAt,Instr.sureAddr,Instr.slice,Instr.sliceBounds,Instr.sliceBound,Sem.run_bind,asIntOf,run_underlying hu,sizeOf,typeInfo,he,yJ]
end
theorem Own.arr {M:List Nat}{W w:World}{L:List Blk}(hO:Own M W w L){b:Nat}{bs:YL}{T:TypeId}(h:(⟨b,arrC bs,T⟩:Blk)∈L):Reads u8C w w.heap.size (some ⟨b,0,none⟩) bs:=
 Reads.lit9 (hO.held _ h) (by unfold arrC;simp)
end
section
theorem d9rot13_any (x:UInt64)(W:World):YC 73 #[.int .u64 (x.toNat:Int),YI 13] W (YR (.int .u64 ((fJ x).toNat:Int)) W):=by
 refine Z2 (n:=17) Tryz.func73 rfl (ZO (Zv (.int .u64 0) (ZR (Zv (YI 13) (Zv (.int .u64 13) (Zv (.int .u64 13) (Zv (.int .u64 13) ?_)))))))
 refine ZR (Zv (.int .u64 (x.toNat:Int)) (Zv (.int .u64 13) (kI (.int .u64 ((x<<<UInt64.ofNat 13).toNat:Int)) Kr (tS (x:=x) (yk:= .u64) (n:=13) rfl Kr Kr (by decide)) (Zv (.int .u64 (x.toNat:Int)) (Zv (.int .u64 13) (Zv (.int .u64 51) (kI (.int .u64 ((x>>>UInt64.ofNat 51).toNat:Int)) Kr (mV (x:=x) (yk:= .u64) (n:=51) rfl Kr Kr (by decide)) (kI (.int .u64 (((x<<<UInt64.ofNat 13)|||(x>>>UInt64.ofNat 51)).toNat:Int)) Kr (run_or64 (x:=(x<<<UInt64.ofNat 13)) (y:=(x>>>UInt64.ofNat 51)) rfl Kr Kr) ?_))))))))
 exact Zv (.int .u64 (((x<<<UInt64.ofNat 13)|||(x>>>UInt64.ofNat 51)).toNat:Int)) (ZN (qX (ZF (.int .u64 (((x<<<UInt64.ofNat 13)|||(x>>>UInt64.ofNat 51)).toNat:Int)) Tryz.results73 (λw hO=>⟨by rw [show fJ x=((x<<<UInt64.ofNat 13)|||(x>>>UInt64.ofNat 51)) from rfl],hO.below⟩))))
theorem d9rot4_any (x:UInt64)(W:World):YC 73 #[.int .u64 (x.toNat:Int),YI 4] W (YR (.int .u64 ((rot4 x).toNat:Int)) W):=by
 refine Z2 (n:=17) Tryz.func73 rfl (ZO (Zv (.int .u64 0) (ZR (Zv (YI 4) (Zv (.int .u64 4) (Zv (.int .u64 4) (Zv (.int .u64 4) ?_)))))))
 refine ZR (Zv (.int .u64 (x.toNat:Int)) (Zv (.int .u64 4) (kI (.int .u64 ((x<<<UInt64.ofNat 4).toNat:Int)) Kr (tS (x:=x) (yk:= .u64) (n:=4) rfl Kr Kr (by decide)) (Zv (.int .u64 (x.toNat:Int)) (Zv (.int .u64 4) (Zv (.int .u64 60) (kI (.int .u64 ((x>>>UInt64.ofNat 60).toNat:Int)) Kr (mV (x:=x) (yk:= .u64) (n:=60) rfl Kr Kr (by decide)) (kI (.int .u64 (((x<<<UInt64.ofNat 4)|||(x>>>UInt64.ofNat 60)).toNat:Int)) Kr (run_or64 (x:=(x<<<UInt64.ofNat 4)) (y:=(x>>>UInt64.ofNat 60)) rfl Kr Kr) ?_))))))))
 exact Zv (.int .u64 (((x<<<UInt64.ofNat 4)|||(x>>>UInt64.ofNat 60)).toNat:Int)) (ZN (qX (ZF (.int .u64 (((x<<<UInt64.ofNat 4)|||(x>>>UInt64.ofNat 60)).toNat:Int)) Tryz.results73 (λw hO=>⟨by rw [show rot4 x=((x<<<UInt64.ofNat 4)|||(x>>>UInt64.ofNat 60)) from rfl],hO.below⟩))))
theorem d9Sum_any (A:Option Addr)(cap:Nat)(l:YL)(W:World)(hv:Reads u8C W W.heap.size A l)(hn:l.length<=1000000):YC 90 #[.slice A l.length cap] W (YR (.int .u64 ((tK l).toNat:Int)) W):=by
 refine Z2 (n:=23) Tryz.func90 rfl (ZO (Zv (.int .u64 0) (ZR (Zv (.int .u64 11400714819323198485) (ZN (k6 ?_))))))
 refine ZO (Zv (.slice A l.length cap) (Zv (YI (l.length:Int)) (Zv (YI 0) (ZN (wY (ok_loop (λL f m=>∃ (k:Nat) (j:Nat->Value),(k<=l.length)/\L=[]/\f=jP j [(0,.slice A l.length cap),(3,.int .u64 ((yN l k).toNat:Int)),(6,.slice A l.length cap),(7,YI (l.length:Int)),(8,YI (k:Int))]/\m=l.length-k) (l.length-0) ⟨0,_,Nat.zero_le _,rfl,ZU,rfl⟩ ?_))))))
 rintro L f m ⟨k,j,hrel,rfl,rfl,rfl⟩
 refine k6 (xM ?_)
 by_cases h1:(k:Int)<(l.length:Int)
 ·have hk:k<l.length:=by omega
  obtain ⟨bp,off,hA,hlt,hcell⟩:=hv Om
  obtain ⟨s,hs⟩:∃ s,l[k]=s:=⟨_,rfl⟩
  refine Zg h1 (ZN (k6 (Zt (ZB (k6 (wY (ZO (kI (Zp bp (off+k*1)) Kr (ZA (b:=bp) (off:=off) (c:=cap) (n:=l.length) (k:= .i64) (j:=(k:Int)) (e:=5) (sz:=1) hA) ?_))))))))
  refine Zo (.int .u8 (s.toNat:Int)) (a:=⟨bp,off+k*1,none⟩) (λw hO=>elem_load (ty:=5) u8C_len (λj u h=>(hO.below.cell (p:=⟨bp,off+j,none⟩) hlt).trans (hcell j u h)) k 0 hk Om _ (by rw [hs];kernel_rfl)) (Zv (.int .u8 (s.toNat:Int)) (ZN (xM (Zv (.int .u64 ((yN l k).toNat:Int)) (Zv (.int .u8 (s.toNat:Int)) (kI (.int .u64 (((s).toUInt64).toNat:Int)) Kr (run_to64 (x:=s) rfl Kr (by rw [Tryz.underlying5];rfl) Tryz.underlying67) (kI (.int .u64 (((yN l k)^^^(s).toUInt64).toNat:Int)) Kr (tR (x:=(yN l k)) (y:=(s).toUInt64) rfl Kr Kr) (Zc (k:=73) (args:= #[.int .u64 (((yN l k)^^^(s).toUInt64).toNat:Int),YI 13]) (.int .u64 ((fJ ((yN l k)^^^(s).toUInt64)).toNat:Int)) (λw _=>d9rot13_any ((yN l k)^^^(s).toUInt64) w) (kI (.int .u64 (((fJ ((yN l k)^^^(s).toUInt64))*(18397679294719823053:UInt64)).toNat:Int)) Kr (run_mul64 (x:=(fJ ((yN l k)^^^(s).toUInt64))) (y:=(18397679294719823053:UInt64)) rfl Kr Kr) (Zv (.int .u64 (((fJ ((yN l k)^^^(s).toUInt64))*(18397679294719823053:UInt64)).toNat:Int)) ?_))))))))))
  refine pJ (nJ (vS (xM (Zu (k:= .i64) (((k+1:Nat):Int)) (IntWalk.i64_in _ Om) (Zv (YI ((k+1:Nat):Int)) (pJ ?_))))))
  have hstep:((fJ ((yN l k)^^^(s).toUInt64))*(18397679294719823053:UInt64))=yN l (k+1):=by rw [←dMixK_step hk,hs];rfl
  rw [hstep]
  exact nI (m':=l.length-(k+1)) Om ⟨k+1,_,by omega,rfl,ZU,rfl⟩
 refine Zh h1 (ZN (k6 (Zf (tX (vI (j9 (jA (vS (k6 (xM ?_))))))))))
 exact Zv (.int .u64 ((yN l k).toNat:Int)) (Zv (.int .u64 ((yN l k).toNat:Int)) (kI (.int .u64 (((yN l k)>>>UInt64.ofNat 29).toNat:Int)) Kr (mV (x:=(yN l k)) (yk:= .u64) (n:=29) rfl Kr Kr (by decide)) (kI (.int .u64 (((yN l k)^^^((yN l k)>>>UInt64.ofNat 29)).toNat:Int)) Kr (tR (x:=(yN l k)) (y:=((yN l k)>>>UInt64.ofNat 29)) rfl Kr Kr) (Zv (.int .u64 (((yN l k)^^^((yN l k)>>>UInt64.ofNat 29)).toNat:Int)) (ZN (qX (ZF (.int .u64 (((yN l k)^^^((yN l k)>>>UInt64.ofNat 29)).toNat:Int)) Tryz.results90 (λw hO=>⟨by rw [show tK l=((yN l k)^^^((yN l k)>>>UInt64.ofNat 29)) from by unfold tK dEnd;rw [←dMixK_all (l:=l) (k:=k) Om];rfl],hO.below⟩))))))))
theorem run_hexat2 {P:Program}{ρ:Operand->Value}{o:Oper}{t:TypeId}{x y:Operand}{m:UInt64}{d:Nat}(e:(m &&& 15).toNat=d)(hm:d<16)(ho:o.op= .index t x y)(hx:ρ x= .string (mkS dig9S))(hy:ρ y= .int .u64 (((m &&& 15).toNat:Nat):Int))
  (hu:P.underlying t=some .string) (w:World):(execOp ρ o).run P w= .ok (.value (.int .u8 ((jH d).toNat:Int))) w:=by
 rw [e] at hy
 have q:=run_stridx9 (P:=P) (j:=((d:Nat):Int)) ho hx hy hu Om (by rw [Int.toNat_natCast];exact hm) w
 rw [q]
 congr 5
 have:(((d:Nat):Int)).toNat=d:=Int.toNat_natCast _
 rw [←hex_at hm]
 congr 1
theorem d9Text_any (n:UInt64)(W:World):YC 37 #[.int .u64 (n.toNat:Int)] W (YR (.string (mkS (yD n))) W):=by
 refine Z2 (n:=18) Tryz.func37 rfl (ZO (Zv (.string ⟨#[]⟩) (ZR (Za (.agg #[.int .u8 0,.int .u8 0,.int .u8 0,.int .u8 0,.int .u8 0,.int .u8 0,.int .u8 0,.int .u8 0,.int .u8 0,.int .u8 0,.int .u8 0,.int .u8 0,.int .u8 0,.int .u8 0,.int .u8 0,.int .u8 0]) (λb1=>ZN (k6 ?_))))))
 refine ZO (Zv (YI 0) (ZN (wY (ok_cast (L':=[⟨b1,arrC (padB [] 16),117⟩]) (by show [(⟨b1,_,_⟩:Blk)]=_;congr 2) (ok_loop (λL f m=>∃ (k:Nat) (r:UInt64) (xs:YL) (j:Nat->Value),(xs=hexT n.toNat k/\r=rotN n k/\k<=16)/\L=[⟨b1,arrC (padB xs 16),117⟩]/\f=jP j [(0,.int .u64 (r.toNat:Int)),(3,Zp b1 0),(5,YI (k:Int))]/\m=16-k) (16-0) ⟨0,n,[],_,⟨rfl,rfl,by omega⟩,rfl,ZU,rfl⟩ ?_)))))
 rintro L f m ⟨k,r,xs,j,hrel,rfl,rfl,rfl⟩
 obtain ⟨hxs,hm,hk⟩:=hrel
 refine k6 (xM ?_)
 by_cases h1:(k:Int)<16
 ·have hk16:k<16:=by omega
  have hxl:xs.length=k:=by rw [hxs];exact bE _ _
  have hpl:(padB xs 16).length=16:=padB_len Om
  refine Zg h1 (ZN (k6 (Zt (ZB (k6 (wY (ZO (Zv (YI (k:Int)) ?_))))))))
  refine Zv (YI (k:Int)) (ZR (Zv (.int .u64 (r.toNat:Int)) (Zc (k:=73) (args:= #[.int .u64 (r.toNat:Int),YI 4]) (.int .u64 ((rot4 r).toNat:Int)) (λw _=>d9rot4_any r w) (Zv (.int .u64 ((rot4 r).toNat:Int)) (ZN (xM (Zv (YI (k:Int)) ?_)))))))
  refine Zv (.int .u64 ((rot4 r).toNat:Int)) (kI (.int .u64 (((rot4 r) &&& (15:UInt64)).toNat:Int)) Kr (run_and64 (x:=(rot4 r)) (y:=(15:UInt64)) rfl Kr Kr) (kI (.int .u8 ((jH (n.toNat/16^(15-k) % 16)).toNat:Int)) Kr (run_hexat2 (m:=rot4 r) (d:=n.toNat/16^(15-k) % 16) (by rw [hm];exact rotN_dig n hk16) (Nat.mod_lt _ (by decide)) rfl Kr Kr Tryz.underlying9) (kI (Zp b1 k) Kr (run_ixarr (b:=b1) (off:=0) (k:= .i64) (j:=(k:Int)) (n:=16) (e:=5) (sz:=1) rfl Kr Kr Kr Kr Om Om Om) (s_storeS 0 ⟨b1,(arrC (padB xs 16)),117⟩ (off:=k) (.int .u8 ((jH (n.toNat/16^(15-k) % 16)).toNat:Int)) 1 Kr rfl rfl Kr Kr Kr Kr Kr (by show _+1<=(arrC _).size;rw [arrC_size];omega) Kr (s_cast (L':=[⟨b1,arrC (padB (xs++[jH (n.toNat/16^(15-k) % 16)]) 16),117⟩]) (by show [(⟨b1,zP _ _ _,_⟩:Blk)]=_;rw [arrC_set Om,padB_set hxl hk16]) (pJ (nJ (vS (xM (Zu (k:= .i64) (((k+1:Nat):Int)) (IntWalk.i64_in _ Om) (Zv (YI ((k+1:Nat):Int)) ?_)))))))))))
  exact pJ (nI (m':=16-(k+1)) Om ⟨k+1,(rot4 r),(xs++[jH (n.toNat/16^(15-k) % 16)]),_,⟨by rw [hexT_step,←hxs],by rw [hm];rfl,by omega⟩,rfl,ZU,rfl⟩)
 have hk16:k=16:=by omega
 have hall:padB xs 16=yD n:=by rw [padB_all (by rw [hxs,bE];exact hk16),hxs,hk16];rfl
 have hl16:(yD n).length=16:=bE _ _
 rw [hall]
 refine Zh h1 (ZN (k6 (Zf (tX (vI (j9 (jA (vS (k6 (xM ?_))))))))))
 exact kI (.slice (some ⟨b1,0,none⟩) ((yD n).length) 16) Kr (λw=>by rw [hl16];exact run_slarr (b:=b1) (n:=16) (e:=5) (sz:=1) rfl Kr Kr Kr w) (s_read (.string (mkS (yD n))) Kr (λw hO=>run_bytes (cap:=16) (l:=yD n) rfl Kr Tryz.underlying36 Tryz.underlying5 Tryz.underlying9 (by rw [hl16];decide) (hO.arr (T:=117) (List.mem_cons_self ..))) (Zv (.string (mkS (yD n))) (ZN (qX (ZF (.string (mkS (yD n))) Tryz.results37 (λw hO=>⟨rfl,hO.below⟩))))))
theorem hex_index:∀ n:_root_.Fin 256,Lib.indexByte dig9S (UInt8.ofNat n.val)=hexI (UInt8.ofNat n.val):=by decide
theorem digit_index (c:UInt8):Lib.indexByte dig9S c=hexI c:=by
 have h:=hex_index ⟨c.toNat,c.toNat_lt⟩
 rw [UInt8.ofNat_toNat] at h;exact h
theorem digS_list:(⟨#[48,49,50,51,52,53,54,55,56,57,97,98,99,100,101,102]⟩:ByteArray).data.toList=dig9S:=rfl
theorem d9index_any (c:UInt8)(W:World):YC 84 #[.string ⟨#[48,49,50,51,52,53,54,55,56,57,97,98,99,100,101,102]⟩,.int .u8 (c.toNat:Int)] W (YR (YI (hexI c)) W):=
 (Tryz.strings_IndexByte _ _ W).mono λe w' ⟨h1,h2⟩=>⟨by rw [h1,digS_list,Int.toNat_natCast,show c.toNat.toUInt8=c from UInt8.ofNat_toNat,digit_index],h2▸Below.refl _ _⟩
theorem d9Read_any (s:YL)(W:World):YC 181 #[.string (mkS s)] W (YR (.tuple #[.int .u64 ((vK s).toNat:Int),.bool (jO s)]) W):=by
 have hsz:=mkS_sz9 s
 refine Z2 (n:=26) Tryz.func181 rfl (ZO (Zv (.int .u64 0) (Zv Z5 (ZN (k6 (ZO (Zv (.string (mkS s)) (Zv (YI ((mkS s).size)) ?_))))))))
 by_cases h1:((mkS s).size:Int)=16
 ·refine Zn (p:=((mkS s).size:Int)=16) true (decide_eq_true (h1)) (ZX (ZB (ZO (Zv (.int .u64 0) (ZN (k6 ?_))))))
  refine ZO (Zv (YI 0) (ZN (wY (ok_loop (λL f m=>∃ (i:Nat) (n:UInt64) (j:Nat->Value),(i<=16/\wG 0 (s.take i)=some n.toNat)/\L=[]/\f=jP j [(0,.string (mkS s)),(4,.int .u64 (n.toNat:Int)),(10,YI (i:Int))]/\m=16-i) (16-0) ⟨0,0,_,⟨by omega,rfl⟩,rfl,ZU,rfl⟩ ?_))))
  rintro L f m ⟨i,n,j,hrel,rfl,rfl,rfl⟩
  obtain ⟨hi6,hN⟩:=hrel
  refine k6 (xM ?_)
  by_cases h2:(i:Int)<16
  ·have hi:i<s.length:=by omega
   obtain ⟨c,hc⟩:∃ c,s[i]=c:=⟨_,rfl⟩
   have hlt:=take_lt Om hN
   have hpw:=Nat.pow_le_pow_right (show 0<16 by decide) (show i<=15 by omega)
   refine Zg h2 (ZN (k6 (Zt (ZB (k6 (wY (ZO (Zv (YI (i:Int)) ?_))))))))
   refine Zv (YI (i:Int)) (ZR (Zv (.string (mkS s)) (Zv (YI (i:Int)) (kI (.int .u8 (c.toNat:Int)) Kr (λw=>by rw [←hc];exact run_stridx9 (s:=s) (k:= .i64) (j:=(i:Int)) rfl Kr Kr Tryz.underlying9 Om Om w) (Zc (k:=84) (args:= #[.string ⟨#[48,49,50,51,52,53,54,55,56,57,97,98,99,100,101,102]⟩,.int .u8 (c.toNat:Int)]) (YI (hexI c)) (λw _=>d9index_any c w) (Zv (YI (hexI c)) (pJ (vS ?_))))))))
   refine k6 (ZO (Zv (YI (hexI c)) ?_))
   by_cases h3:(hexI c:Int)<0
   ·refine Zg h3 (ZY (ZO (Zv (.int .u64 0) (Zv Z5 (ZN (qX (qG ?_)))))))
    exact mK (qG (fin_round_ret (mK (qG (ZG (.int .u64 0) Z5 Tryz.results181 (λw hO=>⟨by have q:=read_no (s:=s) (by rw [dread_16 Om];exact take_bad hi hN (by rw [hc];exact hexI_neg h3));rw [q.1,q.2];rfl,hO.below⟩))))))
   obtain ⟨d,hd,hdI,hd16⟩:=hexI_pos h3
   refine Zh h3 (ZX (ZB (xM (Zv (.int .u64 (n.toNat:Int)) (kI (.int .u64 ((n<<<UInt64.ofNat 4).toNat:Int)) Kr (tS (x:=n) (yk:= .u64) (n:=4) rfl Kr Kr (by decide)) (Zv (YI (hexI c)) (kI (.int .u64 ((UInt64.ofNat d).toNat:Int)) Kr (λw=>by rw [show ((UInt64.ofNat d).toNat:Int)=hexI c from by rw [hdI,UInt64.toNat_ofNat',Nat.mod_eq_of_lt Om]];exact run_toint (k:= .i64) (q:= .u64) (x:=hexI c) rfl Kr (by rw [Tryz.underlying3];rfl) Tryz.underlying67 (wrap_u64 Om Om) w) (kI (.int .u64 (((n<<<UInt64.ofNat 4)|||(UInt64.ofNat d)).toNat:Int)) Kr (run_or64 (x:=(n<<<UInt64.ofNat 4)) (y:=(UInt64.ofNat d)) rfl Kr Kr) ?_))))))))
   exact Zv (.int .u64 (((n<<<UInt64.ofNat 4)|||(UInt64.ofNat d)).toNat:Int)) (pJ (nJ (vS (xM (Zu (k:= .i64) (((i+1:Nat):Int)) (IntWalk.i64_in _ Om) (Zv (YI ((i+1:Nat):Int)) (pJ (nI (m':=16-(i+1)) Om ⟨i+1,((n<<<UInt64.ofNat 4)|||(UInt64.ofNat d)),_,⟨by omega,by rw [nib_add n hd16 Om];exact take_step hi hN (by rw [hc];exact hd)⟩,rfl,ZU,rfl⟩))))))))
  refine Zh h2 (ZN (k6 (Zf (tX (vI (j9 (jA (vS (k6 (xM ?_))))))))))
  exact Zv (.int .u64 (n.toNat:Int)) (Zv (.int .u64 (n.toNat:Int)) (Zv Z4 (ZN (qX (ZG (.int .u64 (n.toNat:Int)) Z4 Tryz.results181 (λw hO=>⟨by have q:=read_some (s:=s) (n:=n) (by rw [dread_16 Om];rw [List.take_of_length_le Om] at hN;exact hN);rw [q.1,q.2],hO.below⟩))))))
 refine Zn (p:=((mkS s).size:Int)=16) false (decide_eq_false (h1)) (ZY (ZO (Zv (.int .u64 0) (Zv Z5 (ZN (qX (qG ?_)))))))
 exact ZG (.int .u64 0) Z5 Tryz.results181 (λw hO=>⟨by rw [(read_no (dread_len (s:=s) Om)).1,(read_no (dread_len (s:=s) Om)).2];rfl,hO.below⟩)
end
section
set_option linter.unnecessarySimpa false
theorem wd_ne' {s:YL}(h:wdL s=true):s≠[]:=λe=>by subst e;exact absurd h (by decide)
def rcB (r:Rv)(b:Nat):Blk:=⟨b,(rvC r).toArray,47⟩
def brB (x:Bv)(b:Nat):Blk:=⟨b,(bvC x).toArray,102⟩
def ftB (x:Fv)(b:Nat):Blk:=⟨b,(fvC x).toArray,148⟩
theorem ge_of {W w:World}{R o:List Blk}(h:Own [] W w (R++o)):∀ x∈o,W.heap.size<=x.b:=λx hx=>(h.base x (List.mem_append_right _ hx)).elim id λq=>by simp at q
theorem qText_any (r:Rv)(W:World)(hr:RcIn W W.heap.size r)(hfe:∀ n∈r.needs,∀ u∈n.any,∀ s∈u.fs,s≠[])(ht:(yK r.rt).length<=100000000)(hK:RecLib W):YC 75 #[rvV r] W (YR (.string (mkS (yK r.rt))) W):=by
 have hT:yK r.rt=vO r.rt++r.needs.flatMap (λn=>k8 n.nt)++r.bars.flatMap (λb=>jD b.bt)++r.fts.flatMap (λf=>g0 f.ft):=by
  unfold yK;simp only [Rv.rt,yI,List.flatMap_map]
 have hl:=congrArg List.length hT
 simp only [List.length_append] at hl
 have hsn:=hr.sn
 have hnn:=hr.nn;have hnb:=hr.nb;have hfn:=hr.fts.n
 have hH:vO r.rt=zE 32 [jL,r.name,r.ver.print]++[10]:=by
  show txPack++r.name++[32]++r.ver.print++[10]=_
  simp [zE,txPack,jL]
 have hHl:=congrArg List.length hH
 simp only [List.length_append,List.length_cons,List.length_nil] at hHl
 have hP:∀ w,YB W w->YC 117 #[yT r.ver] w (YR (.string (mkS r.ver.print)) w):=λw hb=>vprint_any r.ver w hsn.2.1 hsn.2.2 (hK.on hb).lib.tab
 refine zD Tryz.func75 (zY [] λb1=>zH [] λb3=>x4 7 [] [rcB r b1] (λw hO=>hO.past 1 _) (zX [0,0] 4 (z7 (v:= .string (mkS r.ver.print)) [] (λw hO=>hP w hO.below) (zX [] 5 (gR 3 9 #[.string (mkS jL),.string (mkS r.name),.string (mkS r.ver.print)] λg=>zX [] 6 ?_)))))
 refine xh_callL [⟨g, #[.string (mkS jL),.string (mkS r.name),.string (mkS r.ver.print)],9⟩,⟨b3, #[.pointer none,.slice none 0 0],162⟩,rcB r b1] [rcB r b1] ([⟨g, #[.string (mkS jL),.string (mkS r.name),.string (mkS r.ver.print)],9⟩]++[⟨b3, #[.pointer none,.slice none 0 0],162⟩]) [rcB r b1] (λw hO=>hO.perm ((List.Perm.cons _ (List.Perm.swap ..)).trans (List.Perm.swap ..))) (λo w hO=>hO.sublist (List.sublist_append_left _ _)) (q_line b3 [] [jL,r.name,r.ver.print] _ [rcB r b1] _ _ (BuR.new b3) (qlit g 3 _ _ rfl rfl Om) (by simp) Om (by simp) (by simp [zE,jL])) λv1 o1 ⟨ob1,k1,k2⟩=> ?_
 subst k2
 rw [List.nil_append,←hH] at k1
 refine zQ [0] (rcB r b1::ob1) (λw hO=>(hO.past 0 (rcB r b1::⟨g, #[.string (mkS jL),.string (mkS r.name),.string (mkS r.ver.print)],9⟩::ob1)).swap.past 1 _) (zT (α:=Nat×List Blk) (λx=>[(1,Zp b1 0),(3,Zp b3 0),(18,.slice r.nA r.needs.length r.nc),(19,YI (r.needs.length:Int)),(20,YI (x.1:Int))]) (λx=>rcB r b1::x.2) (λx m=>(x.1<=r.needs.length/\BuR b3 (vO r.rt++(r.needs.take x.1).flatMap (λn=>k8 n.nt)) x.2)/\m=r.needs.length-x.1) (0,ob1) r.needs.length [] ⟨⟨Nat.zero_le _,by simp only [List.take_zero,List.flatMap_nil,List.append_nil];exact k1⟩,rfl⟩ ?_)
 rintro ⟨i,o⟩ mm gg kk ⟨⟨hi,ho⟩,hmm⟩ nx hkk
 subst hkk
 replace hi:i<=r.needs.length:=hi
 replace ho:BuR b3 (vO r.rt++(r.needs.take i).flatMap (λn=>k8 n.nt)) o:=ho
 refine zG 21 [] ((i:Int)<(r.needs.length:Int)) (λh21=> ?_) (λh21=> ?_)
 ·have hj:i<r.needs.length:=by omega
  obtain ⟨eb,eo,hA,hel⟩:=hr.needs.elem qD i hj
  have hpt:=dY (λn:Nv=>k8 n.nt) (l:=r.needs) (i+1)
  rw [jI (λn:Nv=>k8 n.nt) hj,List.length_append] at hpt
  have hst:=jI (λn:Nv=>k8 n.nt) hj
  have hsm:r.needs[i]∈r.needs:=List.getElem_mem hj
  have hel0:∀ w,YB W w->(loadVar 72 ⟨eb,eo+i*3+0,none⟩).run YP w= .ok (nvV r.needs[i]) w:=λw hw=>hel w hw _ 0 _ Kr
  have hra:=hr.any _ hsm;have hrf:=hr.wfs _ hsm;have hna:=hr.na _ hsm;have hnf:=hr.nf _ hsm;have hsw:=hr.sw _ hsm;have hff:=hfe _ hsm
  have hw2:vO r.rt++(r.needs.take i).flatMap (λn=>k8 n.nt)++k8 r.needs[i].nt=vO r.rt++(r.needs.take (i+1)).flatMap (λn=>k8 n.nt):=by rw [hst,List.append_assoc]
  have hpl:(vO r.rt++(r.needs.take i).flatMap (λn=>k8 n.nt)).length+(k8 r.needs[i].nt).length<=300000000:=by rw [List.length_append];omega
  generalize r.needs[i]=n at hel0 hra hrf hna hnf hsw hff hw2 hpl
  generalize vO r.rt++(r.needs.take i).flatMap (λn=>k8 n.nt)=done at*
  refine zL 22 [] hA r.needs.length r.nc i 3 hj (zI 23 [] 72 eb (eo+i*3+0) (nvV n) (λw hO=>hel0 w hO.below) (zH [] λb5=> ?_))
  have hc:∀ w,Own [] W w ([ndB n b5,rcB r b1]++o)->YC 118 #[.pointer (some ⟨b3,0,none⟩),nvV n] w λe w'=>∃ v o',e= .returned v/\BuR b3 (done++k8 n.nt) o'/\Own (o.map Blk.b) w w' o':=λw hO=>(qNeedW_any W.heap.size b3 done n o w ho (Own.lentR hO) (ge_of hO) hO.size (hra.on hO.below (Nat.le_refl _)) (λu hu=>(hrf u hu).on hO.below (Nat.le_refl _)) hna hnf hff ⟨gqM_len hsw.1,hsw.2⟩ hpl).mono λe w' ⟨o',q1,q2,q3⟩=>⟨_,o',q1,q2,q3⟩
  refine kW [0,0] (ndB n b5::rcB r b1::o) [ndB n b5,rcB r b1] o (λw hO=>hO) hc λv2 o2 q1=> ?_
  rw [hw2] at q1
  exact x_i 20 [] ((i+1:Nat):Int) (zQ [] (rcB r b1::o2) (λw hO=>hO.past 1 _) (nx (i+1,o2) (r.needs.length-(i+1)) [] Om ⟨⟨hj,q1⟩,rfl⟩ Kr Kr))
 rw [List.take_of_length_le (show r.needs.length<=i by omega)] at ho
 clear nx
 have hNl:(vO r.rt++r.needs.flatMap (λn=>k8 n.nt)).length=(vO r.rt).length+(r.needs.flatMap λn=>k8 n.nt).length:=List.length_append
 generalize hN:vO r.rt++r.needs.flatMap (λn=>k8 n.nt)=front at*
 refine zT (α:=Nat×List Blk) (λx=>[(1,Zp b1 0),(3,Zp b3 0),(28,.slice r.bA r.bars.length r.bc),(29,YI (r.bars.length:Int)),(30,YI (x.1:Int))]) (λx=>rcB r b1::x.2) (λx m=>(x.1<=r.bars.length/\BuR b3 (front++(r.bars.take x.1).flatMap (λb=>jD b.bt)) x.2)/\m=r.bars.length-x.1) (0,o) r.bars.length [0] ⟨⟨Nat.zero_le _,by simp only [List.take_zero,List.flatMap_nil,List.append_nil];exact ho⟩,rfl⟩ ?_
 clear ho
 rintro ⟨i2,o2⟩ m2 g2 kk ⟨⟨hi2,ho⟩,hm2⟩ nx hkk
 subst hkk
 replace hi2:i2<=r.bars.length:=hi2
 replace ho:BuR b3 (front++(r.bars.take i2).flatMap (λb=>jD b.bt)) o2:=ho
 refine zG 31 [] ((i2:Int)<(r.bars.length:Int)) (λh31=> ?_) (λh31=> ?_)
 ·have hj:i2<r.bars.length:=by omega
  obtain ⟨eb,eo,hA,hel⟩:=hr.bars.elem mE i2 hj
  have hpt:=dY (λb:Bv=>jD b.bt) (l:=r.bars) (i2+1)
  rw [jI (λb:Bv=>jD b.bt) hj,List.length_append] at hpt
  have hst:=jI (λb:Bv=>jD b.bt) hj
  have hsm:r.bars[i2]∈r.bars:=List.getElem_mem hj
  have hel0:∀ w,YB W w->(loadVar 102 ⟨eb,eo+i2*3+0,none⟩).run YP w= .ok (bvV r.bars[i2]) w:=λw hw=>hel w hw _ 0 _ Kr
  have hsb:=hr.sb _ hsm
  have hw2:front++(r.bars.take i2).flatMap (λb=>jD b.bt)++jD r.bars[i2].bt=front++(r.bars.take (i2+1)).flatMap (λb=>jD b.bt):=by rw [hst,List.append_assoc]
  have hpl:(front++(r.bars.take i2).flatMap (λb=>jD b.bt)).length+(jD r.bars[i2].bt).length<=300000000:=by rw [List.length_append];omega
  generalize r.bars[i2]=x at hel0 hsb hw2 hpl
  have hsb2:=gqR_len hsb.2.1
  have hsb3:=gqM_len hsb.2.2
  generalize front++(r.bars.take i2).flatMap (λb=>jD b.bt)=done at*
  have hbT:jD x.bt=zE 32 [wN,x.name,x.rng]++[10]++mI kR x.wh:=by
   rw [maybe_when]
   show txBar++x.name++[32]++x.rng++[10]++qM x.wh=_
   simp [zE,txBar,wN]
  have hbl:=congrArg List.length hbT
  simp only [List.length_append,List.length_cons,List.length_nil] at hbl
  refine zL 32 [] hA r.bars.length r.bc i2 3 hj (zI 33 [] 102 eb (eo+i2*3+0) (bvV x) (λw hO=>hel0 w hO.below) (zH [] λb7=>vL [0,0,0] 3 9 #[.string (mkS wN),.string (mkS x.name),.string (mkS x.rng)] λg3=> ?_))
  refine kW [] (⟨g3, #[.string (mkS wN),.string (mkS x.name),.string (mkS x.rng)],9⟩::brB x b7::rcB r b1::o2) [brB x b7,rcB r b1] ([⟨g3, #[.string (mkS wN),.string (mkS x.name),.string (mkS x.rng)],9⟩]++o2) (λw hO=>own_rot3 hO) (q_line b3 done [wN,x.name,x.rng] _ _ _ o2 ho (qlit g3 3 _ _ rfl rfl Om) Om Om (by simp) (by simp [zE,wN])) λv2 o3 ⟨ob3,q1,q2⟩=> ?_
  subst q2
  refine kW [0] (brB x b7::rcB r b1::⟨g3, #[.string (mkS wN),.string (mkS x.name),.string (mkS x.rng)],9⟩::ob3) [brB x b7,rcB r b1,⟨g3, #[.string (mkS wN),.string (mkS x.name),.string (mkS x.rng)],9⟩] ob3 (λw hO=>hO) (q_maybe b3 _ kR x.wh _ ob3 q1 (by simp only [List.length_append,List.length_cons,List.length_nil];omega) (by decide) Om) λv3 o4 q3=> ?_
  rw [List.append_assoc] at q3
  refine x_i 30 [] ((i2+1:Nat):Int) (zQ [] (rcB r b1::o4) (λw hO=>(hO.past 1 (rcB r b1::⟨g3, #[.string (mkS wN),.string (mkS x.name),.string (mkS x.rng)],9⟩::o4)).swap.past 1 _) (nx (i2+1,o4) (r.bars.length-(i2+1)) [] Om ⟨⟨hj, ?_⟩,rfl⟩ Kr Kr))
  show BuR b3 (front++(r.bars.take (i2+1)).flatMap (λb=>jD b.bt)) o4
  rw [←hw2,hbT];exact q3
 rw [List.take_of_length_le (show r.bars.length<=i2 by omega)] at ho
 clear nx
 have hBl:(front++r.bars.flatMap (λb=>jD b.bt)).length=front.length+(r.bars.flatMap λb=>jD b.bt).length:=List.length_append
 generalize hN2:front++r.bars.flatMap (λb=>jD b.bt)=fore at*
 refine zT (α:=Nat×List Blk) (λx=>[(1,Zp b1 0),(3,Zp b3 0),(45,.slice r.fA r.fts.length r.fc),(46,YI (r.fts.length:Int)),(47,YI (x.1:Int))]) (λx=>rcB r b1::x.2) (λx m=>(x.1<=r.fts.length/\BuR b3 (fore++(r.fts.take x.1).flatMap (λf=>g0 f.ft)) x.2)/\m=r.fts.length-x.1) (0,o2) r.fts.length [0] ⟨⟨Nat.zero_le _,by simp only [List.take_zero,List.flatMap_nil,List.append_nil];exact ho⟩,rfl⟩ ?_
 clear ho
 rintro ⟨i3,o3⟩ m3 g3 kk ⟨⟨hi3,ho⟩,hm3⟩ nx hkk
 subst hkk
 replace hi3:i3<=r.fts.length:=hi3
 replace ho:BuR b3 (fore++(r.fts.take i3).flatMap (λf=>g0 f.ft)) o3:=ho
 refine zG 48 [] ((i3:Int)<(r.fts.length:Int)) (λh48=> ?_) (λh48=> ?_)
 rotate_left
 ·rw [List.take_of_length_le (show r.fts.length<=i3 by omega)] at ho
  have hR:fore++r.fts.flatMap (λf=>g0 f.ft)=yK r.rt:=hT.symm
  rw [hR] at ho
  refine x_callO [] (rcB r b1::o3) (Rr:=λv L'=>v= .string (mkS (yK r.rt))/\L'=[]) (λw hO=>(rstring_any b3 (yK r.rt) o3 W w ho (hO.past 1 _) (λe=>by rw [e] at hl;simp only [List.length_nil] at hl;omega)).mono λe w' ⟨q1,q2⟩=>⟨_,[],q1,⟨rfl,rfl⟩,q2⟩) λv4 L4 ⟨q1,q2⟩=> ?_
  subst q1;subst q2
  exact z8 [] (.string (mkS (yK r.rt))) λw hO=>⟨rfl,hO.below⟩
 have hj:i3<r.fts.length:=by omega
 obtain ⟨eb,eo,hA,hel⟩:=hr.fts.top.elem vH i3 hj
 have hpt:=dY (λf:Fv=>g0 f.ft) (l:=r.fts) (i3+1)
 rw [jI (λf:Fv=>g0 f.ft) hj,List.length_append] at hpt
 have hst:=jI (λf:Fv=>g0 f.ft) hj
 have hsm:r.fts[i3]∈r.fts:=List.getElem_mem hj
 have hel0:∀ w,YB W w->(loadVar 148 ⟨eb,eo+i3*2+0,none⟩).run YP w= .ok (fvV r.fts[i3]) w:=λw hw=>hel w hw _ 0 _ Kr
 have hru:=hr.fts.each _ hsm;have hmu:=hr.fts.m _ hsm
 have hw2:fore++(r.fts.take i3).flatMap (λf=>g0 f.ft)++g0 r.fts[i3].ft=fore++(r.fts.take (i3+1)).flatMap (λf=>g0 f.ft):=by rw [hst,List.append_assoc]
 have hpl:(fore++(r.fts.take i3).flatMap (λf=>g0 f.ft)).length+(g0 r.fts[i3].ft).length<=300000000:=by rw [List.length_append];omega
 generalize r.fts[i3]=x at hel0 hru hmu hw2 hpl
 generalize fore++(r.fts.take i3).flatMap (λf=>g0 f.ft)=done at*
 have hfT:g0 x.ft=zE 32 (yE::x.name::x.of)++[10]:=rfl
 have hfl:=congrArg List.length hfT
 simp only [List.length_append,List.length_cons,List.length_nil] at hfl
 refine zL 49 [] hA r.fts.length r.fc i3 2 hj (zI 50 [] 148 eb (eo+i3*2+0) (fvV x) (λw hO=>hel0 w hO.below) (zH [] λb9=>vL [0,0] 2 9 #[.string (mkS yE),.string (mkS x.name)] λg5=> ?_))
 refine x_appR (g:=zW) [1] x.of [] [⟨g5, #[.string (mkS yE),.string (mkS x.name)],9⟩] (ftB x b9::rcB r b1::o3) (⟨g5, #[.string (mkS yE),.string (mkS x.name)],9⟩::ftB x b9::rcB r b1::o3) (cp:=x.cap) (λw hO=>hO) zR strC_one (λw hO=>hru.on hO.below hO.below.size) (sl_block (N:=2) rfl (by unfold maxLen;omega)) Om λv' o' h=> ?_
 have hS:SlT v' (yE::x.name::x.of) o':=by
  unfold SlT
  rw [xK,show (yE::x.name::x.of).length=2+x.of.length by simp only [List.length_cons];omega]
  exact h
 refine kW [] ([]++o'++(ftB x b9::rcB r b1::o3)) [ftB x b9,rcB r b1] (o'++o3) (λw hO=>hO.perm (by
  have:=List.perm_append_comm_assoc o' [ftB x b9,rcB r b1] o3
  simpa using this)) (q_line b3 done (yE::x.name::x.of) v' _ o' o3 ho hS Om Om (by simp only [List.length_cons];omega) (by simp [zE,yE])) λv2 o4 ⟨ob4,q1,q2⟩=> ?_
 subst q2
 rw [←hfT,hw2] at q1
 exact x_i 47 [] ((i3+1:Nat):Int) (zQ [] (rcB r b1::ob4) (λw hO=>(hO.past 1 (rcB r b1::(o'++ob4))).sublist (List.Sublist.cons_cons _ (List.sublist_append_right _ _))) (nx (i3+1,ob4) (r.fts.length-(i3+1)) [] Om ⟨⟨hj,q1⟩,rfl⟩ Kr Kr))
theorem parts_ne {r:Rt}(h:(kS r).1=0):∀ n∈r.needs,∀ u∈n.any,∀ s∈u.fs,s≠[]:=λn hn u hu s hs=>by
 have h1:=(fN h).1 n hn
 have h2:=(fF h1).2.2.1 u hu
 have h3:=(mP h2).2.2
 unfold jK at h3
 simp only [Bool.and_eq_true] at h3
 exact wd_ne' (List.all_eq_true.1 h3.1.1.1 s hs)
theorem qCheck_any (r:Rv)(W:World)(hr:RcIn W W.heap.size r)(hK:RecLib W):YC 74 #[rvV r] W (YR (.tuple #[YI (zK r.rt).1,YI (zK r.rt).2]) W):=by
 have hE:zK r.rt=if nmL r.name=false then (4,0) else if r.ver.may=false then (5,0) else if 8<r.needs.length\/8<r.bars.length then (3,0) else if (kS r.rt).1≠0 then kS r.rt else if 4096<(yK r.rt).length then (3,0) else (0,0):=by
  unfold zK;simp only [Rv.rt,List.length_map]
 have hsn:=hr.sn;have hnn:=hr.nn;have hnb:=hr.nb;have hfn:=hr.fts.n
 have c1:∀ w,YC 69 #[.string (mkS r.name)] w (YR (.bool (nmL r.name)) w):=λw=>fG r.name w hsn.1
 have c2:∀ w,YC 91 #[yT r.ver] w (YR (.bool r.ver.may) w):=λw=>p5 r.ver w (by show r.pre.length<_;omega) (by show r.bld.length<_;omega)
 refine zD Tryz.func74 (zY [] λb1=>z7 (v:= .bool (nmL r.name)) [0] (λw hO=>c1 w) (zV 16 (nmL r.name) (λe1=> ?_) (λe1=> ?_)))
 rotate_left
 ·exact yP [] (YI 4) (YI 0) λw hO=>⟨by rw [hE,if_pos e1],hO.below⟩
 rw [if_neg (by simp [e1])] at hE
 refine z7 (v:= .bool r.ver.may) [0] (λw hO=>c2 w) (zV 21 r.ver.may (λe2=> ?_) (λe2=> ?_))
 rotate_left
 ·exact yP [] (YI 5) (YI 0) λw hO=>⟨by rw [hE,if_pos e2],hO.below⟩
 rw [if_neg (by simp [e2])] at hE
 refine zG 27 [0] ((r.needs.length:Int)>8) (λh27=> ?_) (λh27=> ?_)
 ·exact yP [] (YI 3) (YI 0) λw hO=>⟨by rw [hE,if_pos (.inl Om)],hO.below⟩
 refine zG 32 [0] ((r.bars.length:Int)>8) (λh32=> ?_) (λh32=> ?_)
 ·exact yP [] (YI 3) (YI 0) λw hO=>⟨by rw [hE,if_pos (.inr Om)],hO.below⟩
 rw [if_neg Om] at hE
 have hP:=partsE_is r
 refine zT (α:=Nat) (λi=>[(1,Zp b1 0),(35,.slice r.nA r.needs.length r.nc),(36,YI (r.needs.length:Int)),(37,YI (i:Int))]) (λ_=>[rcB r b1]) (λi m=>(i<=r.needs.length∧∀ n∈r.needs.take i,kK r.name n.nt=0)/\m=r.needs.length-i) 0 r.needs.length [0] ⟨⟨Nat.zero_le _,λy h=>by simp at h⟩,rfl⟩ ?_
 rintro i mm g kk ⟨⟨hi,hno⟩,hmm⟩ nx hkk
 subst hkk
 refine zG 38 [] ((i:Int)<(r.needs.length:Int)) (λh38=> ?_) (λh38=> ?_)
 ·have hj:i<r.needs.length:=by omega
  obtain ⟨eb,eo,hA,hel⟩:=hr.needs.elem qD i hj
  have hgo:=yH (p:=λn:Nv=>kK r.name n.nt=0) hj hno
  have hat:=bW (f:=λn:Nv=>kK r.name n.nt) 0 hj hno
  have hsm:r.needs[i]∈r.needs:=List.getElem_mem hj
  have hel0:∀ w,YB W w->(loadVar 72 ⟨eb,eo+i*3+0,none⟩).run YP w= .ok (nvV r.needs[i]) w:=λw hw=>hel w hw _ 0 _ Kr
  have hra:=hr.any _ hsm;have hrf:=hr.wfs _ hsm;have hna:=hr.na _ hsm;have hnf:=hr.nf _ hsm;have hsw:=hr.sw _ hsm;have hsu:=hr.su _ hsm
  generalize r.needs[i]=n at hel0 hgo hat hra hrf hna hnf hsw hsu
  have hc:∀ w,YB W w->YC 112 #[nvV n,.string (mkS r.name)] w (YR (YI (kK r.name n.nt)) w):=λw hb=>qNeed_any r.name n w (hra.on hb hb.size) (λu hu=>(hrf u hu).on hb hb.size) hna hnf hsw hsu (hK.on hb)
  refine zL 40 [] hA r.needs.length r.nc i 3 hj (zI 41 [] 72 eb (eo+i*3+0) (nvV n) (λw hO=>hel0 w hO.below) (zH [] λb5=>z7 (v:=YI (kK r.name n.nt)) [0,0,1] (λw hO=>hc w hO.below) (gE 47 [] (kK r.name n.nt=0) (λh=> ?_) (λh=> ?_))))
  ·exact x_i 37 [] ((i+1:Nat):Int) (zQ [] [rcB r b1] (λw hO=>hO.past 1 _) (nx (i+1) (r.needs.length-(i+1)) [] Om ⟨⟨hj,hgo h⟩,rfl⟩ Kr Kr))
  ·refine yP [] (YI (kK r.name n.nt)) (YI (i:Int)) λw hO=>⟨?_,hO.below⟩
   rw [hat h] at hP
   rw [if_pos h] at hP
   rw [hE,if_pos (by rw [hP];exact h),hP];simp only [Nat.zero_add]
 have h1:=gI (k:=0) (xE (p:=λn:Nv=>kK r.name n.nt=0) (show r.needs.length<=i by omega) hno)
 rw [h1,if_neg (by simp)] at hP
 clear nx
 refine zT (α:=Nat) (λi=>[(1,Zp b1 0),(52,.slice r.bA r.bars.length r.bc),(53,YI (r.bars.length:Int)),(54,YI (i:Int))]) (λ_=>[rcB r b1]) (λi m=>(i<=r.bars.length∧∀ b∈r.bars.take i,vQ r.name b.bt=0)/\m=r.bars.length-i) 0 r.bars.length [0] ⟨⟨Nat.zero_le _,λy h=>by simp at h⟩,rfl⟩ ?_
 rintro i2 m2 g2 kk ⟨⟨hi2,hno2⟩,hmm2⟩ nx hkk
 subst hkk
 refine zG 55 [] ((i2:Int)<(r.bars.length:Int)) (λh55=> ?_) (λh55=> ?_)
 ·have hj:i2<r.bars.length:=by omega
  obtain ⟨eb,eo,hA,hel⟩:=hr.bars.elem mE i2 hj
  have hgo:=yH (p:=λb:Bv=>vQ r.name b.bt=0) hj hno2
  have hat:=bW (f:=λb:Bv=>vQ r.name b.bt) 0 hj hno2
  have hsm:r.bars[i2]∈r.bars:=List.getElem_mem hj
  have hel0:∀ w,YB W w->(loadVar 102 ⟨eb,eo+i2*3+0,none⟩).run YP w= .ok (bvV r.bars[i2]) w:=λw hw=>hel w hw _ 0 _ Kr
  have hsb:=hr.sb _ hsm
  generalize r.bars[i2]=b at hel0 hgo hat hsb
  have hc:∀ w,YB W w->YC 113 #[bvV b,.string (mkS r.name)] w (YR (YI (vQ r.name b.bt)) w):=λw hb=>qBar_any b r.name w hsb (hK.on hb)
  refine zL 57 [] hA r.bars.length r.bc i2 3 hj (zI 58 [] 102 eb (eo+i2*3+0) (bvV b) (λw hO=>hel0 w hO.below) (zH [] λb8=>z7 (v:=YI (vQ r.name b.bt)) [0,0,1] (λw hO=>hc w hO.below) (gE 64 [] (vQ r.name b.bt=0) (λh=> ?_) (λh=> ?_))))
  ·exact x_i 54 [] ((i2+1:Nat):Int) (zQ [] [rcB r b1] (λw hO=>hO.past 1 _) (nx (i2+1) (r.bars.length-(i2+1)) [] Om ⟨⟨hj,hgo h⟩,rfl⟩ Kr Kr))
  ·refine yP [] (YI (vQ r.name b.bt)) (YI (i2:Int)) λw hO=>⟨?_,hO.below⟩
   rw [hat h] at hP
   rw [if_pos h] at hP
   rw [hE,if_pos (by rw [hP];exact h),hP];simp only [Nat.zero_add]
 have h2:=gI (k:=0) (xE (p:=λb:Bv=>vQ r.name b.bt=0) (show r.bars.length<=i2 by omega) hno2)
 rw [h2,if_neg (by simp)] at hP
 clear nx
 have hM:∀ w,YB W w->YC 114 #[.slice r.fA r.fts.length r.fc] w (YR (.bool (jU (yI r.fts))) w):=λw hb=>fMay_at r.fA r.fc r.fts w (hr.fts.on hb hb.size)
 refine z7 (v:= .bool (jU (yI r.fts))) [0] (λw hO=>hM w hO.below) (zV 70 (jU (yI r.fts)) (λe3=> ?_) (λe3=> ?_))
 rotate_left
 ·rw [if_pos e3] at hP
  exact yP [] (YI 11) (YI 0) λw hO=>⟨by rw [hE,if_pos (by rw [hP];decide),hP],hO.below⟩
 rw [if_neg (by simp [e3])] at hP
 refine zT (α:=Nat) (λi=>[(1,Zp b1 0),(73,.slice r.fA r.fts.length r.fc),(74,YI (r.fts.length:Int)),(75,YI (i:Int))]) (λ_=>[rcB r b1]) (λi m=>(i<=r.fts.length∧∀ f∈r.fts.take i,yR (xF r.rt.needs) f.of=0)/\m=r.fts.length-i) 0 r.fts.length [0] ⟨⟨Nat.zero_le _,λy h=>by simp at h⟩,rfl⟩ ?_
 rintro i3 m3 g3 kk ⟨⟨hi3,hno3⟩,hmm3⟩ nx hkk
 subst hkk
 refine zG 76 [] ((i3:Int)<(r.fts.length:Int)) (λh76=> ?_) (λh76=> ?_)
 ·have hj:i3<r.fts.length:=by omega
  obtain ⟨eb,eo,hA,hel⟩:=hr.fts.top.elem vH i3 hj
  have hgo:=yH (p:=λf:Fv=>yR (xF r.rt.needs) f.of=0) hj hno3
  have hat:=bW (f:=λf:Fv=>yR (xF r.rt.needs) f.of) 0 hj hno3
  have hsm:r.fts[i3]∈r.fts:=List.getElem_mem hj
  have hel0:∀ w,YB W w->(loadVar 148 ⟨eb,eo+i3*2+0,none⟩).run YP w= .ok (fvV r.fts[i3]) w:=λw hw=>hel w hw _ 0 _ Kr
  have hru:=hr.fts.each _ hsm;have hmu:=hr.fts.m _ hsm;have htu:=hr.fts.text _ hsm
  generalize r.fts[i3]=u at hel0 hgo hat hru hmu htu
  have hc:∀ w,YB W w->YC 115 #[.slice u.A u.of.length u.cap,.slice r.nA r.needs.length r.nc] w (YR (YI (yR (xF r.rt.needs) u.of)) w):=λw hb=>qItems_any u.A u.cap u.of r.nA r.nc r.needs w (hru.on hb hb.size) Om htu (hr.needs.on hb hb.size) hnn λn hn=>(hr.any n hn).on hb hb.size
  refine zL 78 [] hA r.fts.length r.fc i3 2 hj (zI 79 [] 148 eb (eo+i3*2+0) (fvV u) (λw hO=>hel0 w hO.below) (zH [] λb9=>z7 (v:=YI (yR (xF r.rt.needs) u.of)) [0,0,1] (λw hO=>hc w hO.below) (gE 86 [] (yR (xF r.rt.needs) u.of=0) (λh=> ?_) (λh=> ?_))))
  ·exact x_i 75 [] ((i3+1:Nat):Int) (zQ [] [rcB r b1] (λw hO=>hO.past 1 _) (nx (i3+1) (r.fts.length-(i3+1)) [] Om ⟨⟨hj,hgo h⟩,rfl⟩ Kr Kr))
  ·refine yP [] (YI (yR (xF r.rt.needs) u.of)) (YI (i3:Int)) λw hO=>⟨?_,hO.below⟩
   rw [hat h] at hP
   rw [hE,if_pos (by rw [hP];exact h),hP];simp only [Nat.zero_add]
 rw [gI (k:=0) (xE (p:=λf:Fv=>yR (xF r.rt.needs) f.of=0) (show r.fts.length<=i3 by omega) hno3)] at hP
 clear nx
 have h33:(kS r.rt).1=0:=by rw [hP]
 rw [if_neg (λh=>h h33)] at hE
 have hs:(yK r.rt).length<=100000000:=rec_small (r:=r.rt) hsn.1 (vprint_short hsn.2.1 hsn.2.2) (by simp only [Rv.rt,List.length_map];omega) (by simp only [Rv.rt,List.length_map];omega) h33 (λf hf s hs=>by
  obtain ⟨y,hy,rfl⟩:=List.mem_map.1 hf
  exact hr.fts.text y hy s hs)
 have hne:=parts_ne h33
 have c4:∀ w,YB W w->YC 75 #[rvV r] w (YR (.string (mkS (yK r.rt))) w):=λw hb=>qText_any r w (hr.on hb hb.size) (λn hn u hu=>hne n.nt (List.mem_map.2 ⟨n,hn,rfl⟩) u.wt (List.mem_map.2 ⟨u,hu,rfl⟩)) hs (hK.on hb)
 have hz:(mkS (yK r.rt)).size=(yK r.rt).length:=bC _
 refine z7 (v:= .string (mkS (yK r.rt))) [0] (λw hO=>c4 w hO.below) (zG 93 [] (((mkS (yK r.rt)).size:Int)>4096) (λh93=> ?_) (λh93=> ?_))
 ·exact yP [] (YI 3) (YI 0) λw hO=>⟨by rw [hE,if_pos Om],hO.below⟩
 ·exact yP [] (YI 0) (YI 0) λw hO=>⟨by rw [hE,if_neg Om],hO.below⟩
theorem qPrint_any (r:Rv)(W:World)(hr:RcIn W W.heap.size r)(hK:RecLib W):YC 38 #[rvV r] W (YR (.tuple #[.string (mkS (bS r.rt)),YI (zK r.rt).1]) W):=by
 have c1:∀ w,YB W w->YC 74 #[rvV r] w (YR (.tuple #[YI (zK r.rt).1,YI (zK r.rt).2]) w):=λw hb=>qCheck_any r w (hr.on hb hb.size) (hK.on hb)
 refine zD Tryz.func38 (zY [] λb1=>z7 (v:= .tuple #[YI (zK r.rt).1,YI (zK r.rt).2]) [0] (λw hO=>c1 w hO.below) (gE 12 [] ((zK r.rt).1=0) (λh=> ?_) (λh=> ?_)))
 rotate_left
 ·exact yP [] (.string ⟨#[]⟩) (YI (zK r.rt).1) λw hO=>⟨by rw [show bS r.rt=[] from if_neg h];rfl,hO.below⟩
 have hne:=parts_ne (yS h).2.2.2.2.1
 have c2:∀ w,YB W w->YC 75 #[rvV r] w (YR (.string (mkS (yK r.rt))) w):=λw hb=>qText_any r w (hr.on hb hb.size) (λn hn u hu=>hne n.nt (List.mem_map.2 ⟨n,hn,rfl⟩) u.wt (List.mem_map.2 ⟨u,hu,rfl⟩)) (by have:=(yS h).2.2.2.2.2;omega) (hK.on hb)
 exact z7 (v:= .string (mkS (yK r.rt))) [0] (λw hO=>c2 w hO.below) (yP [] (.string (mkS (yK r.rt))) (YI 0) λw hO=>⟨by rw [show bS r.rt=yK r.rt from if_pos h,h],hO.below⟩)
theorem qSum_any (r:Rv)(W:World)(hr:RcIn W W.heap.size r)(hK:RecLib W):YC 50 #[rvV r] W (YR (.tuple #[.int .u64 (yL r.rt),YI (zK r.rt).1]) W):=by
 have c1:∀ w,YB W w->YC 38 #[rvV r] w (YR (.tuple #[.string (mkS (bS r.rt)),YI (zK r.rt).1]) w):=λw hb=>qPrint_any r w (hr.on hb hb.size) (hK.on hb)
 refine zD Tryz.func50 (zY [] λb1=>z7 (v:= .tuple #[.string (mkS (bS r.rt)),YI (zK r.rt).1]) [0] (λw hO=>c1 w hO.below) (gE 12 [] ((zK r.rt).1=0) (λh=> ?_) (λh=> ?_)))
 rotate_left
 ·exact yP [] (.int .u64 0) (YI (zK r.rt).1) λw hO=>⟨by rw [show yL r.rt=0 from if_neg h],hO.below⟩
 have hl:(yK r.rt).length<=4096:=(yS h).2.2.2.2.2
 have hp:bS r.rt=yK r.rt:=if_pos h
 rw [hp]
 refine x_bytes 15 [] (yK r.rt) (src:=9) (dst:=36) (e:=5) (x:= .tmp 14) λw0 w1 cap hO hB hb hlt hcap=> ?_
 have hb0:=hO.below
 have c2:∀ w,YB w1 w->YC 90 #[.slice (some ⟨w0.heap.size,0,none⟩) (yK r.rt).length cap] w (YR (.int .u64 ((tK (yK r.rt)).toNat:Int)) w):=λw hw=>d9Sum_any _ cap (yK r.rt) w (hB.reads.on hw hw.size) Om
 exact z7 (v:= .int .u64 ((tK (yK r.rt)).toNat:Int)) [] (λw hO=>c2 w hO.below) (yP [] (.int .u64 ((tK (yK r.rt)).toNat:Int)) (YI 0) λw hO2=>⟨by rw [show yL r.rt=_ from if_pos h,h],hb0.trans ((hb.mono hb0.size).trans (hO2.below.mono (Nat.le_trans hb0.size (Nat.le_of_lt hlt))))⟩)
end
section
set_option linter.unnecessarySimpa false
theorem NdL.push {A A':Option Addr}{c c':Nat}{xs:List Nv}{o1 o1' oa og oi:List Blk}(h:NdL A c xs o1 oa og oi)(ht:Sl 72 3 (.slice A' (xs.length+1) c') (xs.length+1) (xs.flatMap nvC++nvC ⟨none,0,[],[],[]⟩) o1'):NdL A' c' (xs++[⟨none,0,[],[],[]⟩]) o1' [] [] (oi++(oa++og)):=by
 refine ⟨by rw [List.length_append,List.length_singleton,List.flatMap_append,List.flatMap_singleton];exact ht,.inr ⟨xs,_,rfl,λy hy=> ?_,Sl.nil _ _,λu hu=>by cases hu⟩⟩
 rcases h.split with ⟨e,_⟩|⟨ini,n,e,hi,hw,hf⟩
 ·rw [e] at hy;cases hy
 ·rw [e] at hy
  rcases List.mem_append.1 hy with hy|hy
  ·obtain ⟨o,q1,q2⟩:=hi y hy
   exact ⟨o,q1,λb hb=>List.mem_append_left _ (q2 b hb)⟩
  ·rw [List.mem_singleton.1 hy]
   exact ⟨oa++og,⟨oa,og,rfl,hw,hf⟩,λb hb=>List.mem_append_right _ hb⟩
def rdL (x:Rv)(n1 n2 n3:Value)(k rb:Nat):Blk:=⟨rb, #[.string (mkS x.name),YI x.maj,YI x.min,YI x.pat,.string (mkS x.pre),.string (mkS x.bld),n1,n2,n3,YI (k:Int)],215⟩
theorem add_need (rb:Nat)(x:Rv)(ps:List YL)(A:Option Addr)(cap:Nat)(ob:List Blk)(W:World)(hR:RdR rb 2 x ob)(hO:Own (ob.map Blk.b) W W ob)(hF:Few x):YC 229 #[.pointer (some ⟨rb,0,none⟩),.slice A ps.length cap] W (AddB rb 2 x ps ob W):=by
 obtain ⟨o1,oa,og,oi,o4,o7,o8,rfl,hN,hB,hT⟩:=hR
 have hFn:=hF.n
 refine q9 hO Tryz.func229 (vL [0,0] 1 72 #[.slice none 0 0,.string (mkS []),.string (mkS [])] λb=> ?_)
 refine m6 (m:=1) (cp:=1) [] [⟨b, #[.slice none 0 0,.string (mkS []),.string (mkS [])],72⟩] o1 (rdB x 2 rb::y9 oa og oi o4 o7 o8) 0 (⟨b, #[.slice none 0 0,.string (mkS []),.string (mkS [])],72⟩::rdB x 2 rb::(o1++y9 oa og oi o4 o7 o8)) (λw hO=>gP [] hO λp=>by
  simp only [List.countP_append,List.countP_cons,List.countP_nil,List.cons_append,List.nil_append];omega) hN.top Om λv' ob' h=> ?_
 obtain ⟨A',c',rfl⟩:=h.form
 refine xY 48 [] (Zp rb 6) (Zp rb 6) rfl (x_hold ([⟨b, #[.slice none 0 0,.string (mkS []),.string (mkS [])],72⟩]++ob'++(rdB x 2 rb::y9 oa og oi o4 o7 o8)) (rdB x 2 rb::(ob'++y9 [] [] (oi++(oa++og)) o4 o7 o8)) (λw hO=>gP [⟨b, #[.slice none 0 0,.string (mkS []),.string (mkS [])],72⟩] hO λp=>by
  simp only [y9,List.countP_append,List.countP_cons,List.countP_nil,List.cons_append,List.nil_append];omega) ?_)
 have hl:(x.needs++[(⟨none,0,[],[],[]⟩:Nv)]).length=x.needs.length+1:=by simp
 have hrd:rdB {x with nA:=A',nc:=c',needs:=x.needs++[⟨none,0,[],[],[]⟩]} 2 rb=rdL x (.slice A' (x.needs.length+1) c') (.slice x.bA x.bars.length x.bc) (.slice x.fA x.fts.length x.fc) 2 rb:=by
  unfold rdB rdC rvC rdL;simp only [hl];rfl
 refine z8 [0] Z4 λw hO=>⟨{x with nA:=A',nc:=c',needs:=x.needs++[⟨none,0,[],[],[]⟩]},rdB {x with nA:=A',nc:=c',needs:=x.needs++[⟨none,0,[],[],[]⟩]} 2 rb::(ob'++y9 [] [] (oi++(oa++og)) o4 o7 o8),rfl, ?_,⟨ob',[],[],oi++(oa++og),o4,o7,o8,rfl,⟨hN.push h,hB,hT⟩⟩, ?_⟩
 ·unfold Rv.rt mM;simp [Nv.nt,Rv.ver]
 ·rw [hrd]
  exact hO.past 0 (rdL x (.slice A' (x.needs.length+1) c') (.slice x.bA x.bars.length x.bc) (.slice x.fA x.fts.length x.fc) 2 rb::(ob'++y9 [] [] (oi++(oa++og)) o4 o7 o8))
theorem add_bar (rb:Nat)(x:Rv)(ps:List YL)(A:Option Addr)(cap:Nat)(ob:List Blk)(W:World)(hR:RdR rb 6 x ob)(hO:Own (ob.map Blk.b) W W ob)(hv:ReadsA (ob.map Blk.b) zW W A ps)(hp:3<=ps.length)(hF:Few x):YC 229 #[.pointer (some ⟨rb,0,none⟩),.slice A ps.length cap] W (AddB rb 6 x ps ob W):=by
 obtain ⟨o1,oa,og,oi,o4,o7,o8,rfl,hN,hB,hT⟩:=hR
 obtain ⟨pb,po,hA,hld⟩:=fO hv Om
 have hFb:=hF.b
 obtain ⟨p1,hp1⟩:∃ p,ps.getD 1 []=p:=⟨_,rfl⟩
 obtain ⟨p2,hp2⟩:∃ p,ps.getD 2 []=p:=⟨_,rfl⟩
 have hl1:∀ w,Own ((rdB x 6 rb::(o1++y9 oa og oi o4 o7 o8)).map Blk.b) W w []->(loadVar 9 ⟨pb,po+1*1+0,none⟩).run YP w= .ok (.string (mkS p1)) w:=λw hO=>by have:=hld w hO 1 Om;rw [hp1] at this;exact this
 have hl2:∀ w,Own ((rdB x 6 rb::(o1++y9 oa og oi o4 o7 o8)).map Blk.b) W w []->(loadVar 9 ⟨pb,po+2*1+0,none⟩).run YP w= .ok (.string (mkS p2)) w:=λw hO=>by have:=hld w hO 2 Om;rw [hp2] at this;exact this
 refine q9 hO Tryz.func229 (x4 14 [0] [rdB x 6 rb] (λw hO=>Own.nth 0 (rdB x 6 rb) hO) ?_)
 refine qJ 50122 [0] 6 hA ps.length cap 1 1 Om (qT 50123 [] 7 9 pb (po+1*1+0) (.string (mkS p1)) (λw hO=>hl1 w hO.no) (qJ 50125 [] 9 hA ps.length cap 2 1 Om (qT 50126 [] 10 9 pb (po+2*1+0) (.string (mkS p2)) (λw hO=>hl2 w hO.no) (zX [] 12 (gR 1 102 #[.string (mkS p1),.string (mkS p2),.string (mkS [])] λb=>zX [] 13 ?_)))))
 refine wD (m:=1) (cp:=1) [⟨b, #[.string (mkS p1),.string (mkS p2),.string (mkS [])],102⟩] o4 (rdB x 6 rb::(o1++y9 oa og oi [] o7 o8)) 0 (⟨b, #[.string (mkS p1),.string (mkS p2),.string (mkS [])],102⟩::rdB x 6 rb::(o1++y9 oa og oi o4 o7 o8)) [rdB x 6 rb] (λw hO=>gP [] hO λp=>by
  simp only [y9,List.countP_append,List.countP_cons,List.countP_nil,List.cons_append,List.nil_append];omega) (λo w hO=>hO.take (λy hy=>by rw [List.mem_singleton.1 hy];simp) (by simp)) hB Om λv' ob' h=> ?_
 obtain ⟨A',c',rfl⟩:=h.form
 refine xY 131 [] (Zp rb 7) (Zp rb 7) rfl (x_hold ([⟨b, #[.string (mkS p1),.string (mkS p2),.string (mkS [])],102⟩]++ob'++(rdB x 6 rb::(o1++y9 oa og oi [] o7 o8))) (rdB x 6 rb::(o1++y9 oa og oi ob' o7 o8)) (λw hO=>gP [⟨b, #[.string (mkS p1),.string (mkS p2),.string (mkS [])],102⟩] hO λp=>by
  simp only [y9,List.countP_append,List.countP_cons,List.countP_nil,List.cons_append,List.nil_append];omega) ?_)
 have hl:(x.bars++[(⟨p1,p2,[]⟩:Bv)]).length=x.bars.length+1:=by simp
 have hrd:rdB {x with bA:=A',bc:=c',bars:=x.bars++[⟨p1,p2,[]⟩]} 6 rb=rdL x (.slice x.nA x.needs.length x.nc) (.slice A' (x.bars.length+1) c') (.slice x.fA x.fts.length x.fc) 6 rb:=by
  unfold rdB rdC rvC rdL;simp only [hl];rfl
 refine z8 [0] Z4 λw hO=>⟨{x with bA:=A',bc:=c',bars:=x.bars++[⟨p1,p2,[]⟩]},rdB {x with bA:=A',bc:=c',bars:=x.bars++[⟨p1,p2,[]⟩]} 6 rb::(o1++y9 oa og oi ob' o7 o8),rfl, ?_,⟨o1,oa,og,oi,ob',o7,o8,rfl,⟨hN, ?_,hT⟩⟩, ?_⟩
 ·show Rv.rt _={x.rt with bars:=x.rt.bars++[⟨ps.getD 1 [],ps.getD 2 [],[]⟩]}
  rw [hp1,hp2];unfold Rv.rt;simp [Bv.bt,Rv.ver]
 ·show Sl _ 3 (.slice A' (x.bars++[_]).length c') _ _ _
  rw [hl,List.flatMap_append,List.flatMap_singleton];exact h
 ·rw [hrd]
  exact hO.past 0 (rdL x (.slice x.nA x.needs.length x.nc) (.slice A' (x.bars.length+1) c') (.slice x.fA x.fts.length x.fc) 6 rb::(o1++y9 oa og oi ob' o7 o8))
theorem reads_from {w:World}{pb po cap:Nat}{ps:List YL}(h:Reads zW w w.heap.size (some ⟨pb,po,none⟩) ps)(h2:2<=ps.length)(hc:ps.length<=cap):Reads zW w w.heap.size (some ⟨pb,po+(if cap=2 then 0 else 2),none⟩) (ps.drop 2):=λh0=>by
 obtain ⟨b,off,e,hlt,hcell⟩:=h Om
 obtain ⟨rfl,rfl⟩:pb=b/\po=off:=by cases e;exact ⟨rfl,rfl⟩
 rw [List.length_drop] at h0
 rw [if_neg Om]
 refine ⟨pb,po+2,rfl,hlt,λk u hk=> ?_⟩
 have:(ps.flatMap zW)[2+k]?=some u:=by
  have hs:ps.flatMap zW=(ps.take 2).flatMap zW++(ps.drop 2).flatMap zW:=by rw [←List.flatMap_append,List.take_append_drop]
  have h2':((ps.take 2).flatMap zW).length=2:=by rw [jX zR,List.length_take,Nat.min_eq_left h2]
  rw [hs,List.getElem?_append_right Om,h2',show 2+k-2=k by omega];exact hk
 have:=hcell (2+k) u this
 rw [←Nat.add_assoc] at this;exact this
theorem add_feat (rb:Nat)(x:Rv)(ps:List YL)(A:Option Addr)(cap:Nat)(ob:List Blk)(W:World)(hR:RdR rb 8 x ob)(hO:Own (ob.map Blk.b) W W ob)(hv:ReadsA (ob.map Blk.b) zW W A ps)(hp:2<=ps.length/\ps.length<=100000)(hcap:ps.length<=cap)(hF:Few x):YC 229 #[.pointer (some ⟨rb,0,none⟩),.slice A ps.length cap] W (AddB rb 8 x ps ob W):=by
 obtain ⟨o1,oa,og,oi,o4,o7,o8,rfl,hN,hB,hT⟩:=hR
 obtain ⟨pb,po,hA,hld⟩:=fO hv Om
 have hFf:=hF.f
 obtain ⟨p1,hp1⟩:∃ p,ps.getD 1 []=p:=⟨_,rfl⟩
 have hl1:∀ w,Own ((rdB x 8 rb::(o1++y9 oa og oi o4 o7 o8)).map Blk.b) W w []->(loadVar 9 ⟨pb,po+1*1+0,none⟩).run YP w= .ok (.string (mkS p1)) w:=λw hO=>by have:=hld w hO 1 Om;rw [hp1] at this;exact this
 have hds:(ps.drop 2).length=ps.length-2:=List.length_drop ..
 have hRd:∀ w,Own ((rdB x 8 rb::(o1++y9 oa og oi o4 o7 o8)).map Blk.b) W w []->Reads zW w w.heap.size (some ⟨pb,po+(if cap=2 then 0 else 2),none⟩) (ps.drop 2):=λw hO=>reads_from (hA▸hv.at hO) hp.1 hcap
 refine q9 hO Tryz.func229 (x4 14 [0] [rdB x 8 rb] (λw hO=>Own.nth 0 (rdB x 8 rb) hO) ?_)
 refine qJ 50152 [0] 6 hA ps.length cap 1 1 Om (qT 50153 [] 7 9 pb (po+1*1+0) (.string (mkS p1)) (λw hO=>hl1 w hO.no) (xh_sllo 50155 [] 9 hA ps.length cap 1 2 Om Om (.slice (some ⟨pb,po+(if cap=2 then 0 else 2),none⟩) (ps.drop 2).length (cap-2)) (by rw [hds];rfl) (zX [] 10 ?_)))
 refine qR (g:=zW) (T:=9) (k:=0) (v:= .slice none 0 0) (xs:=[]) (ps.drop 2) [] [] (rdB x 8 rb::(o1++y9 oa og oi o4 o7 o8)) (rdB x 8 rb::(o1++y9 oa og oi o4 o7 o8)) [rdB x 8 rb] (cp:=cap-2) (λw hO=>hO) (λo w hO=>hO.take (λy hy=>by rw [List.mem_singleton.1 hy];simp) (by simp)) zR strC_one (λw hO=>hRd w hO.no) (Sl.nil _ _) Om λv1 ob1 h1=> ?_
 have hS:SlT v1 (ps.drop 2) ob1:=by
  unfold SlT;rw [xK]
  have:=h1
  rw [Nat.zero_add,List.nil_append] at this;exact this
 obtain ⟨A1,c1,rfl⟩:=hS.form
 refine zX [] 12 (gR 1 148 #[.string (mkS p1),.slice A1 (ps.drop 2).length c1] λb=>zX [] 13 ?_)
 refine wD (m:=1) (cp:=1) [⟨b, #[.string (mkS p1),.slice A1 (ps.drop 2).length c1],148⟩] o7 (rdB x 8 rb::(o1++y9 oa og oi o4 [] (o8++ob1))) 0 (⟨b, #[.string (mkS p1),.slice A1 (ps.drop 2).length c1],148⟩::([]++ob1++(rdB x 8 rb::(o1++y9 oa og oi o4 o7 o8)))) [rdB x 8 rb] (λw hO=>gP [] hO λp=>by
  simp only [y9,List.countP_append,List.countP_cons,List.countP_nil,List.cons_append,List.nil_append];omega) (λo w hO=>hO.take (λy hy=>by rw [List.mem_singleton.1 hy];simp) (by simp)) hT.top Om λv' ob' h=> ?_
 obtain ⟨A',c',rfl⟩:=h.form
 refine xY 161 [] (Zp rb 8) (Zp rb 8) rfl (x_hold ([⟨b, #[.string (mkS p1),.slice A1 (ps.drop 2).length c1],148⟩]++ob'++(rdB x 8 rb::(o1++y9 oa og oi o4 [] (o8++ob1)))) (rdB x 8 rb::(o1++y9 oa og oi o4 ob' (o8++ob1))) (λw hO=>gP [⟨b, #[.string (mkS p1),.slice A1 (ps.drop 2).length c1],148⟩] hO λp=>by
  simp only [y9,List.countP_append,List.countP_cons,List.countP_nil,List.cons_append,List.nil_append];omega) ?_)
 have hl:(x.fts++[(⟨p1,A1,ps.drop 2,c1⟩:Fv)]).length=x.fts.length+1:=by simp
 have hrd:rdB {x with fA:=A',fc:=c',fts:=x.fts++[⟨p1,A1,ps.drop 2,c1⟩]} 8 rb=rdL x (.slice x.nA x.needs.length x.nc) (.slice x.bA x.bars.length x.bc) (.slice A' (x.fts.length+1) c') 8 rb:=by
  unfold rdB rdC rvC rdL;simp only [hl];rfl
 refine z8 [0] Z4 λw hO=>⟨{x with fA:=A',fc:=c',fts:=x.fts++[⟨p1,A1,ps.drop 2,c1⟩]},rdB {x with fA:=A',fc:=c',fts:=x.fts++[⟨p1,A1,ps.drop 2,c1⟩]} 8 rb::(o1++y9 oa og oi o4 ob' (o8++ob1)),rfl, ?_,⟨o1,oa,og,oi,o4,ob',o8++ob1,rfl,⟨hN,hB, ?_⟩⟩, ?_⟩
 ·show Rv.rt _={x.rt with fts:=x.rt.fts++[⟨ps.getD 1 [],ps.drop 2⟩]}
  rw [hp1];unfold Rv.rt;simp [yI,Fv.ft,Rv.ver]
 ·exact (hT.more λb hb=>List.mem_append_left _ hb).add h ⟨ob1,hS,λb hb=>List.mem_append_right _ hb⟩
 ·rw [hrd]
  exact hO.past 0 (rdL x (.slice x.nA x.needs.length x.nc) (.slice x.bA x.bars.length x.bc) (.slice A' (x.fts.length+1) c') 8 rb::(o1++y9 oa og oi o4 ob' (o8++ob1)))
end
section
set_option linter.unnecessarySimpa false
theorem add_wish (rb:Nat)(x:Rv)(ps:List YL)(A:Option Addr)(cap:Nat)(ob:List Blk)(W:World)(hR:RdR rb 3 x ob)(hO:Own (ob.map Blk.b) W W ob)(hv:ReadsA (ob.map Blk.b) zW W A ps)(hp:5<=ps.length)(hs:∀ s∈ps,s.length<=1000000)(hF:Few x)(hne:x.needs≠[])(hK:∀ w,Own (ob.map Blk.b) W w []->HasLib w):YC 229 #[.pointer (some ⟨rb,0,none⟩),.slice A ps.length cap] W (AddB rb 3 x ps ob W):=by
 obtain ⟨o1,oa,og,oi,o4,o7,o8,rfl,hN,hB,hT⟩:=hR
 obtain ⟨pb,po,hA,hld⟩:=fO hv Om
 rcases hN.split with ⟨e,_⟩|⟨ini,n,hx,hi,hw,hf⟩
 ·exact absurd e hne
 have hlen:x.needs.length=ini.length+1:=by rw [hx];simp
 obtain ⟨g,cur,hg,rfl⟩:=sl_addr hN.top Om
 have hS:Sl 72 3 (.slice (some ⟨g,0,none⟩) (ini.length+1) x.nc) (ini.length+1) ((ini++[n]).flatMap nvC) [⟨g,cur,72⟩]:=by have:=hN.top;rw [hlen,hx,hg] at this;exact this
 have hFn:=hF.n
 have hFa:n.any.length<=5000:=hF.a n (by rw [hx];simp)
 have hlast:=lastN_at g ini.length x.nc x.needs.length hlen Om
 rw [←hg] at hlast
 obtain ⟨p1,hp1⟩:∃ p,ps.getD 1 []=p:=⟨_,rfl⟩
 obtain ⟨p2,hp2⟩:∃ p,ps.getD 2 []=p:=⟨_,rfl⟩
 obtain ⟨p3,hp3⟩:∃ p,ps.getD 3 []=p:=⟨_,rfl⟩
 obtain ⟨p4,hp4⟩:∃ p,ps.getD 4 []=p:=⟨_,rfl⟩
 have hs2:p2.length<=1000000:=by
  rw [←hp2,List.getD_eq_getElem?_getD,List.getElem?_eq_getElem (by omega)];exact hs _ (List.getElem_mem _)
 obtain ⟨M,hM⟩:∃ M,(rdB x 3 rb::([⟨g,cur,72⟩]++y9 oa og oi o4 o7 o8)).map Blk.b=M:=⟨_,rfl⟩
 rw [hM] at hO hld hK
 have hl1:∀ w,Own M W w []->(loadVar 9 ⟨pb,po+1*1+0,none⟩).run YP w= .ok (.string (mkS p1)) w:=λw hO=>by have:=hld w hO 1 Om;rw [hp1] at this;exact this
 have hl2:∀ w,Own M W w []->(loadVar 9 ⟨pb,po+2*1+0,none⟩).run YP w= .ok (.string (mkS p2)) w:=λw hO=>by have:=hld w hO 2 Om;rw [hp2] at this;exact this
 have hl3:∀ w,Own M W w []->(loadVar 9 ⟨pb,po+3*1+0,none⟩).run YP w= .ok (.string (mkS p3)) w:=λw hO=>by have:=hld w hO 3 Om;rw [hp3] at this;exact this
 have hl4:∀ w,Own M W w []->(loadVar 9 ⟨pb,po+4*1+0,none⟩).run YP w= .ok (.string (mkS p4)) w:=λw hO=>by have:=hld w hO 4 Om;rw [hp4] at this;exact this
 obtain ⟨fs,hfs⟩:∃ fs,(if p2=[45] then [] else zA 44 [] p2)=fs:=⟨_,rfl⟩
 have hc:∀ w,Own M W w []->YC 269 #[.string (mkS p2)] w λe w'=>∃ v ob',e= .returned v/\SlT v fs ob'/\Own [] w w' ob':=λw hO=>hfs▸qFeats_any p2 w hs2 (hK w hO)
 have hrd:cur[ini.length*3+0]?=some (.slice n.A n.any.length n.cap):=hS.lastAt qD 0 (.slice n.A n.any.length n.cap) rfl
 refine q9 hO Tryz.func229 (z7 (v:=Zp g (ini.length*3)) [0] (λw hO=>hlast w) ?_)
 refine x4 22 [] [⟨g,cur,72⟩] (λw hO=>Own.nth 1 ⟨g,cur,72⟩ hO) (xh_ldk 50060 [] 4 0 cur (ini.length*3+0) 70 (.slice n.A n.any.length n.cap) hrd (qJ 50062 [] 6 hA ps.length cap 1 1 Om (qT 50063 [] 7 9 pb (po+1*1+0) (.string (mkS p1)) (λw hO=>hl1 w hO.no) ?_)))
 refine qJ 50065 [] 9 hA ps.length cap 2 1 Om (qT 50066 [] 10 9 pb (po+2*1+0) (.string (mkS p2)) (λw hO=>hl2 w hO.no) ?_)
 refine qJ 50069 [] 13 hA ps.length cap 3 1 Om (qT 50070 [] 14 9 pb (po+3*1+0) (.string (mkS p3)) (λw hO=>hl3 w hO.no) ?_)
 refine xh_seqv 50071 [] 15 p3 gT (qJ 50073 [] 17 hA ps.length cap 4 1 Om (qT 50074 [] 18 9 pb (po+4*1+0) (.string (mkS p4)) (λw hO=>hl4 w hO.no) ?_))
 refine zX [] 11 (yU (R:=λv ob=>SlT v fs ob) (λw hO=>hc w hO.no) λv obF hF=> ?_)
 obtain ⟨fA,fc,rfl⟩:=hF.form
 refine zX [] 20 (gR 1 139 #[.string (mkS p1),.string (mkS p4),.slice fA fs.length fc,.bool (decide (p3=gT))] λb=>zX [] 21 ?_)
 refine wD (m:=1) (cp:=1) [⟨b, #[.string (mkS p1),.string (mkS p4),.slice fA fs.length fc,.bool (decide (p3=gT))],139⟩] oa (rdB x 3 rb::⟨g,cur,72⟩::y9 [] (og++obF) oi o4 o7 o8) 0 (⟨b, #[.string (mkS p1),.string (mkS p4),.slice fA fs.length fc,.bool (decide (p3=gT))],139⟩::((rdB x 3 rb::([⟨g,cur,72⟩]++y9 oa og oi o4 o7 o8))++obF)) [⟨g,cur,72⟩] (λw hO=>gP [] hO λp=>by
  simp only [y9,List.countP_append,List.countP_cons,List.countP_nil,List.cons_append,List.nil_append];omega) (λo w hO=>hO.take (λy hy=>by rw [List.mem_singleton.1 hy];simp) (by simp)) hw Om λv' ob' h=> ?_
 obtain ⟨A',c',rfl⟩:=h.form
 obtain ⟨u,hu⟩:∃ u:Wv,u=⟨p1,p4,fA,fc,fs,decide (p3=gT)⟩:=⟨_,rfl⟩
 have hl:(n.any++[u]).length=n.any.length+1:=by simp
 have hput:=Sl.putLast qD hS {n with A:=A',cap:=c',any:=n.any++[u]} 0 #[.slice A' (n.any.length+1) c'] (by simp) (by unfold nvC;simp only [hl];rfl)
 refine xY 79 [] (Zp g (ini.length*3+0)) (Zp g (ini.length*3+0)) rfl (x_hold ([⟨b, #[.string (mkS p1),.string (mkS p4),.slice fA fs.length fc,.bool (decide (p3=gT))],139⟩]++ob'++(rdB x 3 rb::⟨g,cur,72⟩::y9 [] (og++obF) oi o4 o7 o8)) (rdB x 3 rb::⟨g,cur,72⟩::y9 ob' (og++obF) oi o4 o7 o8) (λw hO=>gP [⟨b, #[.string (mkS p1),.string (mkS p4),.slice fA fs.length fc,.bool (decide (p3=gT))],139⟩] hO λp=>by
  simp only [y9,List.countP_append,List.countP_cons,List.countP_nil,List.cons_append,List.nil_append];omega) ?_)
 refine x_sto 1 ⟨g,cur,72⟩ (ini.length*3+0) 1 (.slice A' (n.any.length+1) c') (rdB x 3 rb::⟨g,cur,72⟩::y9 ob' (og++obF) oi o4 o7 o8) hput.2 ?_
 have hfin:∀ w,Own M W w (rdB x 3 rb::⟨g,zP cur (ini.length*3+0) #[.slice A' (n.any.length+1) c'],72⟩::y9 ob' (og++obF) oi o4 o7 o8)->AddB rb 3 x ps (rdB x 3 rb::([⟨g,cur,72⟩]++y9 oa og oi o4 o7 o8)) W (.returned (.bool (mM x.rt 3 ps).2)) w:=λw hO=>by
  refine ⟨{x with needs:=ini++[{n with A:=A',cap:=c',any:=n.any++[u]}]},rdB {x with needs:=ini++[{n with A:=A',cap:=c',any:=n.any++[u]}]} 3 rb::([⟨g,zP cur (ini.length*3+0) #[.slice A' (n.any.length+1) c'],72⟩]++y9 ob' (og++obF) oi o4 o7 o8),rfl, ?_,⟨_,ob',og++obF,oi,o4,o7,o8,rfl,⟨⟨?_,.inr ⟨ini,_,rfl,hi, ?_,λy hy=> ?_⟩⟩,hB,hT⟩⟩, ?_⟩
  ·refine rt_lastN hx (f:=λn=>{n with any:=n.any++[anyW ps (ps.getD 4 [])]}) ?_
   unfold Nv.nt anyW
   rw [hp1,hp2,hp3,hp4,hfs,hu];simp [Wv.wt]
  ·exact hg▸sl_len hput.1
  ·show Sl _ 4 (.slice A' (n.any++[u]).length c') _ _ _
   rw [hl,List.flatMap_append,List.flatMap_singleton,hu];exact h
  ·rcases List.mem_append.1 hy with hy|hy
   ·obtain ⟨o,q1,q2⟩:=hf y hy
    exact ⟨o,q1,λb hb=>List.mem_append_left _ (q2 b hb)⟩
   ·rw [List.mem_singleton.1 hy,hu]
    exact ⟨obF,hF,λb hb=>List.mem_append_right _ hb⟩
  ·rw [rd_lastN hx,hM];exact hO
 have hb:(mM x.rt 3 ps).2=(decide (p3=gT)||decide (p3=wU)):=by rw [←hp3];rfl
 refine zL 81 [] hA ps.length cap 3 1 (by omega) (zI 82 [] 9 pb (po+3*1+0) (.string (mkS p3)) (λw hO=>hl3 w hO.no) (xH 83 [] p3 gT (λq=> ?_) (λq=> ?_)))
 ·refine z8 [] Z4 λw hO=> ?_
  have:=hfin w (hO.past 0 (rdB x 3 rb::⟨g,zP cur (ini.length*3+0) #[.slice A' (n.any.length+1) c'],72⟩::y9 ob' (og++obF) oi o4 o7 o8))
  rw [hb,decide_eq_true q,Bool.true_or] at this;exact this
 ·refine zL 86 [] hA ps.length cap 3 1 (by omega) (zI 87 [] 9 pb (po+3*1+0) (.string (mkS p3)) (λw hO=>hl3 w hO.no) (xH 88 [] p3 wU (λq2=> ?_) (λq2=> ?_)))
  ·refine z8 [] Z4 λw hO=> ?_
   have:=hfin w (hO.past 0 (rdB x 3 rb::⟨g,zP cur (ini.length*3+0) #[.slice A' (n.any.length+1) c'],72⟩::y9 ob' (og++obF) oi o4 o7 o8))
   rw [hb,decide_eq_true q2,Bool.or_true] at this;exact this
  ·refine z8 [] Z5 λw hO=> ?_
   have:=hfin w (hO.past 0 (rdB x 3 rb::⟨g,zP cur (ini.length*3+0) #[.slice A' (n.any.length+1) c'],72⟩::y9 ob' (og++obF) oi o4 o7 o8))
   rw [hb,decide_eq_false q,decide_eq_false q2,Bool.or_false] at this;exact this
end
section
set_option linter.unnecessarySimpa false
theorem pcsB_le (b:UInt8):∀ (k:Nat) (s:YL),∀ x∈bI b k s,x.length<=s.length
 |0,s=>λx hx=>by rw [bI,List.mem_singleton] at hx;rw [hx];exact Nat.le_refl _
 |k+1,s=>λx hx=>by
  have hb:=fV b s
  unfold bI at hx
  split at hx
  ·rename_i h
   rw [if_pos h] at hb
   have hl:=congrArg List.length hb
   simp only [List.length_append,List.length_cons] at hl
   rcases List.mem_cons.1 hx with rfl|hx
   ·omega
   ·have:=pcsB_le b k _ x hx;omega
  ·rw [List.mem_singleton.1 hx];exact Nat.le_refl _
theorem laPs_le (l:La)(s:YL):∀ p∈xN l s,p.length<=s.length:=λp hp=>by
 unfold xN at hp
 split at hp
 ·exact pcsB_le _ _ _ p hp
 ·have:=split_le 32 s [] p hp;simpa using this
theorem laOk_len {l:La}{s:YL}(h:dC l s=true):l.parts<=(xN l s).length:=by
 unfold dC at h
 simp only [Bool.and_eq_true,Bool.or_eq_true,decide_eq_true_eq] at h
 omega
theorem qAdd_any (l:La)(hl:l∈lays)(s:YL)(hls:dC l s=true)(hs:s.length<=90000)(rb:Nat)(x:Rv)(A:Option Addr)(cap:Nat)(ob:List Blk)(W:World)(hR:RdR rb l.kind x ob)(hO:Own (ob.map Blk.b) W W ob)(hv:ReadsA (ob.map Blk.b) zW W A (xN l s))(hcap:(xN l s).length<=cap)(hF:Few x)(hn:3<=l.kind->l.kind<=5->x.needs≠[])(hb:l.kind=7->x.bars≠[])(hK:∀ w,Own (ob.map Blk.b) W w []->HasLib w):YC 229 #[.pointer (some ⟨rb,0,none⟩),.slice A (xN l s).length cap] W (AddB rb l.kind x (xN l s) ob W):=by
 have hle:=laOk_len hls
 have hps:∀ p∈xN l s,p.length<=1000000:=λp hp=>by have:=laPs_le l s p hp;omega
 have hfew:l.parts<=1000->(xN l s).length<=s.length+1001:=laPs_few l s
 clear hls
 generalize xN l s=ps at*
 simp only [lays,List.mem_cons,List.not_mem_nil,or_false] at hl
 rcases hl with rfl|rfl|rfl|rfl|rfl|rfl|rfl|rfl
 ·exact add_head rb x ps A cap ob W hR hO hv hle hps λw hw=>(hK w hw).tab
 ·exact add_need rb x ps A cap ob W hR hO hF
 ·exact add_wish rb x ps A cap ob W hR hO hv hle hps hF (hn (by decide) (by decide)) hK
 ·exact add_when rb x ps A cap ob W hR hO hv hle hF (hn (by decide) (by decide))
 ·exact add_opt rb x ps A cap ob W hR hO hv hle hF (hn (by decide) (by decide))
 ·exact add_bar rb x ps A cap ob W hR hO hv hle hF
 ·exact add_bwhen rb x ps A cap ob W hR hO hv hle hF (hb rfl)
 ·exact add_feat rb x ps A cap ob W hR hO hv ⟨hle,by have:=hfew (by decide);omega⟩ hcap hF
def layC:Array Value:=(lays.flatMap λl=>(laV l).cells.toList).toArray
structure LyAt (W:World):Prop where
 lt:1<W.heap.size
 held:∃ T,W.heap[(1:Nat)]?=some (.cells layC T)
theorem LyAt.on {W w:World}(h:LyAt W)(hb:YB W w):LyAt w:=
 ⟨Nat.lt_of_lt_of_le h.lt hb.size,by obtain ⟨T,q⟩:=h.held;exact ⟨T,by rw [hb.block _ h.lt];exact q⟩⟩
theorem LyAt.all {W:World}(h:LyAt W):(loadVar 249 ⟨1,0,none⟩).run YP W= .ok (.agg layC) W:=by
 obtain ⟨T,q⟩:=h.held
 exact yM Kr q
theorem lay_part:∀ (k:Nat) (l:La),lays[k]?=some l→∀ w,(part 248 layC (k*7)).run YP w= .ok (laV l) w
 |0,_,h,w=>by cases h;kernel_rfl
 |1,_,h,w=>by cases h;kernel_rfl
 |2,_,h,w=>by cases h;kernel_rfl
 |3,_,h,w=>by cases h;kernel_rfl
 |4,_,h,w=>by cases h;kernel_rfl
 |5,_,h,w=>by cases h;kernel_rfl
 |6,_,h,w=>by cases h;kernel_rfl
 |7,_,h,w=>by cases h;kernel_rfl
 |k+8,_,h,w=>by cases h
theorem run_idxS {P:Program}{ρ:Operand->Value}{o:Oper}{t e:TypeId}{x y:Operand}{n k sz:Nat}{vals:Array Value}{v:Value}(hk:k<n)(ho:o.op= .index t x y)(hx:ρ x= .agg vals)(hy:ρ y=YI (k:Int))
  (hu:P.underlying t=some (.array n e)) (hp:∀ w,(part e vals (k*sz)).run P w= .ok v w) (hs:(P.info? e).map (·.size)=some sz) (w:World):(execOp ρ o).run P w= .ok (.value v) w:=by
 cases he:P.info? e with
 |none=>rw [he] at hs;cases hs
 |some i=>
  rw [he] at hs
  have hs1:i.size=sz:=Option.some.inj hs
  unfold execOp
  have hkn:¬ n<=k:=by omega
  simp [ho,hx,hy,Instr.index,Sem.run_bind,asIntOf,run_underlying hu,sizeOf,typeInfo,he,hs1,hp,hk,hkn]
theorem slT_out {M:List Nat}{W w:World}{R ob op:List Blk}{A:Option Addr}{n cap:Nat}{l:List YL}(hO:Own M W w (R++ob))(h:SlT (.slice A n cap) l op)(hn:l.length=n)(hs:∀ b∈op,b∈R):ReadsA (ob.map Blk.b) zW w A l:=λh0=>by
 subst hn
 obtain ⟨g,cur,e1,e2,_⟩:=Sl.block h h0
 obtain ⟨b,off,e3,hlt,hc⟩:=SlT.reads h rfl hO (λx hx=>List.mem_append_left _ (hs x hx)) h0
 refine ⟨b,off,e3,hlt,λhb=> ?_,hc⟩
 rw [e1] at e3
 injection e3 with e3
 injection e3 with e4 _
 have ha:=hO.apart
 rw [List.map_append,List.nodup_append] at ha
 refine ha.2.2 b ?_ b hb rfl
 rw [←e4]
 exact List.mem_map.2 ⟨⟨g,cur,9⟩,hs _ (by rw [e2];exact List.mem_singleton.2 rfl),rfl⟩
end
section
set_option linter.unnecessarySimpa false
section
variable {M:List Nat}{P:Program}{n:Nat}{W:World}{Q:Exit->Act->World->Prop}{c:Xc}
theorem x_idxS (d:Nat)(h:List Nat)(k N sz:Nat)(v:Value)(vals:Array Value)(e:TypeId)(hN:k<N)(hp:∀ w,(part e vals (k*sz)).run P w= .ok v w)(hg:zF M P n W Q ((xgo P n (d+50000) h c).put v))
  (hkt:(xgl P n (d+50000) h c,xW n (xgo P n (d+50000) h c),(xO (xgo P n (d+50000) h c)).op,ev n (xgo P n (d+50000) h c).f (oX (xO (xgo P n (d+50000) h c))),ev n (xgo P n (d+50000) h c).f (oY (xO (xgo P n (d+50000) h c))),P.underlying (oT (xO (xgo P n (d+50000) h c))),(P.info? e).map (·.size))
   =(xgr P n (d+50000) h c,true,.index (oT (xO (xgo P n (d+50000) h c))) (oX (xO (xgo P n (d+50000) h c))) (oY (xO (xgo P n (d+50000) h c))),.agg vals,YI (k:Int),some (.array N e),some sz):=by kernel_rfl):zF M P n W Q c:=by
 simp only [Prod.mk.injEq] at hkt
 obtain ⟨hk,e1,e2,e3,e4,e5,e6⟩:=hkt
 exact zJ h c hk (xD e1 (run_idxS hN e2 e3 e4 e5 hp e6) hg)
end
structure TakeB (rb k:Nat)(x:Rv)(s:YL)(ob:List Blk)(W:World)(e:Ending)(w':World):Prop where
 ex:∃ b x' k' ob',e= .returned (.bool b)/\RdR rb k' x' ob'/\Own (ob.map Blk.b) W w' ob'/\(match kO x.rt k s lays with|some (y,kk)=>b=true/\x'.rt=y/\k'=kk|none=>b=false)
theorem lays_at {i:Nat}(h:i<8):∃ l,lays[i]?=some l/\lays.drop i=l::lays.drop (i+1)/\l∈lays:=by
 have h':i<lays.length:=h
 exact ⟨lays[i],List.getElem?_eq_getElem h',List.drop_eq_getElem_cons h',List.getElem_mem h'⟩
theorem lays_fits:∀ l∈lays,(3<=l.kind->l.kind<=5->2<=l.lo/\l.hi<=5)/\(l.kind=7->6<=l.lo/\l.hi<=7)/\1<=l.parts/\l.parts<=1000:=by decide
theorem qTake_any (rb k:Nat)(x:Rv)(s:YL)(ob:List Blk)(W:World)(hR:RdR rb k x ob)(hO:Own (ob.map Blk.b) W W ob)(hs:s.length<=90000)(hF:Few x)(hI:InvA x.rt k)(hK:∀ w,Own (ob.map Blk.b) W w []->HasLib w/\LyAt w):YC 183 #[.pointer (some ⟨rb,0,none⟩),.string (mkS s)] W (TakeB rb k x s ob W):=by
 obtain ⟨o1,oa,og,oi,o4,o7,o8,hob,hQ⟩:=hR
 obtain ⟨T,hT⟩:∃ T,o1++y9 oa og oi o4 o7 o8=T:=⟨_,rfl⟩
 rw [hT] at hob
 subst hob
 have hRd:∀ j,RdR rb j x (rdB x j rb::T):=λj=>⟨o1,oa,og,oi,o4,o7,o8,by rw [hT],hQ⟩
 obtain ⟨M,hM⟩:∃ M,(rdB x k rb::T).map Blk.b=M:=⟨_,rfl⟩
 have hMj:∀ j,(rdB x j rb::T).map Blk.b=M:=λj=>hM
 rw [hM] at hO hK
 refine q9 hO Tryz.func183 (zI 9 [] 249 1 0 (.agg layC) (λw hO=>(hK w hO.no).2.all) ?_)
 refine zT (α:=Nat) (λi=>[(0,Zp rb 0),(1,.string (mkS s)),(9,.agg layC),(10,YI (i:Int))]) (λ_=>rdB x k rb::T) (λi m=>(i<=8/\kO x.rt k s lays=kO x.rt k s (lays.drop i))/\m=8-i) 0 8 [] ⟨⟨Nat.zero_le _,rfl⟩,rfl⟩ ?_
 rintro i mm g kk ⟨⟨hi,hE⟩,hmm⟩ nx hkk
 subst hkk
 refine zG 11 [] ((i:Int)<8) (λh11=> ?_) (λh11=> ?_)
 rotate_left
 ·refine z8 [] Z5 λw hO=>⟨false,x,k,rdB x k rb::T,rfl,hRd k,by rw [hM];exact hO.past 0 _, ?_⟩
  rw [hE,List.drop_eq_nil_of_le (by show 8<=i;omega)];rfl
 obtain ⟨l,hl,hd,hlm⟩:=lays_at (show i<8 by omega)
 obtain ⟨hf1,hf2,hp⟩:=lays_fits l hlm
 rw [hd] at hE
 refine x_idxS 12 [] i 8 7 (laV l) layC 248 (by omega) (lay_part i l hl) (zH [] λb6=>zG 19 [0,1,0] ((k:Int)<(l.lo:Int)) (λh19=> ?_) (λh19=>zG 27 [1,0] ((k:Int)>(l.hi:Int)) (λh27=> ?_) (λh27=> ?_)))
 ·refine x_i 10 [] ((i+1:Nat):Int) (zQ [] (rdB x k rb::T) (λw hO=>hO.past 1 _) (nx (i+1) (8-(i+1)) [] Om ⟨⟨by omega, ?_⟩,rfl⟩ Kr Kr))
  rw [hE,kO,if_neg (λq=>by have:=q.1;omega)]
 ·refine x_i 10 [] ((i+1:Nat):Int) (zQ [] (rdB x k rb::T) (λw hO=>hO.past 1 _) (nx (i+1) (8-(i+1)) [] Om ⟨⟨by omega, ?_⟩,rfl⟩ Kr Kr))
  rw [hE,kO,if_neg (λq=>by have:=q.2.1;omega)]
 have hcut:∀ w,YC 228 #[laV l,.string (mkS s)] w λe w'=>∃ v ob',e= .returned v/\(∃ A cap,v= .tuple #[.slice A (xN l s).length cap,.bool (dC l s)]/\SlT (.slice A (xN l s).length cap) (xN l s) ob'/\(xN l s).length<=cap)/\Own [] w w' ob':=λw=>by
  refine (qCut_any l s w Om hp).mono λe w' ⟨v',ob',k1,k2,k3⟩=> ?_
  obtain ⟨A,cap,rfl⟩:=k2.form
  refine ⟨_,ob',k1,⟨A,cap,rfl,k2, ?_⟩,k3⟩
  rcases k2.2 with ⟨_,q,_⟩|⟨g,cap',cur,e1,e2,e3,_⟩
  ·omega
  ·cases e1;exact e3
 refine yB (R:=λv ob=>∃ A cap,v= .tuple #[.slice A (xN l s).length cap,.bool (dC l s)]/\SlT (.slice A (xN l s).length cap) (xN l s) ob/\(xN l s).length<=cap) [0] (λw hO=>hcut w) ?_
 rintro v obp ⟨A,cap,rfl,hSl,hcap⟩
 refine nP 35 [] (dC l s) (λh35=> ?_) (λh35=> ?_)
 rotate_left
 ·refine x_i 10 [] ((i+1:Nat):Int) (zQ [] (rdB x k rb::T) (λw hO=>gP (laB l b6::obp) (hO.past 0 (laB l b6::rdB x k rb::(T++obp))) λp=>by
   simp only [List.countP_append,List.countP_cons,List.countP_nil,List.cons_append,List.nil_append];omega) (nx (i+1) (8-(i+1)) [] Om ⟨⟨by omega, ?_⟩,rfl⟩ Kr Kr))
  rw [hE,kO,if_neg (λq=>by rw [h35] at q;exact Bool.false_ne_true q.2.2)]
 have hfit:l.lo<=k/\k<=l.hi/\dC l s=true:=⟨by omega,by omega,h35⟩
 refine kW (k:=229) (args:= #[Zp rb 0,.slice A (xN l s).length cap]) (Rr:=λv ob'=>∃ x',v= .bool (mM x.rt l.kind (xN l s)).2/\x'.rt=(mM x.rt l.kind (xN l s)).1/\RdR rb l.kind x' ob') [0,1] (laB l b6::rdB x l.kind rb::(T++obp)) (laB l b6::obp) (rdB x l.kind rb::T) (λw hO=>gP [] hO λp=>by
   simp only [List.countP_append,List.countP_cons,List.countP_nil,List.cons_append,List.nil_append];omega) (λw hO=> ?_) λv ob' ⟨x',k1,k2,k3⟩=> ?_
 ·refine (qAdd_any l hlm s h35 hs rb x A cap (rdB x l.kind rb::T) w (hRd l.kind) (Own.lentR hO) (slT_out hO hSl rfl λb hb=>List.mem_cons_of_mem _ hb) hcap hF (λq1 q2=> ?_) (λq=> ?_) (λw' hw'=>(hK w' (hO.no.and ((hMj l.kind)▸hw'))).1)).mono λe w' ⟨x',ob',q1,q2,q3,q4⟩=>⟨_,ob',q1,⟨x',rfl,q2,q3⟩,q4⟩
  ·have:=hf1 q1 q2
   exact λe=>hI.n Om Om (by show x.needs.map Nv.nt=[];rw [e];rfl)
  ·have:=hf2 q
   exact λe=>hI.b Om Om (by show x.bars.map Bv.bt=[];rw [e];rfl)
 subst k1
 refine z8 [] (.bool (mM x.rt l.kind (xN l s)).2) λw hO=>⟨_,x',l.kind,ob',rfl,k3, ?_, ?_⟩
 ·rw [hM];exact (hO.past 0 ((laB l b6::obp)++ob')).sublist (List.sublist_append_right _ _)
 ·rw [hE,kO,if_pos hfit]
  cases h:(mM x.rt l.kind (xN l s)).2 with
  |true=>rw [if_pos rfl];exact ⟨rfl,k2,rfl⟩
  |false=>rw [if_neg Bool.false_ne_true]
end
section
def noDef (o:Oper):Bool:=match o.op with
 | .defer _=>false
 |_=>true
theorem noDef_is {o:Oper}(h:noDef o=true):∀ c,o.op≠ .defer c:=λc e=>by
 unfold noDef at h;rw [e] at h;cases h
section
variable {M:List Nat}{P:Program}{n:Nat}{W:World}{Q:Exit->Act->World->Prop}{c:Xc}
theorem list_round {l m:Nat}{ops:Array Oper}(hout:¬ LetsOut Q):∀ (rest:List Oper),(rest.all noDef=true)→∀ a w,wpList P ops Q rest a w->wpListIn (Fence.wide.inRound l) m P ops Q rest a w
 | [],_,a,w,h=>h
 |o::rest,hn,a,w,h=>by
  rw [List.all_cons,Bool.and_eq_true] at hn
  have ih:=list_round (l:=l) (m:=m) (ops:=ops) hout rest hn.2
  unfold wpList at h
  unfold wpListIn
  split at h
  ·rename_i hw
   rw [if_pos hw]
   rcases h with h|⟨_,h⟩
   ·refine ⟨λ_ _=>trivial, ?_⟩
    rw [Oper.semAt_eq _ _ _ (noDef_is hn.1)]
    unfold Oper.wp at h
    generalize (execOp a.eval o).run P w=r at h ⊢
    unfold Oper.upon at h
    split at h
    ·exact ih _ _ h
    ·exact ih _ _ h
    ·exact ih _ _ h
    ·refine ⟨λq=>(by cases q),CallsIn.inRound l (callsIn_wide.2 (h.mono λe w' k=> ?_))⟩
     cases e with
     |returned v=>exact ih _ _ k
     |panicked ch=>exact k
     |outgrown=>exact k
    ·refine ⟨λq=>(by cases q),λcc cs _=> ?_⟩
     obtain ⟨v,w',r1,r2⟩:=h cc cs
     exact ⟨v,w',ih _ _ r1,stepsIn_wide.2 r2⟩
    ·exact h
    ·exact h.elim
   ·exact absurd h hout
  ·rename_i hw
   rw [if_neg hw]
   exact ⟨λ_ _=>trivial,ih _ _ h⟩
theorem wX {l m id:Nat}{ops:Array Oper}{L:List Blk}{f:Nat->Value}(hq:PQ Q)(hout:¬ LetsOut Q)(hn:ops.toList.all noDef=true)(hg:zF M P n W Q ⟨.ops ops ops.toList,[],L,f⟩):∀ w,Own M W w L->(Code.region id ops false).wpIn (Fence.wide.inRound l) m P Q (Fr n f) w:=λw hO=>
 wpIn_region_list (list_round hout _ hn _ _ ((hg.go hq).go w hO))
theorem x_fin (h:List Nat)(lv:List (Nat×Value))(hR:∀ w g,Own M W w (xgo P n nS h c).L->Q .normal (Fr n (jP g lv)) w)
  (hkt:(xgl P n nS h c,(xgo P n nS h c).top,(xgo P n nS h c).k,xV (xgo P n nS h c).f lv)=(xgr P n nS h c,.fin .normal,[],lv.map Prod.snd):=by kernel_rfl):zF M P n W Q c:=by
 simp only [Prod.mk.injEq] at hkt
 obtain ⟨hk,e1,e2,e3⟩:=hkt
 refine zJ h c hk ?_
 generalize xgo P n nS h c=d at*
 obtain ⟨top,kk,L,f⟩:=d
 dsimp only at e1 e2 e3 hR
 subst e1;subst e2
 exact ⟨λ_=>⟨λw hO=>by have:=hR w f hO;rw [←gW _ (gK e3)] at this;exact this⟩⟩
def xRg (c:Xc):Nat:=match c.top with
 | .code (.region id _ _)=>id
 |_=>0
def yo (c:Xc)(i:Nat):Oper:=match c.top with
 | .code (.region _ a _)=>a.getD i default
 |_=>default
def yF (d:Xc)(v0 v1:Value):Nat->Value:=upd (upd d.f (yo d 0).dst v0) (yo d 1).dst v1
def yF3 (d:Xc)(v0 v1:Value)(b:Bool):Nat->Value:=upd (upd (yF d v0 v1) (yo d 2).dst (.bool b)) (yo d 3).dst (.bool (!b))
def yA (d:Xc):Array Oper:= #[yo d 0,yo d 1,yo d 2,yo d 3]
theorem ok_yield {id l:Nat}{o0 o1 o2 o3:Oper}{L:List Blk}{f:Nat->Value}{s v0 v1:Value}
  (w0:zS #[o0,o1,o2,o3] n f o0=true) (w1:zS #[o0,o1,o2,o3] n (upd f o0.dst v0) o1=true) (w2:zS #[o0,o1,o2,o3] n (upd (upd f o0.dst v0) o1.dst v1) o2=true) (w3:∀ b,zS #[o0,o1,o2,o3] n (upd (upd (upd f o0.dst v0) o1.dst v1) o2.dst (.bool b)) o3=true)
  (q0:∀ w,(execOp (ev n f) o0).run P w= .ok (.value v0) w) (q1:∀ w,(execOp (ev n (upd f o0.dst v0)) o1).run P w= .ok (.value v1) w) (q2:∀ w,(execOp (ev n (upd (upd f o0.dst v0) o1.dst v1)) o2).run P w=(Instr.yield l #[s]).run P w)
  (q3:∀ b w,(execOp (ev n (upd (upd (upd f o0.dst v0) o1.dst v1) o2.dst (.bool b))) o3).run P w= .ok (.value (.bool (!b))) w)
  (hs:∀ w,Own M W w L->YieldAt Fence.wide 1 P l #[s] w λe w'=>∃ b,e= .returned (.bool b)/\Q .normal (Fr n (upd (upd (upd (upd f o0.dst v0) o1.dst v1) o2.dst (.bool b)) o3.dst (.bool (!b)))) w'):Ok M P n W Q (.region id #[o0,o1,o2,o3] false) L f:=by
 refine ⟨λw hO=>(wpIn_wide (n:=2)).1 (wpIn_region_list ?_)⟩
 obtain ⟨fn,tmps,assign,body,hy,hR⟩:=hs w hO
 show wpListIn Fence.wide 2 P #[o0,o1,o2,o3] Q [o0,o1,o2,o3] (Fr n f) w
 unfold wpListIn
 rw [qA,if_pos w0]
 refine ⟨λ_ _=>trivial, ?_⟩
 rw [show Fence.wide.round=none from rfl,Oper.semAt_none,xG,q0,Oper.uponIn_value,gV]
 unfold wpListIn
 rw [qA,if_pos w1]
 refine ⟨λ_ _=>trivial, ?_⟩
 rw [show Fence.wide.round=none from rfl,Oper.semAt_none,xG,q1,Oper.uponIn_value,gV]
 unfold wpListIn
 rw [qA,if_pos w2]
 refine ⟨λ_ _=>trivial, ?_⟩
 rw [show Fence.wide.round=none from rfl,Oper.semAt_none,xG,q2,hy,Oper.uponIn_round]
 refine ⟨λq=>(by cases q),hR.mono λe w' ⟨b,k1,k3⟩=> ?_⟩
 subst k1
 dsimp only
 rw [gV]
 unfold wpListIn
 rw [qA,if_pos (w3 b)]
 refine ⟨λ_ _=>trivial, ?_⟩
 rw [show Fence.wide.round=none from rfl,Oper.semAt_none,xG,q3,Oper.uponIn_value,gV]
 exact k3
theorem yield_good {d:Xc}(l:Nat)(s v0 v1:Value)
  (hs:∀ w,Own M W w d.L->YieldAt Fence.wide 1 P l #[s] w λe w'=>∃ b M' L',e= .returned (.bool b)/\Own M' w' w' L'/\zF M' P n w' Q ⟨.fin .normal,d.k,L',yF3 d v0 v1 b⟩)
  (e1:d.top= .code (.region (xRg d) (yA d) false)) (e2:xNl d.k=true)
  (hw:(zS (yA d) n d.f (yo d 0),zS (yA d) n (upd d.f (yo d 0).dst v0) (yo d 1),zS (yA d) n (yF d v0 v1) (yo d 2),λb=>zS (yA d) n (upd (yF d v0 v1) (yo d 2).dst (.bool b)) (yo d 3))=(true,true,true,λ_=>true))
  (h0:(λw=>(execOp (ev n d.f) (yo d 0)).run P w)=λw=> .ok (.value v0) w)
  (h1:(λw=>(execOp (ev n (upd d.f (yo d 0).dst v0)) (yo d 1)).run P w)=λw=> .ok (.value v1) w)
  (h2:(λw=>(execOp (ev n (yF d v0 v1)) (yo d 2)).run P w)=λw=>(Instr.yield l #[s]).run P w)
  (h3:(λb w=>(execOp (ev n (upd (yF d v0 v1) (yo d 2).dst (.bool b))) (yo d 3)).run P w)=λb w=> .ok (.value (.bool (!b))) w):zF M P n W Q d:=by
 have:d=⟨.code (.region (xRg d) (yA d) false),d.k,d.L,d.f⟩:=by rw [←e1]
 obtain ⟨w0,hw2⟩:=Prod.mk.inj hw
 obtain ⟨w1,hw3⟩:=Prod.mk.inj hw2
 obtain ⟨w2,w3⟩:=Prod.mk.inj hw3
 have key:PQ Q->Ok M P n W (KQ M P n W Q d.k) (.region (xRg d) (yA d) false) d.L d.f:=λhq=>ok_yield (l:=l) (s:=s) (v0:=v0) (v1:=v1) w0 w1 w2 (λb=>congrFun w3 b) (λw=>congrFun h0 w) (λw=>congrFun h1 w) (λw=>congrFun h2 w) (λb w=>congrFun (congrFun h3 b) w) λw hO=>by
  obtain ⟨fn,tmps,assign,body,hy,hR⟩:=hs w hO
  refine ⟨fn,tmps,assign,body,hy,hR.mono λe w' ⟨b,M',L',k1,k2,k3⟩=>⟨b,k1, ?_⟩⟩
  have:=(k3.go hq).go w' k2
  rw [tP (M:=M) (W:=W) (M':=M') (W':=w') e2];exact this
 generalize xRg d=i at*
 generalize yA d=a at*
 rw [this]
 exact ⟨key⟩
theorem x_yield (fu:Fuel1)(h:List Nat)(l:Nat)(s v0 v1:Value)
  (hs:∀ w,Own M W w (kM P n nS fu h c).L->YieldAt Fence.wide 1 P l #[s] w λe w'=>∃ b M' L',e= .returned (.bool b)/\Own M' w' w' L'/\zF M' P n w' Q ⟨.fin .normal,(kM P n nS fu h c).k,L',yF3 (kM P n nS fu h c) v0 v1 b⟩)
  (hkt:(xl P n nS fu h c,(kM P n nS fu h c).top,xNl (kM P n nS fu h c).k)=(xr P n nS (fuel12 fu) h c,.code (.region (xRg (kM P n nS fu h c)) (yA (kM P n nS fu h c)) false),true):=by kernel_rfl)
  (hw:(zS (yA (kM P n nS fu h c)) n (kM P n nS fu h c).f (yo (kM P n nS fu h c) 0),zS (yA (kM P n nS fu h c)) n (upd (kM P n nS fu h c).f (yo (kM P n nS fu h c) 0).dst v0) (yo (kM P n nS fu h c) 1),zS (yA (kM P n nS fu h c)) n (yF (kM P n nS fu h c) v0 v1) (yo (kM P n nS fu h c) 2),λb=>zS (yA (kM P n nS fu h c)) n (upd (yF (kM P n nS fu h c) v0 v1) (yo (kM P n nS fu h c) 2).dst (.bool b)) (yo (kM P n nS fu h c) 3))=(true,true,true,λ_=>true):=by kernel_rfl)
  (h0:(λw=>(execOp (ev n (kM P n nS fu h c).f) (yo (kM P n nS fu h c) 0)).run P w)=λw=> .ok (.value v0) w:=by kernel_rfl)
  (h1:(λw=>(execOp (ev n (upd (kM P n nS fu h c).f (yo (kM P n nS fu h c) 0).dst v0)) (yo (kM P n nS fu h c) 1)).run P w)=λw=> .ok (.value v1) w:=by kernel_rfl)
  (h2:(λw=>(execOp (ev n (yF (kM P n nS fu h c) v0 v1)) (yo (kM P n nS fu h c) 2)).run P w)=λw=>(Instr.yield l #[s]).run P w:=by kernel_rfl)
  (h3:(λb w=>(execOp (ev n (upd (yF (kM P n nS fu h c) v0 v1) (yo (kM P n nS fu h c) 2).dst (.bool b))) (yo (kM P n nS fu h c) 3)).run P w)=λb w=> .ok (.value (.bool (!b))) w:=by kernel_rfl):zF M P n W Q c:=by
 obtain ⟨hk,hkt2⟩:=Prod.mk.inj hkt
 obtain ⟨e1,e2⟩:=Prod.mk.inj hkt2
 refine xrun_ok fu h c hk ?_
 clear hk hkt hkt2
 generalize kM P n nS fu h c=d at*
 exact yield_good l s v0 v1 hs e1 e2 hw h0 h1 h2 h3
end
end
section
def lnH (r:YL):YL:=if (zB 10 r).2.2 then (zB 10 r).1++[10] else r
def lnR (r:YL):YL:=if (zB 10 r).2.2 then (zB 10 r).2.1 else []
theorem ix_cut (c:UInt8):∀ r:YL,((zB c r).2.2=true/\Lib.indexByte r c=((zB c r).1.length:Int)/\r.take ((zB c r).1.length+1)=(zB c r).1++[c]/\r.drop ((zB c r).1.length+1)=(zB c r).2.1/\(zB c r).1.length<r.length)\/((zB c r).2.2=false/\Lib.indexByte r c= -1)
 | []=> .inr ⟨rfl,rfl⟩
 |b::r=>by
  unfold zB Lib.indexByte
  by_cases h:b=c
  ·subst h
   left
   simp
  ·have hb:(b==c)=false:=by simpa using h
   rw [if_neg h,hb,if_neg Bool.false_ne_true]
   rcases ix_cut c r with ⟨h1,h2,h3,h4,h5⟩|⟨h1,h2⟩
   ·left
    rw [h2]
    have hn:(((zB c r).1.length:Int)== -1)=false:=by simp
    rw [hn,if_neg Bool.false_ne_true]
    refine ⟨h1,by simp, ?_, ?_,by simpa using h5⟩
    ·simp only [List.length_cons,List.take_succ_cons,h3,List.cons_append]
    ·simp only [List.length_cons,List.drop_succ_cons,h4]
   ·right
    rw [h2]
    exact ⟨h1,by simp⟩
theorem lnR_len {r:YL}(h:r≠[]):(lnR r).length<r.length:=by
 unfold lnR
 rcases ix_cut 10 r with ⟨h1,_,_,h4,h5⟩|⟨h1,_⟩
 ·rw [if_pos h1,←h4,List.length_drop];omega
 ·rw [h1,if_neg Bool.false_ne_true];exact List.length_pos_iff.2 h
section
variable {M:List Nat}{P:Program}{n:Nat}{W:World}{Q:Exit->Act->World->Prop}{c:Xc}
theorem xh_shi (t:Nat)(h:List Nat)(i:Nat)(s:YL)(j:Int)(h0:0<=j)(h1:j<=s.length)(v:Value)(hv: .string (mkS (s.take j.toNat))=v)(hg:zF M P n W Q (xHn (xgo P n t h c) i v))
  (hkt:(xgl P n t h c,mN n i (xgo P n t h c),(shQ (xOi i (xgo P n t h c))).2.2.2,ev n (xgo P n t h c).f (shQ (xOi i (xgo P n t h c))).2.1,ev n (xgo P n t h c).f (shQ (xOi i (xgo P n t h c))).2.2.1,P.underlying (shQ (xOi i (xgo P n t h c))).1)
   =(xgr P n t h c,bO i (xgo P n t h c),true,.string (mkS s),YI j,some .string):=by kernel_rfl):zF M P n W Q c:=by
 simp only [Prod.mk.injEq] at hkt
 obtain ⟨hk,e1,e2,e3,e4,e5⟩:=hkt
 exact zJ h c hk (pQ (λw _=>by rw [run_strhi (shQ_op e2) e3 e4 e5 h0 h1 w,hv]) hg e1)
theorem xh_slo (t:Nat)(h:List Nat)(i:Nat)(s:YL)(j:Int)(h0:0<=j)(h1:j<=s.length)(v:Value)(hv: .string (mkS (s.drop j.toNat))=v)(hg:zF M P n W Q (xHn (xgo P n t h c) i v))
  (hkt:(xgl P n t h c,mN n i (xgo P n t h c),(slQ (xOi i (xgo P n t h c))).2.2.2,ev n (xgo P n t h c).f (slQ (xOi i (xgo P n t h c))).2.1,ev n (xgo P n t h c).f (slQ (xOi i (xgo P n t h c))).2.2.1,P.underlying (slQ (xOi i (xgo P n t h c))).1)
   =(xgr P n t h c,bO i (xgo P n t h c),true,.string (mkS s),YI j,some .string):=by kernel_rfl):zF M P n W Q c:=by
 simp only [Prod.mk.injEq] at hkt
 obtain ⟨hk,e1,e2,e3,e4,e5⟩:=hkt
 exact zJ h c hk (pQ (λw _=>by rw [run_strlo (slQ_op e2) e3 e4 e5 h0 h1 w,hv]) hg e1)
end
def yY (B:Nat)(r:YL):Blk:=⟨B, #[.string (mkS r)],9⟩
theorem ixb_any (r:YL)(w:World):YC 84 #[.string (mkS r),.int .u8 10] w (YR (YI (Lib.indexByte r 10)) w):=
 (Tryz.strings_IndexByte _ _ w).mono λe w' ⟨h1,h2⟩=>⟨by rw [h1];rfl,h2▸Below.refl _ _⟩
theorem lines_any (l B:Nat)(J:YL->World->Prop)(K:YL->YL->World->Prop)(Jx:World->Prop)
  (hJ:∀ r w,J r w->Own [B] w w [yY B r])
  (hS:∀ r w w',J r w->Own [B] w w' [yY B r]->J r w')
  (hT:∀ r w w',J r w->r≠[]->Own [B] w w' [yY B (lnR r)]->K (lnH r) (lnR r) w')
  (hX:∀ w w',Jx w->YB w w'->Jx w')
  (hY:∀ p r w,K p r w->YieldAt Fence.wide 1 YP l #[.string (mkS p)] w λe w'=>(e= .returned (.bool true)/\J r w')\/(e= .returned (.bool false)/\Jx w'))
  (s:YL) (W:World) (h0:J s W) (hs:s.length<=1000000):YC 83 #[.func (.yield l) #[] #[],.pointer (some ⟨B,0,none⟩)] W λe w'=>e= .returned (.tuple #[])/\(J [] w'\/Jx w'):=by
 refine q9 (hJ s W h0) Tryz.func83 (x_loopW (α:=YL) (λ_=>[(0,.func (.yield l) #[] #[]),(1,Zp B 0)]) (λ_=>[B]) (λr=>[yY B r]) (λr w m=>J r w/\r.length<=1000000/\m=r.length) s s.length [] (λw hO=>⟨⟨hS s W w h0 hO,hs,rfl⟩,(hJ s w (hS s W w h0 hO))⟩) ?_)
 rintro r w mm g ⟨hj,hr,rfl⟩ hO
 refine zG 7 [0] ((r.length:Int)>0) (λh7=> ?_) (λh7=> ?_)
 rotate_left
 ·have hnil:r=[]:=List.eq_nil_of_length_eq_zero Om
  subst hnil
  refine x_outW (.exit 0) [] (x_end0 [] λw3 hO3=>⟨rfl,.inl (hS [] w w3 hj (hO3.past 0 [yY B []]))⟩) rfl
 have hne:r≠[]:=λe=>by rw [e] at h7;exact absurd h7 (by decide)
 have hround:∀ w',Own [B] w w' [yY B (lnR r)]->YieldAt Fence.wide 1 YP l #[.string (mkS (lnH r))] w' λe w2=>(e= .returned (.bool true)/\J (lnR r) w2)\/(e= .returned (.bool false)/\Jx w2):=λw' hO'=>hY _ _ _ (hT r w w' hj hne hO')
 obtain ⟨z,hz⟩:∃ z,Lib.indexByte r 10=z:=⟨_,rfl⟩
 have hix:∀ w,YC 84 #[.string (mkS r),.int .u8 10] w (YR (YI z) w):=λw=>hz▸ixb_any r w
 have hcut:(0<=z/\z<r.length/\r.take (z+1).toNat=lnH r/\r.drop (z+1).toNat=lnR r)\/(z= -1/\lnH r=r/\lnR r=[]):=by
  unfold lnH lnR
  rcases ix_cut 10 r with ⟨c1,c2,c3,c4,c5⟩|⟨c1,c2⟩
  ·left
   rw [hz] at c2
   subst c2
   rw [c1,if_pos rfl,if_pos rfl]
   exact ⟨by omega,by omega,c3,c4⟩
  ·right
   rw [c1]
   exact ⟨hz.symm.trans c2,rfl,rfl⟩
 have hlen:=lnR_len hne
 refine z7 (v:=YI z) [0] (λw hO=>hix w) (zG 11 [] (z>=0) (λh11=> ?_) (λh11=> ?_))
 ·rcases hcut with ⟨q1,q2,q3,q4⟩|⟨q1,_⟩
  rotate_left
  ·exact absurd h11 Om
  refine x4 9 [] [yY B r] (λw hO=>Own.nth 0 (yY B r) hO) (x_i 14 [0] (z+1) (xh_shi 50015 [] 3 r (z+1) Om Om (.string (mkS (lnH r))) (by rw [q3]) (x_i 18 [0] (z+1) (xh_slo 50019 [] 7 r (z+1) Om Om (.string (mkS (lnR r))) (by rw [q4]) ?_))))
  refine x_yield (.s (.s (.s (.s (.s (.s (.s .z))))))) [0] l (.string (mkS (lnH r))) (.func (.yield l) #[] #[]) (.string (mkS (lnH r))) λw' hO'=> ?_
  obtain ⟨fn,tmps,assign,body,hy,hR⟩:=hround w' (hO'.past 0 [yY B (lnR r)])
  refine ⟨fn,tmps,assign,body,hy,hR.mono λe w2 h=> ?_⟩
  rcases h with ⟨rfl,hJ2⟩|⟨rfl,hx2⟩
  ·exact ⟨true,[B],[yY B (lnR r)],rfl,hJ _ _ hJ2,x_nxW (lnR r) (lnR r).length [] hlen λw3 hO3=>⟨⟨hS _ w2 w3 hJ2 (hO3.past 0 [yY B (lnR r)]),by omega,rfl⟩,hJ _ _ (hS _ w2 w3 hJ2 (hO3.past 0 [yY B (lnR r)]))⟩⟩
  ·exact ⟨false,[],[],rfl,Own.start [] w2,x_outW .ret [] (x_ret0 [] λw3 hO3=>⟨rfl,.inr (hX w2 w3 hx2 (hO3.past 0 []).below)⟩) rfl⟩
 ·rcases hcut with ⟨q1,_⟩|⟨q1,q2,q3⟩
  ·exact absurd h11 Om
  rw [q2,q3] at hround
  rw [q3] at hlen
  refine x_yield (.s (.s (.s (.s (.s (.s (.s (.s (.s (.s .z)))))))))) [0,0] l (.string (mkS r)) (.func (.yield l) #[] #[]) (.string (mkS r)) λw' hO'=> ?_
  obtain ⟨fn,tmps,assign,body,hy,hR⟩:=hround w' (hO'.past 0 [yY B []])
  refine ⟨fn,tmps,assign,body,hy,hR.mono λe w2 h=> ?_⟩
  rcases h with ⟨rfl,hJ2⟩|⟨rfl,hx2⟩
  ·exact ⟨true,[B],[yY B []],rfl,hJ _ _ hJ2,x_nxW [] 0 [] hlen λw3 hO3=>⟨⟨hS _ w2 w3 hJ2 (hO3.past 0 [yY B []]),by simp,rfl⟩,hJ _ _ (hS _ w2 w3 hJ2 (hO3.past 0 [yY B []]))⟩⟩
  ·exact ⟨false,[],[],rfl,Own.start [] w2,x_outW .ret [] (x_ret0 [] λw3 hO3=>⟨rfl,.inr (hX w2 w3 hx2 (hO3.past 0 []).below)⟩) rfl⟩
end
end Go.Proofs.YtflhcaljcoekpaaGreatDoor
