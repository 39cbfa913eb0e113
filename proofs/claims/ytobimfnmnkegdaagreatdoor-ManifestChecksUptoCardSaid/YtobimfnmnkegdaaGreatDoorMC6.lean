import Derived.Laws.IdiomStrings
import Derived.Laws.IdiomCopy
import Derived.Laws.BitsAllLaws
import Derived.Lib.ConvBytes
import Derived.Lib.Builder
import Derived.Laws.Entries
import Derived.Test.YtobimfnmnkegdaaGreatDoorMC5
set_option maxRecDepth 1000000
set_option maxHeartbeats 8000000
set_option linter.unusedVariables false
set_option linter.unusedSimpArgs false
set_option linter.unnecessarySimpa false
namespace Go.Proofs.YtobimfnmnkegdaaGreatDoor
open Go.RowKit

section
set_option linter.unnecessarySimpa false
theorem r7Plain_any (s:YL)(W:World)(hs:GqR s):YC 88 #[.string (mkS s)] W (YR (.bool (yG s)) W):=by
 have hp:∀ w,YB W w->YC 138 #[.string (mkS s)] w λe w'=>∃ v ob,e= .returned v/\(∃ A cap xs o1 o2,v= .tuple #[.agg #[.slice A xs.length cap],YI (d5 s)]/\ob=o1++o2/\yX xs=(kV s).getD []/\RgA (.slice A xs.length cap) xs o1 o2)/\Own [] w w' ob:=λw hb=>by
  refine (rsParse_tup s w hs).mono λe w' ⟨v',ob',k1,⟨rv,k2,xs,u,o1,o2,k3,k4,k5,k6⟩,k7⟩=> ?_
  obtain ⟨A,cap,rfl⟩:∃ A cap,u= .slice A xs.length cap:=by
   rcases k6.top.2 with ⟨h1,h2,_⟩|⟨g,cap,_,h1,_⟩
   ·exact ⟨none,0,by rw [h1,h2]⟩
   ·exact ⟨_,cap,h1⟩
  exact ⟨v',ob',k1,⟨A,cap,xs,o1,o2,by rw [k2,k3],k4,k5,k6⟩,k7⟩
 refine zD Tryz.func88 (k8 (R:=λv ob=>∃ A cap xs o1 o2,v= .tuple #[.agg #[.slice A xs.length cap],YI (d5 s)]/\ob=o1++o2/\yX xs=(kV s).getD []/\RgA (.slice A xs.length cap) xs o1 o2) [] (λw hO=>hp w hO.below) ?_)
 rintro v ob ⟨A,cap,xs,o1,o2,rfl,rfl,hx,hR⟩
 refine zJ [] λb=>zB 11 [0] (d5 s=0) (λh11=> ?_) (λh11=> ?_)
 rotate_left
 ·exact z7 [] Z5 λw hO=>⟨by unfold yG;rw [decide_eq_false h11];rfl,hO.below⟩
 have hf:=fine_get h11
 rw [←hx] at hf
 have hq:∀ w,Own [] W w (o1++o2)->YC 139 #[.agg #[.slice A xs.length cap]] w (YR (.string (mkS (wB (yX xs)))) w):=λw hO=>rsPrint_any A cap xs w (hR.inn rfl hO (λx hx=>List.mem_append_left _ hx) (λx hx=>List.mem_append_right _ hx) hf)
 refine z8 (v:= .string (mkS (wB (yX xs)))) [0] (λw hO=>hq w (hO.past 1 _)) (x4 16 [] (wB (yX xs)) s (λh=> ?_) (λh=> ?_))
 ·exact z7 [] Z4 λw hO=>⟨by unfold yG;rw [decide_eq_true h11,←hx,decide_eq_true h];rfl,hO.below⟩
 ·exact z7 [] Z5 λw hO=>⟨by unfold yG;rw [decide_eq_true h11,←hx,decide_eq_false h];rfl,hO.below⟩
theorem printM_is (l:List Nd):qS l=if fH l then vR l else []:=rfl
theorem r10Print_any (A:Option Addr)(cap:Nat)(l:List Nd)(W:World)(hv:Reads nC W W.heap.size A l)(hn:l.length<=1000)(ht:∀ n∈l,n.text.length<=1048576):YC 202 #[.agg #[.slice A l.length cap]] W (YR (.string (mkS (qS l))) W):=by
 have hm:∀ w,YB W w->YC 236 #[.agg #[.slice A l.length cap]] w (YR (.bool (fH l)) w):=λw hb=>r10May_any A cap l w (hv.on hb hb.size) hn ht
 refine zD Tryz.func202 (yK [] λb1=>z8 (v:= .bool (fH l)) [0] (λw hO=>hm w hO.below) (zP 4 (fH l) (λh=> ?_) (λh=> ?_)))
 rotate_left
 ·exact z7 [] (.string ⟨#[]⟩) λw hO=>⟨by rw [printM_is,h];rfl,hO.below⟩
 have hw:∀ w,YB W w->YC 237 #[.slice A l.length cap] w (YR (.string (mkS (vR l))) w):=λw hb=>r10whole_any A cap l w (hv.on hb hb.size) hn (by
  rw [mayM_ref] at h;simp only [Bool.and_eq_true] at h;exact h.2.1)
 exact z8 (v:= .string (mkS (vR l))) [0] (λw hO=>hw w hO.below) (z7 [] (.string (mkS (vR l))) λw hO=>⟨by rw [printM_is,h];rfl,hO.below⟩)
theorem nodR_cases (s:YL):gR s=[]∨∃ t:Tr,t.ok=true/\t.fit=true/\gR s=t.enc 0:=by
 unfold gR
 split
 ·exact .inl rfl
 ·split
  ·exact .inl rfl
  ·cases h:gP s with
   |none=>exact .inl rfl
   |some t=>have:=readM_ok h;exact .inr ⟨t,this.1,this.2,rfl⟩
theorem nodR_fine (s:YL):(gR s).length<=1000∧∀ n∈gR s,n.text.length<=1048576:=by
 rcases nodR_cases s with e|⟨t,ho,hf,e⟩
 ·rw [e];simp
 ·rw [e,Tr.enc_len]
  have h15:t.sz<=15:=by unfold Tr.fit at hf;simp at hf;exact hf.1
  exact ⟨by omega,λn hn=>by have:=bL t 0 ho n hn;omega⟩
theorem r10Plain_any (s:YL)(W:World)(hs:GqM s):YC 169 #[.string (mkS s)] W (YR (.bool (x1 s)) W):=by
 have hp:∀ w,YB W w->YC 201 #[.string (mkS s)] w λe w'=>∃ v ob,e= .returned v/\(∃ A cap,v= .tuple #[.agg #[.slice A (gR s).length cap],YI (pL s)]/\SlN (.slice A (gR s).length cap) (gR s) ob)/\Own [] w w' ob:=λw hb=>by
  refine (r10Parse_any s w hs).mono λe w' ⟨v',ob',k1,k2,k3⟩=> ?_
  obtain ⟨A,cap,rfl⟩:∃ A cap,v'= .slice A (gR s).length cap:=by
   rcases k2.2 with ⟨h1,h2,_⟩|⟨g,cap,_,h1,_⟩
   ·exact ⟨none,0,by rw [h1,h2]⟩
   ·exact ⟨_,cap,h1⟩
  exact ⟨_,ob',k1,⟨A,cap,rfl,k2⟩,k3⟩
 have hfi:=nodR_fine s
 refine zD Tryz.func169 (k8 (R:=λv ob=>∃ A cap,v= .tuple #[.agg #[.slice A (gR s).length cap],YI (pL s)]/\SlN (.slice A (gR s).length cap) (gR s) ob) [] (λw hO=>hp w hO.below) ?_)
 rintro v ob ⟨A,cap,rfl,hR⟩
 refine zJ [] λb=>zB 11 [0] (pL s=0) (λh11=> ?_) (λh11=> ?_)
 rotate_left
 ·exact z7 [] Z5 λw hO=>⟨by unfold x1;rw [decide_eq_false h11];rfl,hO.below⟩
 have hq:∀ w,Own [] W w ob->YC 202 #[.agg #[.slice A (gR s).length cap]] w (YR (.string (mkS (qS (gR s)))) w):=λw hO=>r10Print_any A cap (gR s) w (Sl.reads hR rfl hO λx hx=>hx) hfi.1 hfi.2
 refine z8 (v:= .string (mkS (qS (gR s)))) [0] (λw hO=>hq w (hO.past 1 _)) (x4 16 [] (qS (gR s)) s (λh=> ?_) (λh=> ?_))
 ·exact z7 [] Z4 λw hO=>⟨by unfold x1;rw [decide_eq_true h11,decide_eq_true h];rfl,hO.below⟩
 ·exact z7 [] Z5 λw hO=>⟨by unfold x1;rw [decide_eq_true h11,decide_eq_false h];rfl,hO.below⟩
theorem r12feats_any (A:Option Addr)(cap:Nat)(l:List YL)(al:Bool)(W:World)(hv:Reads yY W W.heap.size A l)(hn:l.length<=1048576)(ht:∀ s∈l,s.length<=1048576):YC 200 #[.slice A l.length cap,.bool al] W (YR (.bool (dB l al)) W):=by
 refine zD Tryz.func200 (zM (α:=Nat) (λi=>[(0,.slice A l.length cap),(1,.bool al),(5,YI (i:Int))]) (λ_=>[]) (λi m=>(i<=l.length∧∀ s∈l.take i,wdL s=true)/\m=l.length-i) 0 l.length [] ⟨⟨Nat.zero_le _,λy h=>by simp at h⟩,rfl⟩ ?_)
 rintro i mm g kk ⟨⟨hi,hno⟩,hmm⟩ nx hkk
 subst hkk
 refine zB 9 [] ((i:Int)<(l.length:Int)) (λh9=> ?_) (λh9=> ?_)
 ·have hj:i<l.length:=by omega
  obtain ⟨eb,eo,hA,hel⟩:=hv.elem zX i hj
  have hgo:=yQ (p:=λs:YL=>wdL s=true) hj hno
  have hsm:l[i]∈l:=List.getElem_mem hj
  have hel0:∀ w,YB W w->(loadVar 9 ⟨eb,eo+i*1+0,none⟩).run YP w= .ok (.string (mkS l[i])) w:=λw hw=>hel w hw _ 0 _ Kr
  generalize l[i]=s at hel0 hgo hsm
  have hW:∀ w,YB W w->YC 170 #[.string (mkS s)] w (YR (.bool (wdL s)) w):=λw hb=>jN s w (ht s hsm)
  refine zI 14 [] hA l.length cap i 1 hj (zH 15 [] 9 eb (eo+i*1+0) (.string (mkS s)) (λw hO=>hel0 w hO.below) (z8 (v:= .bool (wdL s)) [] (λw hO=>hW w hO.below) (zP 16 (wdL s) (λh=> ?_) (λh=> ?_))))
  ·exact x_i 11 [] ((i+1:Nat):Int) (nx (i+1) (l.length-(i+1)) [] Om ⟨⟨hj,hgo h⟩,rfl⟩ Kr Kr)
  ·refine z7 [] Z5 λw hO=>⟨?_,hO.below⟩
   unfold dB
   rw [show l.all wdL=false from by rw [List.all_eq_false];exact ⟨s,hsm,by simp [h]⟩];rfl
 have hall:=xF (p:=λs:YL=>wdL s=true) (show l.length<=i by omega) hno
 have hal:l.all wdL=true:=List.all_eq_true.2 hall
 have hR:∀ w,YB W w->YC 203 #[.slice A l.length cap] w (YR (.bool (qX l)) w):=λw hb=>r1Rising_any A cap l w (hv.on hb hb.size) Om
 refine zB 20 [] ((l.length:Int)<=6) (λh20=> ?_) (λh20=> ?_)
 rotate_left
 ·exact z7 [] Z5 λw hO=>⟨by unfold dB;rw [hal,decide_eq_false (show ¬ l.length<=6 by omega)];rfl,hO.below⟩
 have h6:decide (l.length<=6)=true:=decide_eq_true Om
 refine z8 (v:= .bool (qX l)) [] (λw hO=>hR w hO.below) (zP 23 (qX l) (λh=> ?_) (λh=> ?_))
 rotate_left
 ·exact z7 [] Z5 λw hO=>⟨by unfold dB;rw [hal,h6,h];rfl,hO.below⟩
 cases al with
 |true=>exact z7 [] (.bool true) λw hO=>⟨by unfold dB;rw [hal,h6,h];rfl,hO.below⟩
 |false=>
  refine zB 30 [] ((l.length:Int)=0) (λh30=> ?_) (λh30=> ?_)
  ·exact z7 [] Z4 λw hO=>⟨by unfold dB;rw [hal,h6,h,decide_eq_true (List.eq_nil_of_length_eq_zero Om)];rfl,hO.below⟩
  ·exact z7 [] Z5 λw hO=>⟨by unfold dB;rw [hal,h6,h,decide_eq_false (λe=>h30 (by rw [e];rfl))];rfl,hO.below⟩
theorem r12wish_any (r:Rv)(x:Wv)(al:Bool)(W:World)(hv:Reads yY W W.heap.size x.A x.fs)(hn:x.fs.length<=1048576)(ht:x.name.length<=1048576/\GqR x.rng∧∀ s∈x.fs,s.length<=1048576):YC 168 #[rvV r,wvV x,.bool al] W (YR (YI (gX r.name x.wt al)) W):=by
 have h1:∀ w,YB W w->YC 76 #[.string (mkS x.name)] w (YR (.bool (nmL x.name)) w):=λw hb=>wY x.name w ht.1
 have h2:∀ w,YB W w->YC 88 #[.string (mkS x.rng)] w (YR (.bool (yG x.rng)) w):=λw hb=>r7Plain_any x.rng w ht.2.1
 have h3:∀ w,YB W w->YC 200 #[.slice x.A x.fs.length x.cap,.bool al] w (YR (.bool (dB x.fs al)) w):=λw hb=>r12feats_any x.A x.cap x.fs al w (hv.on hb hb.size) hn ht.2.2
 have hE:gX r.name x.wt al=if nmL x.name=false then 4 else if x.name=r.name then 8 else if yG x.rng=false then 6 else if dB x.fs al=false then 11 else 0:=rfl
 refine zD Tryz.func168 (yK [] λb3=>yK [] λb4=>z8 (v:= .bool (nmL x.name)) [0] (λw hO=>h1 w hO.below) (zP 10 (nmL x.name) (λe1=> ?_) (λe1=> ?_)))
 rotate_left
 ·exact z7 [] (YI 4) λw hO=>⟨by rw [hE,if_pos e1],hO.below⟩
 refine x4 17 [0,1] x.name r.name (λe2=> ?_) (λe2=> ?_)
 ·exact z7 [] (YI 8) λw hO=>⟨by rw [hE,if_neg (by simp [e1]),if_pos e2],hO.below⟩
 refine z8 (v:= .bool (yG x.rng)) [0] (λw hO=>h2 w hO.below) (zP 21 (yG x.rng) (λe3=> ?_) (λe3=> ?_))
 rotate_left
 ·exact z7 [] (YI 6) λw hO=>⟨by rw [hE,if_neg (by simp [e1]),if_neg e2,if_pos e3],hO.below⟩
 refine z8 (v:= .bool (dB x.fs al)) [0] (λw hO=>h3 w hO.below) (zP 27 (dB x.fs al) (λe4=> ?_) (λe4=> ?_))
 ·exact z7 [] (YI 0) λw hO=>⟨by rw [hE,if_neg (by simp [e1]),if_neg e2,if_neg (by simp [e3]),if_neg (by simp [e4])],hO.below⟩
 ·exact z7 [] (YI 11) λw hO=>⟨by rw [hE,if_neg (by simp [e1]),if_neg e2,if_neg (by simp [e3]),if_pos e4],hO.below⟩
theorem r12bar_any (r:Rv)(x:Bv)(W:World)(ht:x.name.length<=1048576/\GqR x.rng/\GqM x.wh):YC 129 #[rvV r,bvV x] W (YR (YI (bD r.name x.bt)) W):=by
 have h1:∀ w,YB W w->YC 76 #[.string (mkS x.name)] w (YR (.bool (nmL x.name)) w):=λw hb=>wY x.name w ht.1
 have h2:∀ w,YB W w->YC 88 #[.string (mkS x.rng)] w (YR (.bool (yG x.rng)) w):=λw hb=>r7Plain_any x.rng w ht.2.1
 have h3:∀ w,YB W w->YC 169 #[.string (mkS x.wh)] w (YR (.bool (x1 x.wh)) w):=λw hb=>r10Plain_any x.wh w ht.2.2
 have hE:bD r.name x.bt=if nmL x.name=false then 4 else if x.name=r.name then 8 else if yG x.rng=false then 6 else if x1 x.wh=false then 7 else 0:=rfl
 refine zD Tryz.func129 (yK [] λb3=>yK [] λb4=>z8 (v:= .bool (nmL x.name)) [0] (λw hO=>h1 w hO.below) (zP 8 (nmL x.name) (λe1=> ?_) (λe1=> ?_)))
 rotate_left
 ·exact z7 [] (YI 4) λw hO=>⟨by rw [hE,if_pos e1],hO.below⟩
 refine x4 15 [0,1] x.name r.name (λe2=> ?_) (λe2=> ?_)
 ·exact z7 [] (YI 8) λw hO=>⟨by rw [hE,if_neg (by simp [e1]),if_pos e2],hO.below⟩
 refine z8 (v:= .bool (yG x.rng)) [0] (λw hO=>h2 w hO.below) (zP 19 (yG x.rng) (λe3=> ?_) (λe3=> ?_))
 rotate_left
 ·exact z7 [] (YI 6) λw hO=>⟨by rw [hE,if_neg (by simp [e1]),if_neg e2,if_pos e3],hO.below⟩
 refine z8 (v:= .bool (x1 x.wh)) [0] (λw hO=>h3 w hO.below) (zP 24 (x1 x.wh) (λe4=> ?_) (λe4=> ?_))
 ·exact z7 [] (YI 0) λw hO=>⟨by rw [hE,if_neg (by simp [e1]),if_neg e2,if_neg (by simp [e3]),if_neg (by simp [e4])],hO.below⟩
 ·exact z7 [] (YI 7) λw hO=>⟨by rw [hE,if_neg (by simp [e1]),if_neg e2,if_neg (by simp [e3]),if_pos e4],hO.below⟩
end
section
set_option linter.unnecessarySimpa false
def SuW (x:Wv):Prop:=x.name.length<=1048576/\GqR x.rng∧∀ s∈x.fs,s.length<=1048576
theorem needE_is (own:YL)(x:Nv):gZ own x.nt=if x.any=[] then 9 else if 3<x.any.length then 3 else if yV (λu:Wv=>gX own u.wt (decide (x.any.length=1))) x.any≠0 then yV (λu:Wv=>gX own u.wt (decide (x.any.length=1))) x.any
 else if x1 x.wh=false then 7 else if x.opt≠[]/\wdL x.opt=false then 14 else 0:=by
 unfold gZ
 simp only [Nv.nt,firstE_map,List.length_map,List.map_eq_nil_iff]
 rfl
theorem r12need_any (r:Rv)(x:Nv)(W:World)(hv:Reads wvC W W.heap.size x.A x.any)(hf:∀ u∈x.any,Reads yY W W.heap.size u.A u.fs)(hn:x.any.length<=1048576)(hnf:∀ u∈x.any,u.fs.length<=1048576)(hs:GqM x.wh/\x.opt.length<=1048576)(hsu:∀ u∈x.any,SuW u):YC 128 #[rvV r,nvV x] W (YR (YI (gZ r.name x.nt)) W):=by
 have hE:=needE_is r.name x
 refine zD Tryz.func128 (yK [] λb2=>yK [] λb3=>zB 10 [0] ((x.any.length:Int)=0) (λh10=> ?_) (λh10=> ?_))
 ·exact z7 [] (YI 9) λw hO=>⟨by rw [hE,if_pos (List.eq_nil_of_length_eq_zero Om)],hO.below⟩
 have h10':¬ x.any=[]:=λe=>h10 (by rw [e];rfl)
 rw [if_neg h10'] at hE
 refine zB 14 [0] ((x.any.length:Int)>3) (λh14=> ?_) (λh14=> ?_)
 ·exact z7 [] (YI 3) λw hO=>⟨by rw [hE,if_pos Om],hO.below⟩
 rw [if_neg (show ¬ 3<x.any.length by omega)] at hE
 refine zM (α:=Nat) (λi=>[(2,Zp b2 0),(3,Zp b3 0),(5,YI (i:Int))]) (λ_=>[⟨b3, #[.slice x.A x.any.length x.cap,.string (mkS x.wh),.string (mkS x.opt)],75⟩,⟨b2,(rvC r).toArray,29⟩]) (λi m=>(i<=x.any.length∧∀ u∈x.any.take i,gX r.name u.wt (decide (x.any.length=1))=0)/\m=x.any.length-i) 0 x.any.length [] ⟨⟨Nat.zero_le _,λy h=>by simp at h⟩,rfl⟩ ?_
 rintro i mm g kk ⟨⟨hi,hno⟩,hmm⟩ nx hkk
 subst hkk
 refine zB 19 [0] ((i:Int)<(x.any.length:Int)) (λh19=> ?_) (λh19=> ?_)
 ·have hj:i<x.any.length:=by omega
  obtain ⟨eb,eo,hA,hel⟩:=hv.elem wvC_len i hj
  have hgo:=yQ (p:=λu:Wv=>gX r.name u.wt (decide (x.any.length=1))=0) hj hno
  have hat:=pI (f:=λu:Wv=>gX r.name u.wt (decide (x.any.length=1))) hj hno
  have hsm:x.any[i]∈x.any:=List.getElem_mem hj
  have hel0:∀ w,YB W w->(loadVar 134 ⟨eb,eo+i*4+0,none⟩).run YP w= .ok (wvV x.any[i]) w:=λw hw=>hel w hw _ 0 _ Kr
  have hru:=hf _ hsm;have hnu:=hnf _ hsm;have hlu:=hsu _ hsm
  generalize x.any[i]=u at hel0 hgo hat hru hnu hlu
  have hc:∀ w,YB W w->YC 168 #[rvV r,wvV u,.bool (decide ((x.any.length:Int)=1))] w (YR (YI (gX r.name u.wt (decide (x.any.length=1)))) w):=λw hb=>by
   rw [show decide (x.any.length=1)=decide ((x.any.length:Int)=1) from decide_eq_decide.2 Om]
   exact r12wish_any r u _ w (hru.on hb hb.size) hnu hlu
  refine zI 26 [1,0] hA x.any.length x.cap i 4 hj (zH 27 [] 134 eb (eo+i*4+0) (wvV u) (λw hO=>hel0 w hO.below) (z8 (v:=YI (gX r.name u.wt (decide (x.any.length=1)))) [0] (λw hO=>hc w hO.below) (vP 34 [] (gX r.name u.wt (decide (x.any.length=1))=0) (λh=> ?_) (λh=> ?_))))
  ·exact x_i 21 [] ((i+1:Nat):Int) (nx (i+1) (x.any.length-(i+1)) [] Om ⟨⟨hj,hgo h⟩,rfl⟩ Kr Kr)
  ·refine z7 [] (YI (gX r.name u.wt (decide (x.any.length=1)))) λw hO=>⟨?_,hO.below⟩
   rw [hE,hat h,if_pos h]
 have hall:=fM (xF (p:=λu:Wv=>gX r.name u.wt (decide (x.any.length=1))=0) (show x.any.length<=i by omega) hno)
 rw [hall,if_neg (by simp)] at hE
 have h2:∀ w,YB W w->YC 169 #[.string (mkS x.wh)] w (YR (.bool (x1 x.wh)) w):=λw hb=>r10Plain_any x.wh w hs.1
 have h3:∀ w,YB W w->YC 170 #[.string (mkS x.opt)] w (YR (.bool (wdL x.opt)) w):=λw hb=>jN x.opt w hs.2
 refine z8 (v:= .bool (x1 x.wh)) [0] (λw hO=>h2 w hO.below) (zP 38 (x1 x.wh) (λe3=> ?_) (λe3=> ?_))
 rotate_left
 ·exact z7 [] (YI 7) λw hO=>⟨by rw [hE,if_pos e3],hO.below⟩
 rw [if_neg (by simp [e3])] at hE
 refine gA 42 [0] x.opt [] (λe4=> ?_) (λe4=> ?_)
 ·exact z7 [] (YI 0) λw hO=>⟨by rw [hE,if_neg (λh=>h.1 e4)],hO.below⟩
 refine z8 (v:= .bool (wdL x.opt)) [0] (λw hO=>h3 w hO.below) (zP 46 (wdL x.opt) (λe5=> ?_) (λe5=> ?_))
 ·exact z7 [] (YI 0) λw hO=>⟨by rw [hE,if_neg (λh=>by rw [e5] at h;simp at h)],hO.below⟩
 ·exact z7 [] (YI 14) λw hO=>⟨by rw [hE,if_pos ⟨e4,e5⟩],hO.below⟩
theorem optR_is (r:Rv)(s:YL):optR r.rt.needs s=r.needs.any λn=>decide (n.opt=s):=by
 unfold optR;simp only [Rv.rt,List.any_map];rfl
theorem r12option_any (r:Rv)(s:YL)(W:World)(hv:Reads nvC W W.heap.size r.nA r.needs)(hn:r.needs.length<=1048576):YC 173 #[rvV r,.string (mkS s)] W (YR (.bool (optR r.rt.needs s)) W):=by
 rw [optR_is]
 refine zD Tryz.func173 (yK [] λb2=>zM (α:=Nat) (λi=>[(1,.string (mkS s)),(2,Zp b2 0),(5,YI (i:Int))]) (λ_=>[⟨b2,(rvC r).toArray,29⟩]) (λi m=>(i<=r.needs.length∧∀ n∈r.needs.take i,n.opt≠s)/\m=r.needs.length-i) 0 r.needs.length [] ⟨⟨Nat.zero_le _,λy h=>by simp at h⟩,rfl⟩ ?_)
 rintro i mm g kk ⟨⟨hi,hno⟩,hmm⟩ nx hkk
 subst hkk
 refine zB 10 [0] ((i:Int)<(r.needs.length:Int)) (λh10=> ?_) (λh10=> ?_)
 rotate_left
 ·refine z7 [] Z5 λw hO=>⟨?_,hO.below⟩
  have hall:=xF (p:=λn:Nv=>n.opt≠s) (show r.needs.length<=i by omega) hno
  rw [show (r.needs.any λn=>decide (n.opt=s))=false from by rw [List.any_eq_false];exact λn h=>by simpa using hall n h]
 have hj:i<r.needs.length:=by omega
 obtain ⟨eb,eo,hA,hel⟩:=hv.elem wC i hj
 have hgo:=yQ (p:=λn:Nv=>n.opt≠s) hj hno
 have hsm:r.needs[i]∈r.needs:=List.getElem_mem hj
 have hel0:∀ w,YB W w->(loadVar 9 ⟨eb,eo+i*3+2,none⟩).run YP w= .ok (.string (mkS r.needs[i].opt)) w:=λw hw=>hel w hw _ 2 _ Kr
 generalize r.needs[i]=n at hel0 hgo hsm
 refine zI 16 [0] hA r.needs.length r.nc i 3 hj (zH 18 [] 9 eb (eo+i*3+2) (.string (mkS n.opt)) (λw hO=>hel0 w hO.below) (x4 20 [] n.opt s (λh=> ?_) (λh=> ?_)))
 ·refine z7 [] Z4 λw hO=>⟨?_,hO.below⟩
  rw [show (r.needs.any λn=>decide (n.opt=s))=true from List.any_eq_true.2 ⟨n,hsm,decide_eq_true h⟩]
 ·exact x_i 12 [] ((i+1:Nat):Int) (nx (i+1) (r.needs.length-(i+1)) [] Om ⟨⟨hj,hgo h⟩,rfl⟩ Kr Kr)
theorem pulR_is (r:Rv)(s:YL):pulR r.rt.needs s=r.needs.any λn=>pulN s n.nt:=by
 unfold pulR;simp only [Rv.rt,List.any_map];rfl
theorem pulN_one (s:YL)(n:Nv)(h0:0<n.any.length)(h1:n.any.length=1):pulN s n.nt=decide (n.any[0].name=s):=by
 obtain ⟨A,cap,any,wh,opt⟩:=n
 match any,h0,h1 with
 | [u],_,_=>rfl
theorem r12pulled_any (r:Rv)(s:YL)(W:World)(hv:Reads nvC W W.heap.size r.nA r.needs)(hf:∀ n∈r.needs,Reads wvC W W.heap.size n.A n.any)(hn:r.needs.length<=1048576):YC 174 #[rvV r,.string (mkS s)] W (YR (.bool (pulR r.rt.needs s)) W):=by
 rw [pulR_is]
 refine zD Tryz.func174 (yK [] λb2=>zM (α:=Nat) (λi=>[(1,.string (mkS s)),(2,Zp b2 0),(5,YI (i:Int))]) (λ_=>[⟨b2,(rvC r).toArray,29⟩]) (λi m=>(i<=r.needs.length∧∀ n∈r.needs.take i,pulN s n.nt=false)/\m=r.needs.length-i) 0 r.needs.length [] ⟨⟨Nat.zero_le _,λy h=>by simp at h⟩,rfl⟩ ?_)
 rintro i mm g kk ⟨⟨hi,hno⟩,hmm⟩ nx hkk
 subst hkk
 refine zB 10 [0] ((i:Int)<(r.needs.length:Int)) (λh10=> ?_) (λh10=> ?_)
 rotate_left
 ·refine z7 [] Z5 λw hO=>⟨?_,hO.below⟩
  have hall:=xF (p:=λn:Nv=>pulN s n.nt=false) (show r.needs.length<=i by omega) hno
  rw [show (r.needs.any λn=>pulN s n.nt)=false from by rw [List.any_eq_false];exact λn h=>by simpa using hall n h]
 have hj:i<r.needs.length:=by omega
 obtain ⟨eb,eo,hA,hel⟩:=hv.elem wC i hj
 have hgo:=yQ (p:=λn:Nv=>pulN s n.nt=false) hj hno
 have hsm:r.needs[i]∈r.needs:=List.getElem_mem hj
 have hel0:∀ w,YB W w->(loadVar 73 ⟨eb,eo+i*3+0,none⟩).run YP w= .ok (.slice r.needs[i].A r.needs[i].any.length r.needs[i].cap) w:=λw hw=>hel w hw _ 0 _ Kr
 have hra:=hf _ hsm
 generalize r.needs[i]=n at hel0 hgo hsm hra
 refine zI 16 [0] hA r.needs.length r.nc i 3 hj (zH 18 [] 73 eb (eo+i*3+0) (.slice n.A n.any.length n.cap) (λw hO=>hel0 w hO.below) (zB 20 [] ((n.any.length:Int)=1) (λh20=> ?_) (λh20=> ?_)))
 rotate_left
 ·have hp0:pulN s n.nt=false:=by
   unfold pulN Nv.nt
   match hm:n.any with
   | []=>rfl
   | [_]=>rw [hm] at h20;simp at h20
   |_::_::_=>rfl
  exact x_i 12 [] ((i+1:Nat):Int) (nx (i+1) (r.needs.length-(i+1)) [] Om ⟨⟨hj,hgo hp0⟩,rfl⟩ Kr Kr)
 have h0:0<n.any.length:=by omega
 obtain ⟨fb,fo,hA2,hel2⟩:=hra.elem wvC_len 0 h0
 have hpu:=pulN_one s n h0 Om
 have l0:∀ w,YB W w->(loadVar 9 ⟨fb,fo+0*4+0,none⟩).run YP w= .ok (.string (mkS n.any[0].name)) w:=λw hw=>hel2 w hw _ 0 _ Kr
 generalize n.any[0]=u at hpu l0
 refine zI 25 [0] hA r.needs.length r.nc i 3 hj (zH 27 [] 73 eb (eo+i*3+0) (.slice n.A n.any.length n.cap) (λw hO=>hel0 w hO.below) (zI 28 [] hA2 n.any.length n.cap 0 4 h0 (zH 30 [] 9 fb (fo+0*4+0) (.string (mkS u.name)) (λw hO=>l0 w hO.below) (x4 32 [] u.name s (λh=> ?_) (λh=> ?_)))))
 ·refine z7 [] Z4 λw hO=>⟨?_,hO.below⟩
  rw [show (r.needs.any λn=>pulN s n.nt)=true from List.any_eq_true.2 ⟨n,hsm,by rw [hpu];exact decide_eq_true h⟩]
 ·exact x_i 12 [] ((i+1:Nat):Int) (nx (i+1) (r.needs.length-(i+1)) [] Om ⟨⟨hj,hgo (by rw [hpu];exact decide_eq_false h)⟩,rfl⟩ Kr Kr)
theorem r12items_any (r:Rv)(A:Option Addr)(cap:Nat)(l:List YL)(W:World)(hr:RcIn W W.heap.size r)(hv:Reads yY W W.heap.size A l)(hn:l.length<=1048576)(ht:∀ s∈l,s.length<=1048576):YC 131 #[rvV r,.slice A l.length cap] W (YR (YI (yV (xY r.rt.needs) l)) W):=by
 refine zD Tryz.func131 (yK [] λb2=>zM (α:=Nat) (λi=>[(1,.slice A l.length cap),(2,Zp b2 0),(5,YI (i:Int))]) (λ_=>[⟨b2,(rvC r).toArray,29⟩]) (λi m=>(i<=l.length∧∀ s∈l.take i,xY r.rt.needs s=0)/\m=l.length-i) 0 l.length [] ⟨⟨Nat.zero_le _,λy h=>by simp at h⟩,rfl⟩ ?_)
 rintro i mm g kk ⟨⟨hi,hno⟩,hmm⟩ nx hkk
 subst hkk
 refine zB 12 [] ((i:Int)<(l.length:Int)) (λh12=> ?_) (λh12=> ?_)
 rotate_left
 ·refine z7 [] (YI 0) λw hO=>⟨?_,hO.below⟩
  rw [fM (xF (p:=λs=>xY r.rt.needs s=0) (show l.length<=i by omega) hno)]
 have hj:i<l.length:=by omega
 obtain ⟨eb,eo,hA,hel⟩:=hv.elem zX i hj
 have hgo:=yQ (p:=λs=>xY r.rt.needs s=0) hj hno
 have hat:=pI (f:=xY r.rt.needs) hj hno
 have hsm:l[i]∈l:=List.getElem_mem hj
 have hel0:∀ w,YB W w->(loadVar 9 ⟨eb,eo+i*1+0,none⟩).run YP w= .ok (.string (mkS l[i])) w:=λw hw=>hel w hw _ 0 _ Kr
 have hls:=ht _ hsm
 generalize l[i]=s at hel0 hgo hat hls
 have hE:xY r.rt.needs s=if (zO s).1=2/\optR r.rt.needs (zO s).2.1=false then 14 else if (zO s).1=3/\pulR r.rt.needs (zO s).2.1=false then 16 else 0:=rfl
 have hI:∀ w,YB W w->YC 172 #[.string (mkS s)] w (YR (.tuple #[YI (zO s).1,.string (mkS (zO s).2.1),.string (mkS (zO s).2.2)]) w):=λw hb=>r11Item_any s w hls
 generalize zO s=q at hE hI
 obtain ⟨kd,nm,sf⟩:=q
 have hO1:∀ w,YB W w->YC 173 #[rvV r,.string (mkS nm)] w (YR (.bool (optR r.rt.needs nm)) w):=λw hb=>r12option_any r nm w (hr.needs.on hb hb.size) hr.nn
 have hP1:∀ w,YB W w->YC 174 #[rvV r,.string (mkS nm)] w (YR (.bool (pulR r.rt.needs nm)) w):=λw hb=>r12pulled_any r nm w (hr.needs.on hb hb.size) (λn h=>(hr.any n h).on hb hb.size) hr.nn
 refine zI 18 [] hA l.length cap i 1 hj (zH 19 [] 9 eb (eo+i*1+0) (.string (mkS s)) (λw hO=>hel0 w hO.below) (z8 (v:= .tuple #[YI kd,.string (mkS nm),.string (mkS sf)]) [] (λw hO=>hI w hO.below) (zB 25 [] (kd=2) (λh25=> ?_) (λh25=> ?_))))
 ·subst h25
  refine z8 (v:= .bool (optR r.rt.needs nm)) [0] (λw hO=>hO1 w hO.below) (zP 29 (optR r.rt.needs nm) (λe1=> ?_) (λe1=> ?_))
  ·exact x_i 14 [] ((i+1:Nat):Int) (nx (i+1) (l.length-(i+1)) [] Om ⟨⟨hj,hgo (by rw [hE,if_neg (λh=>by have:=h.2;rw [e1] at this;simp at this),if_neg (λh=>by simp at h)])⟩,rfl⟩ Kr Kr)
  ·have h14:xY r.rt.needs s=14:=by rw [hE,if_pos ⟨rfl,e1⟩]
   exact z7 [] (YI 14) λw hO=>⟨by rw [hat (by rw [h14];decide),h14],hO.below⟩
 refine zB 33 [] (kd=3) (λh33=> ?_) (λh33=> ?_)
 ·subst h33
  refine z8 (v:= .bool (pulR r.rt.needs nm)) [0] (λw hO=>hP1 w hO.below) (zP 37 (pulR r.rt.needs nm) (λe1=> ?_) (λe1=> ?_))
  ·exact x_i 14 [] ((i+1:Nat):Int) (nx (i+1) (l.length-(i+1)) [] Om ⟨⟨hj,hgo (by rw [hE,if_neg (λh=>by simp at h),if_neg (λh=>by have:=h.2;rw [e1] at this;simp at this)])⟩,rfl⟩ Kr Kr)
  ·have h16:xY r.rt.needs s=16:=by rw [hE,if_neg (λh=>by simp at h),if_pos ⟨rfl,e1⟩]
   exact z7 [] (YI 16) λw hO=>⟨by rw [hat (by rw [h16];decide),h16],hO.below⟩
 ·exact x_i 14 [] ((i+1:Nat):Int) (nx (i+1) (l.length-(i+1)) [] Om ⟨⟨hj,hgo (by rw [hE,if_neg (λh=>h25 h.1),if_neg (λh=>h33 h.1)])⟩,rfl⟩ Kr Kr)
end
section
set_option linter.unnecessarySimpa false
theorem wishE_targ (own:YL)(u:Wt)(al:Bool):gX own u al=if jK own u.name u.rng≠0 then jK own u.name u.rng else if dB u.fs al=false then 11 else 0:=by
 unfold gX jK
 split
 ·simp
 ·split
  ·simp
  ·split<;>simp
def needC (n:Nv)(b:Nat):Blk:=⟨b, #[.slice n.A n.any.length n.cap,.string (mkS n.wh),.string (mkS n.opt)],75⟩
theorem qNeed_any (own:YL)(n:Nv)(W:World)(hv:Reads wvC W W.heap.size n.A n.any)(hf:∀ u∈n.any,Reads yY W W.heap.size u.A u.fs)(hn:n.any.length<=1048576)(hnf:∀ u∈n.any,u.fs.length<=1048576)(hs:GqM n.wh/\n.opt.length<=1048576)(hsu:∀ u∈n.any,SuW u)(hK:RecLib W):YC 65 #[nvV n,.string (mkS own)] W (YR (YI (gZ own n.nt)) W):=by
 have hE:=needE_is own n
 refine zD Tryz.func65 (yK [] λb2=>zB 11 [0] ((n.any.length:Int)=0) (λh11=> ?_) (λh11=> ?_))
 ·exact z7 [] (YI 9) λw hO=>⟨by rw [hE,if_pos (List.eq_nil_of_length_eq_zero Om)],hO.below⟩
 have h11':¬ n.any=[]:=λe=>h11 (by rw [e];rfl)
 rw [if_neg h11'] at hE
 refine zB 15 [0] ((n.any.length:Int)>3) (λh15=> ?_) (λh15=> ?_)
 ·exact z7 [] (YI 3) λw hO=>⟨by rw [hE,if_pos Om],hO.below⟩
 rw [if_neg (show ¬ 3<n.any.length by omega)] at hE
 refine zM (α:=Nat) (λi=>[(1,.string (mkS own)),(2,Zp b2 0),(17,.slice n.A n.any.length n.cap),(18,YI (n.any.length:Int)),(19,YI (i:Int))]) (λ_=>[needC n b2]) (λi m=>(i<=n.any.length∧∀ u∈n.any.take i,gX own u.wt (decide (n.any.length=1))=0)/\m=n.any.length-i) 0 n.any.length [0] ⟨⟨Nat.zero_le _,λy h=>by simp at h⟩,rfl⟩ ?_
 rintro i mm g kk ⟨⟨hi,hno⟩,hmm⟩ nx hkk
 subst hkk
 refine zB 20 [] ((i:Int)<(n.any.length:Int)) (λh20=> ?_) (λh20=> ?_)
 ·have hj:i<n.any.length:=by omega
  obtain ⟨eb,eo,hA,hel⟩:=hv.elem wvC_len i hj
  have hgo:=yQ (p:=λu:Wv=>gX own u.wt (decide (n.any.length=1))=0) hj hno
  have hat:=pI (f:=λu:Wv=>gX own u.wt (decide (n.any.length=1))) hj hno
  have hsm:n.any[i]∈n.any:=List.getElem_mem hj
  have hel0:∀ w,YB W w->(loadVar 134 ⟨eb,eo+i*4+0,none⟩).run YP w= .ok (wvV n.any[i]) w:=λw hw=>hel w hw _ 0 _ Kr
  have hru:=hf _ hsm;have hnu:=hnf _ hsm;have hlu:=hsu _ hsm
  generalize n.any[i]=u at hel0 hgo hat hru hnu hlu
  have hW:gX own u.wt (decide (n.any.length=1))=if jK own u.name u.rng≠0 then jK own u.name u.rng else if (askB u.fs && (decide (n.any.length=1)||decide (u.fs=[])))=false then 11 else 0:=wishE_targ own u.wt _
  have c1:∀ w,YB W w->YC 114 #[.string (mkS u.name),.string (mkS u.rng),.string (mkS own)] w (YR (YI (jK own u.name u.rng)) w):=λw h=>qTarget_any u.name u.rng own w hlu.1 hlu.2.1 (hK.on h)
  have c2:∀ w,YB W w->YC 115 #[.slice u.A u.fs.length u.cap] w (YR (.bool (askB u.fs)) w):=λw hb=>qAsk_any u.A u.cap u.fs w (hru.on hb hb.size) hnu hlu.2.2
  refine zI 21 [] hA n.any.length n.cap i 4 hj (zH 22 [] 134 eb (eo+i*4+0) (wvV u) (λw hO=>hel0 w hO.below) (zJ [] λb6=>z8 (v:=YI (jK own u.name u.rng)) [0,0,0] (λw hO=>c1 w hO.below) (vP 30 [] (jK own u.name u.rng=0) (λh1=> ?_) (λh1=> ?_))))
  rotate_left
  ·rw [if_pos h1] at hW
   refine z7 [] (YI (jK own u.name u.rng)) λw hO=>⟨?_,hO.below⟩
   rw [hE,hat (by rw [hW];exact h1),hW,if_pos h1]
  rw [if_neg (λq=>q h1)] at hW
  have fin:askB u.fs=false->gX own u.wt (decide (n.any.length=1))=11:=λh=>by rw [hW,h];rfl
  have out:gX own u.wt (decide (n.any.length=1))=11->gZ own n.nt=11:=λh=>by
   rw [hE,hat (by rw [h];decide),h];rfl
  refine zB 35 [0] ((u.fs.length:Int)>0) (λh35=> ?_) (λh35=> ?_)
  ·refine zB 40 [1] ((n.any.length:Int)>1) (λh40=> ?_) (λh40=> ?_)
   ·refine z7 [] (YI 11) λw hO=>⟨?_,hO.below⟩
    rw [out (by rw [hW,decide_eq_false (show ¬ n.any.length=1 by omega),decide_eq_false (λe=>by rw [e] at h35;simp at h35)];simp)]
   ·refine z8 (v:= .bool (askB u.fs)) [0] (λw hO=>c2 w hO.below) (zP 45 (askB u.fs) (λh45=> ?_) (λh45=> ?_))
    ·have hz:gX own u.wt (decide (n.any.length=1))=0:=by rw [hW,h45,decide_eq_true (show n.any.length=1 by omega)];rfl
     exact x_i 19 [] ((i+1:Nat):Int) (y8 [] [needC n b2] (λw hO=>hO.past 1 _) (nx (i+1) (n.any.length-(i+1)) [] Om ⟨⟨hj,hgo hz⟩,rfl⟩ Kr Kr))
    ·exact z7 [] (YI 11) λw hO=>⟨by rw [out (fin h45)],hO.below⟩
  ·refine z8 (v:= .bool (askB u.fs)) [0] (λw hO=>c2 w hO.below) (zP 45 (askB u.fs) (λh45=> ?_) (λh45=> ?_))
   ·have hz:gX own u.wt (decide (n.any.length=1))=0:=by
     rw [hW,h45,decide_eq_true (show u.fs=[] from List.eq_nil_of_length_eq_zero Om)];simp
    exact x_i 19 [] ((i+1:Nat):Int) (y8 [] [needC n b2] (λw hO=>hO.past 1 _) (nx (i+1) (n.any.length-(i+1)) [] Om ⟨⟨hj,hgo hz⟩,rfl⟩ Kr Kr))
   ·exact z7 [] (YI 11) λw hO=>⟨by rw [out (fin h45)],hO.below⟩
 have hall:=fM (xF (p:=λu:Wv=>gX own u.wt (decide (n.any.length=1))=0) (show n.any.length<=i by omega) hno)
 rw [hall,if_neg (by simp)] at hE
 have h2:∀ w,YB W w->YC 116 #[.string (mkS n.wh)] w (YR (.bool (x1 n.wh)) w):=λw hb=>qMark_any n.wh w hs.1 (hK.on hb)
 have h3:∀ w,YB W w->YC 117 #[.string (mkS n.opt)] w (YR (.bool (wdL n.opt)) w):=λw hb=>dS n.opt w hs.2
 refine z8 (v:= .bool (x1 n.wh)) [0] (λw hO=>h2 w hO.below) (zP 51 (x1 n.wh) (λe3=> ?_) (λe3=> ?_))
 rotate_left
 ·exact z7 [] (YI 7) λw hO=>⟨by rw [hE,if_pos e3],hO.below⟩
 rw [if_neg (by simp [e3])] at hE
 refine gA 55 [0] n.opt [] (λe4=> ?_) (λe4=> ?_)
 ·exact z7 [] (YI 0) λw hO=>⟨by rw [hE,if_neg (λh=>h.1 e4)],hO.below⟩
 refine z8 (v:= .bool (wdL n.opt)) [0] (λw hO=>h3 w hO.below) (zP 59 (wdL n.opt) (λe5=> ?_) (λe5=> ?_))
 ·exact z7 [] (YI 0) λw hO=>⟨by rw [hE,if_neg (λh=>by rw [e5] at h;simp at h)],hO.below⟩
 ·exact z7 [] (YI 14) λw hO=>⟨by rw [hE,if_pos ⟨e4,e5⟩],hO.below⟩
def pulB (s:YL)(n:Nv):Bool:=pulN s n.nt
theorem qOpt_any (n:Nv)(s:YL)(b:Nat)(W:World)(hc:W.heap[b]?=some (.cells #[.string (mkS s)] 9)):YC 120 #[nvV n,.pointer (some ⟨b,0,none⟩)] W (YR (.bool (decide (n.opt=s))) W):=by
 have hb:b<W.heap.size:=(Array.getElem?_eq_some_iff.1 hc).1
 refine zD Tryz.func120 (yK [] λb2=>zH 6 [0] 9 b 0 (.string (mkS s)) (λw hO=>yU Kr ((hO.below.block b hb).trans hc)) (x4 7 [] n.opt s (λh=> ?_) (λh=> ?_)))
 ·exact z7 [] Z4 λw hO=>⟨by rw [decide_eq_true h],hO.below⟩
 ·exact z7 [] Z5 λw hO=>⟨by rw [decide_eq_false h],hO.below⟩
theorem qPul_any (n:Nv)(s:YL)(b:Nat)(W:World)(hv:Reads wvC W W.heap.size n.A n.any)(hc:W.heap[b]?=some (.cells #[.string (mkS s)] 9)):YC 122 #[nvV n,.pointer (some ⟨b,0,none⟩)] W (YR (.bool (pulB s n)) W):=by
 have hb:b<W.heap.size:=(Array.getElem?_eq_some_iff.1 hc).1
 refine zD Tryz.func122 (yK [] λb2=>zB 7 [0] ((n.any.length:Int)=1) (λh7=> ?_) (λh7=> ?_))
 rotate_left
 ·refine z7 [] Z5 λw hO=>⟨?_,hO.below⟩
  have:pulB s n=false:=by
   unfold pulB pulN
   split
   ·rename_i x h
    have:=congrArg List.length h
    simp only [Nv.nt,List.length_map,List.length_cons,List.length_nil] at this
    omega
   ·rfl
  rw [this]
 have h1:n.any.length=1:=by omega
 obtain ⟨eb,eo,hA,hel⟩:=hv.elem wvC_len 0 Om
 have hel0:∀ w,YB W w->(loadVar 9 ⟨eb,eo+0*4+0,none⟩).run YP w= .ok (.string (mkS (n.any[0]'Om).name)) w:=λw hw=>hel w hw _ 0 _ Kr
 have hp:pulB s n=decide ((n.any[0]'Om).name=s):=by
  obtain ⟨x,hx⟩:=List.length_eq_one_iff.1 h1
  have e:n.any[0]'Om=x:=by simp only [hx,List.getElem_cons_zero]
  rw [e]
  unfold pulB pulN
  rw [show n.nt.any=[x.wt] from by show n.any.map Wv.wt=_;rw [hx];rfl];rfl
 generalize n.any[0]=u at hel0 hp
 refine zI 11 [0] hA n.any.length n.cap 0 4 (by omega) (zH 13 [] 9 eb (eo+0*4+0) (.string (mkS u.name)) (λw hO=>hel0 w hO.below) (zH 14 [] 9 b 0 (.string (mkS s)) (λw hO=>yU Kr ((hO.below.block b hb).trans hc)) (x4 15 [] u.name s (λh=> ?_) (λh=> ?_))))
 ·exact z7 [] Z4 λw hO=>⟨by rw [hp,decide_eq_true h],hO.below⟩
 ·exact z7 [] Z5 λw hO=>⟨by rw [hp,decide_eq_false h],hO.below⟩
theorem qHas1_any (p:Nv->Bool)(A:Option Addr)(cap:Nat)(l:List Nv)(b:Nat)(W:World)(hv:Reads nvC W W.heap.size A l)(hn:l.length<=1048576)(hp:∀ n∈l,∀ w,YB W w->YC 120 #[nvV n,.pointer (some ⟨b,0,none⟩)] w (YR (.bool (p n)) w)):YC 121 #[.slice A l.length cap,.func (.func 120) #[] #[.pointer (some ⟨b,0,none⟩)]] W (YR (.bool (l.any p)) W):=by
 have key:∀ w,YB W w->YC 162 #[.slice A l.length cap,.func (.func 120) #[] #[.pointer (some ⟨b,0,none⟩)]] w λe w'=>∃ v,e= .returned v/\(∃ z:Int,v=YI z/\decide (0<=z)=l.any p)/\YB w w':=λw0 hb0=>by
  have hv0:=hv.on hb0 hb0.size
  have hp0:∀ n∈l,∀ w,YB w0 w->YC 120 #[nvV n,.pointer (some ⟨b,0,none⟩)] w (YR (.bool (p n)) w):=λn hn w hb=>hp n hn w (hb0.trans (hb.mono hb0.size))
  clear hp hv hb0
  refine zD Tryz.func162 (zM (α:=Nat) (λi=>[(0,.slice A l.length cap),(1,.func (.func 120) #[] #[Zp b 0]),(7,YI (l.length:Int)),(8,YI (i:Int))]) (λ_=>[]) (λi m=>(i<=l.length∧∀ y∈l.take i,p y=false)/\m=l.length-i) 0 l.length [] ⟨⟨Nat.zero_le _,λy h=>by simp at h⟩,rfl⟩ ?_)
  rintro i mm g kk ⟨⟨hi,hno⟩,hmm⟩ nx hkk
  subst hkk
  refine zB 9 [] ((i:Int)<(l.length:Int)) (λh9=> ?_) (λh9=> ?_)
  rotate_left
  ·refine z7 [] (YI (-1)) λw hO=>⟨_,rfl,⟨-1,rfl, ?_⟩,hO.below⟩
   have hall:=xF (p:=λy:Nv=>p y=false) (show l.length<=i by omega) hno
   rw [show l.any p=false from List.any_eq_false.2 λy hy=>by rw [hall y hy];decide];rfl
  have hj:i<l.length:=by omega
  obtain ⟨eb,eo,hA,hel⟩:=hv0.elem wC i hj
  have hgo:=yQ (p:=λy:Nv=>p y=false) hj hno
  have hsm:l[i]∈l:=List.getElem_mem hj
  have hel0:∀ w,YB w0 w->(loadVar 75 ⟨eb,eo+i*3+0,none⟩).run YP w= .ok (nvV l[i]) w:=λw hw=>hel w hw _ 0 _ Kr
  have hcf:=hp0 _ hsm
  generalize l[i]=n at hel0 hgo hcf hsm
  refine zI 14 [] hA l.length cap i 3 hj (zH 15 [] 75 eb (eo+i*3+0) (nvV n) (λw hO=>hel0 w hO.below) (z8 (v:= .bool (p n)) [] (λw hO=>hcf w hO.below) (zP 16 (p n) (λh16=> ?_) (λh16=> ?_))))
  ·refine z7 [] (YI (i:Int)) λw hO=>⟨_,rfl,⟨(i:Int),rfl, ?_⟩,hO.below⟩
   rw [show l.any p=true from List.any_eq_true.2 ⟨n,hsm,h16⟩,decide_eq_true Om]
  ·exact x_i 18 [] ((i+1:Nat):Int) (nx (i+1) (l.length-(i+1)) [] Om ⟨⟨hj,hgo h16⟩,rfl⟩ Kr Kr)
 refine zD Tryz.func121 (x_callE (R:=λv=>∃ z:Int,v=YI z/\decide (0<=z)=l.any p) [] (λw hO=>key w hO.below) ?_)
 rintro v ⟨z,rfl,hz⟩
 exact z7 [] (.bool (decide (0<=z))) λw hO=>⟨by rw [hz],hO.below⟩
theorem qHas2_any (p:Nv->Bool)(A:Option Addr)(cap:Nat)(l:List Nv)(b:Nat)(W:World)(hv:Reads nvC W W.heap.size A l)(hn:l.length<=1048576)(hp:∀ n∈l,∀ w,YB W w->YC 122 #[nvV n,.pointer (some ⟨b,0,none⟩)] w (YR (.bool (p n)) w)):YC 121 #[.slice A l.length cap,.func (.func 122) #[] #[.pointer (some ⟨b,0,none⟩)]] W (YR (.bool (l.any p)) W):=by
 have key:∀ w,YB W w->YC 162 #[.slice A l.length cap,.func (.func 122) #[] #[.pointer (some ⟨b,0,none⟩)]] w λe w'=>∃ v,e= .returned v/\(∃ z:Int,v=YI z/\decide (0<=z)=l.any p)/\YB w w':=λw0 hb0=>by
  have hv0:=hv.on hb0 hb0.size
  have hp0:∀ n∈l,∀ w,YB w0 w->YC 122 #[nvV n,.pointer (some ⟨b,0,none⟩)] w (YR (.bool (p n)) w):=λn hn w hb=>hp n hn w (hb0.trans (hb.mono hb0.size))
  clear hp hv hb0
  refine zD Tryz.func162 (zM (α:=Nat) (λi=>[(0,.slice A l.length cap),(1,.func (.func 122) #[] #[Zp b 0]),(7,YI (l.length:Int)),(8,YI (i:Int))]) (λ_=>[]) (λi m=>(i<=l.length∧∀ y∈l.take i,p y=false)/\m=l.length-i) 0 l.length [] ⟨⟨Nat.zero_le _,λy h=>by simp at h⟩,rfl⟩ ?_)
  rintro i mm g kk ⟨⟨hi,hno⟩,hmm⟩ nx hkk
  subst hkk
  refine zB 9 [] ((i:Int)<(l.length:Int)) (λh9=> ?_) (λh9=> ?_)
  rotate_left
  ·refine z7 [] (YI (-1)) λw hO=>⟨_,rfl,⟨-1,rfl, ?_⟩,hO.below⟩
   have hall:=xF (p:=λy:Nv=>p y=false) (show l.length<=i by omega) hno
   rw [show l.any p=false from List.any_eq_false.2 λy hy=>by rw [hall y hy];decide];rfl
  have hj:i<l.length:=by omega
  obtain ⟨eb,eo,hA,hel⟩:=hv0.elem wC i hj
  have hgo:=yQ (p:=λy:Nv=>p y=false) hj hno
  have hsm:l[i]∈l:=List.getElem_mem hj
  have hel0:∀ w,YB w0 w->(loadVar 75 ⟨eb,eo+i*3+0,none⟩).run YP w= .ok (nvV l[i]) w:=λw hw=>hel w hw _ 0 _ Kr
  have hcf:=hp0 _ hsm
  generalize l[i]=n at hel0 hgo hcf hsm
  refine zI 14 [] hA l.length cap i 3 hj (zH 15 [] 75 eb (eo+i*3+0) (nvV n) (λw hO=>hel0 w hO.below) (z8 (v:= .bool (p n)) [] (λw hO=>hcf w hO.below) (zP 16 (p n) (λh16=> ?_) (λh16=> ?_))))
  ·refine z7 [] (YI (i:Int)) λw hO=>⟨_,rfl,⟨(i:Int),rfl, ?_⟩,hO.below⟩
   rw [show l.any p=true from List.any_eq_true.2 ⟨n,hsm,h16⟩,decide_eq_true Om]
  ·exact x_i 18 [] ((i+1:Nat):Int) (nx (i+1) (l.length-(i+1)) [] Om ⟨⟨hj,hgo h16⟩,rfl⟩ Kr Kr)
 refine zD Tryz.func121 (x_callE (R:=λv=>∃ z:Int,v=YI z/\decide (0<=z)=l.any p) [] (λw hO=>key w hO.below) ?_)
 rintro v ⟨z,rfl,hz⟩
 exact z7 [] (.bool (decide (0<=z))) λw hO=>⟨by rw [hz],hO.below⟩
theorem qItems_any (A:Option Addr)(cap:Nat)(of:List YL)(B:Option Addr)(capb:Nat)(l:List Nv)(W:World)(hu:Reads yY W W.heap.size A of)(ho:of.length<=1048576)(ht:∀ s∈of,s.length<=1048576)(hv:Reads nvC W W.heap.size B l)(hn:l.length<=1048576)(hva:∀ n∈l,Reads wvC W W.heap.size n.A n.any):YC 68 #[.slice A of.length cap,.slice B l.length capb] W (YR (YI (yV (xY (l.map Nv.nt)) of)) W):=by
 refine zD Tryz.func68 (zM (α:=Nat) (λi=>[(1,.slice B l.length capb),(12,.slice A of.length cap),(13,YI (of.length:Int)),(14,YI (i:Int))]) (λ_=>[]) (λi m=>(i<=of.length∧∀ s∈of.take i,xY (l.map Nv.nt) s=0)/\m=of.length-i) 0 of.length [] ⟨⟨Nat.zero_le _,λy h=>by simp at h⟩,rfl⟩ ?_)
 rintro i mm g kk ⟨⟨hi,hno⟩,hmm⟩ nx hkk
 subst hkk
 refine zB 15 [] ((i:Int)<(of.length:Int)) (λh15=> ?_) (λh15=> ?_)
 rotate_left
 ·refine z7 [] (YI 0) λw hO=>⟨?_,hO.below⟩
  rw [fM (xF (p:=λs=>xY (l.map Nv.nt) s=0) (show of.length<=i by omega) hno)]
 have hj:i<of.length:=by omega
 obtain ⟨eb,eo,hA,hel⟩:=hu.elem zX i hj
 have hgo:=yQ (p:=λs=>xY (l.map Nv.nt) s=0) hj hno
 have hat:=pI (f:=xY (l.map Nv.nt)) hj hno
 have hsh:=ht _ (List.getElem_mem hj)
 have hel0:∀ w,YB W w->(loadVar 9 ⟨eb,eo+i*1+0,none⟩).run YP w= .ok (.string (mkS of[i])) w:=λw hw=>hel w hw _ 0 _ Kr
 generalize of[i]=s at hel0 hgo hat hsh
 have hI:xY (l.map Nv.nt) s=if (zO s).1=2/\(l.any λn=>decide (n.opt=(zO s).2.1))=false then 14 else if (zO s).1=3/\l.any (pulB (zO s).2.1)=false then 16 else 0:=by
  unfold xY optR pulR
  simp only [List.any_map];rfl
 refine zI 16 [] hA of.length cap i 1 hj (zH 17 [] 9 eb (eo+i*1+0) (.string (mkS s)) (λw hO=>hel0 w hO.below) (z8 (v:= .tuple #[YI (zO s).1,.string (mkS (zO s).2.1),.string (mkS (zO s).2.2)]) [] (λw hO=>fItem_at s w hsh) (zJ [] λb8=> ?_)))
 have hc1:∀ w,Own [] W w [⟨b8, #[.string (mkS (zO s).2.1)],9⟩]->YC 121 #[.slice B l.length capb,.func (.func 120) #[] #[.pointer (some ⟨b8,0,none⟩)]] w (YR (.bool (l.any λn=>decide (n.opt=(zO s).2.1))) w):=λw hO=>by
  have hg:w.heap[b8]?=some (.cells #[.string (mkS (zO s).2.1)] 9):=hO.get (i:=0) rfl
  exact qHas1_any _ B capb l b8 w (hv.on hO.below hO.size) hn λn hn w2 hb=>qOpt_any n (zO s).2.1 b8 w2 ((hb.block b8 (Array.getElem?_eq_some_iff.1 hg).1).trans hg)
 have hc2:∀ w,Own [] W w [⟨b8, #[.string (mkS (zO s).2.1)],9⟩]->YC 121 #[.slice B l.length capb,.func (.func 122) #[] #[.pointer (some ⟨b8,0,none⟩)]] w (YR (.bool (l.any (pulB (zO s).2.1))) w):=λw hO=>by
  have hg:w.heap[b8]?=some (.cells #[.string (mkS (zO s).2.1)] 9):=hO.get (i:=0) rfl
  exact qHas2_any _ B capb l b8 w (hv.on hO.below hO.size) hn λn hn w2 hb=>qPul_any n (zO s).2.1 b8 w2 (((hva n hn).on hO.below hO.size).on hb hb.size) ((hb.block b8 (Array.getElem?_eq_some_iff.1 hg).1).trans hg)
 have next:xY (l.map Nv.nt) s=0→∀ m',m'=of.length-(i+1)->m'<mm/\(i+1<=of.length∧∀ s∈of.take (i+1),xY (l.map Nv.nt) s=0)/\m'=of.length-(i+1):=λh m' e=>⟨by omega,⟨hj,hgo h⟩,e⟩
 refine m9 24 [0] (.func (.func 120) #[] #[Zp b8 0]) (λw=>Kr) (zB 26 [] ((zO s).1=2) (λh26=> ?_) (λh26=> ?_))
 ·refine z8 (v:= .bool (l.any λn=>decide (n.opt=(zO s).2.1))) [] (λw hO=>hc1 w (hO.past 0 _)) (zP 30 (l.any λn=>decide (n.opt=(zO s).2.1)) (λh30=> ?_) (λh30=> ?_))
  rotate_left
  ·refine z7 [] (YI 14) λw hO=>⟨?_,hO.below⟩
   have:xY (l.map Nv.nt) s=14:=by rw [hI,if_pos ⟨h26,h30⟩]
   rw [hat (by rw [this];decide),this]
  have hz:xY (l.map Nv.nt) s=0:=by rw [hI,if_neg (by rw [h30];simp),if_neg (λq=>by rw [h26] at q;exact absurd q.1 (by decide))]
  obtain ⟨q1,q2,q3⟩:=next hz _ rfl
  exact m9 33 [] (.func (.func 122) #[] #[Zp b8 0]) (λw=>Kr) (zB 35 [] ((zO s).1=3) (λh=>absurd (h26.symm.trans h) (by decide)) (λh=>x_i 14 [] ((i+1:Nat):Int) (y8 [] [] (λw hO=>hO.no) (nx (i+1) _ [] q1 ⟨q2,q3⟩ Kr Kr))))
 ·refine m9 33 [] (.func (.func 122) #[] #[Zp b8 0]) (λw=>Kr) (zB 35 [] ((zO s).1=3) (λh35=> ?_) (λh35=> ?_))
  rotate_left
  ·have hz:xY (l.map Nv.nt) s=0:=by rw [hI,if_neg (λq=>h26 q.1),if_neg (λq=>h35 q.1)]
   obtain ⟨q1,q2,q3⟩:=next hz _ rfl
   exact x_i 14 [] ((i+1:Nat):Int) (y8 [] [] (λw hO=>hO.no) (nx (i+1) _ [] q1 ⟨q2,q3⟩ Kr Kr))
  refine z8 (v:= .bool (l.any (pulB (zO s).2.1))) [] (λw hO=>hc2 w (hO.past 0 _)) (zP 39 (l.any (pulB (zO s).2.1)) (λh39=> ?_) (λh39=> ?_))
  ·have hz:xY (l.map Nv.nt) s=0:=by rw [hI,if_neg (λq=>h26 q.1),if_neg (by rw [h39];simp)]
   obtain ⟨q1,q2,q3⟩:=next hz _ rfl
   exact x_i 14 [] ((i+1:Nat):Int) (y8 [] [] (λw hO=>hO.no) (nx (i+1) _ [] q1 ⟨q2,q3⟩ Kr Kr))
  ·refine z7 [] (YI 16) λw hO=>⟨?_,hO.below⟩
   have:xY (l.map Nv.nt) s=16:=by rw [hI,if_neg (λq=>h26 q.1),if_pos ⟨h35,h39⟩]
   rw [hat (by rw [this];decide),this]
end
section
set_option linter.unnecessarySimpa false
theorem strC_one (s:YL):∀ u∈yY s,u.oneCell'=true:=λu hu=>by rw [List.mem_singleton.1 hu];rfl
theorem r12text_any (r:Rv)(W:World)(hr:RcIn W W.heap.size r)(ht:(kS r.rt).length<=100000000):YC 39 #[rvV r] W (YR (.string (mkS (kS r.rt))) W):=by
 have hT:kS r.rt=jB r.rt++r.needs.flatMap (λn=>kW n.nt)++r.bars.flatMap (λb=>bC b.bt)++r.fts.flatMap (λf=>gK f.ft):=by
  unfold kS;simp only [Rv.rt,yT,List.flatMap_map]
 have hl:=congrArg List.length hT
 simp only [List.length_append] at hl
 have hp8:txPack.length=8:=rfl
 have hn5:txNeed.length=5:=rfl
 have ho7:txOpt.length=7:=rfl
 have hb4:txBar.length=4:=rfl
 have hsn:=hr.sn
 have hnn:=hr.nn;have hnb:=hr.nb;have hfn:=hr.fts.n
 have hH:(jB r.rt).length=8+r.name.length+1+r.ver.print.length+1:=by
  show (txPack++r.name++[32]++r.ver.print++[10]).length=_
  simp only [List.length_append,List.length_cons,List.length_nil,hp8]
 have hP:∀ w,YB W w->YC 80 #[kJ r.ver] w (YR (.string (mkS r.ver.print)) w):=λw hb=>rprint_any r.ver w hsn.2.1 hsn.2.2
 refine zD Tryz.func39 (yK [] λb1=>zR 10 [0] txPack r.name (zR 11 [] (txPack++r.name) [32] (z8 (v:= .string (mkS r.ver.print)) [0] (λw hO=>hP w hO.below) (zR 15 [] (txPack++r.name++[32]) r.ver.print (zR 16 [] (txPack++r.name++[32]++r.ver.print) [10] ?_)))))
 refine zM (α:=Nat×YL) (λx=>[(1,Zp b1 0),(3,.string (mkS x.2)),(4,YI (x.1:Int))]) (λ_=>[⟨b1,(rvC r).toArray,29⟩]) (λx m=>(x.1<=r.needs.length/\x.2=jB r.rt++(r.needs.take x.1).flatMap (λn=>kW n.nt))/\m=r.needs.length-x.1) (0,txPack++r.name++[32]++r.ver.print++[10]) r.needs.length [] ⟨⟨Nat.zero_le _,by show _=jB r.rt++[];rw [List.append_nil];rfl⟩,rfl⟩ ?_
 rintro ⟨i,s⟩ mm g kk ⟨⟨hi,hs⟩,hmm⟩ nx hkk
 subst hkk
 replace hi:i<=r.needs.length:=hi
 replace hs:s=jB r.rt++(r.needs.take i).flatMap (λn=>kW n.nt):=hs
 have hsl:s.length<=100000000:=by
  have:=fZ (λn:Nv=>kW n.nt) (l:=r.needs) i
  rw [hs,List.length_append];omega
 refine zB 21 [0] ((i:Int)<(r.needs.length:Int)) (λh21=> ?_) (λh21=> ?_)
 ·have hj:i<r.needs.length:=by omega
  obtain ⟨eb,eo,hA,hel⟩:=hr.needs.elem wC i hj
  have hst:=v7 (λn:Nv=>kW n.nt) hj
  have hmem:r.needs[i]∈r.needs:=List.getElem_mem hj
  have hone:=fm_one (λn:Nv=>kW n.nt) hmem
  have la:∀ w,YB W w->(loadVar 73 ⟨eb,eo+i*3+0,none⟩).run YP w= .ok (.slice r.needs[i].A r.needs[i].any.length r.needs[i].cap) w:=λw hw=>hel w hw _ 0 _ Kr
  have lw:∀ w,YB W w->(loadVar 9 ⟨eb,eo+i*3+1,none⟩).run YP w= .ok (.string (mkS r.needs[i].wh)) w:=λw hw=>hel w hw _ 1 _ Kr
  have lo:∀ w,YB W w->(loadVar 9 ⟨eb,eo+i*3+2,none⟩).run YP w= .ok (.string (mkS r.needs[i].opt)) w:=λw hw=>hel w hw _ 2 _ Kr
  have hra:=hr.any _ hmem;have hrf:=hr.wfs _ hmem;have hna:=hr.na _ hmem;have hnf:=hr.nf _ hmem;have hsw:=hr.sw _ hmem
  have hs2:s++kW r.needs[i].nt=jB r.rt++(r.needs.take (i+1)).flatMap (λn=>kW n.nt):=by rw [hst,hs,List.append_assoc]
  generalize r.needs[i]=n at la lw lo hone hra hrf hna hnf hsw hs2
  have hnT:kW n.nt=txNeed++n.any.flatMap (λu=>kQ u.wt)++vM n.wh++optnT n.opt:=by
   unfold kW;simp only [Nv.nt,List.flatMap_map]
  have hnl:=congrArg List.length hnT
  simp only [List.length_append] at hnl
  rw [hnT] at hs2
  have hWh:∀ w,YB W w->YC 82 #[.string (mkS n.wh)] w (YR (.string (mkS (vM n.wh))) w):=λw hb=>r12when_any n.wh w (gqM_len hsw.1)
  refine zR 25 [] s txNeed (zM (α:=Nat×YL) (λx=>[(1,Zp b1 0),(3,.string (mkS x.2)),(4,YI (i:Int)),(5,YI (x.1:Int))]) (λ_=>[⟨b1,(rvC r).toArray,29⟩]) (λx m=>(x.1<=n.any.length/\x.2=s++txNeed++(n.any.take x.1).flatMap (λu=>kQ u.wt))/\m=n.any.length-x.1) (0,s++txNeed) n.any.length [] ⟨⟨Nat.zero_le _,by show _=s++txNeed++[];rw [List.append_nil]⟩,rfl⟩ ?_)
  rintro ⟨k,y⟩ mk gk kk ⟨⟨hk,hy⟩,hmk⟩ ny hkk
  subst hkk
  replace hk:k<=n.any.length:=hk
  replace hy:y=s++txNeed++(n.any.take k).flatMap (λu=>kQ u.wt):=hy
  have hyl:y.length<=300000000:=by
   have:=fZ (λu:Wv=>kQ u.wt) (l:=n.any) k
   rw [hy,List.length_append,List.length_append];omega
  refine zI 30 [0] hA r.needs.length r.nc i 3 hj (zH 32 [] 73 eb (eo+i*3+0) (.slice n.A n.any.length n.cap) (λw hO=>la w hO.below) (zB 34 [] ((k:Int)<(n.any.length:Int)) (λh34=> ?_) (λh34=> ?_)))
  ·have hkj:k<n.any.length:=by omega
   obtain ⟨fb,fo,hA2,hel2⟩:=hra.elem wvC_len k hkj
   have hst2:=v7 (λu:Wv=>kQ u.wt) hkj
   have hmem2:n.any[k]∈n.any:=List.getElem_mem hkj
   have hone2:=fm_one (λu:Wv=>kQ u.wt) hmem2
   have lu:∀ w,YB W w->(loadVar 134 ⟨fb,fo+k*4+0,none⟩).run YP w= .ok (wvV n.any[k]) w:=λw hw=>hel2 w hw _ 0 _ Kr
   have hru:=hrf _ hmem2;have hnu:=hnf _ hmem2
   have hy2:y++kQ n.any[k].wt=s++txNeed++(n.any.take (k+1)).flatMap (λu=>kQ u.wt):=by rw [hst2,hy,List.append_assoc]
   generalize n.any[k]=u at lu hone2 hru hnu hy2
   have hc:∀ w,YB W w->YC 81 #[wvV u] w (YR (.string (mkS (kQ u.wt))) w):=λw hb=>r12wished_any u w (hru.on hb hb.size) hnu Om
   refine zI 41 [0] hA r.needs.length r.nc i 3 hj (zH 43 [] 73 eb (eo+i*3+0) (.slice n.A n.any.length n.cap) (λw hO=>la w hO.below) (zI 45 [] hA2 n.any.length n.cap k 4 hkj (zH 46 [] 134 fb (fo+k*4+0) (wvV u) (λw hO=>lu w hO.below) (z8 (v:= .string (mkS (kQ u.wt))) [] (λw hO=>hc w hO.below) (zR 48 [] y (kQ u.wt) (x_i 36 [] ((k+1:Nat):Int) (ny (k+1,y++kQ u.wt) (n.any.length-(k+1)) [] Om ⟨⟨hkj,hy2⟩,rfl⟩ Kr Kr)))))))
  have hy2:y=s++txNeed++n.any.flatMap (λu=>kQ u.wt):=by rw [hy,List.take_of_length_le Om]
  clear ny
  refine zI 53 [0] hA r.needs.length r.nc i 3 hj (zH 55 [] 9 eb (eo+i*3+1) (.string (mkS n.wh)) (λw hO=>lw w hO.below) (z8 (v:= .string (mkS (vM n.wh))) [] (λw hO=>hWh w hO.below) (zR 57 [] y (vM n.wh) (zI 61 [0] hA r.needs.length r.nc i 3 hj (zH 63 [] 9 eb (eo+i*3+2) (.string (mkS n.opt)) (λw hO=>lo w hO.below) (gA 64 [] n.opt [] (λh64=> ?_) (λh64=> ?_)))))))
  ·exact x_i 23 [] ((i+1:Nat):Int) (nx (i+1,y++vM n.wh) (r.needs.length-(i+1)) [] Om ⟨⟨hj,by
    rw [←hs2,show optnT n.opt=[] from if_pos h64,hy2,List.append_nil];simp only [List.append_assoc]⟩,rfl⟩ Kr Kr)
  ·have hol:(optnT n.opt).length=7+n.opt.length+1:=by
    rw [show optnT n.opt=txOpt++n.opt++[10] from if_neg h64];simp only [List.length_append,List.length_cons,List.length_nil,ho7]
   refine zR 66 [] (y++vM n.wh) txOpt (zI 70 [0] hA r.needs.length r.nc i 3 hj (zH 72 [] 9 eb (eo+i*3+2) (.string (mkS n.opt)) (λw hO=>lo w hO.below) (zR 73 [] (y++vM n.wh++txOpt) n.opt (zR 74 [] (y++vM n.wh++txOpt++n.opt) [10] ?_))))
   exact x_i 23 [] ((i+1:Nat):Int) (nx (i+1,y++vM n.wh++txOpt++n.opt++[10]) (r.needs.length-(i+1)) [] Om ⟨⟨hj,by
    rw [←hs2,show optnT n.opt=txOpt++n.opt++[10] from if_neg h64,hy2];simp only [List.append_assoc]⟩,rfl⟩ Kr Kr)
 have hs':s=jB r.rt++r.needs.flatMap (λn=>kW n.nt):=by rw [hs,List.take_of_length_le Om]
 clear nx hs
 refine zM (α:=Nat×YL) (λx=>[(1,Zp b1 0),(3,.string (mkS x.2)),(6,YI (x.1:Int))]) (λ_=>[⟨b1,(rvC r).toArray,29⟩]) (λx m=>(x.1<=r.bars.length/\x.2=s++(r.bars.take x.1).flatMap (λb=>bC b.bt))/\m=r.bars.length-x.1) (0,s) r.bars.length [] ⟨⟨Nat.zero_le _,by show _=s++[];rw [List.append_nil]⟩,rfl⟩ ?_
 rintro ⟨i2,z⟩ m2 g2 kk ⟨⟨hi2,hz⟩,hm2⟩ nx hkk
 subst hkk
 replace hi2:i2<=r.bars.length:=hi2
 replace hz:z=s++(r.bars.take i2).flatMap (λb=>bC b.bt):=hz
 have hzl:z.length<=200000000:=by
  have:=fZ (λb:Bv=>bC b.bt) (l:=r.bars) i2
  rw [hz,List.length_append];omega
 refine zB 79 [0] ((i2:Int)<(r.bars.length:Int)) (λh79=> ?_) (λh79=> ?_)
 ·have hj:i2<r.bars.length:=by omega
  obtain ⟨eb,eo,hA,hel⟩:=hr.bars.elem bvC_len i2 hj
  have hst:=v7 (λb:Bv=>bC b.bt) hj
  have hmem:r.bars[i2]∈r.bars:=List.getElem_mem hj
  have hone:=fm_one (λb:Bv=>bC b.bt) hmem
  have l0:∀ w,YB W w->(loadVar 9 ⟨eb,eo+i2*3+0,none⟩).run YP w= .ok (.string (mkS r.bars[i2].name)) w:=λw hw=>hel w hw _ 0 _ Kr
  have l1:∀ w,YB W w->(loadVar 9 ⟨eb,eo+i2*3+1,none⟩).run YP w= .ok (.string (mkS r.bars[i2].rng)) w:=λw hw=>hel w hw _ 1 _ Kr
  have l2:∀ w,YB W w->(loadVar 9 ⟨eb,eo+i2*3+2,none⟩).run YP w= .ok (.string (mkS r.bars[i2].wh)) w:=λw hw=>hel w hw _ 2 _ Kr
  have hsb:=hr.sb _ hmem
  have hz2:z++bC r.bars[i2].bt=s++(r.bars.take (i2+1)).flatMap (λb=>bC b.bt):=by rw [hst,hz,List.append_assoc]
  generalize r.bars[i2]=b at l0 l1 l2 hone hsb hz2
  have hbT:bC b.bt=txBar++b.name++[32]++b.rng++[10]++vM b.wh:=rfl
  have hbl:=congrArg List.length hbT
  simp only [List.length_append,List.length_cons,List.length_nil] at hbl
  rw [hbT] at hz2
  have hWh:∀ w,YB W w->YC 82 #[.string (mkS b.wh)] w (YR (.string (mkS (vM b.wh))) w):=λw hb=>r12when_any b.wh w (gqM_len hsb.2.2)
  refine zR 83 [] z txBar (zI 87 [0] hA r.bars.length r.bc i2 3 hj (zH 89 [] 9 eb (eo+i2*3+0) (.string (mkS b.name)) (λw hO=>l0 w hO.below) (zR 90 [] (z++txBar) b.name (zR 91 [] (z++txBar++b.name) [32] (zI 95 [0] hA r.bars.length r.bc i2 3 hj (zH 97 [] 9 eb (eo+i2*3+1) (.string (mkS b.rng)) (λw hO=>l1 w hO.below) (zR 98 [] (z++txBar++b.name++[32]) b.rng (zR 99 [] (z++txBar++b.name++[32]++b.rng) [10] (zI 103 [0] hA r.bars.length r.bc i2 3 hj (zH 105 [] 9 eb (eo+i2*3+2) (.string (mkS b.wh)) (λw hO=>l2 w hO.below) (z8 (v:= .string (mkS (vM b.wh))) [] (λw hO=>hWh w hO.below) (zR 107 [] (z++txBar++b.name++[32]++b.rng++[10]) (vM b.wh) ?_))))))))))))
  exact x_i 81 [] ((i2+1:Nat):Int) (nx (i2+1,z++txBar++b.name++[32]++b.rng++[10]++vM b.wh) (r.bars.length-(i2+1)) [] Om ⟨⟨hj,by rw [←hz2];simp only [List.append_assoc]⟩,rfl⟩ Kr Kr)
 have hz':z=s++r.bars.flatMap (λb=>bC b.bt):=by rw [hz,List.take_of_length_le Om]
 clear nx hz
 refine zM (α:=Nat×YL) (λx=>[(1,Zp b1 0),(3,.string (mkS x.2)),(7,YI (x.1:Int))]) (λ_=>[⟨b1,(rvC r).toArray,29⟩]) (λx m=>(x.1<=r.fts.length/\x.2=z++(r.fts.take x.1).flatMap (λf=>gK f.ft))/\m=r.fts.length-x.1) (0,z) r.fts.length [] ⟨⟨Nat.zero_le _,by show _=z++[];rw [List.append_nil]⟩,rfl⟩ ?_
 rintro ⟨i3,q⟩ m3 g3 kk ⟨⟨hi3,hq⟩,hm3⟩ nx hkk
 subst hkk
 replace hi3:i3<=r.fts.length:=hi3
 replace hq:q=z++(r.fts.take i3).flatMap (λf=>gK f.ft):=hq
 have hql:q.length<=300000000:=by
  have:=fZ (λf:Fv=>gK f.ft) (l:=r.fts) i3
  rw [hq,List.length_append];omega
 refine zB 112 [0] ((i3:Int)<(r.fts.length:Int)) (λh112=> ?_) (λh112=> ?_)
 rotate_left
 ·refine z7 [] (.string (mkS q)) λw hO=>⟨?_,hO.below⟩
  rw [hT,hq,List.take_of_length_le Om,hz',hs']
 have hj:i3<r.fts.length:=by omega
 obtain ⟨eb,eo,hA,hel⟩:=hr.fts.top.elem wE i3 hj
 have hst:=v7 (λf:Fv=>gK f.ft) hj
 have hmem:r.fts[i3]∈r.fts:=List.getElem_mem hj
 have hone:=fm_one (λf:Fv=>gK f.ft) hmem
 have l0:∀ w,YB W w->(loadVar 9 ⟨eb,eo+i3*2+0,none⟩).run YP w= .ok (.string (mkS r.fts[i3].name)) w:=λw hw=>hel w hw _ 0 _ Kr
 have l1:∀ w,YB W w->(loadVar 66 ⟨eb,eo+i3*2+1,none⟩).run YP w= .ok (.slice r.fts[i3].A r.fts[i3].of.length r.fts[i3].cap) w:=λw hw=>hel w hw _ 1 _ Kr
 have hru:=hr.fts.each _ hmem;have hmu:=hr.fts.m _ hmem
 have hq2:q++gK r.fts[i3].ft=z++(r.fts.take (i3+1)).flatMap (λf=>gK f.ft):=by rw [hst,hq,List.append_assoc]
 generalize r.fts[i3]=u at l0 l1 hone hru hmu hq2
 have hfT:gK u.ft=zG 32 (x6::u.name::u.of)++[10]:=rfl
 have hfl:=congrArg List.length hfT
 simp only [List.length_append,List.length_cons,List.length_nil] at hfl
 rw [hfT] at hq2
 refine x_draw 18 [] (wU 50119 [0] 4 hA r.fts.length r.fc i3 2 hj (wJ 50121 [] 6 9 eb (eo+i3*2+0) (.string (mkS u.name)) (λw hO=>l0 w hO.below) (wU 50126 [0] 11 hA r.fts.length r.fc i3 2 hj (wJ 50128 [] 13 66 eb (eo+i3*2+1) (.slice u.A u.of.length u.cap) (λw hO=>l1 w hO.below) ?_))))
 refine gD [] 7 (fQ 2 9 #[.string (mkS x6),.string (mkS u.name)] λb3=>gD [] 14 (xh_appR (g:=yY) u.of [] [⟨b3, #[.string (mkS x6),.string (mkS u.name)],9⟩] [⟨b1,(rvC r).toArray,29⟩] [⟨b3, #[.string (mkS x6),.string (mkS u.name)],9⟩,⟨b1,(rvC r).toArray,29⟩] [⟨b1,(rvC r).toArray,29⟩] (cp:=u.cap) (λw hO=>by simpa using hO) (λo w hO=>Own.sub o (by simpa using hO)) zX strC_one (λw hO=>hru.on hO.below hO.below.size) (sl_block (N:=2) rfl (by unfold maxLen;omega)) Om λv' ob' h=> ?_))
 have hS:SlT v' (x6::u.name::u.of) ob':=by
  unfold SlT
  rw [kL,show (x6::u.name::u.of).length=2+u.of.length by simp only [List.length_cons];omega]
  exact h
 have hJ:∀ w,Own [] W w (ob'++[⟨b1,(rvC r).toArray,29⟩])->YC 55 #[v',.int .u8 32] w (YR (.string (mkS (zG 32 (x6::u.name::u.of)))) w):=λw hO=>rjoin_any v' _ 32 w (hS.readsT hO λx hx=>List.mem_append_left _ hx) Om (by simp only [List.length_cons];omega)
 refine gD [] 15 (z8 (v:= .string (mkS (zG 32 (x6::u.name::u.of)))) [] (λw hO=>hJ w (hO.past 0 _)) (xh_cat 50131 [] 16 q (zG 32 (x6::u.name::u.of)) (xh_cat 50132 [] 17 (q++zG 32 (x6::u.name::u.of)) [10] ?_)))
 refine x_i 114 [] ((i3+1:Nat):Int) (y8 [] [⟨b1,(rvC r).toArray,29⟩] (λw hO=>Own.sub ob' (hO.past 0 _)) ?_)
 exact (nx (i3+1,q++zG 32 (x6::u.name::u.of)++[10]) (r.fts.length-(i3+1)) [] Om ⟨⟨hj,by rw [←hq2];simp only [List.append_assoc]⟩,rfl⟩ Kr Kr)
end
section
def BuR (b:Nat)(l:YL)(ob:List Blk):Prop:=
 ∃ p v g,ob=⟨b, #[p,v],156⟩::g/\(p= .pointer none\/p= .pointer (some ⟨b,0,none⟩))/\Sl 5 1 v l.length (Lib.byteCells l) g
theorem BuR.new (b:Nat):BuR b [] [⟨b, #[.pointer none,.slice none 0 0],156⟩]:=⟨_,_,[],rfl,.inl rfl,Sl.nil _ _⟩
theorem sizeWriterR:(Tryz.prog.info? 98).map (·.size)=some 2:=by kernel_rfl
theorem liesWriterR:liesAt YP Tryz.prog.depth 156 (2/Tryz.prog.cellsOf 156) 0 98 1=true:=by kernel_rfl
theorem copyCheck_newR (b:Nat)(w:World)(h0:w.cell? ⟨b,0,none⟩=some (.pointer none))(hsh:w.shape? b=some (156,2))(hfz:w.frozen? ⟨b,0,none⟩=false):
  YC 89 #[.pointer (some ⟨b,0,none⟩)] w λe w'=>e= .returned (.tuple #[])/\w'=w.setCell ⟨b,0,none⟩ (.pointer (some ⟨b,0,none⟩)):=by
 obtain ⟨j,hj,hjs⟩:=Option.map_eq_some_iff.1 sizeWriterR
 go_enter Tryz.func89,Tryz.ntmps89
 go_wp2
 rw [Lib.run_to_unsafe w ⟨b,0,none⟩ Tryz.underlying95 Tryz.underlying196 hj (by rw [hjs];decide) hsh (Nat.zero_lt_succ 1)]
 simp only [Result.andThen]
 rw [Oper.upon_value]
 go_wp2
 rw [run_callFunc_extern Tryz.func140 Kr Kr Kr (e:=Extern.AbiNoEscape.same) Kr]
 rw [Lib.run_noEscape]
 simp only [Result.andThen]
 rw [Oper.upon_value]
 go_wp2
 rw [Lib.run_from_unsafe w ⟨b,0,none⟩ Tryz.underlying196 Tryz.underlying95 hj hsh liesWriterR]
 simp only [Result.andThen]
 rw [Oper.upon_value]
 go_wp2
 go_end0
 exact ⟨rfl,rfl⟩
theorem rcheck_any (b:Nat)(p v:Value)(R:List Blk)(M:List Nat)(W w:World)(hp:p= .pointer none\/p= .pointer (some ⟨b,0,none⟩))(hO:Own M W w (⟨b, #[p,v],156⟩::R)):
  YC 89 #[.pointer (some ⟨b,0,none⟩)] w λe w'=>e= .returned (.tuple #[])/\Own M W w' (⟨b, #[.pointer (some ⟨b,0,none⟩),v],156⟩::R):=by
 have hb:w.heap[b]?=some (.cells #[p,v] 156 (0,0)):=hO.held ⟨b, #[p,v],156⟩ (List.mem_cons_self ..)
 have c0:w.cell? ⟨b,0,none⟩=some p:=by rw [Lib.cell_of_heap hb];rfl
 rcases hp with rfl|rfl
 ·refine (copyCheck_newR b w c0 (by simp [World.shape?,hb]) (Lib.frozen_of_heap hb 0)).mono λe w' ⟨he,hw⟩=>⟨he, ?_⟩
  rw [hw,setCell_eq_setRow w b 0 _ _ _ _ hb]
  exact hO.put (i:=0) (x:=⟨b, #[.pointer none,v],156⟩) rfl _
 ·exact (mR b w c0).mono λe w' ⟨he,hw⟩=>⟨he,hw▸hO⟩
theorem infoU8R:∃ i,Tryz.prog.info? 5=some i/\i.zero=some (.int .u8 0)/\i.size=1/\i.bytes=1:=info_parts infoByte
theorem buR_own {B b:Nat}{l:YL}{ob:List Blk}{M:List Nat}{W w:World}(hB:BuR b l ob)(hO:Own M W w ob)(hM:∀ x∈ob,B<=x.b):Lib.IsBuilder 156 5 B b (Lib.byteCells l) w:=by
 obtain ⟨p,v,g,rfl,hp,hv⟩:=hB
 have hb:w.heap[b]?=some (.cells #[p,v] 156 (0,0)):=hO.held ⟨b, #[p,v],156⟩ (List.mem_cons_self ..)
 have key:Lib.BuilderAt 156 5 B b p (Lib.byteCells l) w:=by
  refine ⟨hM ⟨b, #[p,v],156⟩ (List.mem_cons_self ..),v,hb, ?_, ?_⟩
  ·rw [Lib.byteCells_length]
   refine ⟨hv.1, ?_⟩
   rcases hv.2 with ⟨h1,h2,_⟩|⟨k,cap,cur,h1,rfl,h3,h4,h5,h6⟩
   ·exact .inl ⟨h1,h2⟩
   ·exact .inr ⟨k,cap,cur,h1,hM ⟨k,cur,5⟩ (by simp),hO.held ⟨k,cur,5⟩ (by simp),h3,h4,h5,h6⟩
  ·rcases hv.2 with ⟨rfl,_,_⟩|⟨k,cap,cur,rfl,rfl,_⟩
   ·simp [Value.ownBlock]
   ·intro e
    have hk:k=b:=by simpa [Value.ownBlock] using e
    have:=hO.apart
    simp [hk] at this
 rcases hp with rfl|rfl
 ·exact .inl key
 ·exact .inr key
theorem rstring_any0 (B b:Nat)(l:YL)(w:World)(h:Lib.IsBuilder 156 5 B b (Lib.byteCells l) w)(h0:l≠[]):
  YC 50 #[.pointer (some ⟨b,0,none⟩)] w λe w'=>e= .returned (.string ⟨l.toArray⟩)/\Below B w w':=by
 obtain ⟨p,hB,v,hbk,hown,hne⟩:∃ p,Lib.BuilderAt 156 5 B b p (Lib.byteCells l) w:=h.elim (λq=>⟨_,q⟩) (λq=>⟨_,q⟩)
 rcases hown.2 with ⟨_,hz⟩|⟨g,cap,cur,rfl,hbg,hg,hnc,hcm,hcs,htake⟩
 ·exact absurd hz (tH h0)
 rw [Lib.byteCells_length] at hown hnc hbk htake
 have hl0:l.length≠0:=λe=>h0 (List.eq_nil_of_length_eq_zero e)
 have hg':w.drew.heap[g]?=some (.cells cur 5 (0,0)):=hg
 have c1:w.drew.cell? ⟨b,1,none⟩=some (.slice (some ⟨g,0,none⟩) l.length cap):=by
  rw [Lib.cell_of_heap (show w.drew.heap[b]?=_ from hbk)];rfl
 have hSD:=Lib.run_unsafeSliceData_row (P:=YP) w.drew #[96] 146 ⟨g,0,none⟩ l.length cap Om
 have hUS:=Lib.run_unsafeString_row (P:=YP) w.drew 146 3 9 5 Tryz.underlying146 Kr g cur.size (by unfold World.shape?;rw [hg']) l h0 Om (by unfold maxLen at hcm;omega)
  (λj x hx=>hown.cells (g:=g) rfl j (.int .u8 x.toNat) (by simp [Lib.byteCells,hx]))
 go_enter Tryz.func50,Tryz.ntmps50
 go_wp2
 have mixed:Tryz.prog.follows .mixedOrders=true:=by kernel_rfl
 go_region_o
 all_goals
  go_wp2
  go_ret
  have hf:=Lib.below_freeze (Go.RowKit.Below.drew (Go.RowKit.Below.refl B w)) (p:=⟨g,0,none⟩) hbg l.length
  exact ⟨rfl,hf.os,hf.tape,hf.output,hf.size,by rw [tD];exact Nat.le_succ _,hf.block⟩
theorem rstring_any (b:Nat)(l:YL)(ob:List Blk)(W w:World)(hB:BuR b l ob)(hO:Own [] W w ob)(h0:l≠[]):
  YC 50 #[.pointer (some ⟨b,0,none⟩)] w λe w'=>e= .returned (.string (mkS l))/\Own [] W w' []:=
 (rstring_any0 W.heap.size b l w (buR_own hB hO λx hx=>(hO.base x hx).elim id λq=>by simp at q) h0).mono λe w' ⟨he,hb⟩=>by
  have hb2:=hO.below.trans hb
  exact ⟨he,hb2.os,hb2.tape,hb2.output,hb2.size,hb2.drawn,λk hk _=>hb2.block k hk,by simp,by simp,by simp⟩
theorem rWrite_any (b:Nat)(l:YL)(s:YL)(ob:List Blk)(W:World)(hB:BuR b l ob)(hO:Own (ob.map Blk.b) W W ob)(hl:l.length<=1000000000000)(hs:s.length<=1000000000000):
  YC 49 #[.pointer (some ⟨b,0,none⟩),.string (mkS s)] W λe w'=>∃ ob',e= .returned (.tuple #[YI ((mkS s).size:Int),.nilIface])/\BuR b (l++s) ob'/\Own (ob.map Blk.b) W w' ob':=by
 obtain ⟨p,v,g,rfl,hp,hv⟩:=hB
 obtain ⟨A,cap,rfl⟩:=Sl.form hv
 have hsz:=zQ s
 refine calls_okL (n:=19) hO Tryz.func49 rfl Kr Kr (ZO (Zv (YI 0) (Zv (.nilIface) (ZR (Zv (Zp b 0) (Zr (k:=89) (args:= #[Zp b 0]) (λv' L'=>v'= .tuple #[]/\L'=⟨b, #[Zp b 0,.slice A l.length cap],156⟩::g) (λw hO=>(rcheck_any b p _ _ _ _ w hp hO).mono λe w' ⟨k1,k2⟩=>⟨_,_,k1,⟨rfl,rfl⟩,k2⟩) (λv0 L0 hv0=> ?_)))))))
 obtain ⟨rfl,rfl⟩:=hv0
 refine ZR (Zv (Zp b 0) (Zv (Zp b 0) (Zv (Zp b 0) (Zv (Zp b 1) (Zl 0 ⟨b, #[Zp b 0,.slice A l.length cap],156⟩ (off:=1) (.slice A l.length cap) (Zv (.string (mkS s)) ?_))))))
 obtain ⟨i0,e1,e2,e3,e4⟩:=infoU8R
 refine bV (L':=[⟨b, #[Zp b 0,.slice A l.length cap],156⟩]++g++[]) (by simp) (s_appstr Kr rfl Tryz.underlying96 Tryz.underlying9 e1 e2 e3 e4 Kr hv (s:=mkS s) Kr (by rw [hsz];unfold maxLen;omega) (by rw [hsz];omega) (λv2 g2 hv2=> ?_))
 have hv3:Sl 5 1 v2 (l++s).length (Lib.byteCells (l++s)) g2:=by rw [List.length_append,Lib.byteCells_append];rw [hsz,jL] at hv2;exact hv2
 obtain ⟨A2,cap2,rfl⟩:=Sl.form hv3
 refine bV (L':=⟨b, #[Zp b 0,.slice A l.length cap],156⟩::(g2)) (by simp) (Zv (Zp b 0) (Zv (Zp b 1) (Zs 0 ⟨b, #[Zp b 0,.slice A l.length cap],156⟩ (off:=1) (.slice A2 ((l++s).length) cap2) (ZR (Zv (.string (mkS s)) (Zv (YI ((mkS s).size)) (Zv (YI ((mkS s).size)) (Zv (.nilIface) ?_))))))))
 exact ZN (gG (ZG (YI ((mkS s).size)) (.nilIface) Tryz.results49 (λw hO=>⟨_,rfl,⟨_,_,g2,rfl,.inr rfl,hv3⟩,hO⟩)))
theorem rByte_any (b:Nat)(l:YL)(c:UInt8)(z:Int)(ob:List Blk)(W:World)(hB:BuR b l ob)(hO:Own (ob.map Blk.b) W W ob)(hl:l.length<=1000000000000)(hz:(c.toNat:Int)=z):
  YC 147 #[.pointer (some ⟨b,0,none⟩),.int .u8 z] W λe w'=>∃ ob',e= .returned (.nilIface)/\BuR b (l++[c]) ob'/\Own (ob.map Blk.b) W w' ob':=by
 obtain ⟨p,v,g,rfl,hp,hv⟩:=hB
 obtain ⟨A,cap,rfl⟩:=Sl.form hv
 subst hz
 refine calls_okL (n:=17) hO Tryz.func147 rfl Kr Kr (ZO (Zv (.nilIface) (ZR (Zv (Zp b 0) (Zr (k:=89) (args:= #[Zp b 0]) (λv' L'=>v'= .tuple #[]/\L'=⟨b, #[Zp b 0,.slice A l.length cap],156⟩::g) (λw hO=>(rcheck_any b p _ _ _ _ w hp hO).mono λe w' ⟨k1,k2⟩=>⟨_,_,k1,⟨rfl,rfl⟩,k2⟩) (λv0 L0 hv0=> ?_))))))
 obtain ⟨rfl,rfl⟩:=hv0
 refine ZR (Zv (Zp b 0) (Zv (Zp b 0) (Zv (Zp b 0) (Zv (Zp b 1) (Zl 0 ⟨b, #[Zp b 0,.slice A l.length cap],156⟩ (off:=1) (.slice A l.length cap) (Zv (.int .u8 (c.toNat:Int)) (s_lit 5 #[.int .u8 (c.toNat:Int)] Kr rfl (λ_=>Kr) (λb1=> ?_))))))))
 obtain ⟨i0,e1,e2,e3,e4⟩:=infoU8R
 refine bV (L':=[⟨b1, #[.int .u8 (c.toNat:Int)],5⟩,⟨b, #[Zp b 0,.slice A l.length cap],156⟩]++g++[]) (by simp) (s_append (sz:=1) Kr rfl Tryz.underlying96 e1 e2 e3 rfl Kr hv (a:=⟨b1,0,none⟩) (m:=1) (c:=1) (news:=Lib.byteCells [c]) Kr rfl (λw hO j u hj=> ?_) (λu hu=>by rw [List.mem_singleton.1 hu];rfl) (by unfold maxLen;omega) (by rw [e4];omega) (λv2 g2 hv2=> ?_))
 ·rw [xP,cell_of_row w b1 (0+j) (Lib.byteCells [c]).toArray 5 _ (hO.held ⟨b1,(Lib.byteCells [c]).toArray,5⟩ (List.mem_append_left _ (List.mem_append_left _ (List.mem_cons_self ..))))];simpa using hj
 have hv3:Sl 5 1 v2 (l++[c]).length (Lib.byteCells (l++[c])) g2:=by rw [List.length_append,Lib.byteCells_append];exact hv2
 obtain ⟨A2,cap2,rfl⟩:=Sl.form hv3
 refine bV (L':=⟨b1, #[.int .u8 (c.toNat:Int)],5⟩::(⟨b, #[Zp b 0,.slice A l.length cap],156⟩::(g2))) (by simp) (Zv (Zp b 0) (Zv (Zp b 1) (Zs 1 ⟨b, #[Zp b 0,.slice A l.length cap],156⟩ (off:=1) (.slice A2 ((l++[c]).length) cap2) (ZR (Zv (.nilIface) (ZN (gG ?_)))))))
 exact ZF (.nilIface) Tryz.results147 (λw hO=>⟨_,rfl,⟨_,_,g2,rfl,.inr rfl,hv3⟩,Own.sub [⟨b1, #[.int .u8 (c.toNat:Int)],5⟩] hO⟩)
end
section
set_option linter.unnecessarySimpa false
theorem rq_write (b:Nat)(l s:YL)(R ob:List Blk){M:List Nat}{W:World}(hB:BuR b l ob)(hl:l.length<=1000000000000)(hs:s.length<=1000000000000):∀ w,Own M W w (R++ob)->YC 49 #[.pointer (some ⟨b,0,none⟩),.string (mkS s)] w λe w'=>∃ v ob',e= .returned v/\BuR b (l++s) ob'/\Own (ob.map Blk.b) w w' ob':=
 λw hO=>(rWrite_any b l s ob w hB (Own.lentR hO) hl hs).mono λe w' ⟨ob',k1,k2,k3⟩=>⟨_,ob',k1,k2,k3⟩
theorem qLine_any (b:Nat)(l:YL)(ws:List YL)(v:Value)(wb ob:List Blk)(W:World)(hB:BuR b l ob)(hw:SlT v ws wb)(hO:Own ((wb++ob).map Blk.b) W W (wb++ob))(hl:l.length<=1000000000)(hj:(zG 32 ws).length<=400000000)(hn:ws.length<=1049000)(hne:zG 32 ws≠[]):YC 98 #[.pointer (some ⟨b,0,none⟩),v] W λe w'=>∃ ob',e= .returned (.tuple #[])/\BuR b (l++(zG 32 ws++[10])) ob'/\Own ((wb++ob).map Blk.b) W w' (wb++ob'):=by
 obtain ⟨A,cap,rfl⟩:=SlT.form hw
 have hJ:∀ w,Own ((wb++ob).map Blk.b) W w (wb++ob)->YC 146 #[.slice A ws.length cap,.int .u8 32] w (YR (.string (mkS (zG 32 ws))) w):=λw hO=>d2 _ ws 32 w (hw.readsT hO λx hx=>List.mem_append_left _ hx) Om Om hne
 refine zN hO Tryz.func98 (x_drawLF (.s .z) 6 [] wb (λw hO=>(hO.past 0 (wb++ob)).sublist (List.sublist_append_left _ _)) (gD [] 4 (z8 (v:= .string (mkS (zG 32 ws))) [] (λw hO=>hJ w (hO.past 0 _)) (gD [] 5 ?_))))
 exact xh_callL (Rr:=λ_ ob'=>BuR b (l++zG 32 ws) ob') (wb++ob) wb ob wb (λw hO=>hO) (λo w hO=>hO.sublist (List.sublist_append_left _ _)) (rq_write b l (zG 32 ws) wb ob hB Om Om) λv1 o1 h1=>(yN (k:=147) (args:= #[Zp b 0,.int .u8 10]) (Rr:=λ_ ob'=>BuR b (l++zG 32 ws++[10]) ob') [] (wb++o1) wb o1 (λw hO=>hO) (λw hO=>(rByte_any b (l++zG 32 ws) 10 10 o1 w h1 (Own.lentR hO) (by simp only [List.length_append];omega) rfl).mono λe w' ⟨ob',k1,k2,k3⟩=>⟨_,ob',k1,k2,k3⟩) λv2 o2 h2=>(kC [] λw hO=>⟨o2,rfl,by rw [←List.append_assoc];exact h2,hO.past 0 _⟩))
def nJ (w s:YL):YL:=if s=[] then [] else w++[32]++s++[10]
theorem qlit (b N:Nat)(cs:Array Value)(ws:List YL)(hc:cs.toList=jD ws)(hN:ws.length=N)(hM:N<=1000):SlT (.slice (some ⟨b,0,none⟩) N N) ws [⟨b,cs,9⟩]:=by
 subst hN
 unfold SlT
 rw [←hc]
 refine sl_block ?_ (by unfold maxLen;omega)
 rw [←Array.length_toList,hc,kL]
 have:=jT zX ws
 omega
theorem q_line {M:List Nat}{W:World}(b:Nat)(l:YL)(ws:List YL)(v:Value)(R wb ob:List Blk)(hB:BuR b l ob)(hw:SlT v ws wb)(hl:l.length<=1000000000)(hj:(zG 32 ws).length<=400000000)(hn:ws.length<=1049000)(hne:zG 32 ws≠[]):∀ w,Own M W w (R++(wb++ob))->YC 98 #[.pointer (some ⟨b,0,none⟩),v] w λe w'=>∃ v' o,e= .returned v'/\(∃ ob',BuR b (l++(zG 32 ws++[10])) ob'/\o=wb++ob')/\Own ((wb++ob).map Blk.b) w w' o:=
 λw hO=>(qLine_any b l ws v wb ob w hB hw (Own.lentR hO) hl hj hn hne).mono λe w' ⟨ob',k1,k2,k3⟩=>⟨_,_,k1,⟨ob',k2,rfl⟩,k3⟩
theorem qMaybe_any (b:Nat)(l wd s:YL)(ob:List Blk)(W:World)(hB:BuR b l ob)(hO:Own (ob.map Blk.b) W W ob)(hl:l.length<=900000000)(hw:wd≠[]/\wd.length<=100)(hs:s.length<=100000000):YC 101 #[.pointer (some ⟨b,0,none⟩),.string (mkS wd),.string (mkS s)] W λe w'=>∃ ob',e= .returned (.tuple #[])/\BuR b (l++nJ wd s) ob'/\Own (ob.map Blk.b) W w' ob':=by
 have hT:zG 32 [wd,s]=wd++32::s:=rfl
 refine zN hO Tryz.func101 (gA 7 [] s [] (λh=> ?_) (λh=> ?_))
 ·exact kC [] λw hO=>⟨ob,rfl,by rw [nJ,if_pos h,List.append_nil];exact hB,hO.past 0 _⟩
 refine gM [] 2 9 #[.string (mkS wd),.string (mkS s)] λg=>(yN [] ([⟨g, #[.string (mkS wd),.string (mkS s)],9⟩]++ob) [] ([⟨g, #[.string (mkS wd),.string (mkS s)],9⟩]++ob) (λw hO=>hO) (q_line b l [wd,s] _ [] _ ob hB (qlit g 2 _ [wd,s] rfl rfl Om) Om (by rw [hT];simp only [List.length_append,List.length_cons];omega) (by simp) (by rw [hT];simp [hw.1])) λv1 o1 ⟨ob',k1,k2⟩=> ?_)
 subst k2
 have hz:l++(zG 32 [wd,s]++[10])=l++nJ wd s:=by rw [nJ,if_neg h,hT];simp
 rw [hz] at k1
 exact kC [] λw hO=>⟨ob',rfl,k1,hO.past 1 _⟩
theorem q_maybe {M:List Nat}{W:World}(b:Nat)(l wd s:YL)(R ob:List Blk)(hB:BuR b l ob)(hl:l.length<=900000000)(hw:wd≠[]/\wd.length<=100)(hs:s.length<=100000000):∀ w,Own M W w (R++ob)->YC 101 #[.pointer (some ⟨b,0,none⟩),.string (mkS wd),.string (mkS s)] w λe w'=>∃ v' o,e= .returned v'/\BuR b (l++nJ wd s) o/\Own (ob.map Blk.b) w w' o:=
 λw hO=>(qMaybe_any b l wd s ob w hB (Own.lentR hO) hl hw hs).mono λe w' ⟨ob',k1,k2,k3⟩=>⟨_,_,k1,k2,k3⟩
theorem maybe_when (s:YL):nJ j7 s=vM s:=by
 unfold nJ vM
 split
 ·rfl
 ·simp [j7,pT]
theorem maybe_opt (s:YL):nJ wOpt s=optnT s:=by
 unfold nJ optnT
 split
 ·rfl
 ·simp [wOpt,txOpt]
theorem joinL_ne (b:UInt8):∀ {l:List YL},l≠[]->(∀ s∈l,s≠[])->zG b l≠[]
 | [],h,_=>absurd rfl h
 | [x],_,h=>h x (List.mem_singleton.2 rfl)
 |x::y::r,_,_=>by rw [zG];simp
theorem own_rot3 {M:List Nat}{W w:World}{x y z:Blk}{L:List Blk}(h:Own M W w (x::y::z::L)):Own M W w (y::z::x::L):=h.perm ((List.Perm.swap ..).trans (List.Perm.cons _ (List.Perm.swap ..)))
def ndB (n:Nv)(b:Nat):Blk:=⟨b, #[.slice n.A n.any.length n.cap,.string (mkS n.wh),.string (mkS n.opt)],75⟩
def wsB (u:Wv)(b:Nat):Blk:=⟨b, #[.string (mkS u.name),.string (mkS u.rng),.slice u.A u.fs.length u.cap,.bool u.bare],134⟩
theorem qNeedW_any (B b:Nat)(l:YL)(n:Nv)(ob:List Blk)(W:World)(hB:BuR b l ob)(hO:Own (ob.map Blk.b) W W ob)(hge:∀ x∈ob,B<=x.b)(hBW:B<=W.heap.size)(hv:Reads wvC W B n.A n.any)(hf:∀ u∈n.any,Reads yY W B u.A u.fs)(hn:n.any.length<=1048576)(hnf:∀ u∈n.any,u.fs.length<=1048576)(hfe:∀ u∈n.any,∀ s∈u.fs,s≠[])(hs:n.wh.length<=1048576/\n.opt.length<=1048576)(hl:l.length+(kW n.nt).length<=300000000):YC 100 #[.pointer (some ⟨b,0,none⟩),nvV n] W λe w'=>∃ ob',e= .returned (.tuple #[])/\BuR b (l++kW n.nt) ob'/\Own (ob.map Blk.b) W w' ob':=by
 have hM':∀ k∈ob.map Blk.b,B<=k:=λk hk=>by obtain ⟨x,hx,rfl⟩:=List.mem_map.1 hk;exact hge x hx
 have hnT:kW n.nt=txNeed++n.any.flatMap (λu=>kQ u.wt)++vM n.wh++optnT n.opt:=by
  unfold kW;simp only [Nv.nt,List.flatMap_map]
 have hnl:=congrArg List.length hnT
 simp only [List.length_append] at hnl
 have hn5:txNeed.length=5:=rfl
 refine zN hO Tryz.func100 (yK [] λb3=>gM [] 1 9 #[.string (mkS dC)] λg=> ?_)
 refine yN [] (⟨g, #[.string (mkS dC)],9⟩::ndB n b3::ob) [ndB n b3] ([⟨g, #[.string (mkS dC)],9⟩]++ob) (λw hO=>hO.swap) (q_line b l [dC] _ _ _ ob hB (qlit g 1 _ [dC] rfl rfl Om) Om (by decide) (by simp) (by decide)) λv1 o1 ⟨ob1,k1,k2⟩=> ?_
 subst k2
 refine y8 [0] (ndB n b3::ob1) (λw hO=>(hO.past 0 (ndB n b3::⟨g, #[.string (mkS dC)],9⟩::ob1)).swap.past 1 _) (zM (α:=Nat×List Blk) (λx=>[(0,Zp b 0),(3,Zp b3 0),(12,.slice n.A n.any.length n.cap),(13,YI (n.any.length:Int)),(14,YI (x.1:Int))]) (λx=>ndB n b3::x.2) (λx m=>(x.1<=n.any.length/\BuR b (l++txNeed++(n.any.take x.1).flatMap (λu=>kQ u.wt)) x.2)/\m=n.any.length-x.1) (0,ob1) n.any.length [] ⟨⟨Nat.zero_le _,by simp only [List.take_zero,List.flatMap_nil,List.append_nil];exact k1⟩,rfl⟩ ?_)
 rintro ⟨i,o⟩ mm gg kk ⟨⟨hi,ho⟩,hmm⟩ nx hkk
 subst hkk
 replace hi:i<=n.any.length:=hi
 replace ho:BuR b (l++txNeed++(n.any.take i).flatMap (λu=>kQ u.wt)) o:=ho
 have hpt:=fZ (λu:Wv=>kQ u.wt) (l:=n.any) i
 have hpl:(l++txNeed++(n.any.take i).flatMap (λu=>kQ u.wt)).length<=300000000:=by simp only [List.length_append];omega
 refine zB 15 [] ((i:Int)<(n.any.length:Int)) (λh15=> ?_) (λh15=> ?_)
 ·have hj:i<n.any.length:=by omega
  obtain ⟨eb,eo,hA,hel⟩:=hv.elem wvC_len i hj
  have hst:=v7 (λu:Wv=>kQ u.wt) hj
  have hsm:n.any[i]∈n.any:=List.getElem_mem hj
  have hone:=fm_one (λu:Wv=>kQ u.wt) hsm
  have hel0:∀ w,Below B W w->(loadVar 134 ⟨eb,eo+i*4+0,none⟩).run YP w= .ok (wvV n.any[i]) w:=λw hw=>hel w hw _ 0 _ Kr
  have hru:=hf _ hsm;have hnu:=hnf _ hsm;have hfu:=hfe _ hsm
  have hw2:l++txNeed++(n.any.take i).flatMap (λu=>kQ u.wt)++kQ n.any[i].wt=l++txNeed++(n.any.take (i+1)).flatMap (λu=>kQ u.wt):=by rw [hst,←List.append_assoc]
  generalize n.any[i]=u at hel0 hone hru hnu hfu hw2
  generalize l++txNeed++(n.any.take i).flatMap (λu=>kQ u.wt)=done at*
  have huT:kQ u.wt=zG 32 [nQ,u.name,bS u.fs,fJ u.bare,u.rng]++[10]:=(wishL_text u.wt).symm
  have hul:=congrArg List.length huT
  rw [List.length_append] at hul
  have hfl:(bS u.fs).length<=(zG 32 [nQ,u.name,bS u.fs,fJ u.bare,u.rng]).length:=jn_part 32 (by simp)
  have hJ:∀ w,Below B W w->u.fs≠[]->YC 146 #[.slice u.A u.fs.length u.cap,.int .u8 44] w (YR (.string (mkS (bS u.fs))) w):=λw hb hne=>by
   have hw:bS u.fs=zG 44 u.fs:=if_neg hne
   rw [hw]
   exact d2 _ u.fs 44 w (reads_t (hru.on hb (Nat.le_trans hBW hb.size)) (Nat.le_refl _)) (by rw [←hw];omega) Om (joinL_ne 44 hne hfu)
  refine zI 16 [] hA n.any.length n.cap i 4 hj (zH 17 [] 134 eb (eo+i*4+0) (wvV u) (λw hO=>hel0 w (hO.belowB hM' hBW)) (zJ [] λb5=>bR 21 (α:=YL) (λfl=>[(0,Zp b 0),(3,Zp b3 0),(5,Zp b5 0),(6,.string (mkS fl)),(7,.string (mkS fS)),(12,.slice n.A n.any.length n.cap),(13,YI (n.any.length:Int)),(14,YI (i:Int))]) (λ_=>wsB u b5::ndB n b3::o) (λfl=>fl=bS u.fs) [0,0] (λnj=>x_now 21 ((u.fs.length:Int)>0) (λh=> ?_) (λh=> ?_)) (λfl g1 hfl1=> ?_)))
  ·exact z8 (v:= .string (mkS (bS u.fs))) [0] (λw hO=>hJ w (hO.belowB hM' hBW) (λe=>by rw [e] at h;simp at h)) (nj (bS u.fs) [] rfl Kr)
  ·exact nj [45] [] (show [45]=bS u.fs from by unfold bS;rw [if_pos (List.eq_nil_of_length_eq_zero Om)]) Kr
  refine bR 26 (α:=YL) (λkd=>[(0,Zp b 0),(3,Zp b3 0),(5,Zp b5 0),(6,.string (mkS fl)),(7,.string (mkS kd)),(12,.slice n.A n.any.length n.cap),(13,YI (n.any.length:Int)),(14,YI (i:Int))]) (λ_=>wsB u b5::ndB n b3::o) (λkd=>kd=fJ u.bare) [0] (λnj=>zP 26 u.bare (λh=>nj j6 [] (by rw [h];rfl) Kr) (λh=>nj fS [] (by rw [h];rfl) Kr)) (λkd g2 hkd=> ?_)
  subst hfl1;subst hkd
  refine gM [0,0] 5 9 #[.string (mkS nQ),.string (mkS u.name),.string (mkS (bS u.fs)),.string (mkS (fJ u.bare)),.string (mkS u.rng)] λg3=>(yN [] (⟨g3, #[.string (mkS nQ),.string (mkS u.name),.string (mkS (bS u.fs)),.string (mkS (fJ u.bare)),.string (mkS u.rng)],9⟩::wsB u b5::ndB n b3::o) [wsB u b5,ndB n b3] ([⟨g3, #[.string (mkS nQ),.string (mkS u.name),.string (mkS (bS u.fs)),.string (mkS (fJ u.bare)),.string (mkS u.rng)],9⟩]++o) (λw hO=>own_rot3 hO) (q_line b done [nQ,u.name,bS u.fs,fJ u.bare,u.rng] _ _ _ o ho (qlit g3 5 _ _ rfl rfl Om) Om Om (by simp) (by simp [zG,nQ])) λv2 o2 ⟨ob2,q1,q2⟩=> ?_)
  subst q2
  rw [←huT,hw2] at q1
  exact x_i 14 [] ((i+1:Nat):Int) (y8 [] (ndB n b3::ob2) (λw hO=>(hO.past 1 (ndB n b3::⟨g3, #[.string (mkS nQ),.string (mkS u.name),.string (mkS (bS u.fs)),.string (mkS (fJ u.bare)),.string (mkS u.rng)],9⟩::ob2)).swap.past 1 _) (nx (i+1,ob2) (n.any.length-(i+1)) [] Om ⟨⟨hj,q1⟩,rfl⟩ Kr Kr))
 rw [List.take_of_length_le (show n.any.length<=i by omega)] at ho
 clear nx
 have hwl:(vM n.wh).length<=300000000:=by omega
 refine yN [0] (ndB n b3::o) [ndB n b3] o (λw hO=>hO) (q_maybe b _ j7 n.wh [ndB n b3] o ho (by simp only [List.length_append];omega) (by decide) Om) λv3 o3 h3=> ?_
 rw [maybe_when] at h3
 refine yN [0] (ndB n b3::o3) [ndB n b3] o3 (λw hO=>hO) (q_maybe b _ wOpt n.opt [ndB n b3] o3 h3 (by simp only [List.length_append];omega) (by decide) Om) λv4 o4 h4=> ?_
 rw [maybe_opt] at h4
 refine kC [] λw hO=>⟨o4,rfl, ?_,hO.past 1 _⟩
 rw [hnT]
 simpa only [List.append_assoc] using h4
end
section
set_option linter.unnecessarySimpa false
theorem partsE_is (r:Rv):gE r.rt=if (g8 (λn:Nv=>gZ r.name n.nt) 0 r.needs).1≠0 then g8 (λn:Nv=>gZ r.name n.nt) 0 r.needs
 else if (g8 (λb:Bv=>bD r.name b.bt) 0 r.bars).1≠0 then g8 (λb:Bv=>bD r.name b.bt) 0 r.bars
 else if dP (yT r.fts)=false then (11,0)
 else g8 (λf:Fv=>yV (xY r.rt.needs) f.of) 0 r.fts:=by
 unfold gE
 rw [show r.rt.needs=r.needs.map Nv.nt from rfl,show r.rt.bars=r.bars.map Bv.bt from rfl,show r.rt.fts=r.fts.map Fv.ft from rfl,tF,tF,tF];rfl
theorem r12parts_any (r:Rv)(W:World)(hr:RcIn W W.heap.size r):YC 78 #[rvV r] W (YR (.tuple #[YI (gE r.rt).1,YI (gE r.rt).2]) W):=by
 have hE:=partsE_is r
 have hnn:=hr.nn;have hnb:=hr.nb;have hfn:=hr.fts.n
 refine zD Tryz.func78 (yK [] λb1=>zM (α:=Nat) (λi=>[(1,Zp b1 0),(4,YI (i:Int))]) (λ_=>[⟨b1,(rvC r).toArray,29⟩]) (λi m=>(i<=r.needs.length∧∀ n∈r.needs.take i,gZ r.name n.nt=0)/\m=r.needs.length-i) 0 r.needs.length [] ⟨⟨Nat.zero_le _,λy h=>by simp at h⟩,rfl⟩ ?_)
 rintro i mm g kk ⟨⟨hi,hno⟩,hmm⟩ nx hkk
 subst hkk
 refine zB 14 [0] ((i:Int)<(r.needs.length:Int)) (λh14=> ?_) (λh14=> ?_)
 ·have hj:i<r.needs.length:=by omega
  obtain ⟨eb,eo,hA,hel⟩:=hr.needs.elem wC i hj
  have hgo:=yQ (p:=λn:Nv=>gZ r.name n.nt=0) hj hno
  have hat:=dU (f:=λn:Nv=>gZ r.name n.nt) 0 hj hno
  have hsm:r.needs[i]∈r.needs:=List.getElem_mem hj
  have hel0:∀ w,YB W w->(loadVar 75 ⟨eb,eo+i*3+0,none⟩).run YP w= .ok (nvV r.needs[i]) w:=λw hw=>hel w hw _ 0 _ Kr
  have hra:=hr.any _ hsm;have hrf:=hr.wfs _ hsm;have hna:=hr.na _ hsm;have hnf:=hr.nf _ hsm;have hsw:=hr.sw _ hsm;have hsu:=hr.su _ hsm
  generalize r.needs[i]=n at hel0 hgo hat hra hrf hna hnf hsw hsu
  have hc:∀ w,YB W w->YC 128 #[rvV r,nvV n] w (YR (YI (gZ r.name n.nt)) w):=λw hb=>r12need_any r n w (hra.on hb hb.size) (λu hu=>(hrf u hu).on hb hb.size) hna hnf hsw hsu
  refine zI 21 [0,0] hA r.needs.length r.nc i 3 hj (zH 22 [] 75 eb (eo+i*3+0) (nvV n) (λw hO=>hel0 w hO.below) (z8 (v:=YI (gZ r.name n.nt)) [] (λw hO=>hc w hO.below) (vP 25 [] (gZ r.name n.nt=0) (λh=> ?_) (λh=> ?_))))
  ·exact x_i 16 [] ((i+1:Nat):Int) (nx (i+1) (r.needs.length-(i+1)) [] Om ⟨⟨hj,hgo h⟩,rfl⟩ Kr Kr)
  ·refine zS [] (YI (gZ r.name n.nt)) (YI (i:Int)) λw hO=>⟨?_,hO.below⟩
   rw [hE,hat h,if_pos h];simp only [Nat.zero_add]
 have h1:=jU (k:=0) (xF (p:=λn:Nv=>gZ r.name n.nt=0) (show r.needs.length<=i by omega) hno)
 rw [h1,if_neg (by simp)] at hE
 clear nx
 refine zM (α:=Nat) (λi=>[(1,Zp b1 0),(6,YI (i:Int))]) (λ_=>[⟨b1,(rvC r).toArray,29⟩]) (λi m=>(i<=r.bars.length∧∀ b∈r.bars.take i,bD r.name b.bt=0)/\m=r.bars.length-i) 0 r.bars.length [] ⟨⟨Nat.zero_le _,λy h=>by simp at h⟩,rfl⟩ ?_
 rintro i2 m2 g2 kk ⟨⟨hi2,hno2⟩,hmm2⟩ nx hkk
 subst hkk
 refine zB 32 [0] ((i2:Int)<(r.bars.length:Int)) (λh32=> ?_) (λh32=> ?_)
 ·have hj:i2<r.bars.length:=by omega
  obtain ⟨eb,eo,hA,hel⟩:=hr.bars.elem bvC_len i2 hj
  have hgo:=yQ (p:=λb:Bv=>bD r.name b.bt=0) hj hno2
  have hat:=dU (f:=λb:Bv=>bD r.name b.bt) 0 hj hno2
  have hsm:r.bars[i2]∈r.bars:=List.getElem_mem hj
  have hel0:∀ w,YB W w->(loadVar 77 ⟨eb,eo+i2*3+0,none⟩).run YP w= .ok (bvV r.bars[i2]) w:=λw hw=>hel w hw _ 0 _ Kr
  have hsb:=hr.sb _ hsm
  generalize r.bars[i2]=b at hel0 hgo hat hsb
  have hc:∀ w,YB W w->YC 129 #[rvV r,bvV b] w (YR (YI (bD r.name b.bt)) w):=λw hb=>r12bar_any r b w hsb
  refine zI 39 [0,0] hA r.bars.length r.bc i2 3 hj (zH 40 [] 77 eb (eo+i2*3+0) (bvV b) (λw hO=>hel0 w hO.below) (z8 (v:=YI (bD r.name b.bt)) [] (λw hO=>hc w hO.below) (vP 43 [] (bD r.name b.bt=0) (λh=> ?_) (λh=> ?_))))
  ·exact x_i 34 [] ((i2+1:Nat):Int) (nx (i2+1) (r.bars.length-(i2+1)) [] Om ⟨⟨hj,hgo h⟩,rfl⟩ Kr Kr)
  ·refine zS [] (YI (bD r.name b.bt)) (YI (i2:Int)) λw hO=>⟨?_,hO.below⟩
   rw [hE,hat h,if_pos h];simp only [Nat.zero_add]
 have h2:=jU (k:=0) (xF (p:=λb:Bv=>bD r.name b.bt=0) (show r.bars.length<=i2 by omega) hno2)
 rw [h2,if_neg (by simp)] at hE
 clear nx
 have hM:∀ w,YB W w->YC 130 #[.slice r.fA r.fts.length r.fc] w (YR (.bool (dP (yT r.fts))) w):=λw hb=>r11May_any r.fA r.fc r.fts w (hr.fts.on hb hb.size)
 refine z8 (v:= .bool (dP (yT r.fts))) [0] (λw hO=>hM w hO.below) (zP 48 (dP (yT r.fts)) (λe3=> ?_) (λe3=> ?_))
 rotate_left
 ·exact zS [] (YI 11) (YI 0) λw hO=>⟨by rw [hE,if_pos e3],hO.below⟩
 rw [if_neg (by simp [e3])] at hE
 refine zM (α:=Nat) (λi=>[(1,Zp b1 0),(8,YI (i:Int))]) (λ_=>[⟨b1,(rvC r).toArray,29⟩]) (λi m=>(i<=r.fts.length∧∀ f∈r.fts.take i,yV (xY r.rt.needs) f.of=0)/\m=r.fts.length-i) 0 r.fts.length [] ⟨⟨Nat.zero_le _,λy h=>by simp at h⟩,rfl⟩ ?_
 rintro i3 m3 g3 kk ⟨⟨hi3,hno3⟩,hmm3⟩ nx hkk
 subst hkk
 refine zB 54 [0] ((i3:Int)<(r.fts.length:Int)) (λh54=> ?_) (λh54=> ?_)
 rotate_left
 ·refine zS [] (YI 0) (YI 0) λw hO=>⟨?_,hO.below⟩
  rw [hE,jU (k:=0) (xF (p:=λf:Fv=>yV (xY r.rt.needs) f.of=0) (show r.fts.length<=i3 by omega) hno3)]
 have hj:i3<r.fts.length:=by omega
 obtain ⟨eb,eo,hA,hel⟩:=hr.fts.top.elem wE i3 hj
 have hgo:=yQ (p:=λf:Fv=>yV (xY r.rt.needs) f.of=0) hj hno3
 have hat:=dU (f:=λf:Fv=>yV (xY r.rt.needs) f.of) 0 hj hno3
 have hsm:r.fts[i3]∈r.fts:=List.getElem_mem hj
 have hel0:∀ w,YB W w->(loadVar 66 ⟨eb,eo+i3*2+1,none⟩).run YP w= .ok (.slice r.fts[i3].A r.fts[i3].of.length r.fts[i3].cap) w:=λw hw=>hel w hw _ 1 _ Kr
 have hru:=hr.fts.each _ hsm;have hmu:=hr.fts.m _ hsm;have htu:=hr.fts.text _ hsm
 generalize r.fts[i3]=u at hel0 hgo hat hru hmu htu
 have hc:∀ w,YB W w->YC 131 #[rvV r,.slice u.A u.of.length u.cap] w (YR (YI (yV (xY r.rt.needs) u.of)) w):=λw hb=>r12items_any r u.A u.cap u.of w (hr.on hb hb.size) (hru.on hb hb.size) Om htu
 refine zI 61 [0,0] hA r.fts.length r.fc i3 2 hj (zH 63 [] 66 eb (eo+i3*2+1) (.slice u.A u.of.length u.cap) (λw hO=>hel0 w hO.below) (z8 (v:=YI (yV (xY r.rt.needs) u.of)) [] (λw hO=>hc w hO.below) (vP 66 [] (yV (xY r.rt.needs) u.of=0) (λh=> ?_) (λh=> ?_))))
 ·exact x_i 56 [] ((i3+1:Nat):Int) (nx (i3+1) (r.fts.length-(i3+1)) [] Om ⟨⟨hj,hgo h⟩,rfl⟩ Kr Kr)
 ·refine zS [] (YI (yV (xY r.rt.needs) u.of)) (YI (i3:Int)) λw hO=>⟨?_,hO.below⟩
  rw [hE,hat h];simp only [Nat.zero_add]
theorem vprint_short {v:Ver}(hp:v.pre.length<=1048576)(hq:v.build.length<=1048576):v.print.length<=3145728:=by
 unfold Ver.print
 split
 case isTrue h=>
  obtain ⟨n1,n2,n3⟩:=qN h
  have hnl:(bX v).length<=14:=nums_len n1 n2 n3
  have h1:(xH 45 v.pre).length<=1048577:=by unfold xH;split<;>simp<;>omega
  have h2:(xH 43 v.build).length<=1048577:=by unfold xH;split<;>simp<;>omega
  unfold Ver.text
  simp only [List.length_append];omega
 case isFalse=>simp
theorem r12Check_any (r:Rv)(W:World)(hr:RcIn W W.heap.size r):YC 36 #[rvV r] W (YR (.tuple #[YI (zV r.rt).1,YI (zV r.rt).2]) W):=by
 have hE:zV r.rt=if nmL r.name=false then (4,0) else if r.ver.may=false then (5,0) else if 8<r.needs.length\/8<r.bars.length then (3,0) else if (gE r.rt).1≠0 then gE r.rt else if 4096<(kS r.rt).length then (3,0) else (0,0):=by
  unfold zV;simp only [Rv.rt,List.length_map]
 have hsn:=hr.sn
 have c1:∀ w,YB W w->YC 76 #[.string (mkS r.name)] w (YR (.bool (nmL r.name)) w):=λw hb=>wY r.name w hsn.1
 have c2:∀ w,YB W w->YC 77 #[kJ r.ver] w (YR (.bool r.ver.may) w):=λw hb=>rmayQ_any r.ver w hsn.2.1 hsn.2.2
 have c3:∀ w,YB W w->YC 78 #[rvV r] w (YR (.tuple #[YI (gE r.rt).1,YI (gE r.rt).2]) w):=λw hb=>r12parts_any r w (hr.on hb hb.size)
 refine zD Tryz.func36 (yK [] λb1=>z8 (v:= .bool (nmL r.name)) [0] (λw hO=>c1 w hO.below) (zP 9 (nmL r.name) (λe1=> ?_) (λe1=> ?_)))
 rotate_left
 ·exact zS [] (YI 4) (YI 0) λw hO=>⟨by rw [hE,if_pos e1],hO.below⟩
 rw [if_neg (by simp [e1])] at hE
 refine z8 (v:= .bool r.ver.may) [0] (λw hO=>c2 w hO.below) (zP 14 r.ver.may (λe2=> ?_) (λe2=> ?_))
 rotate_left
 ·exact zS [] (YI 5) (YI 0) λw hO=>⟨by rw [hE,if_pos e2],hO.below⟩
 rw [if_neg (by simp [e2])] at hE
 refine zB 20 [0] ((r.needs.length:Int)>8) (λh20=> ?_) (λh20=> ?_)
 ·exact zS [] (YI 3) (YI 0) λw hO=>⟨by rw [hE,if_pos (.inl Om)],hO.below⟩
 refine zB 25 [0] ((r.bars.length:Int)>8) (λh25=> ?_) (λh25=> ?_)
 ·exact zS [] (YI 3) (YI 0) λw hO=>⟨by rw [hE,if_pos (.inr Om)],hO.below⟩
 rw [if_neg Om] at hE
 refine z8 (v:= .tuple #[YI (gE r.rt).1,YI (gE r.rt).2]) [0] (λw hO=>c3 w hO.below) (vP 33 [] ((gE r.rt).1=0) (λh33=> ?_) (λh33=> ?_))
 rotate_left
 ·exact zS [] (YI (gE r.rt).1) (YI (gE r.rt).2) λw hO=>⟨by rw [hE,if_pos h33],hO.below⟩
 rw [if_neg (λh=>h h33)] at hE
 have hs:(kS r.rt).length<=100000000:=rec_small (r:=r.rt) hsn.1 (vprint_short hsn.2.1 hsn.2.2) (by simp only [Rv.rt,List.length_map];omega) (by simp only [Rv.rt,List.length_map];omega) h33 (λf hf s hs=>by
  obtain ⟨y,hy,rfl⟩:=List.mem_map.1 hf
  exact hr.fts.text y hy s hs)
 have c4:∀ w,YB W w->YC 39 #[rvV r] w (YR (.string (mkS (kS r.rt))) w):=λw hb=>r12text_any r w (hr.on hb hb.size) hs
 have hz:(mkS (kS r.rt)).size=(kS r.rt).length:=bY _
 refine z8 (v:= .string (mkS (kS r.rt))) [0] (λw hO=>c4 w hO.below) (zB 39 [] (((mkS (kS r.rt)).size:Int)>4096) (λh39=> ?_) (λh39=> ?_))
 ·exact zS [] (YI 3) (YI 0) λw hO=>⟨by rw [hE,if_pos Om],hO.below⟩
 ·exact zS [] (YI 0) (YI 0) λw hO=>⟨by rw [hE,if_neg Om],hO.below⟩
theorem r12Print_any (r:Rv)(W:World)(hr:RcIn W W.heap.size r):YC 14 #[rvV r] W (YR (.tuple #[.string (mkS (printR r.rt)),YI (zV r.rt).1]) W):=by
 have c1:∀ w,YB W w->YC 36 #[rvV r] w (YR (.tuple #[YI (zV r.rt).1,YI (zV r.rt).2]) w):=λw hb=>r12Check_any r w (hr.on hb hb.size)
 refine zD Tryz.func14 (yK [] λb1=>z8 (v:= .tuple #[YI (zV r.rt).1,YI (zV r.rt).2]) [0] (λw hO=>c1 w hO.below) (vP 12 [] ((zV r.rt).1=0) (λh=> ?_) (λh=> ?_)))
 rotate_left
 ·exact zS [] (.string ⟨#[]⟩) (YI (zV r.rt).1) λw hO=>⟨by rw [show printR r.rt=[] from if_neg h];rfl,hO.below⟩
 have c2:∀ w,YB W w->YC 39 #[rvV r] w (YR (.string (mkS (kS r.rt))) w):=λw hb=>r12text_any r w (hr.on hb hb.size) (by have:=(dW h).2.2.2.2.2;omega)
 exact z8 (v:= .string (mkS (kS r.rt))) [0] (λw hO=>c2 w hO.below) (zS [] (.string (mkS (kS r.rt))) (YI 0) λw hO=>⟨by rw [show printR r.rt=kS r.rt from if_pos h,h],hO.below⟩)
end
section
def BytesAt (w:World)(e:TypeId)(g:Nat)(l:YL):Prop:=
 ∃ row,w.heap[g]?=some (.cells row e (row.size,row.size+1))/\l.length<=row.size∧∀ j (h:j<l.length),row[j]?=some (.int .u8 (l[j].toNat:Int))
section
variable {M:List Nat}{P:Program}{n0:Nat}{ops:Array Oper}{W:World}{Q:Exit->Act->World->Prop}{rest:List Oper}{o:Oper}{L:List Blk}{f:Nat->Value}
end
end
section
def u64V (x:UInt64):Value:= .int .u64 (x.toNat:Int)
section
variable {P:Program}{ρ:Operand->Value}{o:Oper}{t t':TypeId}{a b:Operand}
end
end
section
def u8C (b:UInt8):List Value:=[.int .u8 (b.toNat:Int)]
def u64C (n:UInt64):List Value:=[.int .u64 (n.toNat:Int)]
def SlB (v:Value)(l:YL)(ob:List Blk):Prop:=Sl 5 1 v l.length (l.flatMap u8C) ob
def SlU (v:Value)(l:List UInt64)(ob:List Blk):Prop:=Sl 86 1 v l.length (l.flatMap u64C) ob
section
variable {P:Program}{o:Oper}
end
section
variable {P:Program}{n0:Nat}{ops:Array Oper}{W:World}{Q:Exit->Act->World->Prop}{rest:List Oper}{o:Oper}{L0:List Blk}{f:Nat->Value}
end
section
variable {M:List Nat}{P:Program}{n0:Nat}{ops:Array Oper}{W:World}{Q:Exit->Act->World->Prop}{rest:List Oper}{o:Oper}{L0:List Blk}{f:Nat->Value}
end
end
section
section
variable {M:List Nat}{P:Program}{n:Nat}{W:World}{Q:Exit->Act->World->Prop}{c:Xc}
end
end
section
def dMixK (l:YL)(k:Nat):UInt64:=(l.take k).foldl dStep dI
def dRootK (l:List UInt64)(k:Nat):UInt64:=(l.take k).foldl dPair (dSum [])
def dig9S:YL:=[48,49,50,51,52,53,54,55,56,57,97,98,99,100,101,102]
def hexI (c:UInt8):Int:=match hexV c with|some d=>(d:Int)|none=> -1
end
section
set_option linter.unnecessarySimpa false
theorem fMay_at (A:Option Addr)(cap:Nat)(xs:List Fv)(W:World)(hv:FtIn W W.heap.size A xs):YC 67 #[.slice A xs.length cap] W (YR (.bool (dP (yT xs))) W):=by
 refine zD Tryz.func67 (zB 8 [] ((8:Int)<(xs.length:Int)) (λh8=> ?_) (λh8=> ?_))
 ·exact z7 [] Z5 λw hO=>⟨by rw [pC (.inl (by rw [wO];omega))],hO.below⟩
 refine zM (α:=Nat) (λi=>[(0,.slice A xs.length cap),(3,.string (mkS (yR (xs.map Fv.name) i))),(9,.slice A xs.length cap),(10,YI (xs.length:Int)),(11,YI (i:Int))]) (λ_=>[]) (λi m=>UpTo xs i/\m=xs.length-i) 0 xs.length [] ⟨UpTo.zero xs,rfl⟩ ?_
 rintro i mm g kk ⟨hup,hmm⟩ nx hkk
 subst hkk
 refine zB 12 [] ((i:Int)<(xs.length:Int)) (λh12=> ?_) (λh12=> ?_)
 rotate_left
 ·exact z7 [] Z4 λw hO=>⟨by rw [hup.may Om Om],hO.below⟩
 have hj:i<xs.length:=by omega
 have hxm:xs[i]∈xs:=List.getElem_mem hj
 have hnl:i<(xs.map Fv.name).length:=by rw [List.length_map];exact hj
 have hl1:yR (xs.map Fv.name) (i+1)=xs[i].name:=by rw [mN hnl,List.getElem_map]
 have hlast:∀ h0:0<i,yR (xs.map Fv.name) i=(xs[i-1]'Om).name:=λh=>by unfold yR;rw [dif_pos ⟨h,by omega⟩,List.getElem_map]
 obtain ⟨eb,eo,hA,hel⟩:=hv.top.elem wE i hj
 have hnm:=hv.name _ hxm
 refine zI 13 [] hA xs.length cap i 2 hj (zH 14 [] 79 eb (eo+i*2+0) (fvV xs[i]) (λw hO=>hel w hO.below _ 0 _ Kr) (zJ [] λb5=>z8 (v:= .bool (wdL xs[i].name)) [0,0] (λw hO=>dS _ w hnm) (zP 17 (wdL xs[i].name) (λh17=> ?_) (λh17=> ?_))))
 rotate_left
 ·exact z7 [] Z5 λw hO=>⟨by rw [may_no1 hxm h17],hO.below⟩
 refine x_sle 23 [0] xs[i].name (yR (xs.map Fv.name) i) (zP 23 (!Op.bytesLess (yR (xs.map Fv.name) i) xs[i].name) (λh23=> ?_) (λh23=> ?_))
 ·refine z7 [] Z5 λw hO=>⟨?_,hO.below⟩
  have h0:0<i:=Nat.pos_of_ne_zero λh0=>by
   subst h0
   have:yR (xs.map Fv.name) 0=[]:=by unfold yR;rw [dif_neg Om]
   rw [this,less_nil (λe=>by rw [e] at h17;revert h17;decide)] at h23;cases h23
  rw [hlast h0] at h23
  have e2:xs[i-1+1]'Om=xs[i]:=by congr 1;omega
  rw [may_no2 (z:=i-1) Om (by rw [e2];simpa using h23)]
 have h2:∀ h0:0<i,Op.bytesLess (xs[i-1]'Om).name xs[i].name=true:=λh0=>by rw [←hlast h0];simpa using h23
 have hc:∀ w,YB W w->YC 118 #[.slice xs[i].A xs[i].of.length xs[i].cap,.slice A xs.length cap] w (YR (.bool (kP (yT xs) xs[i].of)) w):=λw hb=>fmayOf_any A cap xs xs[i].A xs[i].cap xs[i].of w (hv.on hb hb.size) ((hv.each _ hxm).on hb hb.size) (hv.m _ hxm) (hv.text _ hxm)
 refine z8 (v:= .bool (kP (yT xs) xs[i].of)) [0] (λw hO=>hc w hO.below) (zP 29 (kP (yT xs) xs[i].of) (λh29=> ?_) (λh29=> ?_))
 rotate_left
 ·exact z7 [] Z5 λw hO=>⟨by rw [may_no3 hxm h29],hO.below⟩
 exact v8 3 [0] (.string (mkS xs[i].name)) (.string (mkS (yR (xs.map Fv.name) (i+1)))) (by rw [hl1]) (x_i 34 [] ((i+1:Nat):Int) (y8 [] [] (λw hO=>hO.no) (nx (i+1) (xs.length-(i+1)) [] Om ⟨hup.next hj h17 h2 h29,rfl⟩ Kr Kr)))
end
section
def byK (n:UInt64)(k:Nat):YL:=(List.range k).map λi=>(n>>>UInt64.ofNat (8*(7-i))).toUInt8
end
section
def rot4 (x:UInt64):UInt64:=x<<<4|||x>>>60
def rotN (n:UInt64):Nat->UInt64
 |0=>n
 |k+1=>rot4 (rotN n k)
def padB (xs:YL)(n:Nat):YL:=xs++List.replicate (n-xs.length) 0
end
section
def arrC (bs:YL):Array Value:=(bs.flatMap u8C).toArray
section
variable {P:Program}{o:Oper}
end
end
section
end
section
set_option linter.unnecessarySimpa false
theorem wd_ne' {s:YL}(h:wdL s=true):s≠[]:=λe=>by subst e;exact absurd h (by decide)
def rcB (r:Rv)(b:Nat):Blk:=⟨b,(rvC r).toArray,29⟩
def brB (x:Bv)(b:Nat):Blk:=⟨b,(bvC x).toArray,77⟩
def ftB (x:Fv)(b:Nat):Blk:=⟨b,(fvC x).toArray,79⟩
theorem ge_of {W w:World}{R o:List Blk}(h:Own [] W w (R++o)):∀ x∈o,W.heap.size<=x.b:=λx hx=>(h.base x (List.mem_append_right _ hx)).elim id λq=>by simp at q
theorem qText_any (r:Rv)(W:World)(hr:RcIn W W.heap.size r)(hfe:∀ n∈r.needs,∀ u∈n.any,∀ s∈u.fs,s≠[])(ht:(kS r.rt).length<=100000000)(hK:RecLib W):YC 58 #[rvV r] W (YR (.string (mkS (kS r.rt))) W):=by
 have hT:kS r.rt=jB r.rt++r.needs.flatMap (λn=>kW n.nt)++r.bars.flatMap (λb=>bC b.bt)++r.fts.flatMap (λf=>gK f.ft):=by
  unfold kS;simp only [Rv.rt,yT,List.flatMap_map]
 have hl:=congrArg List.length hT
 simp only [List.length_append] at hl
 have hsn:=hr.sn
 have hnn:=hr.nn;have hnb:=hr.nb;have hfn:=hr.fts.n
 have hH:jB r.rt=zG 32 [bT,r.name,r.ver.print]++[10]:=by
  show txPack++r.name++[32]++r.ver.print++[10]=_
  simp [zG,txPack,bT]
 have hHl:=congrArg List.length hH
 simp only [List.length_append,List.length_cons,List.length_nil] at hHl
 have hP:∀ w,YB W w->YC 99 #[kJ r.ver] w (YR (.string (mkS r.ver.print)) w):=λw hb=>vprint_any r.ver w hsn.2.1 hsn.2.2 (hK.on hb).lib.tab
 refine zD Tryz.func58 (yK [] λb1=>zJ [] λb3=>qJ 7 [] [rcB r b1] (λw hO=>hO.past 1 _) (gD [0,0] 4 (z8 (v:= .string (mkS r.ver.print)) [] (λw hO=>hP w hO.below) (gD [] 5 (fQ 3 9 #[.string (mkS bT),.string (mkS r.name),.string (mkS r.ver.print)] λg=>gD [] 6 ?_)))))
 refine xh_callL [⟨g, #[.string (mkS bT),.string (mkS r.name),.string (mkS r.ver.print)],9⟩,⟨b3, #[.pointer none,.slice none 0 0],156⟩,rcB r b1] [rcB r b1] ([⟨g, #[.string (mkS bT),.string (mkS r.name),.string (mkS r.ver.print)],9⟩]++[⟨b3, #[.pointer none,.slice none 0 0],156⟩]) [rcB r b1] (λw hO=>hO.perm ((List.Perm.cons _ (List.Perm.swap ..)).trans (List.Perm.swap ..))) (λo w hO=>hO.sublist (List.sublist_append_left _ _)) (q_line b3 [] [bT,r.name,r.ver.print] _ [rcB r b1] _ _ (BuR.new b3) (qlit g 3 _ _ rfl rfl Om) (by simp) Om (by simp) (by simp [zG,bT])) λv1 o1 ⟨ob1,k1,k2⟩=> ?_
 subst k2
 rw [List.nil_append,←hH] at k1
 refine y8 [0] (rcB r b1::ob1) (λw hO=>(hO.past 0 (rcB r b1::⟨g, #[.string (mkS bT),.string (mkS r.name),.string (mkS r.ver.print)],9⟩::ob1)).swap.past 1 _) (zM (α:=Nat×List Blk) (λx=>[(1,Zp b1 0),(3,Zp b3 0),(18,.slice r.nA r.needs.length r.nc),(19,YI (r.needs.length:Int)),(20,YI (x.1:Int))]) (λx=>rcB r b1::x.2) (λx m=>(x.1<=r.needs.length/\BuR b3 (jB r.rt++(r.needs.take x.1).flatMap (λn=>kW n.nt)) x.2)/\m=r.needs.length-x.1) (0,ob1) r.needs.length [] ⟨⟨Nat.zero_le _,by simp only [List.take_zero,List.flatMap_nil,List.append_nil];exact k1⟩,rfl⟩ ?_)
 rintro ⟨i,o⟩ mm gg kk ⟨⟨hi,ho⟩,hmm⟩ nx hkk
 subst hkk
 replace hi:i<=r.needs.length:=hi
 replace ho:BuR b3 (jB r.rt++(r.needs.take i).flatMap (λn=>kW n.nt)) o:=ho
 refine zB 21 [] ((i:Int)<(r.needs.length:Int)) (λh21=> ?_) (λh21=> ?_)
 ·have hj:i<r.needs.length:=by omega
  obtain ⟨eb,eo,hA,hel⟩:=hr.needs.elem wC i hj
  have hpt:=fZ (λn:Nv=>kW n.nt) (l:=r.needs) (i+1)
  rw [v7 (λn:Nv=>kW n.nt) hj,List.length_append] at hpt
  have hst:=v7 (λn:Nv=>kW n.nt) hj
  have hsm:r.needs[i]∈r.needs:=List.getElem_mem hj
  have hel0:∀ w,YB W w->(loadVar 75 ⟨eb,eo+i*3+0,none⟩).run YP w= .ok (nvV r.needs[i]) w:=λw hw=>hel w hw _ 0 _ Kr
  have hra:=hr.any _ hsm;have hrf:=hr.wfs _ hsm;have hna:=hr.na _ hsm;have hnf:=hr.nf _ hsm;have hsw:=hr.sw _ hsm;have hff:=hfe _ hsm
  have hw2:jB r.rt++(r.needs.take i).flatMap (λn=>kW n.nt)++kW r.needs[i].nt=jB r.rt++(r.needs.take (i+1)).flatMap (λn=>kW n.nt):=by rw [hst,List.append_assoc]
  have hpl:(jB r.rt++(r.needs.take i).flatMap (λn=>kW n.nt)).length+(kW r.needs[i].nt).length<=300000000:=by rw [List.length_append];omega
  generalize r.needs[i]=n at hel0 hra hrf hna hnf hsw hff hw2 hpl
  generalize jB r.rt++(r.needs.take i).flatMap (λn=>kW n.nt)=done at*
  refine zI 22 [] hA r.needs.length r.nc i 3 hj (zH 23 [] 75 eb (eo+i*3+0) (nvV n) (λw hO=>hel0 w hO.below) (zJ [] λb5=> ?_))
  have hc:∀ w,Own [] W w ([ndB n b5,rcB r b1]++o)->YC 100 #[.pointer (some ⟨b3,0,none⟩),nvV n] w λe w'=>∃ v o',e= .returned v/\BuR b3 (done++kW n.nt) o'/\Own (o.map Blk.b) w w' o':=λw hO=>(qNeedW_any W.heap.size b3 done n o w ho (Own.lentR hO) (ge_of hO) hO.size (hra.on hO.below (Nat.le_refl _)) (λu hu=>(hrf u hu).on hO.below (Nat.le_refl _)) hna hnf hff ⟨gqM_len hsw.1,hsw.2⟩ hpl).mono λe w' ⟨o',q1,q2,q3⟩=>⟨_,o',q1,q2,q3⟩
  refine yN [0,0] (ndB n b5::rcB r b1::o) [ndB n b5,rcB r b1] o (λw hO=>hO) hc λv2 o2 q1=> ?_
  rw [hw2] at q1
  exact x_i 20 [] ((i+1:Nat):Int) (y8 [] (rcB r b1::o2) (λw hO=>hO.past 1 _) (nx (i+1,o2) (r.needs.length-(i+1)) [] Om ⟨⟨hj,q1⟩,rfl⟩ Kr Kr))
 rw [List.take_of_length_le (show r.needs.length<=i by omega)] at ho
 clear nx
 have hNl:(jB r.rt++r.needs.flatMap (λn=>kW n.nt)).length=(jB r.rt).length+(r.needs.flatMap λn=>kW n.nt).length:=List.length_append
 generalize hN:jB r.rt++r.needs.flatMap (λn=>kW n.nt)=front at*
 refine zM (α:=Nat×List Blk) (λx=>[(1,Zp b1 0),(3,Zp b3 0),(28,.slice r.bA r.bars.length r.bc),(29,YI (r.bars.length:Int)),(30,YI (x.1:Int))]) (λx=>rcB r b1::x.2) (λx m=>(x.1<=r.bars.length/\BuR b3 (front++(r.bars.take x.1).flatMap (λb=>bC b.bt)) x.2)/\m=r.bars.length-x.1) (0,o) r.bars.length [0] ⟨⟨Nat.zero_le _,by simp only [List.take_zero,List.flatMap_nil,List.append_nil];exact ho⟩,rfl⟩ ?_
 clear ho
 rintro ⟨i2,o2⟩ m2 g2 kk ⟨⟨hi2,ho⟩,hm2⟩ nx hkk
 subst hkk
 replace hi2:i2<=r.bars.length:=hi2
 replace ho:BuR b3 (front++(r.bars.take i2).flatMap (λb=>bC b.bt)) o2:=ho
 refine zB 31 [] ((i2:Int)<(r.bars.length:Int)) (λh31=> ?_) (λh31=> ?_)
 ·have hj:i2<r.bars.length:=by omega
  obtain ⟨eb,eo,hA,hel⟩:=hr.bars.elem bvC_len i2 hj
  have hpt:=fZ (λb:Bv=>bC b.bt) (l:=r.bars) (i2+1)
  rw [v7 (λb:Bv=>bC b.bt) hj,List.length_append] at hpt
  have hst:=v7 (λb:Bv=>bC b.bt) hj
  have hsm:r.bars[i2]∈r.bars:=List.getElem_mem hj
  have hel0:∀ w,YB W w->(loadVar 77 ⟨eb,eo+i2*3+0,none⟩).run YP w= .ok (bvV r.bars[i2]) w:=λw hw=>hel w hw _ 0 _ Kr
  have hsb:=hr.sb _ hsm
  have hw2:front++(r.bars.take i2).flatMap (λb=>bC b.bt)++bC r.bars[i2].bt=front++(r.bars.take (i2+1)).flatMap (λb=>bC b.bt):=by rw [hst,List.append_assoc]
  have hpl:(front++(r.bars.take i2).flatMap (λb=>bC b.bt)).length+(bC r.bars[i2].bt).length<=300000000:=by rw [List.length_append];omega
  generalize r.bars[i2]=x at hel0 hsb hw2 hpl
  have hsb2:=gqR_len hsb.2.1
  have hsb3:=gqM_len hsb.2.2
  generalize front++(r.bars.take i2).flatMap (λb=>bC b.bt)=done at*
  have hbT:bC x.bt=zG 32 [nF,x.name,x.rng]++[10]++nJ j7 x.wh:=by
   rw [maybe_when]
   show txBar++x.name++[32]++x.rng++[10]++vM x.wh=_
   simp [zG,txBar,nF]
  have hbl:=congrArg List.length hbT
  simp only [List.length_append,List.length_cons,List.length_nil] at hbl
  refine zI 32 [] hA r.bars.length r.bc i2 3 hj (zH 33 [] 77 eb (eo+i2*3+0) (bvV x) (λw hO=>hel0 w hO.below) (zJ [] λb7=>gM [0,0,0] 3 9 #[.string (mkS nF),.string (mkS x.name),.string (mkS x.rng)] λg3=> ?_))
  refine yN [] (⟨g3, #[.string (mkS nF),.string (mkS x.name),.string (mkS x.rng)],9⟩::brB x b7::rcB r b1::o2) [brB x b7,rcB r b1] ([⟨g3, #[.string (mkS nF),.string (mkS x.name),.string (mkS x.rng)],9⟩]++o2) (λw hO=>own_rot3 hO) (q_line b3 done [nF,x.name,x.rng] _ _ _ o2 ho (qlit g3 3 _ _ rfl rfl Om) Om Om (by simp) (by simp [zG,nF])) λv2 o3 ⟨ob3,q1,q2⟩=> ?_
  subst q2
  refine yN [0] (brB x b7::rcB r b1::⟨g3, #[.string (mkS nF),.string (mkS x.name),.string (mkS x.rng)],9⟩::ob3) [brB x b7,rcB r b1,⟨g3, #[.string (mkS nF),.string (mkS x.name),.string (mkS x.rng)],9⟩] ob3 (λw hO=>hO) (q_maybe b3 _ j7 x.wh _ ob3 q1 (by simp only [List.length_append,List.length_cons,List.length_nil];omega) (by decide) Om) λv3 o4 q3=> ?_
  rw [List.append_assoc] at q3
  refine x_i 30 [] ((i2+1:Nat):Int) (y8 [] (rcB r b1::o4) (λw hO=>(hO.past 1 (rcB r b1::⟨g3, #[.string (mkS nF),.string (mkS x.name),.string (mkS x.rng)],9⟩::o4)).swap.past 1 _) (nx (i2+1,o4) (r.bars.length-(i2+1)) [] Om ⟨⟨hj, ?_⟩,rfl⟩ Kr Kr))
  show BuR b3 (front++(r.bars.take (i2+1)).flatMap (λb=>bC b.bt)) o4
  rw [←hw2,hbT];exact q3
 rw [List.take_of_length_le (show r.bars.length<=i2 by omega)] at ho
 clear nx
 have hBl:(front++r.bars.flatMap (λb=>bC b.bt)).length=front.length+(r.bars.flatMap λb=>bC b.bt).length:=List.length_append
 generalize hN2:front++r.bars.flatMap (λb=>bC b.bt)=fore at*
 refine zM (α:=Nat×List Blk) (λx=>[(1,Zp b1 0),(3,Zp b3 0),(45,.slice r.fA r.fts.length r.fc),(46,YI (r.fts.length:Int)),(47,YI (x.1:Int))]) (λx=>rcB r b1::x.2) (λx m=>(x.1<=r.fts.length/\BuR b3 (fore++(r.fts.take x.1).flatMap (λf=>gK f.ft)) x.2)/\m=r.fts.length-x.1) (0,o2) r.fts.length [0] ⟨⟨Nat.zero_le _,by simp only [List.take_zero,List.flatMap_nil,List.append_nil];exact ho⟩,rfl⟩ ?_
 clear ho
 rintro ⟨i3,o3⟩ m3 g3 kk ⟨⟨hi3,ho⟩,hm3⟩ nx hkk
 subst hkk
 replace hi3:i3<=r.fts.length:=hi3
 replace ho:BuR b3 (fore++(r.fts.take i3).flatMap (λf=>gK f.ft)) o3:=ho
 refine zB 48 [] ((i3:Int)<(r.fts.length:Int)) (λh48=> ?_) (λh48=> ?_)
 rotate_left
 ·rw [List.take_of_length_le (show r.fts.length<=i3 by omega)] at ho
  have hR:fore++r.fts.flatMap (λf=>gK f.ft)=kS r.rt:=hT.symm
  rw [hR] at ho
  refine x_callO [] (rcB r b1::o3) (Rr:=λv L'=>v= .string (mkS (kS r.rt))/\L'=[]) (λw hO=>(rstring_any b3 (kS r.rt) o3 W w ho (hO.past 1 _) (λe=>by rw [e] at hl;simp only [List.length_nil] at hl;omega)).mono λe w' ⟨q1,q2⟩=>⟨_,[],q1,⟨rfl,rfl⟩,q2⟩) λv4 L4 ⟨q1,q2⟩=> ?_
  subst q1;subst q2
  exact z7 [] (.string (mkS (kS r.rt))) λw hO=>⟨rfl,hO.below⟩
 have hj:i3<r.fts.length:=by omega
 obtain ⟨eb,eo,hA,hel⟩:=hr.fts.top.elem wE i3 hj
 have hpt:=fZ (λf:Fv=>gK f.ft) (l:=r.fts) (i3+1)
 rw [v7 (λf:Fv=>gK f.ft) hj,List.length_append] at hpt
 have hst:=v7 (λf:Fv=>gK f.ft) hj
 have hsm:r.fts[i3]∈r.fts:=List.getElem_mem hj
 have hel0:∀ w,YB W w->(loadVar 79 ⟨eb,eo+i3*2+0,none⟩).run YP w= .ok (fvV r.fts[i3]) w:=λw hw=>hel w hw _ 0 _ Kr
 have hru:=hr.fts.each _ hsm;have hmu:=hr.fts.m _ hsm
 have hw2:fore++(r.fts.take i3).flatMap (λf=>gK f.ft)++gK r.fts[i3].ft=fore++(r.fts.take (i3+1)).flatMap (λf=>gK f.ft):=by rw [hst,List.append_assoc]
 have hpl:(fore++(r.fts.take i3).flatMap (λf=>gK f.ft)).length+(gK r.fts[i3].ft).length<=300000000:=by rw [List.length_append];omega
 generalize r.fts[i3]=x at hel0 hru hmu hw2 hpl
 generalize fore++(r.fts.take i3).flatMap (λf=>gK f.ft)=done at*
 have hfT:gK x.ft=zG 32 (x6::x.name::x.of)++[10]:=rfl
 have hfl:=congrArg List.length hfT
 simp only [List.length_append,List.length_cons,List.length_nil] at hfl
 refine zI 49 [] hA r.fts.length r.fc i3 2 hj (zH 50 [] 79 eb (eo+i3*2+0) (fvV x) (λw hO=>hel0 w hO.below) (zJ [] λb9=>gM [0,0] 2 9 #[.string (mkS x6),.string (mkS x.name)] λg5=> ?_))
 refine x_appR (g:=yY) [1] x.of [] [⟨g5, #[.string (mkS x6),.string (mkS x.name)],9⟩] (ftB x b9::rcB r b1::o3) (⟨g5, #[.string (mkS x6),.string (mkS x.name)],9⟩::ftB x b9::rcB r b1::o3) (cp:=x.cap) (λw hO=>hO) zX strC_one (λw hO=>hru.on hO.below hO.below.size) (sl_block (N:=2) rfl (by unfold maxLen;omega)) Om λv' o' h=> ?_
 have hS:SlT v' (x6::x.name::x.of) o':=by
  unfold SlT
  rw [kL,show (x6::x.name::x.of).length=2+x.of.length by simp only [List.length_cons];omega]
  exact h
 refine yN [] ([]++o'++(ftB x b9::rcB r b1::o3)) [ftB x b9,rcB r b1] (o'++o3) (λw hO=>hO.perm (by
  have:=List.perm_append_comm_assoc o' [ftB x b9,rcB r b1] o3
  simpa using this)) (q_line b3 done (x6::x.name::x.of) v' _ o' o3 ho hS Om Om (by simp only [List.length_cons];omega) (by simp [zG,x6])) λv2 o4 ⟨ob4,q1,q2⟩=> ?_
 subst q2
 rw [←hfT,hw2] at q1
 exact x_i 47 [] ((i3+1:Nat):Int) (y8 [] (rcB r b1::ob4) (λw hO=>(hO.past 1 (rcB r b1::(o'++ob4))).sublist (List.Sublist.cons_cons _ (List.sublist_append_right _ _))) (nx (i3+1,ob4) (r.fts.length-(i3+1)) [] Om ⟨⟨hj,q1⟩,rfl⟩ Kr Kr))
theorem parts_ne {r:Rt}(h:(gE r).1=0):∀ n∈r.needs,∀ u∈n.any,∀ s∈u.fs,s≠[]:=λn hn u hu s hs=>by
 have h1:=(parts_fine h).1 n hn
 have h2:=(need_fine h1).2.2.1 u hu
 have h3:=(wish_fine h2).2.2
 unfold dB at h3
 simp only [Bool.and_eq_true] at h3
 exact wd_ne' (List.all_eq_true.1 h3.1.1.1 s hs)
theorem qCheck_any (r:Rv)(W:World)(hr:RcIn W W.heap.size r)(hK:RecLib W):YC 33 #[rvV r] W (YR (.tuple #[YI (zV r.rt).1,YI (zV r.rt).2]) W):=by
 have hE:zV r.rt=if nmL r.name=false then (4,0) else if r.ver.may=false then (5,0) else if 8<r.needs.length\/8<r.bars.length then (3,0) else if (gE r.rt).1≠0 then gE r.rt else if 4096<(kS r.rt).length then (3,0) else (0,0):=by
  unfold zV;simp only [Rv.rt,List.length_map]
 have hsn:=hr.sn;have hnn:=hr.nn;have hnb:=hr.nb;have hfn:=hr.fts.n
 have c1:∀ w,YC 63 #[.string (mkS r.name)] w (YR (.bool (nmL r.name)) w):=λw=>dT r.name w hsn.1
 have c2:∀ w,YC 64 #[kJ r.ver] w (YR (.bool r.ver.may) w):=λw=>may_any r.ver w (by show r.pre.length<_;omega) (by show r.bld.length<_;omega)
 refine zD Tryz.func33 (yK [] λb1=>z8 (v:= .bool (nmL r.name)) [0] (λw hO=>c1 w) (zP 16 (nmL r.name) (λe1=> ?_) (λe1=> ?_)))
 rotate_left
 ·exact zS [] (YI 4) (YI 0) λw hO=>⟨by rw [hE,if_pos e1],hO.below⟩
 rw [if_neg (by simp [e1])] at hE
 refine z8 (v:= .bool r.ver.may) [0] (λw hO=>c2 w) (zP 21 r.ver.may (λe2=> ?_) (λe2=> ?_))
 rotate_left
 ·exact zS [] (YI 5) (YI 0) λw hO=>⟨by rw [hE,if_pos e2],hO.below⟩
 rw [if_neg (by simp [e2])] at hE
 refine zB 27 [0] ((r.needs.length:Int)>8) (λh27=> ?_) (λh27=> ?_)
 ·exact zS [] (YI 3) (YI 0) λw hO=>⟨by rw [hE,if_pos (.inl Om)],hO.below⟩
 refine zB 32 [0] ((r.bars.length:Int)>8) (λh32=> ?_) (λh32=> ?_)
 ·exact zS [] (YI 3) (YI 0) λw hO=>⟨by rw [hE,if_pos (.inr Om)],hO.below⟩
 rw [if_neg Om] at hE
 have hP:=partsE_is r
 refine zM (α:=Nat) (λi=>[(1,Zp b1 0),(35,.slice r.nA r.needs.length r.nc),(36,YI (r.needs.length:Int)),(37,YI (i:Int))]) (λ_=>[rcB r b1]) (λi m=>(i<=r.needs.length∧∀ n∈r.needs.take i,gZ r.name n.nt=0)/\m=r.needs.length-i) 0 r.needs.length [0] ⟨⟨Nat.zero_le _,λy h=>by simp at h⟩,rfl⟩ ?_
 rintro i mm g kk ⟨⟨hi,hno⟩,hmm⟩ nx hkk
 subst hkk
 refine zB 38 [] ((i:Int)<(r.needs.length:Int)) (λh38=> ?_) (λh38=> ?_)
 ·have hj:i<r.needs.length:=by omega
  obtain ⟨eb,eo,hA,hel⟩:=hr.needs.elem wC i hj
  have hgo:=yQ (p:=λn:Nv=>gZ r.name n.nt=0) hj hno
  have hat:=dU (f:=λn:Nv=>gZ r.name n.nt) 0 hj hno
  have hsm:r.needs[i]∈r.needs:=List.getElem_mem hj
  have hel0:∀ w,YB W w->(loadVar 75 ⟨eb,eo+i*3+0,none⟩).run YP w= .ok (nvV r.needs[i]) w:=λw hw=>hel w hw _ 0 _ Kr
  have hra:=hr.any _ hsm;have hrf:=hr.wfs _ hsm;have hna:=hr.na _ hsm;have hnf:=hr.nf _ hsm;have hsw:=hr.sw _ hsm;have hsu:=hr.su _ hsm
  generalize r.needs[i]=n at hel0 hgo hat hra hrf hna hnf hsw hsu
  have hc:∀ w,YB W w->YC 65 #[nvV n,.string (mkS r.name)] w (YR (YI (gZ r.name n.nt)) w):=λw hb=>qNeed_any r.name n w (hra.on hb hb.size) (λu hu=>(hrf u hu).on hb hb.size) hna hnf hsw hsu (hK.on hb)
  refine zI 40 [] hA r.needs.length r.nc i 3 hj (zH 41 [] 75 eb (eo+i*3+0) (nvV n) (λw hO=>hel0 w hO.below) (zJ [] λb5=>z8 (v:=YI (gZ r.name n.nt)) [0,0,1] (λw hO=>hc w hO.below) (vP 47 [] (gZ r.name n.nt=0) (λh=> ?_) (λh=> ?_))))
  ·exact x_i 37 [] ((i+1:Nat):Int) (y8 [] [rcB r b1] (λw hO=>hO.past 1 _) (nx (i+1) (r.needs.length-(i+1)) [] Om ⟨⟨hj,hgo h⟩,rfl⟩ Kr Kr))
  ·refine zS [] (YI (gZ r.name n.nt)) (YI (i:Int)) λw hO=>⟨?_,hO.below⟩
   rw [hat h] at hP
   rw [if_pos h] at hP
   rw [hE,if_pos (by rw [hP];exact h),hP];simp only [Nat.zero_add]
 have h1:=jU (k:=0) (xF (p:=λn:Nv=>gZ r.name n.nt=0) (show r.needs.length<=i by omega) hno)
 rw [h1,if_neg (by simp)] at hP
 clear nx
 refine zM (α:=Nat) (λi=>[(1,Zp b1 0),(52,.slice r.bA r.bars.length r.bc),(53,YI (r.bars.length:Int)),(54,YI (i:Int))]) (λ_=>[rcB r b1]) (λi m=>(i<=r.bars.length∧∀ b∈r.bars.take i,bD r.name b.bt=0)/\m=r.bars.length-i) 0 r.bars.length [0] ⟨⟨Nat.zero_le _,λy h=>by simp at h⟩,rfl⟩ ?_
 rintro i2 m2 g2 kk ⟨⟨hi2,hno2⟩,hmm2⟩ nx hkk
 subst hkk
 refine zB 55 [] ((i2:Int)<(r.bars.length:Int)) (λh55=> ?_) (λh55=> ?_)
 ·have hj:i2<r.bars.length:=by omega
  obtain ⟨eb,eo,hA,hel⟩:=hr.bars.elem bvC_len i2 hj
  have hgo:=yQ (p:=λb:Bv=>bD r.name b.bt=0) hj hno2
  have hat:=dU (f:=λb:Bv=>bD r.name b.bt) 0 hj hno2
  have hsm:r.bars[i2]∈r.bars:=List.getElem_mem hj
  have hel0:∀ w,YB W w->(loadVar 77 ⟨eb,eo+i2*3+0,none⟩).run YP w= .ok (bvV r.bars[i2]) w:=λw hw=>hel w hw _ 0 _ Kr
  have hsb:=hr.sb _ hsm
  generalize r.bars[i2]=b at hel0 hgo hat hsb
  have hc:∀ w,YB W w->YC 66 #[bvV b,.string (mkS r.name)] w (YR (YI (bD r.name b.bt)) w):=λw hb=>qBar_any b r.name w hsb (hK.on hb)
  refine zI 57 [] hA r.bars.length r.bc i2 3 hj (zH 58 [] 77 eb (eo+i2*3+0) (bvV b) (λw hO=>hel0 w hO.below) (zJ [] λb8=>z8 (v:=YI (bD r.name b.bt)) [0,0,1] (λw hO=>hc w hO.below) (vP 64 [] (bD r.name b.bt=0) (λh=> ?_) (λh=> ?_))))
  ·exact x_i 54 [] ((i2+1:Nat):Int) (y8 [] [rcB r b1] (λw hO=>hO.past 1 _) (nx (i2+1) (r.bars.length-(i2+1)) [] Om ⟨⟨hj,hgo h⟩,rfl⟩ Kr Kr))
  ·refine zS [] (YI (bD r.name b.bt)) (YI (i2:Int)) λw hO=>⟨?_,hO.below⟩
   rw [hat h] at hP
   rw [if_pos h] at hP
   rw [hE,if_pos (by rw [hP];exact h),hP];simp only [Nat.zero_add]
 have h2:=jU (k:=0) (xF (p:=λb:Bv=>bD r.name b.bt=0) (show r.bars.length<=i2 by omega) hno2)
 rw [h2,if_neg (by simp)] at hP
 clear nx
 have hM:∀ w,YB W w->YC 67 #[.slice r.fA r.fts.length r.fc] w (YR (.bool (dP (yT r.fts))) w):=λw hb=>fMay_at r.fA r.fc r.fts w (hr.fts.on hb hb.size)
 refine z8 (v:= .bool (dP (yT r.fts))) [0] (λw hO=>hM w hO.below) (zP 70 (dP (yT r.fts)) (λe3=> ?_) (λe3=> ?_))
 rotate_left
 ·rw [if_pos e3] at hP
  exact zS [] (YI 11) (YI 0) λw hO=>⟨by rw [hE,if_pos (by rw [hP];decide),hP],hO.below⟩
 rw [if_neg (by simp [e3])] at hP
 refine zM (α:=Nat) (λi=>[(1,Zp b1 0),(73,.slice r.fA r.fts.length r.fc),(74,YI (r.fts.length:Int)),(75,YI (i:Int))]) (λ_=>[rcB r b1]) (λi m=>(i<=r.fts.length∧∀ f∈r.fts.take i,yV (xY r.rt.needs) f.of=0)/\m=r.fts.length-i) 0 r.fts.length [0] ⟨⟨Nat.zero_le _,λy h=>by simp at h⟩,rfl⟩ ?_
 rintro i3 m3 g3 kk ⟨⟨hi3,hno3⟩,hmm3⟩ nx hkk
 subst hkk
 refine zB 76 [] ((i3:Int)<(r.fts.length:Int)) (λh76=> ?_) (λh76=> ?_)
 ·have hj:i3<r.fts.length:=by omega
  obtain ⟨eb,eo,hA,hel⟩:=hr.fts.top.elem wE i3 hj
  have hgo:=yQ (p:=λf:Fv=>yV (xY r.rt.needs) f.of=0) hj hno3
  have hat:=dU (f:=λf:Fv=>yV (xY r.rt.needs) f.of) 0 hj hno3
  have hsm:r.fts[i3]∈r.fts:=List.getElem_mem hj
  have hel0:∀ w,YB W w->(loadVar 79 ⟨eb,eo+i3*2+0,none⟩).run YP w= .ok (fvV r.fts[i3]) w:=λw hw=>hel w hw _ 0 _ Kr
  have hru:=hr.fts.each _ hsm;have hmu:=hr.fts.m _ hsm;have htu:=hr.fts.text _ hsm
  generalize r.fts[i3]=u at hel0 hgo hat hru hmu htu
  have hc:∀ w,YB W w->YC 68 #[.slice u.A u.of.length u.cap,.slice r.nA r.needs.length r.nc] w (YR (YI (yV (xY r.rt.needs) u.of)) w):=λw hb=>qItems_any u.A u.cap u.of r.nA r.nc r.needs w (hru.on hb hb.size) Om htu (hr.needs.on hb hb.size) hnn λn hn=>(hr.any n hn).on hb hb.size
  refine zI 78 [] hA r.fts.length r.fc i3 2 hj (zH 79 [] 79 eb (eo+i3*2+0) (fvV u) (λw hO=>hel0 w hO.below) (zJ [] λb9=>z8 (v:=YI (yV (xY r.rt.needs) u.of)) [0,0,1] (λw hO=>hc w hO.below) (vP 86 [] (yV (xY r.rt.needs) u.of=0) (λh=> ?_) (λh=> ?_))))
  ·exact x_i 75 [] ((i3+1:Nat):Int) (y8 [] [rcB r b1] (λw hO=>hO.past 1 _) (nx (i3+1) (r.fts.length-(i3+1)) [] Om ⟨⟨hj,hgo h⟩,rfl⟩ Kr Kr))
  ·refine zS [] (YI (yV (xY r.rt.needs) u.of)) (YI (i3:Int)) λw hO=>⟨?_,hO.below⟩
   rw [hat h] at hP
   rw [hE,if_pos (by rw [hP];exact h),hP];simp only [Nat.zero_add]
 rw [jU (k:=0) (xF (p:=λf:Fv=>yV (xY r.rt.needs) f.of=0) (show r.fts.length<=i3 by omega) hno3)] at hP
 clear nx
 have h33:(gE r.rt).1=0:=by rw [hP]
 rw [if_neg (λh=>h h33)] at hE
 have hs:(kS r.rt).length<=100000000:=rec_small (r:=r.rt) hsn.1 (vprint_short hsn.2.1 hsn.2.2) (by simp only [Rv.rt,List.length_map];omega) (by simp only [Rv.rt,List.length_map];omega) h33 (λf hf s hs=>by
  obtain ⟨y,hy,rfl⟩:=List.mem_map.1 hf
  exact hr.fts.text y hy s hs)
 have hne:=parts_ne h33
 have c4:∀ w,YB W w->YC 58 #[rvV r] w (YR (.string (mkS (kS r.rt))) w):=λw hb=>qText_any r w (hr.on hb hb.size) (λn hn u hu=>hne n.nt (List.mem_map.2 ⟨n,hn,rfl⟩) u.wt (List.mem_map.2 ⟨u,hu,rfl⟩)) hs (hK.on hb)
 have hz:(mkS (kS r.rt)).size=(kS r.rt).length:=bY _
 refine z8 (v:= .string (mkS (kS r.rt))) [0] (λw hO=>c4 w hO.below) (zB 93 [] (((mkS (kS r.rt)).size:Int)>4096) (λh93=> ?_) (λh93=> ?_))
 ·exact zS [] (YI 3) (YI 0) λw hO=>⟨by rw [hE,if_pos Om],hO.below⟩
 ·exact zS [] (YI 0) (YI 0) λw hO=>⟨by rw [hE,if_neg Om],hO.below⟩
theorem qPrint_any (r:Rv)(W:World)(hr:RcIn W W.heap.size r)(hK:RecLib W):YC 29 #[rvV r] W (YR (.tuple #[.string (mkS (printR r.rt)),YI (zV r.rt).1]) W):=by
 have c1:∀ w,YB W w->YC 33 #[rvV r] w (YR (.tuple #[YI (zV r.rt).1,YI (zV r.rt).2]) w):=λw hb=>qCheck_any r w (hr.on hb hb.size) (hK.on hb)
 refine zD Tryz.func29 (yK [] λb1=>z8 (v:= .tuple #[YI (zV r.rt).1,YI (zV r.rt).2]) [0] (λw hO=>c1 w hO.below) (vP 12 [] ((zV r.rt).1=0) (λh=> ?_) (λh=> ?_)))
 rotate_left
 ·exact zS [] (.string ⟨#[]⟩) (YI (zV r.rt).1) λw hO=>⟨by rw [show printR r.rt=[] from if_neg h];rfl,hO.below⟩
 have hne:=parts_ne (dW h).2.2.2.2.1
 have c2:∀ w,YB W w->YC 58 #[rvV r] w (YR (.string (mkS (kS r.rt))) w):=λw hb=>qText_any r w (hr.on hb hb.size) (λn hn u hu=>hne n.nt (List.mem_map.2 ⟨n,hn,rfl⟩) u.wt (List.mem_map.2 ⟨u,hu,rfl⟩)) (by have:=(dW h).2.2.2.2.2;omega) (hK.on hb)
 exact z8 (v:= .string (mkS (kS r.rt))) [0] (λw hO=>c2 w hO.below) (zS [] (.string (mkS (kS r.rt))) (YI 0) λw hO=>⟨by rw [show printR r.rt=kS r.rt from if_pos h,h],hO.below⟩)
end
section
set_option linter.unnecessarySimpa false
theorem vPins_any (A:Option Addr)(cap:Nat)(ps:List Pn)(W:World)(hx:PmIn W W.heap.size A ps):YC 45 #[.slice A ps.length cap] W (YR (YI (tV ps:Int)) W):=by
 have hn5:=hx.n
 obtain ⟨r,hr⟩:∃ r,tV ps=r:=⟨_,rfl⟩
 have hend:(∀ j,j<ps.length->okP ps j=true)->r=ps.length:=λh=>hr▸fbad_all h
 have hat:∀ i,i<ps.length->(∀ j,j<i->okP ps j=true)->okP ps i=false->r=i:=λi hi h0 h1=>hr▸fbad_at hi h0 h1
 rw [hr]
 refine zD Tryz.func45 (zM (α:=Nat) (λi=>[(0,.slice A ps.length cap),(3,.string (mkS (yR (ps.map Pn.name) i))),(6,.slice A ps.length cap),(7,YI (ps.length:Int)),(8,YI (i:Int))]) (λ_=>[]) (λi m=>(i<=ps.length∧∀ j,j<i->okP ps j=true)/\m=ps.length-i) 0 ps.length [] ⟨⟨Nat.zero_le _,λj h=>by omega⟩,rfl⟩ ?_)
 rintro i mm g kk ⟨⟨hi,hok⟩,hmm⟩ nx hkk
 subst hkk
 refine zB 9 [] ((i:Int)<(ps.length:Int)) (λh9=> ?_) (λh9=> ?_)
 rotate_left
 ·exact z7 [] (YI (ps.length:Int)) λw hO=>⟨by rw [hend λj hj=>hok j Om],hO.below⟩
 have hj:i<ps.length:=by omega
 have hno:okP ps i=false→∀ w,YB W w->(Ending.returned (YI (i:Int))= .returned (YI (r:Int)))/\YB W w:=λhf w hb=>⟨by rw [hat i hj hok hf],hb⟩
 obtain ⟨eb,eo,hA,hel⟩:=hx.top.elem pZ i hj
 have hel0:∀ w,YB W w->(loadVar 57 ⟨eb,eo+i*2+0,none⟩).run YP w= .ok (pmV ps[i]) w:=λw hw=>hel w hw _ 0 _ Kr
 have hq:okP ps i=(nmL ps[i].name && nmL ps[i].shelf && Op.bytesLess (yR (ps.map Pn.name) i) ps[i].name):=by unfold okP;rw [List.getElem?_eq_getElem hj]
 have hsn:=hx.sn _ (List.getElem_mem hj)
 have hl1:yR (ps.map Pn.name) (i+1)=ps[i].name:=by rw [mN (by simpa using hj),List.getElem_map]
 generalize ps[i]=u at*
 have cN:∀ w,YC 63 #[.string (mkS u.name)] w (YR (.bool (nmL u.name)) w):=λw=>dT u.name w hsn.1
 have cS:∀ w,YC 63 #[.string (mkS u.shelf)] w (YR (.bool (nmL u.shelf)) w):=λw=>dT u.shelf w hsn.2
 refine zI 11 [] hA ps.length cap i 2 hj (zH 12 [] 57 eb (eo+i*2+0) (pmV u) (λw hO=>hel0 w hO.below) (zJ [] λb5=>z8 (v:= .bool (nmL u.name)) [0,0] (λw hO=>cN w) (zP 15 (nmL u.name) (λh15=> ?_) (λh15=> ?_))))
 rotate_left
 ·exact z7 [] (YI (i:Int)) λw hO=>hno (by rw [hq,h15];rfl) w hO.below
 refine z8 (v:= .bool (nmL u.shelf)) [0] (λw hO=>cS w) (zP 20 (nmL u.shelf) (λh20=> ?_) (λh20=> ?_))
 rotate_left
 ·exact z7 [] (YI (i:Int)) λw hO=>hno (by rw [hq,h15,h20];rfl) w hO.below
 refine x_sle 27 [0] u.name (yR (ps.map Pn.name) i) (zP 27 (!Op.bytesLess (yR (ps.map Pn.name) i) u.name) (λh27=> ?_) (λh27=> ?_))
 ·exact z7 [] (YI (i:Int)) λw hO=>hno (by rw [hq,h15,h20];simpa using h27) w hO.below
 have hst:okP ps i=true:=by rw [hq,h15,h20];simpa using h27
 refine v8 3 [0] (.string (mkS u.name)) (.string (mkS (yR (ps.map Pn.name) (i+1)))) (by rw [hl1]) ?_
 exact x_i 8 [] ((i+1:Nat):Int) (y8 [] [] (λw hO=>hO.no) (nx (i+1) (ps.length-(i+1)) [] Om ⟨⟨hj,λj hji=>by
  rcases Nat.lt_succ_iff_lt_or_eq.1 hji with h|h
  ·exact hok j h
  ·rw [h];exact hst⟩,rfl⟩ Kr Kr))
theorem badH_at {l:List Ho}{i:Nat}(hi:i<l.length)(h0:∀ j,j<i->(bP l j && mK l j)=true)(h1:(bP l i && mK l i)=false):d7 l=(if bP l i then 6 else 4,(i:Int)):=by
 have e:badHi l=i:=fbad_at (f:=λi=>bP l i && mK l i) hi h0 h1
 unfold d7
 rw [e,if_pos hi]
theorem badH_all {l:List Ho}(h:∀ j,j<l.length->(bP l j && mK l j)=true):d7 l=(0,0):=by
 have e:badHi l=l.length:=fbad_all (f:=λi=>bP l i && mK l i) h
 unfold d7
 rw [e,if_neg (Nat.lt_irrefl _)]
theorem mHolds_any (A:Option Addr)(cap:Nat)(ps:List Ho)(W:World)(hx:HoIn W W.heap.size A ps)(hK:RecLib W):YC 46 #[.slice A ps.length cap] W (YR (.tuple #[YI (d7 ps).1,YI (d7 ps).2]) W):=by
 have hn5:=hx.n
 obtain ⟨r,hr⟩:∃ r,d7 ps=r:=⟨_,rfl⟩
 have hend:(∀ j,j<ps.length->(bP ps j && mK ps j)=true)->r=(0,0):=λh=>hr▸badH_all h
 have hat:∀ i,i<ps.length->(∀ j,j<i->(bP ps j && mK ps j)=true)->(bP ps i && mK ps i)=false->r=(if bP ps i then 6 else 4,(i:Int)):=λi hi h0 h1=>hr▸badH_at hi h0 h1
 rw [hr]
 refine zD Tryz.func46 (zM (α:=Nat) (λi=>[(4,.string (mkS (yR (ps.map Ho.name) i))),(7,.slice A ps.length cap),(8,YI (ps.length:Int)),(9,YI (i:Int))]) (λ_=>[]) (λi m=>(i<=ps.length∧∀ j,j<i->(bP ps j && mK ps j)=true)/\m=ps.length-i) 0 ps.length [] ⟨⟨Nat.zero_le _,λj h=>by omega⟩,rfl⟩ ?_)
 rintro i mm g kk ⟨⟨hi,hok⟩,hmm⟩ nx hkk
 subst hkk
 refine zB 10 [] ((i:Int)<(ps.length:Int)) (λh9=> ?_) (λh9=> ?_)
 rotate_left
 ·exact zS [] (YI 0) (YI 0) λw hO=>⟨by rw [hend λj hj=>hok j Om],hO.below⟩
 have hj:i<ps.length:=by omega
 have hno:∀ z:Int,r=(z,(i:Int))→∀ w,YB W w->(Ending.returned (.tuple #[YI z,YI (i:Int)])= .returned (.tuple #[YI r.1,YI r.2]))/\YB W w:=λz h w hb=>⟨by rw [h],hb⟩
 have hat:=hat i hj hok
 obtain ⟨eb,eo,hA,hel⟩:=hx.top.elem tC i hj
 have hel0:∀ w,YB W w->(loadVar 59 ⟨eb,eo+i*2+0,none⟩).run YP w= .ok (hoV ps[i]) w:=λw hw=>hel w hw _ 0 _ Kr
 have hq1:bP ps i=(nmL ps[i].name && Op.bytesLess (yR (ps.map Ho.name) i) ps[i].name):=by unfold bP;rw [List.getElem?_eq_getElem hj]
 have hq2:mK ps i=yG ps[i].rg:=by unfold mK;rw [List.getElem?_eq_getElem hj]
 have hsn:=hx.sn _ (List.getElem_mem hj)
 have hl1:yR (ps.map Ho.name) (i+1)=ps[i].name:=by rw [mN (by simpa using hj),List.getElem_map]
 generalize ps[i]=u at*
 have cN:∀ w,YC 63 #[.string (mkS u.name)] w (YR (.bool (nmL u.name)) w):=λw=>dT u.name w hsn.1
 have cR:∀ w,YB W w->YC 87 #[.string (mkS u.rg)] w (YR (.bool (yG u.rg)) w):=λw hb=>qRange_any u.rg w hsn.2 (hK.on hb)
 refine zI 12 [] hA ps.length cap i 2 hj (zH 13 [] 59 eb (eo+i*2+0) (hoV u) (λw hO=>hel0 w hO.below) (zJ [] λb6=>z8 (v:= .bool (nmL u.name)) [0,0] (λw hO=>cN w) (zP 17 (nmL u.name) (λh17=> ?_) (λh17=> ?_))))
 rotate_left
 ·exact zS [] (YI 4) (YI (i:Int)) λw hO=>hno 4 (by have h:=hat (by rw [hq1,h17];rfl);rw [hq1,h17] at h;exact h) w hO.below
 refine x_sle 23 [0] u.name (yR (ps.map Ho.name) i) (zP 23 (!Op.bytesLess (yR (ps.map Ho.name) i) u.name) (λh23=> ?_) (λh23=> ?_))
 ·have h23':bP ps i=false:=by rw [hq1,h17];simpa using h23
  exact zS [] (YI 4) (YI (i:Int)) λw hO=>hno 4 (by have h:=hat (by rw [h23'];rfl);rw [h23'] at h;exact h) w hO.below
 have h23':bP ps i=true:=by rw [hq1,h17];simpa using h23
 refine z8 (v:= .bool (yG u.rg)) [0] (λw hO=>cR w hO.below) (zP 29 (yG u.rg) (λh29=> ?_) (λh29=> ?_))
 rotate_left
 ·exact zS [] (YI 6) (YI (i:Int)) λw hO=>hno 6 (by have h:=hat (by rw [h23',hq2,h29];rfl);rw [h23'] at h;exact h) w hO.below
 have hst:(bP ps i && mK ps i)=true:=by rw [h23',hq2,h29];rfl
 refine v8 4 [0] (.string (mkS u.name)) (.string (mkS (yR (ps.map Ho.name) (i+1)))) (by rw [hl1]) ?_
 exact x_i 9 [] ((i+1:Nat):Int) (y8 [] [] (λw hO=>hO.no) (nx (i+1) (ps.length-(i+1)) [] Om ⟨⟨hj,λj hji=>by
  rcases Nat.lt_succ_iff_lt_or_eq.1 hji with h|h
  ·exact hok j h
  ·rw [h];exact hst⟩,rfl⟩ Kr Kr))
theorem mCheck_any (x:Mv)(W:World)(hx:MnIn W W.heap.size x)(hK:RecLib W):YC 19 #[mvV x] W (YR (.tuple #[YI (yJ x.mt).1,YI (yJ x.mt).2]) W):=by
 have hp:=hx.pin.n
 have hh:=hx.hold.n
 have cR:∀ w,YB W w->YC 33 #[rvV x.rec'] w (YR (.tuple #[YI (zV x.rec'.rt).1,YI (zV x.rec'.rt).2]) w):=λw hb=>qCheck_any x.rec' w (hx.rc.on hb hb.size) (hK.on hb)
 have cP:∀ w,YB W w->YC 45 #[.slice x.pA x.pins.length x.pc] w (YR (YI (tV x.pins:Int)) w):=λw hb=>vPins_any x.pA x.pc x.pins w (hx.pin.on hb hb.size)
 have cH:∀ w,YB W w->YC 46 #[.slice x.hA x.holds.length x.hc] w (YR (.tuple #[YI (d7 x.holds).1,YI (d7 x.holds).2]) w):=λw hb=>mHolds_any x.hA x.hc x.holds w (hx.hold.on hb hb.size) (hK.on hb)
 have hE:yJ x.mt=if (zV x.rec'.rt).1≠0 then zV x.rec'.rt else if 8<x.pins.length\/8<x.holds.length then (3,0) else if tV x.pins<x.pins.length then (15,(tV x.pins:Int)) else d7 x.holds:=rfl
 rw [hE]
 refine zD Tryz.func19 (yK [] λb1=>z8 (v:= .tuple #[YI (zV x.rec'.rt).1,YI (zV x.rec'.rt).2]) [0] (λw hO=>cR w hO.below) (vP 14 [] ((zV x.rec'.rt).1=0) (λh=> ?_) (λh=> ?_)))
 rotate_left
 ·exact zS [] (YI (zV x.rec'.rt).1) (YI (zV x.rec'.rt).2) λw hO=>⟨by rw [if_pos h],hO.below⟩
 rw [if_neg (λq=>q h)]
 refine zB 20 [0] ((x.pins.length:Int)>8) (λh1=> ?_) (λh1=> ?_)
 ·exact zS [] (YI 3) (YI 0) λw hO=>⟨by rw [if_pos (.inl Om)],hO.below⟩
 refine zB 25 [0] ((x.holds.length:Int)>8) (λh2=> ?_) (λh2=> ?_)
 ·exact zS [] (YI 3) (YI 0) λw hO=>⟨by rw [if_pos (.inr Om)],hO.below⟩
 rw [if_neg Om]
 refine z8 (v:=YI (tV x.pins:Int)) [0] (λw hO=>cP w hO.below) (zB 34 [0] ((tV x.pins:Int)<(x.pins.length:Int)) (λh3=> ?_) (λh3=> ?_))
 ·exact zS [] (YI 15) (YI (tV x.pins:Int)) λw hO=>⟨by rw [if_pos Om],hO.below⟩
 rw [if_neg Om]
 exact z8 (v:= .tuple #[YI (d7 x.holds).1,YI (d7 x.holds).2]) [0] (λw hO=>cH w hO.below) (zS [] (YI (d7 x.holds).1) (YI (d7 x.holds).2) λw hO=>⟨rfl,hO.below⟩)
end
section
def BuS (b:Nat)(l:YL)(ob:List Blk):Prop:=
 ∃ p v g,ob=⟨b, #[p,v],98⟩::g/\(p= .pointer none\/p= .pointer (some ⟨b,0,none⟩))/\Sl 5 1 v l.length (Lib.byteCells l) g
theorem BuS.new (b:Nat):BuS b [] [⟨b, #[.pointer none,.slice none 0 0],98⟩]:=⟨_,_,[],rfl,.inl rfl,Sl.nil _ _⟩
theorem sizeBuS:(Tryz.prog.info? 98).map (·.size)=some 2:=by kernel_rfl
theorem liesBuS:liesAt YP Tryz.prog.depth 98 (2/Tryz.prog.cellsOf 98) 0 98 1=true:=by kernel_rfl
theorem copyCheck_newS (b:Nat)(w:World)(h0:w.cell? ⟨b,0,none⟩=some (.pointer none))(hsh:w.shape? b=some (98,2))(hfz:w.frozen? ⟨b,0,none⟩=false):
  YC 89 #[.pointer (some ⟨b,0,none⟩)] w λe w'=>e= .returned (.tuple #[])/\w'=w.setCell ⟨b,0,none⟩ (.pointer (some ⟨b,0,none⟩)):=by
 obtain ⟨j,hj,hjs⟩:=Option.map_eq_some_iff.1 sizeBuS
 go_enter Tryz.func89,Tryz.ntmps89
 go_wp2
 rw [Lib.run_to_unsafe w ⟨b,0,none⟩ Tryz.underlying95 Tryz.underlying196 hj (by rw [hjs];decide) hsh (Nat.zero_lt_succ 1)]
 simp only [Result.andThen]
 rw [Oper.upon_value]
 go_wp2
 rw [run_callFunc_extern Tryz.func140 Kr Kr Kr (e:=Extern.AbiNoEscape.same) Kr]
 rw [Lib.run_noEscape]
 simp only [Result.andThen]
 rw [Oper.upon_value]
 go_wp2
 rw [Lib.run_from_unsafe w ⟨b,0,none⟩ Tryz.underlying196 Tryz.underlying95 hj hsh liesBuS]
 simp only [Result.andThen]
 rw [Oper.upon_value]
 go_wp2
 go_end0
 exact ⟨rfl,rfl⟩
theorem bcheck_any (b:Nat)(p v:Value)(R:List Blk)(M:List Nat)(W w:World)(hp:p= .pointer none\/p= .pointer (some ⟨b,0,none⟩))(hO:Own M W w (⟨b, #[p,v],98⟩::R)):
  YC 89 #[.pointer (some ⟨b,0,none⟩)] w λe w'=>e= .returned (.tuple #[])/\Own M W w' (⟨b, #[.pointer (some ⟨b,0,none⟩),v],98⟩::R):=by
 have hb:w.heap[b]?=some (.cells #[p,v] 98 (0,0)):=hO.held ⟨b, #[p,v],98⟩ (List.mem_cons_self ..)
 have c0:w.cell? ⟨b,0,none⟩=some p:=by rw [Lib.cell_of_heap hb];rfl
 rcases hp with rfl|rfl
 ·refine (copyCheck_newS b w c0 (by simp [World.shape?,hb]) (Lib.frozen_of_heap hb 0)).mono λe w' ⟨he,hw⟩=>⟨he, ?_⟩
  rw [hw,setCell_eq_setRow w b 0 _ _ _ _ hb]
  exact hO.put (i:=0) (x:=⟨b, #[.pointer none,v],98⟩) rfl _
 ·exact (mR b w c0).mono λe w' ⟨he,hw⟩=>⟨he,hw▸hO⟩
theorem infoU8S:∃ i,Tryz.prog.info? 5=some i/\i.zero=some (.int .u8 0)/\i.size=1/\i.bytes=1:=info_parts infoByte
theorem buS_own {B b:Nat}{l:YL}{ob:List Blk}{M:List Nat}{W w:World}(hB:BuS b l ob)(hO:Own M W w ob)(hM:∀ x∈ob,B<=x.b):Lib.IsBuilder 98 5 B b (Lib.byteCells l) w:=by
 obtain ⟨p,v,g,rfl,hp,hv⟩:=hB
 have hb:w.heap[b]?=some (.cells #[p,v] 98 (0,0)):=hO.held ⟨b, #[p,v],98⟩ (List.mem_cons_self ..)
 have key:Lib.BuilderAt 98 5 B b p (Lib.byteCells l) w:=by
  refine ⟨hM ⟨b, #[p,v],98⟩ (List.mem_cons_self ..),v,hb, ?_, ?_⟩
  ·rw [Lib.byteCells_length]
   refine ⟨hv.1, ?_⟩
   rcases hv.2 with ⟨h1,h2,_⟩|⟨k,cap,cur,h1,rfl,h3,h4,h5,h6⟩
   ·exact .inl ⟨h1,h2⟩
   ·exact .inr ⟨k,cap,cur,h1,hM ⟨k,cur,5⟩ (by simp),hO.held ⟨k,cur,5⟩ (by simp),h3,h4,h5,h6⟩
  ·rcases hv.2 with ⟨rfl,_,_⟩|⟨k,cap,cur,rfl,rfl,_⟩
   ·simp [Value.ownBlock]
   ·intro e
    have hk:k=b:=by simpa [Value.ownBlock] using e
    have:=hO.apart
    simp [hk] at this
 rcases hp with rfl|rfl
 ·exact .inl key
 ·exact .inr key
theorem bstring_any0 (B b:Nat)(l:YL)(w:World)(h:Lib.IsBuilder 98 5 B b (Lib.byteCells l) w)(h0:l≠[]):
  YC 50 #[.pointer (some ⟨b,0,none⟩)] w λe w'=>e= .returned (.string ⟨l.toArray⟩)/\Below B w w':=by
 obtain ⟨p,hB,v,hbk,hown,hne⟩:∃ p,Lib.BuilderAt 98 5 B b p (Lib.byteCells l) w:=h.elim (λq=>⟨_,q⟩) (λq=>⟨_,q⟩)
 rcases hown.2 with ⟨_,hz⟩|⟨g,cap,cur,rfl,hbg,hg,hnc,hcm,hcs,htake⟩
 ·exact absurd hz (tH h0)
 rw [Lib.byteCells_length] at hown hnc hbk htake
 have hl0:l.length≠0:=λe=>h0 (List.eq_nil_of_length_eq_zero e)
 have hg':w.drew.heap[g]?=some (.cells cur 5 (0,0)):=hg
 have c1:w.drew.cell? ⟨b,1,none⟩=some (.slice (some ⟨g,0,none⟩) l.length cap):=by
  rw [Lib.cell_of_heap (show w.drew.heap[b]?=_ from hbk)];rfl
 have hSD:=Lib.run_unsafeSliceData_row (P:=YP) w.drew #[96] 146 ⟨g,0,none⟩ l.length cap Om
 have hUS:=Lib.run_unsafeString_row (P:=YP) w.drew 146 3 9 5 Tryz.underlying146 Kr g cur.size (by unfold World.shape?;rw [hg']) l h0 Om (by unfold maxLen at hcm;omega)
  (λj x hx=>hown.cells (g:=g) rfl j (.int .u8 x.toNat) (by simp [Lib.byteCells,hx]))
 go_enter Tryz.func50,Tryz.ntmps50
 go_wp2
 have mixed:Tryz.prog.follows .mixedOrders=true:=by kernel_rfl
 go_region_o
 all_goals
  go_wp2
  go_ret
  have hf:=Lib.below_freeze (Go.RowKit.Below.drew (Go.RowKit.Below.refl B w)) (p:=⟨g,0,none⟩) hbg l.length
  exact ⟨rfl,hf.os,hf.tape,hf.output,hf.size,by rw [tD];exact Nat.le_succ _,hf.block⟩
theorem bstring_any (b:Nat)(l:YL)(ob:List Blk)(W w:World)(hB:BuS b l ob)(hO:Own [] W w ob)(h0:l≠[]):
  YC 50 #[.pointer (some ⟨b,0,none⟩)] w λe w'=>e= .returned (.string (mkS l))/\Own [] W w' []:=
 (bstring_any0 W.heap.size b l w (buS_own hB hO λx hx=>(hO.base x hx).elim id λq=>by simp at q) h0).mono λe w' ⟨he,hb⟩=>by
  have hb2:=hO.below.trans hb
  exact ⟨he,hb2.os,hb2.tape,hb2.output,hb2.size,hb2.drawn,λk hk _=>hb2.block k hk,by simp,by simp,by simp⟩
theorem bWrite_any (b:Nat)(l:YL)(s:YL)(ob:List Blk)(W:World)(hB:BuS b l ob)(hO:Own (ob.map Blk.b) W W ob)(hl:l.length<=1000000000000)(hs:s.length<=1000000000000):
  YC 49 #[.pointer (some ⟨b,0,none⟩),.string (mkS s)] W λe w'=>∃ ob',e= .returned (.tuple #[YI ((mkS s).size:Int),.nilIface])/\BuS b (l++s) ob'/\Own (ob.map Blk.b) W w' ob':=by
 obtain ⟨p,v,g,rfl,hp,hv⟩:=hB
 obtain ⟨A,cap,rfl⟩:=Sl.form hv
 have hsz:=zQ s
 refine calls_okL (n:=19) hO Tryz.func49 rfl Kr Kr (ZO (Zv (YI 0) (Zv (.nilIface) (ZR (Zv (Zp b 0) (Zr (k:=89) (args:= #[Zp b 0]) (λv' L'=>v'= .tuple #[]/\L'=⟨b, #[Zp b 0,.slice A l.length cap],98⟩::g) (λw hO=>(bcheck_any b p _ _ _ _ w hp hO).mono λe w' ⟨k1,k2⟩=>⟨_,_,k1,⟨rfl,rfl⟩,k2⟩) (λv0 L0 hv0=> ?_)))))))
 obtain ⟨rfl,rfl⟩:=hv0
 refine ZR (Zv (Zp b 0) (Zv (Zp b 0) (Zv (Zp b 0) (Zv (Zp b 1) (Zl 0 ⟨b, #[Zp b 0,.slice A l.length cap],98⟩ (off:=1) (.slice A l.length cap) (Zv (.string (mkS s)) ?_))))))
 obtain ⟨i0,e1,e2,e3,e4⟩:=infoU8S
 refine bV (L':=[⟨b, #[Zp b 0,.slice A l.length cap],98⟩]++g++[]) (by simp) (s_appstr Kr rfl Tryz.underlying96 Tryz.underlying9 e1 e2 e3 e4 Kr hv (s:=mkS s) Kr (by rw [hsz];unfold maxLen;omega) (by rw [hsz];omega) (λv2 g2 hv2=> ?_))
 have hv3:Sl 5 1 v2 (l++s).length (Lib.byteCells (l++s)) g2:=by rw [List.length_append,Lib.byteCells_append];rw [hsz,jL] at hv2;exact hv2
 obtain ⟨A2,cap2,rfl⟩:=Sl.form hv3
 refine bV (L':=⟨b, #[Zp b 0,.slice A l.length cap],98⟩::(g2)) (by simp) (Zv (Zp b 0) (Zv (Zp b 1) (Zs 0 ⟨b, #[Zp b 0,.slice A l.length cap],98⟩ (off:=1) (.slice A2 ((l++s).length) cap2) (ZR (Zv (.string (mkS s)) (Zv (YI ((mkS s).size)) (Zv (YI ((mkS s).size)) (Zv (.nilIface) ?_))))))))
 exact ZN (gG (ZG (YI ((mkS s).size)) (.nilIface) Tryz.results49 (λw hO=>⟨_,rfl,⟨_,_,g2,rfl,.inr rfl,hv3⟩,hO⟩)))
end
section
set_option linter.unnecessarySimpa false
theorem bm_write (b:Nat)(l s:YL)(R ob:List Blk){M:List Nat}{W:World}(hB:BuS b l ob)(hl:l.length<=1000000000000)(hs:s.length<=1000000000000):∀ w,Own M W w (R++ob)->YC 49 #[.pointer (some ⟨b,0,none⟩),.string (mkS s)] w λe w'=>∃ v ob',e= .returned v/\BuS b (l++s) ob'/\Own (ob.map Blk.b) w w' ob':=
 λw hO=>(bWrite_any b l s ob w hB (Own.lentR hO) hl hs).mono λe w' ⟨ob',k1,k2,k3⟩=>⟨_,ob',k1,k2,k3⟩
theorem recT_ne (r:Rt):kS r≠[]:=λq=>by
 have h:=congrArg List.length q
 unfold kS jB at h
 simp only [List.length_append,List.length_nil] at h
 have h8:0<txPack.length:=by decide
 omega
theorem mPrint_any (x:Mv)(W:World)(hx:MnIn W W.heap.size x)(hK:RecLib W):YC 21 #[mvV x] W (YR (.tuple #[.string (mkS (prMn x.mt)),YI (yJ x.mt).1]) W):=by
 have cC:∀ w,YB W w->YC 19 #[mvV x] w (YR (.tuple #[YI (yJ x.mt).1,YI (yJ x.mt).2]) w):=λw hb=>mCheck_any x w (hx.on hb hb.size) (hK.on hb)
 refine zD Tryz.func21 (yK [] λb1=>z8 (v:= .tuple #[YI (yJ x.mt).1,YI (yJ x.mt).2]) [0] (λw hO=>cC w hO.below) (vP 19 [] ((yJ x.mt).1=0) (λh=> ?_) (λh=> ?_)))
 rotate_left
 ·exact zS [] (.string ⟨#[]⟩) (YI (yJ x.mt).1) λw hO=>⟨by rw [show prMn x.mt=[] from if_neg h];rfl,hO.below⟩
 have hn5:=hx.pin.n
 have hh5:=hx.hold.n
 obtain ⟨_,hg⟩:=check_zeroM h
 have hrc:(zV x.rec'.rt).1=0:=hg.rc
 have hrl:=(dW hrc).2.2.2.2.2
 have hrn:=recT_ne x.rec'.rt
 have hpl:∀ i,((x.pins.take i).flatMap pnT).length<=8*38:=fm_tk (λp hp=>pnT_len (hg.pin p hp)) hg.np
 have hhl:∀ i,((x.holds.take i).flatMap gT).length<=8*119:=fm_tk (λp hp=>holdT_len (hg.hold p hp)) hg.nh
 have hp38:∀ p∈x.pins,(pnT p).length<=38:=λp hp=>pnT_len (hg.pin p hp)
 have hh119:∀ p∈x.holds,(gT p).length<=119:=λp hp=>holdT_len (hg.hold p hp)
 have cP:∀ w,YB W w->YC 29 #[rvV x.rec'] w (YR (.tuple #[.string (mkS (kS x.rec'.rt)),YI 0]) w):=λw hb=>by
  have h:=qPrint_any x.rec' w (hx.rc.on hb hb.size) (hK.on hb)
  rw [show printR x.rec'.rt=kS x.rec'.rt from if_pos hrc,hrc] at h;exact h
 rw [show prMn x.mt=manT x.mt from if_pos h,h]
 have hT:manT x.mt=kS x.rec'.rt++x.pins.flatMap pnT++x.holds.flatMap gT:=rfl
 rw [hT]
 generalize kS x.rec'.rt=front at*
 refine zJ [] λb6=>z8 (v:= .tuple #[.string (mkS front),YI 0]) [1] (λw hO=>cP w hO.below) (yN (k:=49) (args:= #[Zp b6 0,.string (mkS front)]) (Rr:=λ_ ob'=>BuS b6 ([]++front) ob') [] [⟨b6, #[.pointer none,.slice none 0 0],98⟩,mvB b1 x] [mvB b1 x] [⟨b6, #[.pointer none,.slice none 0 0],98⟩] (λw hO=>hO.perm (List.Perm.swap ..)) (bm_write b6 [] front [mvB b1 x] [⟨b6, #[.pointer none,.slice none 0 0],98⟩] (BuS.new b6) (by decide) Om) λv1 o1 h1=> ?_)
 rw [List.nil_append] at h1
 refine y8 [0] (mvB b1 x::o1) (λw hO=>hO.past 0 _) (zM (α:=Nat×List Blk) (λy=>[(1,Zp b1 0),(6,Zp b6 0),(30,.slice x.pA x.pins.length x.pc),(31,YI (x.pins.length:Int)),(32,YI (y.1:Int))]) (λy=>mvB b1 x::y.2) (λy m=>(y.1<=x.pins.length/\BuS b6 (front++(x.pins.take y.1).flatMap pnT) y.2)/\m=x.pins.length-y.1) (0,o1) x.pins.length [] ⟨⟨Nat.zero_le _,by simp only [List.take_zero,List.flatMap_nil,List.append_nil];exact h1⟩,rfl⟩ ?_)
 clear h1
 rintro ⟨i,o⟩ mm gg kk ⟨⟨hi,ho⟩,hmm⟩ nx hkk
 subst hkk
 replace hi:i<=x.pins.length:=hi
 replace ho:BuS b6 (front++(x.pins.take i).flatMap pnT) o:=ho
 refine zB 33 [] ((i:Int)<(x.pins.length:Int)) (λh33=> ?_) (λh33=> ?_)
 ·have hj:i<x.pins.length:=by omega
  obtain ⟨eb,eo,hA,hel⟩:=hx.pin.top.elem pZ i hj
  have hel0:∀ w,YB W w->(loadVar 57 ⟨eb,eo+i*2+0,none⟩).run YP w= .ok (pmV x.pins[i]) w:=λw hw=>hel w hw _ 0 _ Kr
  have hsn:=hx.pin.sn _ (List.getElem_mem hj)
  have hst:=v7 pnT hj
  have hw2:front++(x.pins.take i).flatMap pnT++pnT x.pins[i]=front++(x.pins.take (i+1)).flatMap pnT:=by rw [hst,List.append_assoc]
  have hul:=hp38 _ (List.getElem_mem hj)
  have hdl:=hpl i
  generalize x.pins[i]=u at*
  have hdl2:(front++(x.pins.take i).flatMap pnT).length<=330000:=by rw [List.length_append];omega
  generalize front++(x.pins.take i).flatMap pnT=done at*
  refine zI 34 [] hA x.pins.length x.pc i 2 hj (zH 35 [] 57 eb (eo+i*2+0) (pmV u) (λw hO=>hel0 w hO.below) (zJ [] λb10=>zR 38 [0,0] [112,105,110,32] u.name (zR 39 [] ([112,105,110,32]++u.name) [32] (zR 42 [0] ([112,105,110,32]++u.name++[32]) u.shelf (zR 43 [] ([112,105,110,32]++u.name++[32]++u.shelf) [10] ?_)))))
  refine yN (k:=49) (args:= #[Zp b6 0,.string (mkS (pnT u))]) (Rr:=λ_ ob'=>BuS b6 (done++pnT u) ob') [] ([⟨b10, #[.string (mkS u.name),.string (mkS u.shelf)],57⟩,mvB b1 x]++o) [⟨b10, #[.string (mkS u.name),.string (mkS u.shelf)],57⟩,mvB b1 x] o (λw hO=>hO) (bm_write b6 done (pnT u) _ o ho Om Om) λv2 o2 q1=> ?_
  rw [hw2] at q1
  exact x_i 32 [] ((i+1:Nat):Int) (y8 [] (mvB b1 x::o2) (λw hO=>hO.past 1 _) (nx (i+1,o2) (x.pins.length-(i+1)) [] Om ⟨⟨hj,q1⟩,rfl⟩ Kr Kr))
 rw [List.take_of_length_le (show x.pins.length<=i by omega)] at ho
 have hfl:(front++x.pins.flatMap pnT).length<=5000:=by
  have:=hpl x.pins.length
  rw [List.take_length] at this
  rw [List.length_append];omega
 have hfn:front++x.pins.flatMap pnT≠[]:=λq=>hrn (List.append_eq_nil_iff.1 q).1
 generalize front++x.pins.flatMap pnT=front2 at*
 clear nx
 refine y8 [0] (mvB b1 x::o) (λw hO=>hO.past 0 _) (zM (α:=Nat×List Blk) (λy=>[(6,Zp b6 0),(47,.slice x.hA x.holds.length x.hc),(48,YI (x.holds.length:Int)),(49,YI (y.1:Int))]) (λy=>mvB b1 x::y.2) (λy m=>(y.1<=x.holds.length/\BuS b6 (front2++(x.holds.take y.1).flatMap gT) y.2)/\m=x.holds.length-y.1) (0,o) x.holds.length [] ⟨⟨Nat.zero_le _,by simp only [List.take_zero,List.flatMap_nil,List.append_nil];exact ho⟩,rfl⟩ ?_)
 clear ho
 rintro ⟨i,o⟩ mm gg kk ⟨⟨hi,ho⟩,hmm⟩ nx hkk
 subst hkk
 replace hi:i<=x.holds.length:=hi
 replace ho:BuS b6 (front2++(x.holds.take i).flatMap gT) o:=ho
 refine zB 50 [] ((i:Int)<(x.holds.length:Int)) (λh50=> ?_) (λh50=> ?_)
 ·have hj:i<x.holds.length:=by omega
  obtain ⟨eb,eo,hA,hel⟩:=hx.hold.top.elem tC i hj
  have hel0:∀ w,YB W w->(loadVar 59 ⟨eb,eo+i*2+0,none⟩).run YP w= .ok (hoV x.holds[i]) w:=λw hw=>hel w hw _ 0 _ Kr
  have hsn:=(hx.hold.sn _ (List.getElem_mem hj)).1
  have hrg:=pg_short (hg.hold _ (List.getElem_mem hj)).2
  have hst:=v7 gT hj
  have hw2:front2++(x.holds.take i).flatMap gT++gT x.holds[i]=front2++(x.holds.take (i+1)).flatMap gT:=by rw [hst,List.append_assoc]
  have hul:=hh119 _ (List.getElem_mem hj)
  have hdl:=hhl i
  replace hrg:x.holds[i].rg.length<=96:=hrg
  generalize x.holds[i]=u at*
  have hdl2:(front2++(x.holds.take i).flatMap gT).length<=330000:=by rw [List.length_append];omega
  generalize front2++(x.holds.take i).flatMap gT=done at*
  refine zI 51 [] hA x.holds.length x.hc i 2 hj (zH 52 [] 59 eb (eo+i*2+0) (hoV u) (λw hO=>hel0 w hO.below) (zJ [] λb12=>zR 55 [0,0] [104,111,108,100,32] u.name (zR 56 [] ([104,111,108,100,32]++u.name) [32] (zR 59 [0] ([104,111,108,100,32]++u.name++[32]) u.rg (zR 60 [] ([104,111,108,100,32]++u.name++[32]++u.rg) [10] ?_)))))
  refine yN (k:=49) (args:= #[Zp b6 0,.string (mkS (gT u))]) (Rr:=λ_ ob'=>BuS b6 (done++gT u) ob') [] ([⟨b12, #[.string (mkS u.name),.string (mkS u.rg)],59⟩,mvB b1 x]++o) [⟨b12, #[.string (mkS u.name),.string (mkS u.rg)],59⟩,mvB b1 x] o (λw hO=>hO) (bm_write b6 done (gT u) _ o ho Om Om) λv2 o2 q1=> ?_
  rw [hw2] at q1
  exact x_i 49 [] ((i+1:Nat):Int) (y8 [] (mvB b1 x::o2) (λw hO=>hO.past 1 _) (nx (i+1,o2) (x.holds.length-(i+1)) [] Om ⟨⟨hj,q1⟩,rfl⟩ Kr Kr))
 rw [List.take_of_length_le (show x.holds.length<=i by omega)] at ho
 have hne:front2++x.holds.flatMap gT≠[]:=λq=>hfn (List.append_eq_nil_iff.1 q).1
 generalize front2++x.holds.flatMap gT=T at*
 refine x_callO [] (mvB b1 x::o) (Rr:=λv L'=>v= .string (mkS T)/\L'=[]) (λw hO=>(bstring_any b6 T o W w ho (hO.past 1 _) hne).mono λe w' ⟨q1,q2⟩=>⟨_,[],q1,⟨rfl,rfl⟩,q2⟩) λv4 L4 ⟨q1,q2⟩=> ?_
 subst q1;subst q2
 exact zS [] (.string (mkS T)) (YI 0) λw hO=>⟨rfl,hO.below⟩
end
section
end
section
def dM (b:UInt8):Nat->YL->List YL
 |0,s=>[s]
 |k+1,s=>if (zA b s).2.2 then (zA b s).1::dM b k (zA b s).2.1 else [s]
theorem split_one (b:UInt8){s:YL}(h:(zA b s).2.2=false):zE b [] s=[s]:=by
 have hb:=mQ b s
 rw [h,if_neg Bool.false_ne_true] at hb
 rw [xG,h,if_neg Bool.false_ne_true,List.nil_append]
 simpa using hb.symm
theorem pcsB_is (b:UInt8):∀ (k:Nat) (s:YL),dM b k s=if (zE b [] s).length<=k then zE b [] s else (zE b [] s).take k++[zG b ((zE b [] s).drop k)]
 |0,s=>by
  have h1:¬ (zE b [] s).length<=0:=λh=>vB b s [] (List.eq_nil_of_length_eq_zero (Nat.le_zero.1 h))
  rw [if_neg h1,List.drop_zero,join_split b s [],List.nil_append];rfl
 |k+1,s=>by
  unfold dM
  cases hq:(zA b s).2.2 with
  |false=>
   rw [if_neg Bool.false_ne_true,split_one b hq,if_pos (by simp)]
  |true=>
   have hsp:zE b [] s=(zA b s).1::zE b [] (zA b s).2.1:=by rw [xG,hq,if_pos rfl,List.nil_append]
   rw [if_pos rfl,pcsB_is b k (zA b s).2.1,hsp,List.length_cons,List.take_succ_cons,List.drop_succ_cons]
   by_cases h:(zE b [] (zA b s).2.1).length<=k
   ·rw [if_pos h,if_pos Om]
   ·rw [if_neg h,if_neg Om];rfl
structure La where
 kind:Nat
 word:YL
 lo:Nat
 hi:Nat
 parts:Nat
 opn:Bool
 more:Bool
deriving DecidableEq
def lays:List La:=[⟨1,bT,0,0,3,false,false⟩,⟨2,dC,1,5,1,false,false⟩,⟨3,nQ,2,3,5,true,false⟩,⟨4,j7,2,3,2,true,false⟩,⟨5,wOpt,2,4,2,false,false⟩,⟨6,nF,1,7,3,true,false⟩,⟨7,j7,6,6,2,true,false⟩,⟨8,x6,1,8,2,false,true⟩]
def xR (l:La)(s:YL):List YL:=if l.opn then dM 32 (l.parts-1) s else zE 32 [] s
def fI (l:La)(s:YL):Bool:=(decide ((xR l s).length=l.parts)||(l.more && decide (l.parts<(xR l s).length))) && decide ((xR l s).getD 0 []=l.word) && noE (xR l s)
def nM (x:Rt)(kind:Nat)(p:List YL):Rt×Bool:=
 match kind with
 |1=>({x with name:=p.getD 1 [],ver:=nG (p.getD 2 [])},decide (parE (p.getD 2 [])=0))
 |2=>({x with needs:=x.needs++[⟨[],[],[]⟩]},true)
 |3=>({x with needs:=x7 (λn=>{n with any:=n.any++[anyW p (p.getD 4 [])]}) x.needs},decide (p.getD 3 []=j6)||decide (p.getD 3 []=fS))
 |4=>({x with needs:=x7 (λn=>{n with wh:=p.getD 1 []}) x.needs},true)
 |5=>({x with needs:=x7 (λn=>{n with opt:=p.getD 1 []}) x.needs},true)
 |6=>({x with bars:=x.bars++[⟨p.getD 1 [],p.getD 2 [],[]⟩]},true)
 |7=>({x with bars:=x7 (λb=>{b with wh:=p.getD 1 []}) x.bars},true)
 |8=>({x with fts:=x.fts++[⟨p.getD 1 [],p.drop 2⟩]},true)
 |_=>(x,true)
def kK (x:Rt)(last:Nat)(s:YL):List La->Option (Rt×Nat)
 | []=>none
 |l::r=>if l.lo<=last/\last<=l.hi/\fI l s=true then (if (nM x l.kind (xR l s)).2 then some ((nM x l.kind (xR l s)).1,l.kind) else none) else kK x last s r
def stg:Nat->Int
 |0=>0|1=>1|2=>2|3=>2|4=>3|5=>4|6=>5|7=>6|_=>7
structure InvA (x:Rt)(k:Nat):Prop where
 le:k<=8
 z:k=0->x=dO
 n:2<=k->k<=5->x.needs≠[]
 b:6<=k->k<=7->x.bars≠[]
theorem open_ok {l:La}{s:YL}(ho:l.opn=true)(hm:l.more=false){k:Nat}(hk:l.parts=k+1):fI l s=true↔∃ w t,dD s k=some (w,t)/\xR l s=w++[t]/\(w++[t]).getD 0 []=l.word:=by
 have hP:xR l s=if (zE 32 [] s).length<=k then zE 32 [] s else (zE 32 [] s).take k++[zG 32 ((zE 32 [] s).drop k)]:=by
  unfold xR;rw [if_pos ho,hk];exact pcsB_is 32 k s
 unfold fI dD
 rw [hm,hk]
 simp only [Bool.false_and,Bool.or_false,Bool.and_eq_true,decide_eq_true_eq]
 by_cases hl:(zE 32 [] s).length<=k
 ·rw [if_pos hl] at hP ⊢
  rw [hP]
  constructor
  ·rintro ⟨⟨h1,_⟩,_⟩;omega
  ·rintro ⟨w,t,h,_⟩;cases h
 ·rw [if_neg hl] at hP ⊢
  rw [hP]
  have hlen:((zE 32 [] s).take k++[zG 32 ((zE 32 [] s).drop k)]).length=k+1:=by simp;omega
  have hno:noE ((zE 32 [] s).take k++[zG 32 ((zE 32 [] s).drop k)])=(noE ((zE 32 [] s).take k) && decide (zG 32 ((zE 32 [] s).drop k)≠[])):=by unfold noE;simp [List.all_append]
  rw [hno,hlen]
  cases h2:noE ((zE 32 [] s).take k) with
  |false=>simp
  |true=>
   by_cases h3:zG 32 ((zE 32 [] s).drop k)=[]
   ·simp [h3]
   ·simp only [h3,true_and,decide_true,ne_eq,not_false_eq_true,Bool.and_self,and_true,if_false,Bool.true_eq_false,Option.some.injEq,Prod.mk.injEq]
    constructor
    ·intro h;exact ⟨_,_,⟨rfl,rfl⟩,rfl,h⟩
    ·rintro ⟨w,t,⟨rfl,rfl⟩,_,h⟩;exact h
theorem nZ {s:YL}{k:Nat}{w:List YL}{t:YL}(h:dD s (k+1)=some (w,t)):(w++[t]).getD 0 []=(zE 32 [] s).getD 0 []/\w.length=k+1:=by
 unfold dD at h
 split at h
 ·cases h
 ·split at h
  ·cases h
  ·split at h
   ·cases h
   ·rename_i h1 h2 h3
    simp only [Option.some.injEq,Prod.mk.injEq] at h
    obtain ⟨rfl,rfl⟩:=h
    cases hs:zE 32 [] s with
    |nil=>exact absurd hs (vB 32 _ _)
    |cons a r=>rw [hs] at h1;simp only [List.length_cons] at h1;simp;omega
theorem n5 {l:La}{s:YL}(ho:l.opn=false):xR l s=zE 32 [] s:=by unfold xR;rw [if_neg (by rw [ho];simp)]
theorem la_word {l:La}{s:YL}(hp:l.opn=true->2<=l.parts)(h:fI l s=true):(zE 32 [] s).getD 0 []=l.word:=by
 have hw:(xR l s).getD 0 []=l.word:=by
  unfold fI at h;simp only [Bool.and_eq_true,decide_eq_true_eq] at h;exact h.1.2
 rw [←hw]
 unfold xR
 split
 ·rename_i ho
  have h2:=hp ho
  obtain ⟨k,hk⟩:∃ k,l.parts-1=k+1:=⟨l.parts-2,by omega⟩
  rw [hk,pcsB_is]
  split
  ·rfl
  ·cases hs:zE 32 [] s with
   |nil=>exact absurd hs (vB 32 _ _)
   |cons a r=>simp
 ·rfl
theorem lays_open:∀ l∈lays,l.opn=true->2<=l.parts:=by decide
abbrev tE (l:La)(last:Nat)(s:YL):Prop:=l.lo<=last/\last<=l.hi/\fI l s=true
def outA (x:Rt)(s:YL)(l:La):Option (Rt×Nat):=if (nM x l.kind (xR l s)).2 then some ((nM x l.kind (xR l s)).1,l.kind) else none
theorem qQ {x:Rt}{last:Nat}{s:YL}:∀ {L:List La},(∀ l∈L,¬ tE l last s)->kK x last s L=none
 | [],_=>rfl
 |l::r,h=>by rw [kK,if_neg (h l (List.mem_cons_self ..)),qQ λy hy=>h y (List.mem_cons_of_mem _ hy)]
theorem wA {x:Rt}{last:Nat}{s:YL}{l:La}(hf:tE l last s):∀ {L:List La},(∀ y∈L,tE y last s->y=l)->l∈L->kK x last s L=outA x s l
 |y::r,h,hl=>by
  by_cases hy:tE y last s
  ·obtain rfl:=h y (List.mem_cons_self ..) hy
   rw [kK,if_pos hy];rfl
  ·rw [kK,if_neg hy]
   rcases List.mem_cons.1 hl with rfl|hl
   ·exact absurd hf hy
   ·exact wA hf (λz hz=>h z (List.mem_cons_of_mem _ hz)) hl
theorem tA {last:Nat}{s:YL}{l:La}(hw:(zE 32 [] s).getD 0 []=l.word)(h:∀ y∈lays,y.word=l.word->y.lo<=last->last<=y.hi->y=l):∀ y∈lays,tE y last s->y=l:=λy hy hf=>h y hy ((la_word (lays_open y hy) hf.2.2).symm.trans hw) hf.1 hf.2.1
def SameA (a:Option (Rt×Nat))(b:Option Rs):Prop:=match a,b with
 |none,none=>True
 |some (x,k),some y=>y=⟨x,stg k⟩/\InvA x k
 |_,_=>False
theorem pX {α:Type}{f:α->α}{l:List α}(h:l≠[]):x7 f l≠[]:=by
 match l,h with
 | [a],_=>simp [x7]
 |a::b::r,_=>simp [x7]
theorem noE_three {l:List YL}(h:l.length=3):noE l=true↔l.getD 0 []≠[]/\l.getD 1 []≠[]/\l.getD 2 []≠[]:=by
 match l,h with
 | [a,b,c],_=>simp [noE]
theorem stg_pos {k:Nat}(h:1<=k):stg k≠0:=by
 match k,h with
 |1,_=>decide
 |2,_=>decide
 |3,_=>decide
 |4,_=>decide
 |5,_=>decide
 |6,_=>decide
 |7,_=>decide
 |k+8,_=>exact (by show (7:Int)≠0;decide)
theorem stg_two {k:Nat}(h:k<=8):(stg k=2↔2<=k/\k<=3)/\(stg k=5↔k=6)/\(stg k<5↔k<=5)/\(stg k<=6↔k<=7)/\(stg k=3↔k=4):=by
 have:∀ j,j<=8->(stg j=2↔2<=j/\j<=3)/\(stg j=5↔j=6)/\(stg j<5↔j<=5)/\(stg j<=6↔j<=7)/\(stg j=3↔j=4):=by decide
 exact this k h
theorem parE_nil:parE []≠0:=by decide+kernel
theorem la_rest {l:La}{s:YL}{k:Nat}{w:List YL}{t:YL}(ho:l.opn=true)(hk:l.parts=k+1)(h:dD s k=some (w,t)):xR l s=w++[t]:=by
 unfold xR
 rw [if_pos ho,hk]
 show dM 32 k s=_
 rw [pcsB_is]
 unfold dD at h
 split at h
 ·cases h
 ·split at h
  ·cases h
  ·split at h
   ·cases h
   ·simp only [Option.some.injEq,Prod.mk.injEq] at h
    obtain ⟨rfl,rfl⟩:=h
    rw [if_neg (by assumption)]
theorem anyS_of {x:Rs}{s:YL}{w:List YL}{t:YL}(h:dD s 4=some (w,t)):anyS x s=if x.st=2/\(w.getD 3 []=j6\/w.getD 3 []=fS) then some ⟨{x.rc with needs:=x7 (λn=>{n with any:=n.any++[anyW w t]}) x.rc.needs},2⟩ else none:=by unfold anyS;rw [h]
theorem whenS_of {x:Rs}{s:YL}{w:List YL}{t:YL}(h:dD s 1=some (w,t)):whenS x s=if x.st=2 then some ⟨{x.rc with needs:=x7 (λn=>{n with wh:=t}) x.rc.needs},3⟩ else if x.st=5 then some ⟨{x.rc with bars:=x7 (λb=>{b with wh:=t}) x.rc.bars},6⟩ else none:=by unfold whenS;rw [h]
theorem barS_of {x:Rs}{s:YL}{w:List YL}{t:YL}(h:dD s 2=some (w,t)):barS x s=if x.st<=6 then some ⟨{x.rc with bars:=x.rc.bars++[⟨w.getD 1 [],t,[]⟩]},5⟩ else none:=by unfold barS;rw [h]
theorem S_none {x:Rs}{s:YL}:(dD s 4=none->anyS x s=none)/\(dD s 1=none->whenS x s=none)/\(dD s 2=none->barS x s=none):=
 ⟨λh=>by unfold anyS;rw [h],λh=>by unfold whenS;rw [h],λh=>by unfold barS;rw [h]⟩
theorem take_line {x:Rt}{k:Nat}(hI:InvA x k)(s:YL):SameA (kK x k s lays) (lineS ⟨x,stg k⟩ s):=by
 obtain ⟨P,hP⟩:∃ P,zE 32 [] s=P:=⟨_,rfl⟩
 have h8:=hI.le
 have hs:=stg_two h8
 by_cases h0:k=0
 ·subst h0
  obtain rfl:=hI.z rfl
  have hone:∀ y∈lays,tE y 0 s->y=⟨1,bT,0,0,3,false,false⟩:=λy hy hf=>by
   simp only [lays,List.mem_cons,List.not_mem_nil,or_false] at hy
   rcases hy with rfl|rfl|rfl|rfl|rfl|rfl|rfl|rfl
   ·rfl
   all_goals exact absurd hf.1 (by decide)
  have hl:lineS ⟨dO,stg 0⟩ s=headS P:=by unfold lineS;rw [if_pos (show Rs.st ⟨dO,stg 0⟩=0 from rfl),hP]
  rw [hl]
  by_cases hf:tE ⟨1,bT,0,0,3,false,false⟩ 0 s
  ·rw [wA hf hone (by decide)]
   have hk:=hf.2.2
   unfold fI at hk
   rw [n5 rfl,hP] at hk
   simp only [Bool.false_and,Bool.or_false,Bool.and_eq_true,decide_eq_true_eq] at hk
   obtain ⟨⟨h1,h2⟩,h3⟩:=hk
   have h4:=(noE_three h1).1 h3
   unfold outA headS
   rw [n5 rfl,hP]
   by_cases h5:parE (P.getD 2 [])=0
   ·rw [if_pos (by simpa [nM] using h5),if_pos ⟨h1,h2,h4.2.1,h5⟩]
    exact ⟨rfl,⟨by decide,λh=>absurd h (by decide),λh=>absurd h (by decide),λh=>absurd h (by decide)⟩⟩
   ·rw [if_neg (by simpa [nM] using h5),if_neg (λq=>h5 q.2.2.2)];trivial
  ·rw [qQ λy hy hq=>hf (hone y hy hq▸hq)]
   unfold headS
   rw [if_neg];· trivial
   rintro ⟨h1,h2,h3,h4⟩
   refine hf ⟨Nat.le_refl _,Nat.le_refl _, ?_⟩
   unfold fI
   rw [n5 rfl,hP,(noE_three h1).2 ⟨by rw [h2];decide,h3,λe=>parE_nil (by rw [←e];exact h4)⟩]
   simp only [h1,h2,decide_true,Bool.true_or,Bool.and_self]
 have h1:1<=k:=by omega
 have hne:=stg_pos h1
 have hL:lineS ⟨x,stg k⟩ s=if P.getD 0 []=dC then needS ⟨x,stg k⟩ P else if P.getD 0 []=nQ then anyS ⟨x,stg k⟩ s else if P.getD 0 []=j7 then whenS ⟨x,stg k⟩ s else if P.getD 0 []=wOpt then optS ⟨x,stg k⟩ P else if P.getD 0 []=nF then barS ⟨x,stg k⟩ s else if P.getD 0 []=x6 then featS ⟨x,stg k⟩ P else none:=by
  unfold lineS;rw [if_neg hne,hP]
 rw [hL]
 clear hL
 have lays_cases:∀ {Q:La->Prop},Q ⟨1,bT,0,0,3,false,false⟩->Q ⟨2,dC,1,5,1,false,false⟩->Q ⟨3,nQ,2,3,5,true,false⟩->Q ⟨4,j7,2,3,2,true,false⟩->Q ⟨5,wOpt,2,4,2,false,false⟩->Q ⟨6,nF,1,7,3,true,false⟩->Q ⟨7,j7,6,6,2,true,false⟩->Q ⟨8,x6,1,8,2,false,true⟩→∀ y∈lays,Q y:=λ{Q} q1 q2 q3 q4 q5 q6 q7 q8 y hy=>by
  simp only [lays,List.mem_cons,List.not_mem_nil,or_false] at hy
  rcases hy with rfl|rfl|rfl|rfl|rfl|rfl|rfl|rfl<;>assumption
 by_cases w2:P.getD 0 []=dC
 ·rw [if_pos w2]
  have hone:∀ y∈lays,tE y k s->y=⟨2,dC,1,5,1,false,false⟩:=tA (by rw [hP];exact w2) (lays_cases (λh=>absurd h (by decide)) (λ_ _ _=>rfl) (λh=>absurd h (by decide)) (λh=>absurd h (by decide)) (λh=>absurd h (by decide)) (λh=>absurd h (by decide)) (λh=>absurd h (by decide)) (λh=>absurd h (by decide)))
  have hk:fI ⟨2,dC,1,5,1,false,false⟩ s=true↔P.length=1:=by
   unfold fI
   rw [n5 rfl,hP]
   simp only [Bool.false_and,Bool.or_false,Bool.and_eq_true,decide_eq_true_eq]
   refine ⟨λh=>h.1.1,λh=>⟨⟨h,w2⟩, ?_⟩⟩
   match P,h,w2 with
   | [a],_,w2=>
    have:a=dC:=w2
    subst this;decide
  unfold needS
  by_cases hf:tE ⟨2,dC,1,5,1,false,false⟩ k s
  ·rw [wA hf hone (by decide),if_pos ⟨hk.1 hf.2.2,hs.2.2.1.2 hf.2.1⟩]
   exact ⟨rfl,⟨by decide,λh=>absurd h (by decide),λ_ _=>by simp [nM],λh=>absurd h (by decide)⟩⟩
  ·rw [qQ λy hy hq=>hf (hone y hy hq▸hq),if_neg λq=>hf ⟨h1,hs.2.2.1.1 q.2,hk.2 q.1⟩];trivial
 rw [if_neg w2]
 by_cases w3:P.getD 0 []=nQ
 ·rw [if_pos w3]
  have hone:∀ y∈lays,tE y k s->y=⟨3,nQ,2,3,5,true,false⟩:=tA (by rw [hP];exact w3) (lays_cases (λh=>absurd h (by decide)) (λh=>absurd h (by decide)) (λ_ _ _=>rfl) (λh=>absurd h (by decide)) (λh=>absurd h (by decide)) (λh=>absurd h (by decide)) (λh=>absurd h (by decide)) (λh=>absurd h (by decide)))
  have hk:=open_ok (l:=⟨3,nQ,2,3,5,true,false⟩) (s:=s) rfl rfl (k:=4) rfl
  by_cases hf:tE ⟨3,nQ,2,3,5,true,false⟩ k s
  ·rw [wA hf hone (by decide)]
   obtain ⟨w,t,e1,e2,e3⟩:=hk.1 hf.2.2
   have hw:=(nZ e1).2
   rw [anyS_of e1]
   unfold outA
   rw [e2]
   match w,hw with
   | [a,b,c,d],_=>
    by_cases h5:d=j6\/d=fS
    ·rw [if_pos (by simpa [nM] using h5),if_pos ⟨hs.1.2 ⟨hf.1,hf.2.1⟩,h5⟩]
     exact ⟨rfl,⟨by decide,λh=>absurd h (by decide),λ_ _=>pX (hI.n hf.1 (by have:=hf.2.1;simp only at this;omega)),λh=>absurd h (by decide)⟩⟩
    ·rw [if_neg (by simpa [nM] using h5),if_neg λq=>h5 q.2];trivial
  ·rw [qQ λy hy hq=>hf (hone y hy hq▸hq)]
   cases e1:dD s 4 with
   |none=>rw [S_none.1 e1];trivial
   |some p=>
    obtain ⟨w,t⟩:=p
    rw [anyS_of e1,if_neg];· trivial
    intro q
    have h23:=hs.1.1 q.1
    exact hf ⟨h23.1,h23.2,hk.2 ⟨w,t,e1,la_rest rfl rfl e1,by rw [(nZ e1).1,hP];exact w3⟩⟩
 rw [if_neg w3]
 by_cases w4:P.getD 0 []=j7
 ·rw [if_pos w4]
  have hk4:=open_ok (l:=⟨4,j7,2,3,2,true,false⟩) (s:=s) rfl rfl (k:=1) rfl
  have hk7:=open_ok (l:=⟨7,j7,6,6,2,true,false⟩) (s:=s) rfl rfl (k:=1) rfl
  have hone4:k<=5→∀ y∈lays,tE y k s->y=⟨4,j7,2,3,2,true,false⟩:=λh5=>tA (by rw [hP];exact w4) (lays_cases (λh=>absurd h (by decide)) (λh=>absurd h (by decide)) (λh=>absurd h (by decide)) (λ_ _ _=>rfl) (λh=>absurd h (by decide)) (λh=>absurd h (by decide)) (λ_ h _=>absurd (show 6<=k from h) Om) (λh=>absurd h (by decide)))
  have hone7:4<=k→∀ y∈lays,tE y k s->y=⟨7,j7,6,6,2,true,false⟩:=λh5=>tA (by rw [hP];exact w4) (lays_cases (λh=>absurd h (by decide)) (λh=>absurd h (by decide)) (λh=>absurd h (by decide)) (λ_ _ h=>absurd (show k<=3 from h) Om) (λh=>absurd h (by decide)) (λh=>absurd h (by decide)) (λ_ _ _=>rfl) (λh=>absurd h (by decide)))
  cases e1:dD s 1 with
  |none=>
   rw [S_none.2.1 e1,qQ];· trivial
   intro y hy hf
   by_cases h5:k<=5
   ·obtain rfl:=hone4 h5 y hy hf
    obtain ⟨w,t,e,_⟩:=hk4.1 hf.2.2
    rw [e1] at e;cases e
   ·obtain rfl:=hone7 Om y hy hf
    obtain ⟨w,t,e,_⟩:=hk7.1 hf.2.2
    rw [e1] at e;cases e
  |some p=>
   obtain ⟨w,t⟩:=p
   have hw:=(nZ e1).2
   have hw0:(w++[t]).getD 0 []=j7:=by rw [(nZ e1).1,hP];exact w4
   rw [whenS_of e1]
   match w,hw with
   | [a],_=>
    by_cases h2:stg k=2
    ·have h23:=hs.1.1 h2
     rw [if_pos h2,wA (l:=⟨4,j7,2,3,2,true,false⟩) ⟨h23.1,h23.2,hk4.2 ⟨_,t,e1,la_rest rfl rfl e1,hw0⟩⟩ (hone4 Om) (by decide)]
     unfold outA
     rw [la_rest (l:=⟨4,j7,2,3,2,true,false⟩) rfl rfl e1]
     exact ⟨rfl,⟨by decide,λh=>absurd h (by decide),λ_ _=>pX (hI.n h23.1 Om),λh=>absurd h (by decide)⟩⟩
    ·rw [if_neg h2]
     by_cases h5:stg k=5
     ·have h6:=hs.2.1.1 h5
      subst h6
      rw [if_pos h5,wA (l:=⟨7,j7,6,6,2,true,false⟩) ⟨Nat.le_refl _,Nat.le_refl _,hk7.2 ⟨_,t,e1,la_rest rfl rfl e1,hw0⟩⟩ (hone7 Om) (by decide)]
      unfold outA
      rw [la_rest (l:=⟨7,j7,6,6,2,true,false⟩) rfl rfl e1]
      exact ⟨rfl,⟨by decide,λh=>absurd h (by decide),λ_ h=>absurd h (by decide),λ_ _=>pX (hI.b Om Om)⟩⟩
     ·rw [if_neg h5,qQ];· trivial
      intro y hy hf
      by_cases h9:k<=5
      ·obtain rfl:=hone4 h9 y hy hf
       exact h2 (hs.1.2 ⟨hf.1,hf.2.1⟩)
      ·obtain rfl:=hone7 Om y hy hf
       have q1:6<=k:=hf.1
       have q2:k<=6:=hf.2.1
       exact h5 (hs.2.1.2 Om)
 rw [if_neg w4]
 by_cases w5:P.getD 0 []=wOpt
 ·rw [if_pos w5]
  have hone:∀ y∈lays,tE y k s->y=⟨5,wOpt,2,4,2,false,false⟩:=tA (by rw [hP];exact w5) (lays_cases (λh=>absurd h (by decide)) (λh=>absurd h (by decide)) (λh=>absurd h (by decide)) (λh=>absurd h (by decide)) (λ_ _ _=>rfl) (λh=>absurd h (by decide)) (λh=>absurd h (by decide)) (λh=>absurd h (by decide)))
  have hk:fI ⟨5,wOpt,2,4,2,false,false⟩ s=true↔P.length=2/\noE P=true:=by
   unfold fI
   rw [n5 rfl,hP]
   simp only [Bool.false_and,Bool.or_false,Bool.and_eq_true,decide_eq_true_eq]
   exact ⟨λh=>⟨h.1.1,h.2⟩,λh=>⟨⟨h.1,w5⟩,h.2⟩⟩
  have h24:(stg k=2\/stg k=3)↔2<=k/\k<=4:=by rw [hs.1,hs.2.2.2.2];omega
  unfold optS
  by_cases hf:tE ⟨5,wOpt,2,4,2,false,false⟩ k s
  ·obtain ⟨h2,h3⟩:=hk.1 hf.2.2
   rw [wA hf hone (by decide),if_pos ⟨h2,h3,h24.2 ⟨hf.1,hf.2.1⟩⟩]
   unfold outA
   rw [n5 rfl,hP]
   exact ⟨rfl,⟨by decide,λh=>absurd h (by decide),λ_ _=>pX (hI.n hf.1 (by have:=hf.2.1;simp only at this;omega)),λh=>absurd h (by decide)⟩⟩
  ·rw [qQ λy hy hq=>hf (hone y hy hq▸hq),if_neg λq=>hf ⟨(h24.1 q.2.2).1,(h24.1 q.2.2).2,hk.2 ⟨q.1,q.2.1⟩⟩];trivial
 rw [if_neg w5]
 by_cases w6:P.getD 0 []=nF
 ·rw [if_pos w6]
  have hone:∀ y∈lays,tE y k s->y=⟨6,nF,1,7,3,true,false⟩:=tA (by rw [hP];exact w6) (lays_cases (λh=>absurd h (by decide)) (λh=>absurd h (by decide)) (λh=>absurd h (by decide)) (λh=>absurd h (by decide)) (λh=>absurd h (by decide)) (λ_ _ _=>rfl) (λh=>absurd h (by decide)) (λh=>absurd h (by decide)))
  have hk:=open_ok (l:=⟨6,nF,1,7,3,true,false⟩) (s:=s) rfl rfl (k:=2) rfl
  by_cases hf:tE ⟨6,nF,1,7,3,true,false⟩ k s
  ·rw [wA hf hone (by decide)]
   obtain ⟨w,t,e1,e2,e3⟩:=hk.1 hf.2.2
   have hw:=(nZ e1).2
   rw [barS_of e1,if_pos (hs.2.2.2.1.2 hf.2.1)]
   unfold outA
   rw [e2]
   match w,hw with
   | [a,b],_=>exact ⟨rfl,⟨by decide,λh=>absurd h (by decide),λ_ h=>absurd h (by decide),λ_ _=>by simp [nM]⟩⟩
  ·rw [qQ λy hy hq=>hf (hone y hy hq▸hq)]
   cases e1:dD s 2 with
   |none=>rw [S_none.2.2 e1];trivial
   |some p=>
    obtain ⟨w,t⟩:=p
    rw [barS_of e1,if_neg];· trivial
    intro q
    exact hf ⟨h1,hs.2.2.2.1.1 q,hk.2 ⟨w,t,e1,la_rest rfl rfl e1,by rw [(nZ e1).1,hP];exact w6⟩⟩
 rw [if_neg w6]
 by_cases w8:P.getD 0 []=x6
 ·rw [if_pos w8]
  have hone:∀ y∈lays,tE y k s->y=⟨8,x6,1,8,2,false,true⟩:=tA (by rw [hP];exact w8) (lays_cases (λh=>absurd h (by decide)) (λh=>absurd h (by decide)) (λh=>absurd h (by decide)) (λh=>absurd h (by decide)) (λh=>absurd h (by decide)) (λh=>absurd h (by decide)) (λh=>absurd h (by decide)) (λ_ _ _=>rfl))
  have hk:fI ⟨8,x6,1,8,2,false,true⟩ s=true↔2<=P.length/\noE P=true:=by
   unfold fI
   rw [n5 rfl,hP]
   simp only [Bool.true_and,Bool.and_eq_true,Bool.or_eq_true,decide_eq_true_eq]
   exact ⟨λh=>⟨by omega,h.2⟩,λh=>⟨⟨by omega,w8⟩,h.2⟩⟩
  unfold featS
  by_cases hf:tE ⟨8,x6,1,8,2,false,true⟩ k s
  ·rw [wA hf hone (by decide),if_pos (hk.1 hf.2.2)]
   unfold outA
   rw [n5 rfl,hP]
   exact ⟨rfl,⟨by decide,λh=>absurd h (by decide),λ_ h=>absurd h (by decide),λ_ h=>absurd h (by decide)⟩⟩
  ·rw [qQ λy hy hq=>hf (hone y hy hq▸hq),if_neg λq=>hf ⟨h1,h8,hk.2 q⟩];trivial
 rw [if_neg w8,qQ];· trivial
 intro y hy hf
 have hw:=la_word (lays_open y hy) hf.2.2
 rw [hP] at hw
 have:y.word=bT\/y.word=dC\/y.word=nQ\/y.word=j7\/y.word=wOpt\/y.word=nF\/y.word=x6:=lays_cases (Q:=λy=>y.word=bT\/y.word=dC\/y.word=nQ\/y.word=j7\/y.word=wOpt\/y.word=nF\/y.word=x6) (by simp) (by simp) (by simp) (by simp) (by simp) (by simp) (by simp) (by simp) y hy
 rcases this with e|e|e|e|e|e|e
 ·have hy1:y=⟨1,bT,0,0,3,false,false⟩:=by
   revert e
   exact lays_cases (Q:=λy=>y.word=bT->y=⟨1,bT,0,0,3,false,false⟩) (λ_=>rfl) (λh=>absurd h (by decide)) (λh=>absurd h (by decide)) (λh=>absurd h (by decide)) (λh=>absurd h (by decide)) (λh=>absurd h (by decide)) (λh=>absurd h (by decide)) (λh=>absurd h (by decide)) y hy
  subst hy1
  exact h0 (Nat.le_zero.1 hf.2.1)
 ·exact w2 (hw.trans e)
 ·exact w3 (hw.trans e)
 ·exact w4 (hw.trans e)
 ·exact w5 (hw.trans e)
 ·exact w6 (hw.trans e)
 ·exact w8 (hw.trans e)
end
section
theorem f0 (b:UInt8):∀ (k:Nat) (s:YL),Lib.splitK [b] 0 k s=dM b k s
 |0,s=>rfl
 |k+1,s=>by
  have hc:=cutAt_cut b s
  have hge:=Lib.index_ge s [b]
  unfold Lib.splitK dM
  rw [←hc]
  unfold Lib.cut
  by_cases h:Lib.index s [b]= -1
  ·have h2:¬ 0<=Lib.index s [b]:=by omega
   simp [h]
  ·have h2:0<=Lib.index s [b]:=by omega
   simp [h,h2,f0 b k]
theorem pcsB_more (b:UInt8):∀ (k:Nat) (s:YL),s.length<=k->dM b k s=dM b (k+1) s
 |0,s,h=>by
  obtain rfl:=List.eq_nil_of_length_eq_zero (Nat.le_zero.1 h)
  rfl
 |k+1,s,h=>by
  have hl:=m8 b s
  rw [dM]
  conv=>rhs;rw [dM]
  cases hq:(zA b s).2.2 with
  |false=>rw [if_neg Bool.false_ne_true,if_neg Bool.false_ne_true]
  |true=>
   rw [hq,if_pos rfl] at hl
   rw [if_pos rfl,if_pos rfl,pcsB_more b k _ Om]
theorem pcsB_min (b:UInt8)(s:YL):∀ k:Nat,dM b (min k s.length) s=dM b k s
 |0=>by rw [Nat.zero_min]
 |k+1=>by
  by_cases h:s.length<=k
  ·rw [Nat.min_eq_right Om,←pcsB_more b k s h,←pcsB_min b s k,Nat.min_eq_right h]
  ·rw [Nat.min_eq_left Om]
theorem mH (b:UInt8):∀ (k:Nat) (s:YL),1<=(dM b k s).length/\(dM b k s).length<=k+1
 |0,s=>⟨Nat.le_refl _,Nat.le_refl _⟩
 |k+1,s=>by
  have h:=mH b k (zA b s).2.1
  unfold dM
  split
  ·simp only [List.length_cons];omega
  ·simp
theorem split_len32 (b:UInt8)(s:YL):(zE b [] s).length<=s.length+1:=by
 rw [←pU b s,f0]
 have h:=(mH b (min (Lib.count s [b]) s.length) s).2
 rw [pcsB_min] at h
 omega
theorem splitC_any (c0:UInt8)(s:YL)(n:Int)(W:World)(hs:s.length<=1048576)(hn:n= -1\/1<=n/\n<=1000):
  YC 150 #[.string (mkS s),.string ⟨#[c0]⟩,YI 0,YI n] W λe w'=>∃ v' ob',e= .returned v'/\SlT v' (if n<0 then zE c0 [] s else dM c0 (n.toNat-1) s) ob'/\Own [] W w' ob':=by
 have hsz:=zQ s
 have hI:∀ (x:ByteArray) (c:Array Value),x.size<=(mkS s).size->YC 192 #[.string x,.string ⟨#[c0]⟩] (W.alloc (.cells c 9)) λe w'=>e= .returned (YI (Lib.indexB x ⟨#[c0]⟩))/\w'=W.alloc (.cells c 9):=
  λx c _=>(Tryz.strings_Index_one x c0 _).mono λe w' ⟨he,hw⟩=>⟨by rw [he,dY];try rfl,hw⟩
 have hC:YC 191 #[.string (mkS s),.string ⟨#[c0]⟩] W λe w'=>e= .returned (YI (Lib.countB (mkS s) ⟨#[c0]⟩))/\w'=W:=
  (Tryz.strings_Count_one (mkS s) c0 W).mono λe w' ⟨he,hw⟩=>⟨by rw [he];show _=Ending.returned (Value.int .i64 ((Lib.count (mkS s).data.toList [c0]:Nat):Int));rw [Lib.count_one];rfl,hw⟩
 obtain ⟨cn,hcn⟩:∃ cn,Lib.count s [c0]=cn:=⟨_,rfl⟩
 have hcB:Lib.countB (mkS s) ⟨#[c0]⟩=cn:=by unfold Lib.countB;rw [mk_data,show (⟨#[c0]⟩:ByteArray).data.toList=[c0] from rfl,hcn]
 have hcl:cn<=s.length:=by rw [←hcn,Lib.count_one];exact List.count_le_length
 obtain ⟨N,hN⟩:∃ N:Nat,(N:Int)=min (if n<0 then (Lib.countB (mkS s) ⟨#[c0]⟩:Int)+1 else n) (((mkS s).size:Int)+1):=by
  refine ⟨(min (if n<0 then (Lib.countB (mkS s) ⟨#[c0]⟩:Int)+1 else n) (((mkS s).size:Int)+1)).toNat,Int.toNat_of_nonneg ?_⟩
  split<;>omega
 have c:=Any.strings_genSplit_core Tryz.lays221 Kr (mkS s) ⟨#[c0]⟩ 0 n N W Om (Nat.le_refl 1) (Nat.zero_le _) hI hC Om Om hN
 rw [hcB,hsz] at hN
 have hB:Lib.splitB ⟨#[c0]⟩ 0 (N-1) (mkS s)=(if n<0 then zE c0 [] s else dM c0 (n.toNat-1) s).map mkS:=by
  have h:=splitB_list [c0] (N-1) s
  rw [show (mkS [c0]:ByteArray)=⟨#[c0]⟩ from rfl] at h
  rw [h,f0]
  congr 1
  split
  ·rename_i h0
   rw [if_pos h0] at hN
   rw [show N-1=cn by omega,←f0,←hcn,pU]
  ·rename_i h0
   rw [if_neg h0] at hN
   rw [←pcsB_min c0 s (n.toNat-1)]
   congr 1
   omega
 rw [hB] at c
 generalize hl:(if n<0 then zE c0 [] s else dM c0 (n.toNat-1) s)=l at c ⊢
 have hle:l.length<=N:=by
  rw [←hl]
  split
  ·rename_i h0
   rw [if_pos h0] at hN
   rw [←pU c0 s,f0,hcn]
   have:=(mH c0 cn s).2
   omega
  ·rename_i h0
   rw [if_neg h0] at hN
   have h1:=(mH c0 (n.toNat-1) s).2
   have h2:=(mH c0 (min (n.toNat-1) s.length) s).2
   rw [pcsB_min] at h2
   omega
 have hNm:N<=1048577:=by omega
 rw [List.length_map] at c
 refine Calls.mono c λe w' ⟨he,hw⟩=> ?_
 subst hw
 refine ⟨_,_,he,⟨by rw [bF];omega,.inr ⟨W.heap.size,N,_,rfl,rfl,hle,by unfold maxLen;omega,by rw [Lib.cellsOf_size (by rw [List.length_map];exact hle),Nat.mul_one], ?_⟩⟩,(Own.start [] W).alloc _ _⟩
 unfold Lib.cellsOf
 rw [List.map_map,List.take_append_of_le_length (by rw [List.length_map];omega),List.take_of_length_le (by rw [List.length_map];omega)]
 rfl
theorem split32_any (s:YL)(n:Int)(W:World)(hs:s.length<=1048576)(hn:n= -1\/1<=n/\n<=1000):
  YC 150 #[.string (mkS s),.string ⟨#[32]⟩,YI 0,YI n] W λe w'=>∃ v' ob',e= .returned v'/\SlT v' (if n<0 then zE 32 [] s else dM 32 (n.toNat-1) s) ob'/\Own [] W w' ob':=splitC_any 32 s n W hs hn
theorem splitN32_any (s:YL)(n:Int)(W:World)(hs:s.length<=1048576)(hn:n= -1\/1<=n/\n<=1000):YC 103 #[.string (mkS s),.string ⟨#[32]⟩,YI n] W λe w'=>∃ v' ob',e= .returned v'/\SlT v' (if n<0 then zE 32 [] s else dM 32 (n.toNat-1) s) ob'/\Own [] W w' ob':=by
 have hc:∀ w,YB W w->YC 150 #[.string (mkS s),.string ⟨#[32]⟩,YI 0,YI n] w λe w'=>∃ v ob,e= .returned v/\SlT v (if n<0 then zE 32 [] s else dM 32 (n.toNat-1) s) ob/\Own [] w w' ob:=λw _=>split32_any s n w hs hn
 generalize (if n<0 then zE 32 [] s else dM 32 (n.toNat-1) s)=l at hc ⊢
 refine zD Tryz.func103 (k8 (R:=λv ob=>SlT v l ob) [] (λw hO=>hc w hO.below) λv ob hR=> ?_)
 exact z7 [] v λw hO=>⟨v,ob,rfl,hR,hO.past 0 _⟩
theorem qHole_any (A:Option Addr)(cap:Nat)(l:List YL)(W:World)(hv:Reads yY W W.heap.size A l)(hn:l.length<=2097152):YC 104 #[.slice A l.length cap,.string ⟨#[]⟩] W (YR (.bool (!noE l)) W):=by
 have key:∀ w,YB W w->YC 151 #[.slice A l.length cap,.string ⟨#[]⟩] w λe w'=>∃ v,e= .returned v/\(∃ z:Int,v=YI z/\decide (0<=z)= !noE l)/\YB w w':=λw0 hb0=>by
  have hv0:=hv.on hb0 hb0.size
  refine zD Tryz.func151 (zM (α:=Nat) (λi=>[(0,.slice A l.length cap),(1,.string (mkS [])),(7,YI (l.length:Int)),(8,YI (i:Int))]) (λ_=>[]) (λi m=>(i<=l.length∧∀ y∈l.take i,y≠[])/\m=l.length-i) 0 l.length [] ⟨⟨Nat.zero_le _,λy h=>by simp at h⟩,rfl⟩ ?_)
  rintro i mm g kk ⟨⟨hi,hno⟩,hmm⟩ nx hkk
  subst hkk
  refine zB 9 [] ((i:Int)<(l.length:Int)) (λh9=> ?_) (λh9=> ?_)
  rotate_left
  ·refine z7 [] (YI (-1)) λw hO=>⟨_,rfl,⟨-1,rfl, ?_⟩,hO.below⟩
   have hall:=xF (p:=λy:YL=>y≠[]) (show l.length<=i by omega) hno
   rw [show noE l=true from List.all_eq_true.2 λy hy=>by simpa using hall y hy];rfl
  have hj:i<l.length:=by omega
  obtain ⟨eb,eo,hA,hel⟩:=hv0.elem zX i hj
  have hgo:=yQ (p:=λy:YL=>y≠[]) hj hno
  have hsm:l[i]∈l:=List.getElem_mem hj
  have hel0:∀ w,YB w0 w->(loadVar 9 ⟨eb,eo+i*1+0,none⟩).run YP w= .ok (.string (mkS l[i])) w:=λw hw=>hel w hw _ 0 _ Kr
  generalize l[i]=y at hel0 hgo hsm
  refine zI 14 [] hA l.length cap i 1 hj (zH 15 [] 9 eb (eo+i*1+0) (.string (mkS y)) (λw hO=>hel0 w hO.below) (x4 16 [] [] y (λh16=> ?_) (λh16=> ?_)))
  ·refine z7 [] (YI (i:Int)) λw hO=>⟨_,rfl,⟨(i:Int),rfl, ?_⟩,hO.below⟩
   rw [show noE l=false from List.all_eq_false.2 ⟨y,hsm,by simp [←h16]⟩,decide_eq_true Om];rfl
  ·exact x_i 18 [] ((i+1:Nat):Int) (nx (i+1) (l.length-(i+1)) [] Om ⟨⟨hj,hgo (λe=>h16 e.symm)⟩,rfl⟩ Kr Kr)
 refine zD Tryz.func104 (x_callE (R:=λv=>∃ z:Int,v=YI z/\decide (0<=z)= !noE l) [] (λw hO=>key w hO.below) ?_)
 rintro v ⟨z,rfl,hz⟩
 exact z7 [] (.bool (decide (0<=z))) λw hO=>⟨by rw [hz],hO.below⟩
end
section
set_option linter.unnecessarySimpa false
def laV (l:La):Value:= .agg #[YI (l.kind:Int),.string (mkS l.word),YI (l.lo:Int),YI (l.hi:Int),YI (l.parts:Int),.bool l.opn,.bool l.more]
def laB (l:La)(b:Nat):Blk:=⟨b,(laV l).cells,120⟩
theorem laPs_ne (l:La)(s:YL):0<(xR l s).length:=by
 unfold xR
 split
 ·exact (mH 32 _ s).1
 ·exact List.length_pos_iff.2 (vB 32 _ _)
theorem laPs_few (l:La)(s:YL)(hp:l.parts<=1000):(xR l s).length<=s.length+1001:=by
 unfold xR
 split
 ·have:=(mH 32 (l.parts-1) s).2;omega
 ·have:=split_len32 32 s;omega
theorem qCut_any (l:La)(s:YL)(W:World)(hs:s.length<=1048576)(hp:1<=l.parts/\l.parts<=1000):YC 61 #[laV l,.string (mkS s)] W λe w'=>∃ v' ob',e= .returned (.tuple #[v',.bool (fI l s)])/\SlT v' (xR l s) ob'/\Own [] W w' ob':=by
 obtain ⟨z0,hz0⟩:∃ z:Int,z=if l.opn then (l.parts:Int) else-1:=⟨_,rfl⟩
 have hsp:∀ w,YC 103 #[.string (mkS s),.string ⟨#[32]⟩,YI z0] w λe w'=>∃ v ob,e= .returned v/\SlT v (xR l s) ob/\Own [] w w' ob:=λw=>by
  have h:=splitN32_any s z0 w hs (by rw [hz0];split<;>omega)
  have e:(if z0<0 then zE 32 [] s else dM 32 (z0.toNat-1) s)=xR l s:=by
   unfold xR
   rw [hz0]
   cases l.opn with
   |true=>rw [if_pos rfl,if_pos rfl,if_neg Om,Int.toNat_natCast]
   |false=>rw [if_neg Bool.false_ne_true,if_neg Bool.false_ne_true,if_pos (by decide)]
  rw [e] at h
  exact h
 refine zD Tryz.func61 (yK [] λb2=>bR 10 (α:=Int) (λz=>[(1,.string (mkS s)),(2,Zp b2 0),(6,YI z)]) (λ_=>[laB l b2]) (λz=>z=z0) [0] (λnj=>zP 10 l.opn (λh=>nj (l.parts:Int) [0] (by rw [hz0,h];rfl) Kr) (λh=>nj (-1) [] (by rw [hz0,h];rfl) Kr)) (λz g hz=> ?_))
 subst hz
 refine k8 (R:=λv ob=>SlT v (xR l s) ob) [] (λw hO=>hsp w) λv ob hR=> ?_
 have hne:=laPs_ne l s
 have hfew:=laPs_few l s hp.2
 obtain ⟨g1,cap,cur,rfl,rfl,hcap⟩:∃ g cap cur,v= .slice (some ⟨g,0,none⟩) (xR l s).length cap/\ob=[⟨g,cur,9⟩]/\True:=by
  rcases hR.2 with ⟨_,h,_⟩|⟨g,cap,cur,h1,h2,_⟩
  ·omega
  ·exact ⟨g,cap,cur,h1,h2,trivial⟩
 have hrd:∀ w,Own [] W w [laB l b2,⟨g1,cur,9⟩]->Reads yY w w.heap.size (some ⟨g1,0,none⟩) (xR l s):=λw hO=>SlT.reads hR rfl hO λx hx=>List.mem_cons_of_mem _ hx
 obtain ⟨a,ha⟩:∃ a,(xR l s)[0]=a:=⟨_,rfl⟩
 have ha0:(xR l s).getD 0 []=a:=by rw [List.getD_eq_getElem?_getD,List.getElem?_eq_getElem hne,ha];rfl
 have hld:∀ w,Own [] W w [laB l b2,⟨g1,cur,9⟩]->(loadVar 9 ⟨g1,0+0*1+0,none⟩).run YP w= .ok (.string (mkS a)) w:=λw hO=>by
  obtain ⟨b,off,e,hel⟩:=(hrd w hO).elem zX 0 hne
  obtain ⟨rfl,rfl⟩:g1=b/\0=off:=by cases e;exact ⟨rfl,rfl⟩
  exact hel w (Below.refl _ _) _ 0 _ (by rw [ha];kernel_rfl)
 have hno:∀ w,Own [] W w [laB l b2,⟨g1,cur,9⟩]->YC 104 #[.slice (some ⟨g1,0,none⟩) (xR l s).length cap,.string ⟨#[]⟩] w (YR (.bool (!noE (xR l s))) w):=λw hO=>qHole_any _ cap (xR l s) w (hrd w hO) Om
 have hE:fI l s=((decide (((xR l s).length:Int)=(l.parts:Int))||(l.more && decide (((xR l s).length:Int)>(l.parts:Int)))) && decide (a=l.word) && noE (xR l s)):=by
  unfold fI
  rw [ha0]
  congr 3
  ·exact decide_eq_decide.2 Om
  ·congr 1;exact decide_eq_decide.2 Om
 have bad:∀ w,fI l s=false->Own [] W w [laB l b2,⟨g1,cur,9⟩]→∃ v' ob',Ending.returned (.tuple #[.slice (some ⟨g1,0,none⟩) (xR l s).length cap,.bool false])= .returned (.tuple #[v',.bool (fI l s)])/\SlT v' (xR l s) ob'/\Own [] W w ob':=λw h hO=>⟨_,_,by rw [h],hR,hO.past 1 _⟩
 generalize xR l s=ps at*
 refine zB 20 [0] ((ps.length:Int)=(l.parts:Int)) (λh20=> ?_) (λh20=>x_bb 23 [0] l.more (λh23=>zB 29 [0] ((ps.length:Int)>(l.parts:Int)) (λh29=> ?_) (λh29=> ?_)) (λh23=> ?_))
 case refine_3=>exact zS [] (.slice (some ⟨g1,0,none⟩) ps.length cap) (.bool false) λw hO=>bad w (by rw [hE,decide_eq_false h20,decide_eq_false h29];simp) (hO.past 0 _)
 case refine_4=>exact zS [] (.slice (some ⟨g1,0,none⟩) ps.length cap) (.bool false) λw hO=>bad w (by rw [hE,decide_eq_false h20,h23];simp) (hO.past 0 _)
 all_goals
  have hN:(decide ((ps.length:Int)=(l.parts:Int))||(l.more && decide ((ps.length:Int)>(l.parts:Int))))=true:=by
   first|(rw [decide_eq_true h20];rfl)|(rw [h23,decide_eq_true h29];simp)
  rw [hN,Bool.true_and] at hE
  refine zI 36 [] (A:=some ⟨g1,0,none⟩) rfl ps.length cap 0 1 hne (zH 37 [] 9 g1 (0+0*1+0) (.string (mkS a)) (λw hO=>hld w (hO.past 0 _)) (x4 40 [0] a l.word (λh40=> ?_) (λh40=> ?_)))
  rotate_left
  ·exact zS [] (.slice (some ⟨g1,0,none⟩) ps.length cap) Z5 λw hO=>bad w (by rw [hE,decide_eq_false h40];rfl) (hO.past 0 _)
  refine z8 (v:= .bool (!noE ps)) [] (λw hO=>hno w (hO.past 0 _)) (zP 44 (!noE ps) (λh44=> ?_) (λh44=> ?_))
  ·exact zS [] (.slice (some ⟨g1,0,none⟩) ps.length cap) Z5 λw hO=>bad w (by rw [hE,show noE ps=false by simpa using h44];simp) (hO.past 0 _)
  ·exact zS [] (.slice (some ⟨g1,0,none⟩) ps.length cap) Z4 λw hO=>⟨_,_,by rw [hE,decide_eq_true h40,show noE ps=true by simpa using h44];rfl,hR,hO.past 1 _⟩
theorem qFeats_any (s:YL)(W:World)(hs:s.length<=1048576)(hK:HasLib W):YC 107 #[.string (mkS s)] W λe w'=>∃ v' ob',e= .returned v'/\SlT v' (if s=[45] then [] else zE 44 [] s) ob'/\Own [] W w' ob':=by
 have hc:∀ w,YB W w->YC 154 #[.string (mkS s),.string ⟨#[44]⟩] w λe w'=>∃ v ob,e= .returned v/\SlT v (zE 44 [] s) ob/\Own [] w w' ob:=λw hb=>split_comma s w hs (hK.on hb)
 refine zD Tryz.func107 (x4 4 [] s [45] (λh=> ?_) (λh=> ?_))
 ·exact z7 [] (.slice none 0 0) λw hO=>⟨_,[],rfl,by rw [if_pos h];exact Sl.nil _ _,hO.past 0 _⟩
 ·exact k8 (R:=λv ob=>SlT v (zE 44 [] s) ob) [] (λw hO=>hc w hO.below) λv ob hR=>(z7 [] v λw hO=>⟨v,ob,rfl,by rw [if_neg h];exact hR,hO.past 0 _⟩)
theorem qLastN_any (g n cap:Nat)(W:World)(hn:n+1<=1048576):YC 106 #[.slice (some ⟨g,0,none⟩) (n+1) cap] W (YR (.pointer (some ⟨g,n*3,none⟩)) W):=by
 refine zD Tryz.func106 (v8 6 [] (YI (IntKind.i64.wrap (((n+1:Nat):Int) -1))) (YI (n:Int)) (by rw [show (((n+1:Nat):Int) -1)=(n:Int) by omega,IntWalk.i64_in _ Om]) ?_)
 refine zI 7 [] (A:=some ⟨g,0,none⟩) rfl (n+1) cap n 3 (Nat.lt_succ_self _) (z7 [] (Zp g (0+(n:Int).toNat*3)) λw hO=>⟨?_,hO.below⟩)
 rw [Nat.zero_add,Int.toNat_natCast]
theorem qLastB_any (g n cap:Nat)(W:World)(hn:n+1<=1048576):YC 108 #[.slice (some ⟨g,0,none⟩) (n+1) cap] W (YR (.pointer (some ⟨g,n*3,none⟩)) W):=by
 refine zD Tryz.func108 (v8 6 [] (YI (IntKind.i64.wrap (((n+1:Nat):Int) -1))) (YI (n:Int)) (by rw [show (((n+1:Nat):Int) -1)=(n:Int) by omega,IntWalk.i64_in _ Om]) ?_)
 refine zI 7 [] (A:=some ⟨g,0,none⟩) rfl (n+1) cap n 3 (Nat.lt_succ_self _) (z7 [] (Zp g (0+(n:Int).toNat*3)) λw hO=>⟨?_,hO.below⟩)
 rw [Nat.zero_add,Int.toNat_natCast]
end
section
set_option linter.unnecessarySimpa false
theorem Sl.putLast {α:Type}{gC:α->List Value}{T sz g cap:Nat}(hg:∀ x,(gC x).length=sz){cur:Array Value}{ini:List α}{n:α}(h:Sl T sz (.slice (some ⟨g,0,none⟩) (ini.length+1) cap) (ini.length+1) ((ini++[n]).flatMap gC) [⟨g,cur,T⟩])(n':α)(fo:Nat)(vs:Array Value)(hfit:fo+vs.size<=sz)(hy:gC n'=(gC n).take fo++vs.toList++(gC n).drop (fo+vs.size)):
  Sl T sz (.slice (some ⟨g,0,none⟩) (ini.length+1) cap) (ini.length+1) ((ini++[n']).flatMap gC) [⟨g,zW cur (ini.length*sz+fo) vs,T⟩]/\ini.length*sz+fo+vs.size<=cur.size:=by
 obtain ⟨h1,h2⟩:=h
 rcases h2 with ⟨e,_⟩|⟨g',cap',cur',e1,e2,e3,e4,e5,e6⟩
 ·cases e
 ·obtain ⟨rfl,rfl⟩:g=g'/\cap=cap':=by cases e1;exact ⟨rfl,rfl⟩
  obtain rfl:cur=cur':=by cases e2;rfl
  have hk:ini.length<(ini++[n]).length:=by simp
  have hs:=store_elem hg (cur:=cur) (l:=ini++[n]) (by rw [List.length_append];exact e6) ini.length fo hk vs n' hfit (by rw [List.getElem_append_right (Nat.le_refl _)];simpa using hy)
  have hset:(ini++[n]).set ini.length n'=ini++[n']:=by simp
  rw [hset,List.length_append,List.length_singleton] at hs
  have hcap:(ini.length+1)*sz<=cap*sz:=Nat.mul_le_mul_right _ e3
  have hm:(ini.length+1)*sz=ini.length*sz+sz:=Nat.succ_mul ..
  refine ⟨⟨?_,.inr ⟨g,cap,_,rfl,rfl,e3,e4,by rw [hs.2];exact e5,hs.1⟩⟩,by omega⟩
  rw [jT hg];simp
theorem Sl.lastAt {α:Type}{gC:α->List Value}{T sz g cap:Nat}(hg:∀ x,(gC x).length=sz){cur:Array Value}{ini:List α}{n:α}(h:Sl T sz (.slice (some ⟨g,0,none⟩) (ini.length+1) cap) (ini.length+1) ((ini++[n]).flatMap gC) [⟨g,cur,T⟩])(j:Nat)(u:Value)(hj:(gC n)[j]?=some u):cur[ini.length*sz+j]?=some u:=by
 obtain ⟨h1,h2⟩:=h
 rcases h2 with ⟨e,_⟩|⟨g',cap',cur',e1,e2,e3,e4,e5,e6⟩
 ·cases e
 ·obtain rfl:cur=cur':=by cases e2;rfl
  have hjs:j<sz:=by have:=(List.getElem?_eq_some_iff.1 hj).1;rwa [hg] at this
  have hm:(ini.length+1)*sz=ini.length*sz+sz:=Nat.succ_mul ..
  have h3:(cur.toList.take ((ini.length+1)*sz))[ini.length*sz+j]?=some u:=by
   rw [e6,List.flatMap_append,List.getElem?_append_right (by rw [jT hg];omega),jT hg,show ini.length*sz+j-ini.length*sz=j by omega,List.flatMap_singleton]
   exact hj
  rw [List.getElem?_take,if_pos Om] at h3
  simpa using h3
structure NdL (A:Option Addr)(c:Nat)(xs:List Nv)(o1 oa og oi:List Blk):Prop where
 top:Sl 75 3 (.slice A xs.length c) xs.length (xs.flatMap nvC) o1
 split:(xs=[]/\oa=[]/\og=[])∨∃ ini n,xs=ini++[n]/\(∀ x∈ini,∃ o,WsO x.A x.cap x.any o∧∀ b∈o,b∈oi)/\Sl 134 4 (.slice n.A n.any.length n.cap) n.any.length (n.any.flatMap wvC) oa∧∀ u∈n.any,∃ o,SlT (.slice u.A u.fs.length u.cap) u.fs o∧∀ b∈o,b∈og
def rdC (x:Rv)(k:Nat):List Value:=rvC x++[YI (k:Int)]
def rdB (x:Rv)(k rb:Nat):Blk:=⟨rb,(rdC x k).toArray,62⟩
structure RdQ (x:Rv)(o1 oa og oi o4 o7 o8:List Blk):Prop where
 needs:NdL x.nA x.nc x.needs o1 oa og oi
 bars:Sl 77 3 (.slice x.bA x.bars.length x.bc) x.bars.length (x.bars.flatMap bvC) o4
 fts:FtO x.fA x.fc x.fts o7 o8
def zZ (oa og oi o4 o7 o8:List Blk):List Blk:=oa++(og++(oi++(o4++(o7++o8))))
def RdR (rb k:Nat)(x:Rv)(ob:List Blk):Prop:=∃ o1 oa og oi o4 o7 o8,ob=rdB x k rb::(o1++zZ oa og oi o4 o7 o8)/\RdQ x o1 oa og oi o4 o7 o8
structure Few (x:Rv):Prop where
 n:x.needs.length<=5000
 b:x.bars.length<=5000
 f:x.fts.length<=5000
 a:∀ n∈x.needs,n.any.length<=5000
theorem mI {M:List Nat}{A:Option Addr}{ps:List YL}{W:World}(hv:ReadsA M yY W A ps)(h0:0<ps.length):∃ pb po,A=some ⟨pb,po,none⟩∧∀ (w:World),Own M W w []→∀ j,j<ps.length->(loadVar 9 ⟨pb,po+j*1+0,none⟩).run YP w= .ok (.string (mkS (ps.getD j []))) w:=by
 obtain ⟨pb,po,e,hlt,hm,hc⟩:=hv h0
 refine ⟨pb,po,e,λw hO j hj=> ?_⟩
 obtain ⟨b,off,e2,hel⟩:=(hv.at hO).elem zX j hj
 obtain ⟨rfl,rfl⟩:pb=b/\po=off:=by rw [e] at e2;cases e2;exact ⟨rfl,rfl⟩
 exact hel w (Below.refl _ _) _ 0 _ (by rw [show ps.getD j []=ps[j] by rw [List.getD_eq_getElem?_getD,List.getElem?_eq_getElem hj];rfl];kernel_rfl)
structure AddB (rb kd:Nat)(x:Rv)(ps:List YL)(ob:List Blk)(W:World)(e:Ending)(w':World):Prop where
 ex:∃ x' ob',e= .returned (.bool (nM x.rt kd ps).2)/\x'.rt=(nM x.rt kd ps).1/\RdR rb kd x' ob'/\Own (ob.map Blk.b) W w' ob'
section
variable {M:List Nat}{P:Program}{n:Nat}{W:World}{Q:Exit->Act->World->Prop}{c:Xc}
theorem x_hold (L1 L2:List Blk)(hs:∀ w,Own M W w L1->Own M W w L2)(hg:zF M P n W Q {c with L:=L2})(hkt:(c.L,xQ c)=(L1,false):=by kernel_rfl):zF M P n W Q c:=by
 simp only [Prod.mk.injEq] at hkt
 obtain ⟨f1,hqq⟩:=hkt
 obtain ⟨top,kk,L,f⟩:=c
 dsimp only at f1
 subst f1
 cases top with
 |ops a r=>exact ⟨λhq=>mG hs (hg.go hq)⟩
 |code x=>exact ⟨λhq=>ok_take hs (hg.go hq)⟩
 |fin e=>exact ⟨λhq=>fin_take hs (hg.go hq)⟩
 |_=>cases hqq
end
theorem lastN_at (g m cap N:Nat)(hN:N=m+1)(hm:m<=5000):∀ w,YC 106 #[.slice (some ⟨g,0,none⟩) N cap] w (YR (.pointer (some ⟨g,m*3,none⟩)) w):=λw=>by subst hN;exact qLastN_any g m cap w Om
theorem lastB_at (g m cap N:Nat)(hN:N=m+1)(hm:m<=5000):∀ w,YC 108 #[.slice (some ⟨g,0,none⟩) N cap] w (YR (.pointer (some ⟨g,m*3,none⟩)) w):=λw=>by subst hN;exact qLastB_any g m cap w Om
theorem sl_addr {T sz N c:Nat}{A:Option Addr}{xs:List Value}{o1:List Blk}(h:Sl T sz (.slice A N c) N xs o1)(h0:0<N):∃ g cur,A=some ⟨g,0,none⟩/\o1=[⟨g,cur,T⟩]:=by
 rcases h.2 with ⟨_,q,_⟩|⟨g,cap,cur,e1,e2,_⟩
 ·omega
 ·cases e1;exact ⟨g,cur,rfl,e2⟩
theorem rd_lastN {x:Rv}{ini:List Nv}{n n':Nv}(hx:x.needs=ini++[n]){k rb:Nat}:rdB {x with needs:=ini++[n']} k rb=rdB x k rb:=by
 have:(ini++[n']).length=x.needs.length:=by rw [hx];simp
 unfold rdB rdC rvC
 simp only [this]
theorem rt_lastN {x:Rv}{ini:List Nv}{n n':Nv}{f:Nt->Nt}(hx:x.needs=ini++[n])(hn:n'.nt=f n.nt):Rv.rt {x with needs:=ini++[n']}={x.rt with needs:=x7 f x.rt.needs}:=by
 have e:x.rt.needs=ini.map Nv.nt++[n.nt]:=by show x.needs.map Nv.nt=_;rw [hx];simp
 rw [e,pW,←hn]
 unfold Rv.rt
 simp [Rv.ver]
theorem sl_len {α:Type}{gC:α->List Value}{T sz c:Nat}{A:Option Addr}{ini:List α}{y:α}{o:List Blk}(h:Sl T sz (.slice A (ini.length+1) c) (ini.length+1) ((ini++[y]).flatMap gC) o):Sl T sz (.slice A (ini++[y]).length c) (ini++[y]).length ((ini++[y]).flatMap gC) o:=by
 rw [List.length_append,List.length_singleton];exact h
theorem add_when (rb:Nat)(x:Rv)(ps:List YL)(A:Option Addr)(cap:Nat)(ob:List Blk)(W:World)(hR:RdR rb 4 x ob)(hO:Own (ob.map Blk.b) W W ob)(hv:ReadsA (ob.map Blk.b) yY W A ps)(hp:2<=ps.length)(hF:Few x)(hne:x.needs≠[]):YC 62 #[.pointer (some ⟨rb,0,none⟩),.slice A ps.length cap] W (AddB rb 4 x ps ob W):=by
 obtain ⟨o1,oa,og,oi,o4,o7,o8,rfl,hN,hB,hT⟩:=hR
 obtain ⟨pb,po,hA,hld⟩:=mI hv Om
 rcases hN.split with ⟨e,_⟩|⟨ini,n,hx,hi,hw,hf⟩
 ·exact absurd e hne
 have hlen:x.needs.length=ini.length+1:=by rw [hx];simp
 obtain ⟨g,cur,hg,rfl⟩:=sl_addr hN.top Om
 have hS:Sl 75 3 (.slice (some ⟨g,0,none⟩) (ini.length+1) x.nc) (ini.length+1) ((ini++[n]).flatMap nvC) [⟨g,cur,75⟩]:=by have:=hN.top;rw [hlen,hx,hg] at this;exact this
 have hFn:=hF.n
 have hput:=Sl.putLast wC hS {n with wh:=ps.getD 1 []} 1 #[.string (mkS (ps.getD 1 []))] (by simp) rfl
 have hlast:=lastN_at g ini.length x.nc x.needs.length hlen Om
 rw [←hg] at hlast
 refine zN hO Tryz.func62 (qJ 8 [0] [rdB x 4 rb] (λw hO=>(hO.past 0 (rdB x 4 rb::([⟨g,cur,75⟩]++zZ oa og oi o4 o7 o8))).sublist (by simp)) ?_)
 refine wU 50098 [0] 6 hA ps.length cap 1 1 Om (wJ 50099 [] 7 9 pb (po+1*1+0) (.string (mkS (ps.getD 1 []))) (λw hO=>hld w hO.no 1 Om) (gD [] 4 (z8 (v:=Zp g (ini.length*3)) [] (λw hO=>hlast w) ?_)))
 refine v8 101 [] (Zp g (ini.length*3+1)) (Zp g (ini.length*3+1)) rfl (x_sto 1 ⟨g,cur,75⟩ (ini.length*3+1) 1 (.string (mkS (ps.getD 1 []))) (rdB x 4 rb::⟨g,cur,75⟩::zZ oa og oi o4 o7 o8) hput.2 ?_)
 refine z7 [] Z4 λw hO=>⟨{x with needs:=ini++[{n with wh:=ps.getD 1 []}]},rdB {x with needs:=ini++[{n with wh:=ps.getD 1 []}]} 4 rb::([⟨g,zW cur (ini.length*3+1) #[.string (mkS (ps.getD 1 []))],75⟩]++zZ oa og oi o4 o7 o8),rfl, ?_,⟨[⟨g,zW cur (ini.length*3+1) #[.string (mkS (ps.getD 1 []))],75⟩],oa,og,oi,o4,o7,o8,rfl,⟨⟨?_,.inr ⟨ini,{n with wh:=ps.getD 1 []},rfl,hi,hw,hf⟩⟩,hB,hT⟩⟩, ?_⟩
 ·exact rt_lastN hx (f:=λn=>{n with wh:=ps.getD 1 []}) rfl
 ·exact hg▸sl_len hput.1
 ·rw [rd_lastN hx]
  exact hO.past 0 (rdB x 4 rb::⟨g,zW cur (ini.length*3+1) #[.string (mkS (ps.getD 1 []))],75⟩::zZ oa og oi o4 o7 o8)
theorem add_opt (rb:Nat)(x:Rv)(ps:List YL)(A:Option Addr)(cap:Nat)(ob:List Blk)(W:World)(hR:RdR rb 5 x ob)(hO:Own (ob.map Blk.b) W W ob)(hv:ReadsA (ob.map Blk.b) yY W A ps)(hp:2<=ps.length)(hF:Few x)(hne:x.needs≠[]):YC 62 #[.pointer (some ⟨rb,0,none⟩),.slice A ps.length cap] W (AddB rb 5 x ps ob W):=by
 obtain ⟨o1,oa,og,oi,o4,o7,o8,rfl,hN,hB,hT⟩:=hR
 obtain ⟨pb,po,hA,hld⟩:=mI hv Om
 rcases hN.split with ⟨e,_⟩|⟨ini,n,hx,hi,hw,hf⟩
 ·exact absurd e hne
 have hlen:x.needs.length=ini.length+1:=by rw [hx];simp
 obtain ⟨g,cur,hg,rfl⟩:=sl_addr hN.top Om
 have hS:Sl 75 3 (.slice (some ⟨g,0,none⟩) (ini.length+1) x.nc) (ini.length+1) ((ini++[n]).flatMap nvC) [⟨g,cur,75⟩]:=by have:=hN.top;rw [hlen,hx,hg] at this;exact this
 have hFn:=hF.n
 have hput:=Sl.putLast wC hS {n with opt:=ps.getD 1 []} 2 #[.string (mkS (ps.getD 1 []))] (by simp) rfl
 have hlast:=lastN_at g ini.length x.nc x.needs.length hlen Om
 rw [←hg] at hlast
 refine zN hO Tryz.func62 (qJ 8 [0] [rdB x 5 rb] (λw hO=>(hO.past 0 (rdB x 5 rb::([⟨g,cur,75⟩]++zZ oa og oi o4 o7 o8))).sublist (by simp)) ?_)
 refine wU 50110 [0] 6 hA ps.length cap 1 1 Om (wJ 50111 [] 7 9 pb (po+1*1+0) (.string (mkS (ps.getD 1 []))) (λw hO=>hld w hO.no 1 Om) (gD [] 4 (z8 (v:=Zp g (ini.length*3)) [] (λw hO=>hlast w) ?_)))
 refine v8 113 [] (Zp g (ini.length*3+2)) (Zp g (ini.length*3+2)) rfl (x_sto 1 ⟨g,cur,75⟩ (ini.length*3+2) 1 (.string (mkS (ps.getD 1 []))) (rdB x 5 rb::⟨g,cur,75⟩::zZ oa og oi o4 o7 o8) hput.2 ?_)
 refine z7 [] Z4 λw hO=>⟨{x with needs:=ini++[{n with opt:=ps.getD 1 []}]},rdB {x with needs:=ini++[{n with opt:=ps.getD 1 []}]} 5 rb::([⟨g,zW cur (ini.length*3+2) #[.string (mkS (ps.getD 1 []))],75⟩]++zZ oa og oi o4 o7 o8),rfl, ?_,⟨[⟨g,zW cur (ini.length*3+2) #[.string (mkS (ps.getD 1 []))],75⟩],oa,og,oi,o4,o7,o8,rfl,⟨⟨?_,.inr ⟨ini,{n with opt:=ps.getD 1 []},rfl,hi,hw,hf⟩⟩,hB,hT⟩⟩, ?_⟩
 ·exact rt_lastN hx (f:=λn=>{n with opt:=ps.getD 1 []}) rfl
 ·exact hg▸sl_len hput.1
 ·rw [rd_lastN hx]
  exact hO.past 0 (rdB x 5 rb::⟨g,zW cur (ini.length*3+2) #[.string (mkS (ps.getD 1 []))],75⟩::zZ oa og oi o4 o7 o8)
end
section
set_option linter.unnecessarySimpa false
theorem rd_lastB {x:Rv}{ini:List Bv}{n n':Bv}(hx:x.bars=ini++[n]){k rb:Nat}:rdB {x with bars:=ini++[n']} k rb=rdB x k rb:=by
 have:(ini++[n']).length=x.bars.length:=by rw [hx];simp
 unfold rdB rdC rvC
 simp only [this]
theorem add_bwhen (rb:Nat)(x:Rv)(ps:List YL)(A:Option Addr)(cap:Nat)(ob:List Blk)(W:World)(hR:RdR rb 7 x ob)(hO:Own (ob.map Blk.b) W W ob)(hv:ReadsA (ob.map Blk.b) yY W A ps)(hp:2<=ps.length)(hF:Few x)(hne:x.bars≠[]):YC 62 #[.pointer (some ⟨rb,0,none⟩),.slice A ps.length cap] W (AddB rb 7 x ps ob W):=by
 obtain ⟨o1,oa,og,oi,o4,o7,o8,rfl,hN,hB,hT⟩:=hR
 obtain ⟨pb,po,hA,hld⟩:=mI hv Om
 obtain ⟨ini,n,hx⟩:∃ ini n,x.bars=ini++[n]:=⟨x.bars.dropLast,x.bars.getLast hne,(List.dropLast_concat_getLast hne).symm⟩
 have hlen:x.bars.length=ini.length+1:=by rw [hx];simp
 obtain ⟨g,cur,hg,rfl⟩:=sl_addr hB Om
 have hS:Sl 77 3 (.slice (some ⟨g,0,none⟩) (ini.length+1) x.bc) (ini.length+1) ((ini++[n]).flatMap bvC) [⟨g,cur,77⟩]:=by rw [hlen,hx,hg] at hB;exact hB
 have hFb:=hF.b
 have hput:=Sl.putLast bvC_len hS {n with wh:=ps.getD 1 []} 2 #[.string (mkS (ps.getD 1 []))] (by simp) rfl
 have hlast:=lastB_at g ini.length x.bc x.bars.length hlen Om
 rw [←hg] at hlast
 refine zN hO Tryz.func62 (qJ 8 [0] [rdB x 7 rb] (λw hO=>(hO.past 0 (rdB x 7 rb::(o1++zZ oa og oi [⟨g,cur,77⟩] o7 o8))).sublist (by simp)) ?_)
 refine wU 50140 [0] 6 hA ps.length cap 1 1 Om (wJ 50141 [] 7 9 pb (po+1*1+0) (.string (mkS (ps.getD 1 []))) (λw hO=>hld w hO.no 1 Om) (gD [] 4 (z8 (v:=Zp g (ini.length*3)) [] (λw hO=>hlast w) ?_)))
 refine v8 143 [] (Zp g (ini.length*3+2)) (Zp g (ini.length*3+2)) rfl (x_hold (rdB x 7 rb::(o1++zZ oa og oi [⟨g,cur,77⟩] o7 o8)) (rdB x 7 rb::⟨g,cur,77⟩::(o1++zZ oa og oi [] o7 o8)) (λw hO=>kE [] hO λp=>by
  simp only [zZ,List.countP_append,List.countP_cons,List.countP_nil,List.cons_append,List.nil_append];omega) ?_)
 refine x_sto 1 ⟨g,cur,77⟩ (ini.length*3+2) 1 (.string (mkS (ps.getD 1 []))) (rdB x 7 rb::⟨g,cur,77⟩::(o1++zZ oa og oi [] o7 o8)) hput.2 (z7 [] Z4 λw hO=>⟨{x with bars:=ini++[{n with wh:=ps.getD 1 []}]},rdB {x with bars:=ini++[{n with wh:=ps.getD 1 []}]} 7 rb::(o1++zZ oa og oi [⟨g,zW cur (ini.length*3+2) #[.string (mkS (ps.getD 1 []))],77⟩] o7 o8),rfl, ?_,⟨o1,oa,og,oi,[⟨g,zW cur (ini.length*3+2) #[.string (mkS (ps.getD 1 []))],77⟩],o7,o8,rfl,⟨hN, ?_,hT⟩⟩, ?_⟩)
 ·have e:x.rt.bars=ini.map Bv.bt++[n.bt]:=by show x.bars.map Bv.bt=_;rw [hx];simp
  show Rv.rt _={x.rt with bars:=x7 (λb=>{b with wh:=ps.getD 1 []}) x.rt.bars}
  rw [e,pW]
  unfold Rv.rt
  simp [Rv.ver,Bv.bt]
 ·exact hg▸sl_len hput.1
 ·rw [rd_lastB hx]
  exact kE [] (hO.past 0 (rdB x 7 rb::⟨g,zW cur (ini.length*3+2) #[.string (mkS (ps.getD 1 []))],77⟩::(o1++zZ oa og oi [] o7 o8))) λp=>by
   simp only [zZ,List.countP_append,List.countP_cons,List.countP_nil,List.cons_append,List.nil_append];omega
end
section
set_option linter.unnecessarySimpa false
def hd (x:Rv)(p2:YL)(ps:List YL):Rv:={x with name:=ps.getD 1 [],maj:=(nG p2).maj,min:=(nG p2).min,pat:=(nG p2).pat,pre:=(nG p2).pre,bld:=(nG p2).build}
theorem add_head (rb:Nat)(x:Rv)(ps:List YL)(A:Option Addr)(cap:Nat)(ob:List Blk)(W:World)(hR:RdR rb 1 x ob)(hO:Own (ob.map Blk.b) W W ob)(hv:ReadsA (ob.map Blk.b) yY W A ps)(hp:3<=ps.length)(hs:∀ s∈ps,s.length<=1048576)(hK:∀ w,Own (ob.map Blk.b) W w []->HasTab w):YC 62 #[.pointer (some ⟨rb,0,none⟩),.slice A ps.length cap] W (AddB rb 1 x ps ob W):=by
 obtain ⟨o1,oa,og,oi,o4,o7,o8,rfl,hN,hB,hT⟩:=hR
 obtain ⟨pb,po,hA,hld⟩:=mI hv Om
 obtain ⟨p2,hp2⟩:∃ p,ps.getD 2 []=p:=⟨_,rfl⟩
 have hs2:p2.length<=1048576:=by
  rw [←hp2,List.getD_eq_getElem?_getD,List.getElem?_eq_getElem (by omega)];exact hs _ (List.getElem_mem _)
 have hld2:∀ (w:World),Own ((rdB x 1 rb::(o1++zZ oa og oi o4 o7 o8)).map Blk.b) W w []->(loadVar 9 ⟨pb,po+2*1+0,none⟩).run YP w= .ok (.string (mkS p2)) w:=λw hO=>by have:=hld w hO 2 Om;rw [hp2] at this;exact this
 have hc:∀ w,Own ((rdB x 1 rb::(o1++zZ oa og oi o4 o7 o8)).map Blk.b) W w []->YC 105 #[.string (mkS p2)] w (YR (.tuple #[kJ (nG p2),YI (parE p2)]) w):=λw hO=>parse_any p2 w Om (hK w hO)
 refine zN hO Tryz.func62 (zI 20 [0] hA ps.length cap 2 1 Om (zH 21 [] 9 pb (po+2*1+0) (.string (mkS p2)) (λw hO=>hld2 w hO.no) ?_))
 refine z8 (v:= .tuple #[kJ (nG p2),YI (parE p2)]) [] (λw hO=>hc w hO.no) (zJ [] λb6=>(qJ 9 [0] [⟨b6,(kJ (nG p2)).cells,24⟩] (λw hO=>Own.nth 0 ⟨b6,(kJ (nG p2)).cells,24⟩ hO) (wU 50028 [] 3 hA ps.length cap 1 1 Om (wJ 50029 [] 4 9 pb (po+1*1+0) (.string (mkS (ps.getD 1 []))) (λw hO=>hld w hO.no 1 Om) (gD [0] 8 ?_)))))
 refine xh_sto 1 (rdB x 1 rb) 0 1 (.string (mkS (ps.getD 1 []))) (⟨b6,(kJ (nG p2)).cells,24⟩::rdB x 1 rb::(o1++zZ oa og oi o4 o7 o8)) [⟨b6,(kJ (nG p2)).cells,24⟩] (by show 0+1<=10;omega) (λw hO=>Own.nth 0 ⟨b6,(kJ (nG p2)).cells,24⟩ hO) (z7 [1] (.bool (decide (parE p2=0))) λw hO=>⟨hd x p2 ps,rdB (hd x p2 ps) 1 rb::(o1++zZ oa og oi o4 o7 o8),by rw [←hp2];rfl, ?_,⟨o1,oa,og,oi,o4,o7,o8,rfl,⟨hN,hB,hT⟩⟩,hO.past 1 _⟩)
 rw [←hp2];rfl
end
section
set_option linter.unnecessarySimpa false
theorem NdL.push {A A':Option Addr}{c c':Nat}{xs:List Nv}{o1 o1' oa og oi:List Blk}(h:NdL A c xs o1 oa og oi)(ht:Sl 75 3 (.slice A' (xs.length+1) c') (xs.length+1) (xs.flatMap nvC++nvC ⟨none,0,[],[],[]⟩) o1'):NdL A' c' (xs++[⟨none,0,[],[],[]⟩]) o1' [] [] (oi++(oa++og)):=by
 refine ⟨by rw [List.length_append,List.length_singleton,List.flatMap_append,List.flatMap_singleton];exact ht,.inr ⟨xs,_,rfl,λy hy=> ?_,Sl.nil _ _,λu hu=>by cases hu⟩⟩
 rcases h.split with ⟨e,_⟩|⟨ini,n,e,hi,hw,hf⟩
 ·rw [e] at hy;cases hy
 ·rw [e] at hy
  rcases List.mem_append.1 hy with hy|hy
  ·obtain ⟨o,q1,q2⟩:=hi y hy
   exact ⟨o,q1,λb hb=>List.mem_append_left _ (q2 b hb)⟩
  ·rw [List.mem_singleton.1 hy]
   exact ⟨oa++og,⟨oa,og,rfl,hw,hf⟩,λb hb=>List.mem_append_right _ hb⟩
def rdL (x:Rv)(n1 n2 n3:Value)(k rb:Nat):Blk:=⟨rb, #[.string (mkS x.name),YI x.maj,YI x.min,YI x.pat,.string (mkS x.pre),.string (mkS x.bld),n1,n2,n3,YI (k:Int)],62⟩
theorem add_need (rb:Nat)(x:Rv)(ps:List YL)(A:Option Addr)(cap:Nat)(ob:List Blk)(W:World)(hR:RdR rb 2 x ob)(hO:Own (ob.map Blk.b) W W ob)(hF:Few x):YC 62 #[.pointer (some ⟨rb,0,none⟩),.slice A ps.length cap] W (AddB rb 2 x ps ob W):=by
 obtain ⟨o1,oa,og,oi,o4,o7,o8,rfl,hN,hB,hT⟩:=hR
 have hFn:=hF.n
 refine zN hO Tryz.func62 (gM [0,0] 1 75 #[.slice none 0 0,.string (mkS []),.string (mkS [])] λb=> ?_)
 refine wM (m:=1) (cp:=1) [] [⟨b, #[.slice none 0 0,.string (mkS []),.string (mkS [])],75⟩] o1 (rdB x 2 rb::zZ oa og oi o4 o7 o8) 0 (⟨b, #[.slice none 0 0,.string (mkS []),.string (mkS [])],75⟩::rdB x 2 rb::(o1++zZ oa og oi o4 o7 o8)) (λw hO=>kE [] hO λp=>by
  simp only [List.countP_append,List.countP_cons,List.countP_nil,List.cons_append,List.nil_append];omega) hN.top Om λv' ob' h=> ?_
 obtain ⟨A',c',rfl⟩:=h.form
 refine v8 48 [] (Zp rb 6) (Zp rb 6) rfl (x_hold ([⟨b, #[.slice none 0 0,.string (mkS []),.string (mkS [])],75⟩]++ob'++(rdB x 2 rb::zZ oa og oi o4 o7 o8)) (rdB x 2 rb::(ob'++zZ [] [] (oi++(oa++og)) o4 o7 o8)) (λw hO=>kE [⟨b, #[.slice none 0 0,.string (mkS []),.string (mkS [])],75⟩] hO λp=>by
  simp only [zZ,List.countP_append,List.countP_cons,List.countP_nil,List.cons_append,List.nil_append];omega) ?_)
 have hl:(x.needs++[(⟨none,0,[],[],[]⟩:Nv)]).length=x.needs.length+1:=by simp
 have hrd:rdB {x with nA:=A',nc:=c',needs:=x.needs++[⟨none,0,[],[],[]⟩]} 2 rb=rdL x (.slice A' (x.needs.length+1) c') (.slice x.bA x.bars.length x.bc) (.slice x.fA x.fts.length x.fc) 2 rb:=by
  unfold rdB rdC rvC rdL;simp only [hl];rfl
 refine z7 [0] Z4 λw hO=>⟨{x with nA:=A',nc:=c',needs:=x.needs++[⟨none,0,[],[],[]⟩]},rdB {x with nA:=A',nc:=c',needs:=x.needs++[⟨none,0,[],[],[]⟩]} 2 rb::(ob'++zZ [] [] (oi++(oa++og)) o4 o7 o8),rfl, ?_,⟨ob',[],[],oi++(oa++og),o4,o7,o8,rfl,⟨hN.push h,hB,hT⟩⟩, ?_⟩
 ·unfold Rv.rt nM;simp [Nv.nt,Rv.ver]
 ·rw [hrd]
  exact hO.past 0 (rdL x (.slice A' (x.needs.length+1) c') (.slice x.bA x.bars.length x.bc) (.slice x.fA x.fts.length x.fc) 2 rb::(ob'++zZ [] [] (oi++(oa++og)) o4 o7 o8))
theorem add_bar (rb:Nat)(x:Rv)(ps:List YL)(A:Option Addr)(cap:Nat)(ob:List Blk)(W:World)(hR:RdR rb 6 x ob)(hO:Own (ob.map Blk.b) W W ob)(hv:ReadsA (ob.map Blk.b) yY W A ps)(hp:3<=ps.length)(hF:Few x):YC 62 #[.pointer (some ⟨rb,0,none⟩),.slice A ps.length cap] W (AddB rb 6 x ps ob W):=by
 obtain ⟨o1,oa,og,oi,o4,o7,o8,rfl,hN,hB,hT⟩:=hR
 obtain ⟨pb,po,hA,hld⟩:=mI hv Om
 have hFb:=hF.b
 obtain ⟨p1,hp1⟩:∃ p,ps.getD 1 []=p:=⟨_,rfl⟩
 obtain ⟨p2,hp2⟩:∃ p,ps.getD 2 []=p:=⟨_,rfl⟩
 have hl1:∀ w,Own ((rdB x 6 rb::(o1++zZ oa og oi o4 o7 o8)).map Blk.b) W w []->(loadVar 9 ⟨pb,po+1*1+0,none⟩).run YP w= .ok (.string (mkS p1)) w:=λw hO=>by have:=hld w hO 1 Om;rw [hp1] at this;exact this
 have hl2:∀ w,Own ((rdB x 6 rb::(o1++zZ oa og oi o4 o7 o8)).map Blk.b) W w []->(loadVar 9 ⟨pb,po+2*1+0,none⟩).run YP w= .ok (.string (mkS p2)) w:=λw hO=>by have:=hld w hO 2 Om;rw [hp2] at this;exact this
 refine zN hO Tryz.func62 (qJ 14 [0] [rdB x 6 rb] (λw hO=>Own.nth 0 (rdB x 6 rb) hO) ?_)
 refine wU 50122 [0] 6 hA ps.length cap 1 1 Om (wJ 50123 [] 7 9 pb (po+1*1+0) (.string (mkS p1)) (λw hO=>hl1 w hO.no) (wU 50125 [] 9 hA ps.length cap 2 1 Om (wJ 50126 [] 10 9 pb (po+2*1+0) (.string (mkS p2)) (λw hO=>hl2 w hO.no) (gD [] 12 (fQ 1 77 #[.string (mkS p1),.string (mkS p2),.string (mkS [])] λb=>gD [] 13 ?_)))))
 refine pR (m:=1) (cp:=1) [⟨b, #[.string (mkS p1),.string (mkS p2),.string (mkS [])],77⟩] o4 (rdB x 6 rb::(o1++zZ oa og oi [] o7 o8)) 0 (⟨b, #[.string (mkS p1),.string (mkS p2),.string (mkS [])],77⟩::rdB x 6 rb::(o1++zZ oa og oi o4 o7 o8)) [rdB x 6 rb] (λw hO=>kE [] hO λp=>by
  simp only [zZ,List.countP_append,List.countP_cons,List.countP_nil,List.cons_append,List.nil_append];omega) (λo w hO=>hO.take (λy hy=>by rw [List.mem_singleton.1 hy];simp) (by simp)) hB Om λv' ob' h=> ?_
 obtain ⟨A',c',rfl⟩:=h.form
 refine v8 131 [] (Zp rb 7) (Zp rb 7) rfl (x_hold ([⟨b, #[.string (mkS p1),.string (mkS p2),.string (mkS [])],77⟩]++ob'++(rdB x 6 rb::(o1++zZ oa og oi [] o7 o8))) (rdB x 6 rb::(o1++zZ oa og oi ob' o7 o8)) (λw hO=>kE [⟨b, #[.string (mkS p1),.string (mkS p2),.string (mkS [])],77⟩] hO λp=>by
  simp only [zZ,List.countP_append,List.countP_cons,List.countP_nil,List.cons_append,List.nil_append];omega) ?_)
 have hl:(x.bars++[(⟨p1,p2,[]⟩:Bv)]).length=x.bars.length+1:=by simp
 have hrd:rdB {x with bA:=A',bc:=c',bars:=x.bars++[⟨p1,p2,[]⟩]} 6 rb=rdL x (.slice x.nA x.needs.length x.nc) (.slice A' (x.bars.length+1) c') (.slice x.fA x.fts.length x.fc) 6 rb:=by
  unfold rdB rdC rvC rdL;simp only [hl];rfl
 refine z7 [0] Z4 λw hO=>⟨{x with bA:=A',bc:=c',bars:=x.bars++[⟨p1,p2,[]⟩]},rdB {x with bA:=A',bc:=c',bars:=x.bars++[⟨p1,p2,[]⟩]} 6 rb::(o1++zZ oa og oi ob' o7 o8),rfl, ?_,⟨o1,oa,og,oi,ob',o7,o8,rfl,⟨hN, ?_,hT⟩⟩, ?_⟩
 ·show Rv.rt _={x.rt with bars:=x.rt.bars++[⟨ps.getD 1 [],ps.getD 2 [],[]⟩]}
  rw [hp1,hp2];unfold Rv.rt;simp [Bv.bt,Rv.ver]
 ·show Sl _ 3 (.slice A' (x.bars++[_]).length c') _ _ _
  rw [hl,List.flatMap_append,List.flatMap_singleton];exact h
 ·rw [hrd]
  exact hO.past 0 (rdL x (.slice x.nA x.needs.length x.nc) (.slice A' (x.bars.length+1) c') (.slice x.fA x.fts.length x.fc) 6 rb::(o1++zZ oa og oi ob' o7 o8))
theorem reads_from {w:World}{pb po cap:Nat}{ps:List YL}(h:Reads yY w w.heap.size (some ⟨pb,po,none⟩) ps)(h2:2<=ps.length)(hc:ps.length<=cap):Reads yY w w.heap.size (some ⟨pb,po+(if cap=2 then 0 else 2),none⟩) (ps.drop 2):=λh0=>by
 obtain ⟨b,off,e,hlt,hcell⟩:=h Om
 obtain ⟨rfl,rfl⟩:pb=b/\po=off:=by cases e;exact ⟨rfl,rfl⟩
 rw [List.length_drop] at h0
 rw [if_neg Om]
 refine ⟨pb,po+2,rfl,hlt,λk u hk=> ?_⟩
 have:(ps.flatMap yY)[2+k]?=some u:=by
  have hs:ps.flatMap yY=(ps.take 2).flatMap yY++(ps.drop 2).flatMap yY:=by rw [←List.flatMap_append,List.take_append_drop]
  have h2':((ps.take 2).flatMap yY).length=2:=by rw [jT zX,List.length_take,Nat.min_eq_left h2]
  rw [hs,List.getElem?_append_right Om,h2',show 2+k-2=k by omega];exact hk
 have:=hcell (2+k) u this
 rw [←Nat.add_assoc] at this;exact this
theorem add_feat (rb:Nat)(x:Rv)(ps:List YL)(A:Option Addr)(cap:Nat)(ob:List Blk)(W:World)(hR:RdR rb 8 x ob)(hO:Own (ob.map Blk.b) W W ob)(hv:ReadsA (ob.map Blk.b) yY W A ps)(hp:2<=ps.length/\ps.length<=100000)(hcap:ps.length<=cap)(hF:Few x):YC 62 #[.pointer (some ⟨rb,0,none⟩),.slice A ps.length cap] W (AddB rb 8 x ps ob W):=by
 obtain ⟨o1,oa,og,oi,o4,o7,o8,rfl,hN,hB,hT⟩:=hR
 obtain ⟨pb,po,hA,hld⟩:=mI hv Om
 have hFf:=hF.f
 obtain ⟨p1,hp1⟩:∃ p,ps.getD 1 []=p:=⟨_,rfl⟩
 have hl1:∀ w,Own ((rdB x 8 rb::(o1++zZ oa og oi o4 o7 o8)).map Blk.b) W w []->(loadVar 9 ⟨pb,po+1*1+0,none⟩).run YP w= .ok (.string (mkS p1)) w:=λw hO=>by have:=hld w hO 1 Om;rw [hp1] at this;exact this
 have hds:(ps.drop 2).length=ps.length-2:=List.length_drop ..
 have hRd:∀ w,Own ((rdB x 8 rb::(o1++zZ oa og oi o4 o7 o8)).map Blk.b) W w []->Reads yY w w.heap.size (some ⟨pb,po+(if cap=2 then 0 else 2),none⟩) (ps.drop 2):=λw hO=>reads_from (hA▸hv.at hO) hp.1 hcap
 refine zN hO Tryz.func62 (qJ 14 [0] [rdB x 8 rb] (λw hO=>Own.nth 0 (rdB x 8 rb) hO) ?_)
 refine wU 50152 [0] 6 hA ps.length cap 1 1 Om (wJ 50153 [] 7 9 pb (po+1*1+0) (.string (mkS p1)) (λw hO=>hl1 w hO.no) (xh_sllo 50155 [] 9 hA ps.length cap 1 2 Om Om (.slice (some ⟨pb,po+(if cap=2 then 0 else 2),none⟩) (ps.drop 2).length (cap-2)) (by rw [hds];rfl) (gD [] 10 ?_)))
 refine xh_appR (g:=yY) (T:=9) (k:=0) (v:= .slice none 0 0) (xs:=[]) (ps.drop 2) [] [] (rdB x 8 rb::(o1++zZ oa og oi o4 o7 o8)) (rdB x 8 rb::(o1++zZ oa og oi o4 o7 o8)) [rdB x 8 rb] (cp:=cap-2) (λw hO=>hO) (λo w hO=>hO.take (λy hy=>by rw [List.mem_singleton.1 hy];simp) (by simp)) zX strC_one (λw hO=>hRd w hO.no) (Sl.nil _ _) Om λv1 ob1 h1=> ?_
 have hS:SlT v1 (ps.drop 2) ob1:=by
  unfold SlT;rw [kL]
  have:=h1
  rw [Nat.zero_add,List.nil_append] at this;exact this
 obtain ⟨A1,c1,rfl⟩:=hS.form
 refine gD [] 12 (fQ 1 79 #[.string (mkS p1),.slice A1 (ps.drop 2).length c1] λb=>gD [] 13 ?_)
 refine pR (m:=1) (cp:=1) [⟨b, #[.string (mkS p1),.slice A1 (ps.drop 2).length c1],79⟩] o7 (rdB x 8 rb::(o1++zZ oa og oi o4 [] (o8++ob1))) 0 (⟨b, #[.string (mkS p1),.slice A1 (ps.drop 2).length c1],79⟩::([]++ob1++(rdB x 8 rb::(o1++zZ oa og oi o4 o7 o8)))) [rdB x 8 rb] (λw hO=>kE [] hO λp=>by
  simp only [zZ,List.countP_append,List.countP_cons,List.countP_nil,List.cons_append,List.nil_append];omega) (λo w hO=>hO.take (λy hy=>by rw [List.mem_singleton.1 hy];simp) (by simp)) hT.top Om λv' ob' h=> ?_
 obtain ⟨A',c',rfl⟩:=h.form
 refine v8 161 [] (Zp rb 8) (Zp rb 8) rfl (x_hold ([⟨b, #[.string (mkS p1),.slice A1 (ps.drop 2).length c1],79⟩]++ob'++(rdB x 8 rb::(o1++zZ oa og oi o4 [] (o8++ob1)))) (rdB x 8 rb::(o1++zZ oa og oi o4 ob' (o8++ob1))) (λw hO=>kE [⟨b, #[.string (mkS p1),.slice A1 (ps.drop 2).length c1],79⟩] hO λp=>by
  simp only [zZ,List.countP_append,List.countP_cons,List.countP_nil,List.cons_append,List.nil_append];omega) ?_)
 have hl:(x.fts++[(⟨p1,A1,ps.drop 2,c1⟩:Fv)]).length=x.fts.length+1:=by simp
 have hrd:rdB {x with fA:=A',fc:=c',fts:=x.fts++[⟨p1,A1,ps.drop 2,c1⟩]} 8 rb=rdL x (.slice x.nA x.needs.length x.nc) (.slice x.bA x.bars.length x.bc) (.slice A' (x.fts.length+1) c') 8 rb:=by
  unfold rdB rdC rvC rdL;simp only [hl];rfl
 refine z7 [0] Z4 λw hO=>⟨{x with fA:=A',fc:=c',fts:=x.fts++[⟨p1,A1,ps.drop 2,c1⟩]},rdB {x with fA:=A',fc:=c',fts:=x.fts++[⟨p1,A1,ps.drop 2,c1⟩]} 8 rb::(o1++zZ oa og oi o4 ob' (o8++ob1)),rfl, ?_,⟨o1,oa,og,oi,o4,ob',o8++ob1,rfl,⟨hN,hB, ?_⟩⟩, ?_⟩
 ·show Rv.rt _={x.rt with fts:=x.rt.fts++[⟨ps.getD 1 [],ps.drop 2⟩]}
  rw [hp1];unfold Rv.rt;simp [yT,Fv.ft,Rv.ver]
 ·exact (hT.more λb hb=>List.mem_append_left _ hb).add h ⟨ob1,hS,λb hb=>List.mem_append_right _ hb⟩
 ·rw [hrd]
  exact hO.past 0 (rdL x (.slice x.nA x.needs.length x.nc) (.slice x.bA x.bars.length x.bc) (.slice A' (x.fts.length+1) c') 8 rb::(o1++zZ oa og oi o4 ob' (o8++ob1)))
end
end Go.Proofs.YtobimfnmnkegdaaGreatDoor
