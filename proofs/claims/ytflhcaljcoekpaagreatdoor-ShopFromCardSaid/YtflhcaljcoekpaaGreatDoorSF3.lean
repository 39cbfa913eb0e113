import Derived.Lib.SliceRun
import Derived.Outline
import Derived.Deep.RegionHeld3
import Derived.IntWalk
import Derived.StillTailTactics
import Derived.Laws.StructEq
import Derived.Test.YtflhcaljcoekpaaGreatDoorSF2
set_option maxRecDepth 1000000
set_option maxHeartbeats 8000000
set_option linter.unusedVariables false
set_option linter.unusedSimpArgs false
set_option linter.unnecessarySimpa false
namespace Go.Proofs.YtflhcaljcoekpaaGreatDoor
open Go.RowKit

section
set_option linter.unnecessarySimpa false
theorem rise_iff:∀ {l:List YL},yX l=true↔∀ i (h:i+1<l.length),Op.bytesLess (l[i]'Om) l[i+1]=true
 | []=>⟨λ_ i h=>by simp at h,λ_=>rfl⟩
 | [a]=>⟨λ_ i h=>by simp at h,λ_=>rfl⟩
 |a::b::r=>by
  rw [yX,Bool.and_eq_true,rise_iff (l:=b::r)]
  constructor
  ·rintro ⟨h1,h2⟩ i h
   cases i with
   |zero=>exact h1
   |succ i=>exact h2 i (by simpa using h)
  ·intro h
   exact ⟨h 0 (by simp),λi hi=>h (i+1) (by simpa using hi)⟩
theorem y1 {α:Type}{p:α->Prop}{l:List α}{i:Nat}(hi:i<l.length)(h:∀ x∈l.take i,p x)(hp:p l[i]):∀ y∈l.take (i+1),p y:=λy hy=>by
 rw [List.take_succ_eq_append_getElem hi] at hy
 rcases List.mem_append.1 hy with hy|hy
 ·exact h y hy
 ·rw [List.mem_singleton.1 hy];exact hp
theorem yP {α:Type}{p:α->Prop}{l:List α}{i:Nat}(hi:l.length<=i)(h:∀ x∈l.take i,p x):∀ y∈l,p y:=by rwa [List.take_of_length_le hi] at h
theorem vL {l:List Ft}{of:List YL}(h:¬ of.length<=6\/yX of=false∨∃ s∈of,gK l s=false):x2 l of=false:=by
 unfold x2
 rcases h with h|h|⟨s,hs,h⟩
 ·rw [decide_eq_false h];rfl
 ·rw [h];simp
 ·rw [show of.all (gK l)=false from by rw [List.all_eq_false];exact ⟨s,hs,by rw [h];simp⟩];simp
theorem items_yes {l:List Ft}{of:List YL}(h:of.length<=6)(h2:yX of=true)(h3:∀ s∈of,gK l s=true):x2 l of=true:=by
 unfold x2
 rw [decide_eq_true h,h2,List.all_eq_true.2 h3];rfl
theorem bG {l:List Ft}(h:¬ l.length<=8\/(∃ f∈l,wdL f.name=false)\/yX (l.map Ft.name)=false∨∃ f∈l,x2 l f.of=false):qQ l=false:=by
 unfold qQ
 rcases h with h|⟨f,hf,h⟩|h|⟨f,hf,h⟩
 ·rw [decide_eq_false h];rfl
 ·rw [show l.all (λf=>wdL f.name)=false from by rw [List.all_eq_false];exact ⟨f,hf,by rw [h];simp⟩];simp
 ·rw [h];simp
 ·rw [show l.all (λf=>x2 l f.of)=false from by rw [List.all_eq_false];exact ⟨f,hf,by rw [h];simp⟩];simp
theorem may_yes {l:List Ft}(h:l.length<=8)(h2:∀ f∈l,wdL f.name=true)(h3:yX (l.map Ft.name)=true)(h4:∀ f∈l,x2 l f.of=true):qQ l=true:=by
 unfold qQ
 rw [decide_eq_true h,List.all_eq_true.2 h2,h3,List.all_eq_true.2 h4];rfl
theorem ft_mem {xs:List Fv}{x:Fv}(h:x∈xs):x.ft∈y5 xs:=List.mem_map.2 ⟨x,h,rfl⟩
theorem ft_rise {xs:List Fv}:yX ((y5 xs).map Ft.name)=true↔∀ i (h:i+1<xs.length),Op.bytesLess (xs[i]'Om).name xs[i+1].name=true:=by
 rw [rise_iff]
 constructor
 ·intro h i hi
  have:=h i (by rw [List.length_map,q9];exact hi)
  simpa [y5,Fv.ft] using this
 ·intro h i hi
  rw [List.length_map,q9] at hi
  simpa [y5,Fv.ft] using h i hi
theorem nR (A:Option Addr)(cap:Nat)(l:List YL)(W:World)(hv:Reads y9 W W.heap.size A l)(hn:l.length<=1000000):YC 259 #[.slice A l.length cap] W (YR (.bool (yX l)) W):=by
 refine z8 Tryz.func259 (zO (α:=Nat) (λi=>[(0,.slice A l.length cap),(3,YI ((i+1:Nat):Int))]) (λi=>[]) (λi m=>(i<=l.length∧∀ z (hz:z+1<l.length),z<i->Op.bytesLess (l[z]'Om) l[z+1]=true)/\m=l.length-i) (0) (l.length-0) [] ⟨⟨Nat.zero_le _,λz hz hzi=>absurd hzi (Nat.not_lt_zero _)⟩,rfl⟩ ?_)
 rintro i m g kk ⟨hrel,hmm⟩ nx hkk
 subst hkk
 have hj6:=hrel.1
 by_cases h1:((i+1:Nat):Int)<(l.length:Int)
 ·have hjl:i+1<l.length:=by omega
  obtain ⟨bp,off,hA,hlt,hcell⟩:=hv Om
  obtain ⟨x,hx⟩:∃ x,l[i]=x:=⟨_,rfl⟩
  obtain ⟨y,hy⟩:∃ y,l[i+1]=y:=⟨_,rfl⟩
  refine zD 7 [] (((i+1:Nat):Int)<(l.length:Int)) (λ_=> ?_) (λhq=>absurd (h1) hq)
  refine vU 12 [] (YI (IntKind.i64.wrap (((i+1:Nat):Int) -1))) (YI (i:Int)) (by rw [IntWalk.i64_in _ Om,show ((i+1:Nat):Int) -1=(i:Int) by omega]) (zK 13 [] hA l.length cap i 1 (by first|omega|(simp;omega)) (zH 14 [] 9 bp (off+i*1) (.string (mkS x)) (λw hO=>Reads.load zW (hv.on hO.below hO.size) hA i 0 Om Om _ (by rw [hx];kernel_rfl)) (zK 17 [] hA l.length cap (i+1) 1 (by first|omega|(simp;omega)) (zH 18 [] 9 bp (off+(i+1)*1) (.string (mkS y)) (λw hO=>Reads.load zW (hv.on hO.below hO.size) hA (i+1) 0 Om Om _ (by rw [hy];kernel_rfl)) ?_))))
  cases h2:Op.bytesLess x y with
  |true=>
   refine x_sge 19 [] x y (λ_=> ?_) (λhq=>absurd (hq.symm.trans h2) (by decide))
   exact x_i 9 [] (((i+1+1:Nat):Int)) (nx (i+1) (l.length-(i+1)) [] Om ⟨⟨by omega,λz hz hzi=>by rcases Nat.lt_succ_iff_lt_or_eq.1 hzi with q|rfl;exact hrel.2 z hz q;rw [hx,hy];exact h2⟩,rfl⟩ Kr Kr)
  |false=>
   exact x_sge 19 [] x y (λhq=>absurd (hq.symm.trans h2) (by decide)) (λ_=>z7 [] Z5 (λw hO=>⟨by rw [show yX l=false from by cases hq:yX l with|false=>rfl|true=>have q:=rise_iff.1 hq i hjl;rw [hx,hy,h2] at q;cases q],hO.below⟩))
 exact zD 7 [] (((i+1:Nat):Int)<(l.length:Int)) (λhq=>absurd hq (h1)) (λ_=>z7 [] Z4 (λw hO=>⟨by rw [show yX l=true from rise_iff.2 λz hz=>hrel.2 z hz Om],hO.below⟩))
theorem r11Find_any (A:Option Addr)(cap:Nat)(xs:List Fv)(n:YL)(W:World)(hv:FtIn W W.heap.size A xs):YC 298 #[.slice A xs.length cap,.string (mkS n)] W (YR (YI (vD (y5 xs) n)) W):=by
 refine z8 Tryz.func298 (zO (α:=Nat) (λi=>[(0,.slice A xs.length cap),(1,.string (mkS n)),(5,YI (i:Int))]) (λi=>[]) (λi m=>(i<=xs.length∧∀ f∈y5 (xs.take i),¬ f.name=n)/\m=xs.length-i) (0) (xs.length-0) [] ⟨⟨Nat.zero_le _,λf hf=>by simp [y5] at hf⟩,rfl⟩ ?_)
 rintro i m g kk ⟨hrel,hmm⟩ nx hkk
 subst hkk
 have hi6:=hrel.1;have hxn:=hv.n
 by_cases h1:(i:Int)<(xs.length:Int)
 ·have hil:i<xs.length:=by omega
  obtain ⟨bp,off,hA,hlt,hcell⟩:=hv.top Om
  obtain ⟨x,hx⟩:∃ x,xs[i]=x:=⟨_,rfl⟩
  refine zD 9 [] ((i:Int)<(xs.length:Int)) (λ_=> ?_) (λhq=>absurd (h1) hq)
  refine zK 14 [] hA xs.length cap i 2 (by first|omega|(simp;omega)) (zH 16 [] 9 bp (off+i*2+0) (.string (mkS x.name)) (λw hO=>Reads.load qE (hv.top.on hO.below hO.size) hA i 0 hil Om _ (by rw [hx];kernel_rfl)) ?_)
  by_cases h2:(x.name:YL)=n
  ·refine kJ 18 [] x.name n (λ_=> ?_) (λhq=>absurd (h2) hq)
   exact z7 [] (YI (i:Int)) (λw hO=>⟨by rw [show vD (y5 xs) n=(i:Int) from by unfold vD;rw [findI_at (i:=i) (by rw [q9];exact hil) (by rw [ftOf_get hil hx];exact h2) (by rw [←bK];exact hrel.2)]],hO.below⟩)
  exact kJ 18 [] x.name n (λhq=>absurd hq (h2)) (λ_=>x_i 11 [] (((i+1:Nat):Int)) (nx (i+1) (xs.length-(i+1)) [] Om ⟨⟨by omega,by rw [bK];exact y1 (by rw [q9];exact hil) (by rw [←bK];exact hrel.2) (by rw [ftOf_get hil hx];exact h2)⟩,rfl⟩ Kr Kr))
 exact zD 9 [] ((i:Int)<(xs.length:Int)) (λhq=>absurd hq (h1)) (λ_=>z7 [] (YI (-1)) (λw hO=>⟨by rw [show vD (y5 xs) n= -1 from by unfold vD;rw [findI_none (yP (i:=i) (by rw [q9];omega) (by rw [←bK];exact hrel.2))]],hO.below⟩))
theorem r11Is_any (A:Option Addr)(cap:Nat)(xs:List Fv)(n:YL)(W:World)(hv:FtIn W W.heap.size A xs):YC 260 #[.slice A xs.length cap,.string (mkS n)] W (YR (.bool (isT (y5 xs) n)) W):=by
 refine z8 Tryz.func260 ?_
 by_cases h1:(n:YL)=[100,101,102,97,117,108,116]
 ·refine kJ 6 [] n ([100,101,102,97,117,108,116]) (λ_=> ?_) (λhq=>absurd (h1) hq)
  exact z7 [] Z4 (λw hO=>⟨by rw [bM];unfold dfl;simp [h1],hO.below⟩)
 refine kJ 6 [] n ([100,101,102,97,117,108,116]) (λhq=>absurd hq (h1)) (λ_=>z6 (k:=298) (args:= #[.slice A xs.length cap,.string (mkS n)]) (v:=YI (vD (y5 xs) n)) [] (λw hO=>r11Find_any A cap xs n w (hv.on hO.below hO.size)) ?_)
 by_cases h2:(0:Int)<=vD (y5 xs) n
 ·refine zD 11 [] ((0:Int)<=vD (y5 xs) n) (λ_=> ?_) (λhq=>absurd (h2) hq)
  exact z7 [] Z4 (λw hO=>⟨by rw [bM];unfold dfl;simp [h1,h2],hO.below⟩)
 exact zD 11 [] ((0:Int)<=vD (y5 xs) n) (λhq=>absurd hq (h2)) (λ_=>z7 [] Z5 (λw hO=>⟨by rw [bM];unfold dfl;simp [h1,h2],hO.below⟩))
theorem nU (A:Option Addr)(cap:Nat)(xs:List Fv)(B:Option Addr)(capb:Nat)(of:List YL)(W:World)(hv:FtIn W W.heap.size A xs)(hu:Reads y9 W W.heap.size B of)(hn:of.length<=5000)(ht:∀ s∈of,s.length<=1000000):YC 220 #[.slice A xs.length cap,.slice B of.length capb] W (YR (.bool (x2 (y5 xs) of)) W):=by
 refine z8 Tryz.func220 ?_
 by_cases h1:(6:Int)<(of.length:Int)
 ·refine zD 11 [] ((6:Int)<(of.length:Int)) (λ_=> ?_) (λhq=>absurd (h1) hq)
  exact z7 [] Z5 (λw hO=>⟨by rw [show x2 (y5 xs) of=false from vL (.inl Om)],hO.below⟩)
 refine zD 11 [] ((6:Int)<(of.length:Int)) (λhq=>absurd hq (h1)) (λ_=>z6 (k:=259) (args:= #[.slice B of.length capb]) (v:= .bool (yX of)) [] (λw hO=>nR B capb of w (hu.on hO.below hO.size) Om) ?_)
 cases h2:yX of with
 |true=>
  refine zO (α:=Nat) (λk=>[(0,.slice A xs.length cap),(1,.slice B of.length capb),(5,YI (k:Int))]) (λk=>[]) (λk m=>(k<=of.length∧∀ s∈of.take k,gK (y5 xs) s=true)/\m=of.length-k) (0) (of.length-0) [] ⟨⟨Nat.zero_le _,λs hs=>by simp at hs⟩,rfl⟩ ?_
  rintro k m g kk ⟨hrel,hmm⟩ nx hkk
  subst hkk
  have hk6:=hrel.1
  by_cases h3:(k:Int)<(of.length:Int)
  ·have hkl:k<of.length:=by omega
   obtain ⟨bp,off,hB,hlt,hcell⟩:=hu Om
   obtain ⟨s,hs⟩:∃ s,of[k]=s:=⟨_,rfl⟩
   have hsm:s∈of:=hs▸List.getElem_mem hkl
   refine zD 20 [] ((k:Int)<(of.length:Int)) (λ_=> ?_) (λhq=>absurd (h3) hq)
   refine zK 26 [] hB of.length capb k 1 (by first|omega|(simp;omega)) (zH 27 [] 9 bp (off+k*1) (.string (mkS s)) (λw hO=>Reads.load zW (hu.on hO.below hO.size) hB k 0 hkl Om _ (by rw [hs];kernel_rfl)) (z6 (k:=221) (args:= #[.string (mkS s)]) (v:= .tuple #[YI ((zI s).1),.string (mkS (zI s).2.1),.string (mkS (zI s).2.2)]) [] (λw hO=>r11Item_any s w (ht s hsm)) ?_))
   by_cases h4:((zI s).1:Int)=0
   ·refine zD 33 [] (((zI s).1:Int)=0) (λ_=> ?_) (λhq=>absurd (h4) hq)
    exact z7 [] Z5 (λw hO=>⟨by rw [show x2 (y5 xs) of=false from vL (.inr (.inr ⟨s,hsm,by unfold gK;simp [h4]⟩))],hO.below⟩)
   refine zD 33 [] (((zI s).1:Int)=0) (λhq=>absurd hq (h4)) (λ_=> ?_)
   by_cases h5:((zI s).1:Int)=1
   ·refine zD 36 [] (((zI s).1:Int)=1) (λ_=> ?_) (λhq=>absurd (h5) hq)
    refine z6 (k:=260) (args:= #[.slice A xs.length cap,.string (mkS (zI s).2.1)]) (v:= .bool (isT (y5 xs) (zI s).2.1)) [] (λw hO=>r11Is_any A cap xs (zI s).2.1 w (hv.on hO.below hO.size)) ?_
    cases h6:isT (y5 xs) (zI s).2.1 with
    |true=>
     exact x_i 22 [] (((k+1:Nat):Int)) (nx (k+1) (of.length-(k+1)) [] Om ⟨⟨by omega,y1 hkl hrel.2 (by rw [hs];exact by unfold gK;simp [h4,h5,h6])⟩,rfl⟩ Kr Kr)
    |false=>
     exact z7 [] Z5 (λw hO=>⟨by rw [show x2 (y5 xs) of=false from vL (.inr (.inr ⟨s,hsm,by unfold gK;simp [h4,h5,h6]⟩))],hO.below⟩)
   exact zD 36 [] (((zI s).1:Int)=1) (λhq=>absurd hq (h5)) (λ_=>x_i 22 [] (((k+1:Nat):Int)) (nx (k+1) (of.length-(k+1)) [] Om ⟨⟨by omega,y1 hkl hrel.2 (by rw [hs];exact by unfold gK;simp [h4,h5])⟩,rfl⟩ Kr Kr))
  exact zD 20 [] ((k:Int)<(of.length:Int)) (λhq=>absurd hq (h3)) (λ_=>z7 [] Z4 (λw hO=>⟨by rw [show x2 (y5 xs) of=true from items_yes Om h2 (yP (i:=k) Om hrel.2)],hO.below⟩))
 |false=>
  exact z7 [] Z5 (λw hO=>⟨by rw [show x2 (y5 xs) of=false from vL (.inr (.inl h2))],hO.below⟩)
end
section
theorem bN {k:FuncId}{args:Array Value}{w:World}{v:Value}(h:Calls YP k args w λe w'=>e= .returned v/\w=w'):Calls YP k args w (YR v w):=h.mono λe w' ⟨q1,q2⟩=>⟨q1,q2▸Below.refl _ _⟩
theorem num_q (n:Int)(W:World):YC 155 #[YI n] W (YR (.bool (zR n)) W):=by
 unfold zR
 refine z8 Tryz.func155 (zD 4 [] (n>=0) (λh=>zD 7 [] (n<=9999) (λh2=> ?_) (λh2=> ?_)) (λh=> ?_))
 ·exact z7 [] Z4 λw hO=>⟨by rw [decide_eq_true ⟨h,h2⟩],hO.below⟩
 ·exact z7 [] Z5 λw hO=>⟨by rw [decide_eq_false λq=>h2 q.2],hO.below⟩
 ·exact z7 [] Z5 λw hO=>⟨by rw [decide_eq_false λq=>h q.1],hO.below⟩
theorem numer_q (t:YL)(W:World)(ht:t.length<=1000000):YC 207 #[.string (mkS t)] W (YR (.bool (yY t)) W):=by
 have hno:∀ c∈t,yH c.toNat=false->yY t=false:=λc hc h=>by
  unfold yY y6
  rw [List.all_eq_false.2 ⟨c,hc,by rw [h];decide⟩,Bool.and_false]
 refine z8 Tryz.func207 (zO (α:=Nat) (λi=>[(0,.string (mkS t)),(3,YI (i:Int))]) (λ_=>[]) (λi m=>(i<=t.length∧∀ c∈t.take i,yH c.toNat=true)/\m=t.length-i) 0 t.length [] ⟨⟨Nat.zero_le _,λc h=>by simp at h⟩,rfl⟩ ?_)
 rintro i mm g kk ⟨⟨hi,hd⟩,hmm⟩ nx hkk
 subst hkk
 refine zD 7 [] ((i:Int)<(t.length:Int)) (λh7=> ?_) (λh7=> ?_)
 rotate_left
 ·refine z7 [] (.bool (decide ((t.length:Int)>0))) λw hO=>⟨?_,hO.below⟩
  have ha:=yP (p:=λc:UInt8=>yH c.toNat=true) (show t.length<=i by omega) hd
  unfold yY y6
  rw [List.all_eq_true.2 ha]
  cases t<;>simp
 have hj:i<t.length:=by omega
 have hst:=y1 (p:=λc:UInt8=>yH c.toNat=true) hj hd
 have hn:=hno _ (List.getElem_mem hj)
 obtain ⟨c,hc⟩:∃ c,t[i]=c:=⟨_,rfl⟩
 rw [hc] at hst hn
 refine mD 12 [] t i hj c hc (zD 13 [] ((c.toNat:Int)<48) (λh=> ?_) (λh=>mD 17 [] t i hj c hc (zD 18 [] ((c.toNat:Int)>57) (λh2=> ?_) (λh2=> ?_))))
 ·exact z7 [] Z5 λw hO=>⟨by rw [hn (by unfold yH;simp;omega)],hO.below⟩
 ·exact z7 [] Z5 λw hO=>⟨by rw [hn (by unfold yH;simp;omega)],hO.below⟩
 ·exact x_i 9 [] ((i+1:Nat):Int) (nx (i+1) (t.length-(i+1)) [] Om ⟨⟨hj,hst (by unfold yH;simp;omega)⟩,rfl⟩ Kr Kr)
theorem tag_q (t:YL)(W:World):YC 205 #[.string (mkS t)] W (YR (.bool (kK t)) W):=by
 have hno:∀ c∈t,jR c=false->kK t=false:=λc hc h=>by
  unfold kK
  rw [List.all_eq_false.2 ⟨c,hc,by rw [h];decide⟩,Bool.and_false]
 refine z8 Tryz.func205 (zD 7 [] ((t.length:Int)<1) (λh=> ?_) (λh=>zD 11 [] ((t.length:Int)>8) (λh2=> ?_) (λh2=> ?_)))
 ·exact z7 [] Z5 λw hO=>⟨by unfold kK;rw [decide_eq_false Om];rfl,hO.below⟩
 ·exact z7 [] Z5 λw hO=>⟨by unfold kK;rw [decide_eq_false Om];rfl,hO.below⟩
 refine zO (α:=Nat) (λi=>[(0,.string (mkS t)),(3,YI (i:Int))]) (λ_=>[]) (λi m=>(i<=t.length∧∀ c∈t.take i,jR c=true)/\m=t.length-i) 0 t.length [] ⟨⟨Nat.zero_le _,λc h=>by simp at h⟩,rfl⟩ ?_
 rintro i mm g kk ⟨⟨hi,hd⟩,hmm⟩ nx hkk
 subst hkk
 refine zD 16 [] ((i:Int)<(t.length:Int)) (λh7=> ?_) (λh7=> ?_)
 rotate_left
 ·refine z7 [] Z4 λw hO=>⟨?_,hO.below⟩
  unfold kK
  rw [decide_eq_true Om,List.all_eq_true.2 (yP (p:=λc:UInt8=>jR c=true) (show t.length<=i by omega) hd)];rfl
 have hj:i<t.length:=by omega
 have hst:=y1 (p:=λc:UInt8=>jR c=true) hj hd
 have hn:=hno _ (List.getElem_mem hj)
 obtain ⟨c,hc⟩:∃ c,t[i]=c:=⟨_,rfl⟩
 rw [hc] at hst hn
 have hC:jR c=(decide (97<=(c.toNat:Int)/\(c.toNat:Int)<=122)||decide (48<=(c.toNat:Int)/\(c.toNat:Int)<=57)||decide ((c.toNat:Int)=45)):=rfl
 rw [hC] at hst hn
 generalize (c.toNat:Int)=z at*
 have good:∀ m',m'=t.length-(i+1)->(decide (97<=z/\z<=122)||decide (48<=z/\z<=57)||decide (z=45))=true->(i+1<=t.length∧∀ c∈t.take (i+1),jR c=true)/\m'=t.length-(i+1):=λm' e q=>⟨⟨hj,hst q⟩,e⟩
 refine mD 21 [] t i hj c hc (zD 23 [] (z<97) (λh1=>zD 30 [] (z<48) (λh3=>kT 38 [] (z=45) (λh5=> ?_) (λh5=> ?_)) (λh3=>zD 33 [] (z>57) (λh4=>kT 38 [] (z=45) (λh5=>absurd h5 (by omega)) (λh5=> ?_)) (λh4=> ?_))) (λh1=>zD 26 [] (z>122) (λh2=>zD 30 [] (z<48) (λh3=>absurd h3 (by omega)) (λh3=>zD 33 [] (z>57) (λh4=>kT 38 [] (z=45) (λh5=>absurd h5 (by omega)) (λh5=> ?_)) (λh4=>absurd h4 (by omega)))) (λh2=> ?_)))
 ·exact x_i 18 [] ((i+1:Nat):Int) (nx (i+1) _ [] Om (good _ rfl (by simp;omega)) Kr Kr)
 ·exact z7 [] Z5 λw hO=>⟨by rw [hn (by simp;omega)],hO.below⟩
 ·exact z7 [] Z5 λw hO=>⟨by rw [hn (by simp;omega)],hO.below⟩
 ·exact x_i 18 [] ((i+1:Nat):Int) (nx (i+1) _ [] Om (good _ rfl (by simp;omega)) Kr Kr)
 ·exact z7 [] Z5 λw hO=>⟨by rw [hn (by simp;omega)],hO.below⟩
 ·exact x_i 18 [] ((i+1:Nat):Int) (nx (i+1) _ [] Om (good _ rfl (by simp;omega)) Kr Kr)
theorem slt_elem {A:Option Addr}{cap:Nat}{l:List YL}{ob:List Blk}(h:SlT (.slice A l.length cap) l ob){i:Nat}(hi:i<l.length):∃ g,A=some ⟨g,0,none⟩∧∀ {M:List Nat} {W:World} {L:List Blk} (w:World),Own M W w L->(∀ x∈ob,x∈L)->(loadVar 9 ⟨g,0+i*1+0,none⟩).run YP w= .ok (.string (mkS l[i])) w:=by
 obtain ⟨g,cur,rfl,_⟩:=Sl.block h Om
 refine ⟨g,rfl,λw hO hs=> ?_⟩
 obtain ⟨b,o,e,hel⟩:=(SlT.reads h rfl hO hs).elem zW i hi
 simp only [Option.some.injEq,Addr.mk.injEq,and_true] at e
 obtain ⟨rfl,rfl⟩:=e
 exact hel w (Below.refl _ _) _ 0 _ Kr
theorem rnum_q (t:YL)(W:World)(ht:t.length<=1000000):YC 206 #[.string (mkS t)] W (YR (.tuple #[YI (yZ t),.bool (gG t)]) W):=bN (mN t W (by unfold maxLen;omega))
theorem tags_q (s:YL)(b:Bool)(W:World)(hs:s.length<=1000000):YC 156 #[.string (mkS s),.bool b] W (YR (.bool (wW s b)) W):=by
 have hT:s≠[]->wW s b=(decide ((pcs s).length<=4) && (pcs s).all (tagF b)):=λh=>by
  rw [tagsB_eq];cases s with
  |nil=>exact absurd rfl h
  |cons x r=>rfl
 have hln:=dR s
 refine z8 Tryz.func156 (kJ 10 [] s [] (λh=> ?_) (λh=> ?_))
 ·exact z7 [] Z4 λw hO=>⟨by rw [h];rfl,hO.below⟩
 have hT:=hT h
 rw [hT]
 refine xH (R:=λv ob=>SlT v (pcs s) ob) [] (λw hO=>(mM s w hs).mono λe w' ⟨v,ob,q1,q2,q3⟩=>⟨v,ob,q1,q2,q3⟩) ?_
 intro v ob hS
 obtain ⟨A,cap,rfl⟩:=SlT.form hS
 clear hT
 generalize pcs s=l at*
 refine zD 15 [] ((l.length:Int)>4) (λh4=> ?_) (λh4=> ?_)
 ·exact z7 [] Z5 λw hO=>⟨by rw [decide_eq_false Om];rfl,hO.below⟩
 rw [decide_eq_true (show l.length<=4 by omega),Bool.true_and]
 refine zP [] ([]++ob) (λw hO=>hO.past 0 _) (zO (α:=Nat) (λi=>[(1,.bool b),(5,.slice A l.length cap),(6,YI (i:Int))]) (λ_=>[]++ob) (λi m=>(i<=l.length∧∀ t∈l.take i,tagF b t=true)/\m=l.length-i) 0 l.length [] ⟨⟨Nat.zero_le _,λc h=>by simp at h⟩,rfl⟩ ?_)
 rintro i mm g kk ⟨⟨hi,hd⟩,hmm⟩ nx hkk
 subst hkk
 refine zD 19 [] ((i:Int)<(l.length:Int)) (λh7=> ?_) (λh7=> ?_)
 rotate_left
 ·exact z7 [] Z4 λw hO=>⟨by rw [List.all_eq_true.2 (yP (p:=λt=>tagF b t=true) (show l.length<=i by omega) hd)],hO.below⟩
 have hj:i<l.length:=by omega
 have hst:=y1 (p:=λt=>tagF b t=true) hj hd
 have hn:tagF b l[i]=false->l.all (tagF b)=false:=λq=>all_cut i hj q
 have htl:l[i].length<=1000000:=by have:=hln _ (List.getElem_mem hj);omega
 obtain ⟨ga,rfl,hel⟩:=slt_elem hS hj
 have hF:tagF b l[i]=(kK l[i] && !(b && yY l[i] && !gG l[i])):=rfl
 rw [hF] at hst hn
 generalize l[i]=t at*
 have ld:∀ w,Own [] W w ([]++ob)->(loadVar 9 ⟨ga,0+i*1+0,none⟩).run YP w= .ok (.string (mkS t)) w:=λw hO=>hel w hO (λx hx=>hx)
 refine zK 24 [] (b:=ga) (off:=0) rfl l.length cap i 1 hj (zH 25 [] 9 ga (0+i*1+0) (.string (mkS t)) (λw hO=>ld w (hO.past 0 _)) (z6 (v:= .bool (kK t)) [] (λw hO=>tag_q t w) (zL 26 (kK t) (λg1=> ?_) (λg1=> ?_))))
 rotate_left
 ·exact z7 [] Z5 λw hO=>⟨by rw [hn (by rw [g1];rfl)],hO.below⟩
 refine zK 31 [] (b:=ga) (off:=0) rfl l.length cap i 1 hj (zH 32 [] 9 ga (0+i*1+0) (.string (mkS t)) (λw hO=>ld w (hO.past 0 _)) (z6 (v:= .tuple #[YI (yZ t),.bool (gG t)]) [] (λw hO=>rnum_q t w htl) (x_bb 37 [] b (λg2=> ?_) (λg2=> ?_))))
 rotate_left
 ·exact x_i 21 [] ((i+1:Nat):Int) (nx (i+1) (l.length-(i+1)) [] Om ⟨⟨hj,hst (by rw [g1,g2];rfl)⟩,rfl⟩ Kr Kr)
 refine zK 40 [] (b:=ga) (off:=0) rfl l.length cap i 1 hj (zH 41 [] 9 ga (0+i*1+0) (.string (mkS t)) (λw hO=>ld w (hO.past 0 _)) (z6 (v:= .bool (yY t)) [] (λw hO=>numer_q t w htl) (x_bb 43 [] (yY t) (λg3=>x_bb 46 [] (!gG t) (λg4=> ?_) (λg4=> ?_)) (λg3=> ?_))))
 ·exact z7 [] Z5 λw hO=>⟨by rw [hn (by rw [g1,g2,g3,g4];rfl)],hO.below⟩
 ·exact x_i 21 [] ((i+1:Nat):Int) (nx (i+1) (l.length-(i+1)) [] Om ⟨⟨hj,hst (by rw [g1,g2,g3,g4];rfl)⟩,rfl⟩ Kr Kr)
 ·exact x_i 21 [] ((i+1:Nat):Int) (nx (i+1) (l.length-(i+1)) [] Om ⟨⟨hj,hst (by rw [g1,g2,g3];rfl)⟩,rfl⟩ Kr Kr)
theorem qN (v:Ver)(W:World)(hp:v.pre.length<=1000000)(hq:v.build.length<=1000000):YC 105 #[yB v] W (YR (.bool v.may) W):=by
 have hM:v.may=(zR v.maj && zR v.min && zR v.pat && wW v.pre true && wW v.build false):=by rw [tagsB_pre,tagsB_build];rfl
 rw [hM]
 have cP:=λw=>tags_q v.pre true w hp
 have cQ:=λw=>tags_q v.build false w hq
 have hno:∀ w,YB W w→∀ b,b=false->Ending.returned (.bool false)= .returned (.bool b)/\YB W w:=λw hb b e=>⟨by rw [e],hb⟩
 refine z8 Tryz.func105 (zZ [] λb1=>z6 (v:= .bool (zR v.maj)) [0] (λw hO=>num_q v.maj w) (zL 5 (zR v.maj) (λg1=>z6 (v:= .bool (zR v.min)) [0] (λw hO=>num_q v.min w) (zL 9 (zR v.min) (λg2=>z6 (v:= .bool (zR v.pat)) [0] (λw hO=>num_q v.pat w) (zL 14 (zR v.pat) (λg3=>z6 (v:= .bool (wW v.pre true)) [0] (λw hO=>cP w) (zL 19 (wW v.pre true) (λg4=>z6 (v:= .bool (wW v.build false)) [0] (λw hO=>cQ w) (z7 [] (.bool (wW v.build false)) λw hO=>⟨by rw [g1,g2,g3,g4];rfl,hO.below⟩)) (λg4=> ?_))) (λg3=> ?_))) (λg2=> ?_))) (λg1=> ?_)))
 ·exact z7 [] Z5 λw hO=>hno w hO.below _ (by rw [g4];simp)
 ·exact z7 [] Z5 λw hO=>hno w hO.below _ (by rw [g3];simp)
 ·exact z7 [] Z5 λw hO=>hno w hO.below _ (by rw [g2];simp)
 ·exact z7 [] Z5 λw hO=>hno w hO.below _ (by rw [g1];simp)
theorem rpres_q (a b:YL)(W:World)(ha:a.length<=1000000)(hb:b.length<=1000000):YC 107 #[.string (mkS a),.string (mkS b)] W (YR (YI (m7 a b)) W):=by
 have hR:m7 a b=if a=b then 0 else if a=[] then 1 else if b=[] then-1 else gY (pcs a) (pcs b):=rfl
 rw [hR]
 have hla:=dR a
 have hlb:=dR b
 have hna:=pcs_len a
 have hnb:=pcs_len b
 refine z8 Tryz.func107 (kJ 12 [] a b (λh=>z7 [] (YI 0) λw hO=>⟨by rw [if_pos h],hO.below⟩) (λh=>kJ 15 [] a [] (λh2=>z7 [] (YI 1) λw hO=>⟨by rw [if_neg h,if_pos h2],hO.below⟩) (λh2=>kJ 18 [] b [] (λh3=>z7 [] (YI (-1)) λw hO=>⟨by rw [if_neg h,if_neg h2,if_pos h3],hO.below⟩) (λh3=> ?_))))
 rw [if_neg h,if_neg h2,if_neg h3]
 refine xH (R:=λv ob=>SlT v (pcs a) ob) [] (λw hO=>(mM a w ha).mono λe w' ⟨v,ob,q1,q2,q3⟩=>⟨v,ob,q1,q2,q3⟩) ?_
 intro v oa hSa
 obtain ⟨A,cap,rfl⟩:=SlT.form hSa
 refine xH (R:=λv ob=>SlT v (pcs b) ob) [] (λw hO=>(mM b w hb).mono λe w' ⟨v,ob,q1,q2,q3⟩=>⟨v,ob,q1,q2,q3⟩) ?_
 intro v ob hSb
 obtain ⟨B,capb,rfl⟩:=SlT.form hSb
 generalize pcs a=l at*
 generalize pcs b=m at*
 refine zP [] (([]++oa)++ob) (λw hO=>hO.past 0 _) (zO (α:=Nat) (λi=>[(5,.slice A l.length cap),(6,.slice B m.length capb),(7,YI (i:Int))]) (λ_=>([]++oa)++ob) (λi k=>(i<=l.length/\i<=m.length/\gY (l.drop i) (m.drop i)=gY l m)/\k=l.length-i) 0 l.length [] ⟨⟨Nat.zero_le _,Nat.zero_le _,rfl⟩,rfl⟩ ?_)
 rintro i mm g kk ⟨⟨hi,hi2,hp⟩,hmm⟩ nx hkk
 subst hkk
 have hint:=λw=>bN (wZ (l.length:Int) (m.length:Int) w)
 have hend:¬ (i<l.length/\i<m.length)->gY l m=Lib.compareInt l.length m.length:=λq=>by rw [←hp];exact presL_end l m i hi hi2 q
 refine zD 26 [] ((i:Int)<(l.length:Int)) (λh26=>zD 31 [] ((i:Int)<(m.length:Int)) (λh31=> ?_) (λh31=> ?_)) (λh26=> ?_)
 rotate_left
 ·exact z6 (v:=YI (Lib.compareInt (l.length:Int) (m.length:Int))) [] (λw hO=>hint w) (z7 [] (YI (Lib.compareInt (l.length:Int) (m.length:Int))) λw hO=>⟨by rw [hend Om],hO.below⟩)
 ·exact z6 (v:=YI (Lib.compareInt (l.length:Int) (m.length:Int))) [] (λw hO=>hint w) (z7 [] (YI (Lib.compareInt (l.length:Int) (m.length:Int))) λw hO=>⟨by rw [hend Om],hO.below⟩)
 have hj:i<l.length:=by omega
 have hj2:i<m.length:=by omega
 have hon:=presL_on l m i hj hj2
 have hoff:=presL_off l m i hj hj2
 have hs1:l[i].length<=1000000:=by have:=hla _ (List.getElem_mem hj);omega
 have hs2:m[i].length<=1000000:=by have:=hlb _ (List.getElem_mem hj2);omega
 obtain ⟨ga,rfl,hel⟩:=slt_elem hSa hj
 obtain ⟨gb,rfl,hel2⟩:=slt_elem hSb hj2
 rw [hp] at hon hoff
 generalize l[i]=u at*
 generalize m[i]=v at*
 have hone:=λw=>bN (rone_any u v w hs1 hs2)
 generalize p6 u v=z at*
 have ld:∀ w,Own [] W w (([]++oa)++ob)->(loadVar 9 ⟨ga,0+i*1+0,none⟩).run YP w= .ok (.string (mkS u)) w:=λw hO=>hel w hO (λx hx=>List.mem_append_left _ hx)
 have ld2:∀ w,Own [] W w (([]++oa)++ob)->(loadVar 9 ⟨gb,0+i*1+0,none⟩).run YP w= .ok (.string (mkS v)) w:=λw hO=>hel2 w hO (λx hx=>List.mem_append_right _ hx)
 refine zK 37 [] (b:=ga) (off:=0) rfl l.length cap i 1 hj (zH 38 [] 9 ga (0+i*1+0) (.string (mkS u)) (λw hO=>ld w (hO.past 0 _)) (zK 41 [] (b:=gb) (off:=0) rfl m.length capb i 1 hj2 (zH 42 [] 9 gb (0+i*1+0) (.string (mkS v)) (λw hO=>ld2 w (hO.past 0 _)) (z6 (v:=YI z) [] (λw hO=>hone w) (kT 45 [] (z=0) (λhz=> ?_) (λhz=> ?_))))))
 ·exact x_i 34 [] ((i+1:Nat):Int) (nx (i+1) (l.length-(i+1)) [] Om ⟨⟨hj,hj2,(hon hz).symm⟩,rfl⟩ Kr Kr)
 ·exact z7 [] (YI z) λw hO=>⟨by rw [hoff hz],hO.below⟩
theorem m6 (v u:Ver)(W:World)(h1:v.pre.length<=1000000)(h2:v.build.length<=1000000)(h3:u.pre.length<=1000000)(h4:u.build.length<=1000000):YC 68 #[yB v,yB u] W (YR (YI (zX v u)) W):=by
 have cV:=λw=>qN v w h1 h2
 have cU:=λw=>qN u w h3 h4
 have cP:=λw=>rpres_q v.pre u.pre w h1 h3
 have c1:=λw=>bN (wZ v.maj u.maj w)
 have c2:=λw=>bN (wZ v.min u.min w)
 have c3:=λw=>bN (wZ v.pat u.pat w)
 rw [cmpR_split]
 generalize Lib.compareInt v.maj u.maj=x at*
 generalize Lib.compareInt v.min u.min=y at*
 generalize Lib.compareInt v.pat u.pat=z at*
 generalize m7 v.pre u.pre=p at*
 refine z8 Tryz.func68 (zZ [] λb2=>zZ [] λb3=>z6 (v:= .bool v.may) [1] (λw hO=>cV w) (zL 9 v.may (λe1=>z6 (v:= .bool u.may) [0] (λw hO=>cU w) (zL 13 u.may (λe2=> ?_) (λe2=> ?_))) (λe1=> ?_)))
 rotate_left
 ·exact z7 [] (YI 0) λw hO=>⟨by rw [e1,e2];rfl,hO.below⟩
 ·exact z7 [] (YI 0) λw hO=>⟨by rw [e1];rfl,hO.below⟩
 rw [e1,e2,if_pos (by rfl)]
 refine z6 (v:=YI x) [1,0] (λw hO=>c1 w) (kT 22 [] (x=0) (λhx=>z6 (v:=YI y) [1,0] (λw hO=>c2 w) (kT 30 [] (y=0) (λhy=>z6 (v:=YI z) [1,0] (λw hO=>c3 w) (kT 38 [] (z=0) (λhz=> ?_) (λhz=> ?_))) (λhy=> ?_))) (λhx=> ?_))
 ·exact z6 (v:=YI p) [1,0] (λw hO=>cP w) (z7 [] (YI p) λw hO=>⟨by rw [if_neg (λq=>q hx),if_neg (λq=>q hy),if_neg (λq=>q hz)],hO.below⟩)
 ·exact z7 [] (YI z) λw hO=>⟨by rw [if_neg (λq=>q hx),if_neg (λq=>q hy),if_pos hz],hO.below⟩
 ·exact z7 [] (YI y) λw hO=>⟨by rw [if_neg (λq=>q hx),if_pos hy],hO.below⟩
 ·exact z7 [] (YI x) λw hO=>⟨by rw [if_pos hx],hO.below⟩
end
section
def bumpN (v:Ver)(k:Nat):Ver:=if k=0 then Ver.rel (v.maj+1) 0 0 else if k=1 then Ver.rel v.maj (v.min+1) 0 else Ver.rel v.maj v.min (v.pat+1)
def wB (v:Ver)(part:Int):Bool:=v.may && decide (0<=part/\part<3) && !(dE v.maj v.min v.pat part.toNat==9999)
def bumpV (v:Ver)(part:Int):Ver:=if wB v part then bumpN v part.toNat else Ver.zero
def BEnd (v:Ver)(part:Int)(w:World)(e:Ending)(w':World):Prop:=e= .returned (.tuple #[yB (bumpV v part),.bool (wB v part)])/\YB w w'
def nextOk (v:Ver):Bool:=v.may && (!v.pre.isEmpty||wB v 2||wB v 1||wB v 0)
def nextV (v:Ver):Ver:=
 if v.may then (if v.pre.isEmpty then (if wB v 2 then bumpV v 2 else if wB v 1 then bumpV v 1 else if wB v 0 then bumpV v 0 else Ver.zero) else Ver.rel v.maj v.min v.pat) else Ver.zero
def NEnd (v:Ver)(w:World)(e:Ending)(w':World):Prop:=e= .returned (.tuple #[yB (nextV v),.bool (nextOk v)])/\YB w w'
def findB (v:Ver):Nat->Ver×Bool
 |0=>(Ver.zero,false)
 |k+1=>if wB v k then (bumpV v k,true) else findB v k
end
section
theorem pK {v:Ver}(h:v.may=true):(kE v).may=true:=by
 have e:qY []=true:=by decide
 unfold Ver.may at h ⊢;simp only [Bool.and_eq_true] at h ⊢
 exact ⟨⟨h.1.1,h.1.2⟩,e⟩
theorem qI {a b:Ver}(ha:a.may=true)(hb:b.may=true):zX b a= -zX a b:=by
 rw [gO hb ha,gO ha hb,cmpL_anti]
theorem mU {a:Ver}:zX a a=0:=cmpR_core rfl
theorem order_core {a b:Ver}(ha:a.may=true)(hb:b.may=true):zX (kE a) b=zX a b:=by
 rw [gO (pK ha) hb,gO ha hb];rfl
theorem order_on {a b c:Ver}(ha:a.may=true)(hb:b.may=true)(hc:c.may=true):0<zX a b\/0<zX b c\/(zX a c<=0/\((zX a b=0/\zX b c=0)↔zX a c=0)):=by
 rw [gO ha hb,gO hb hc,gO ha hc]
 by_cases h1:x4 a.key b.key<=0
 ·by_cases h2:x4 b.key c.key<=0
  ·obtain ⟨h3,h4⟩:=cmpL_trans _ _ _ h1 h2
   refine .inr (.inr ⟨h3,λ⟨e1,e2⟩=> ?_,h4⟩)
   rw [fT _ _ e1,fT _ _ e2,tL]
  ·exact .inr (.inl Om)
 ·exact .inl Om
def Ver.code (v:Ver):Int:=(v.maj*10000+v.min)*10000+v.pat
end
section
end
section
structure Co where
 op:Int
 parts:Int
 v:Ver
deriving DecidableEq
def vC (op:Int):YL:=if op=1 then [61] else if op=2 then [33,61] else if op=3 then [60] else if op=4 then [60,61] else if op=5 then [62] else if op=6 then [62,61] else if op=7 then [94] else if op=8 then [126] else []
def Co.may (c:Co):Bool:=decide (1<=c.op/\c.op<=9) && c.v.may && decide (c.v.build=[]) && (if c.op=9 then decide (0<=c.parts/\c.parts<=2) else decide (1<=c.parts/\c.parts<=3)) && decide (3<=c.parts\/c.v.pre=[]) && decide (0<c.parts\/c.v.maj=0) && decide (1<c.parts\/c.v.min=0) && decide (2<c.parts\/c.v.pat=0)
theorem Co.facts {c:Co}(h:c.may=true):(1<=c.op/\c.op<=9)/\c.v.may=true/\c.v.build=[]/\(c.op=9->0<=c.parts/\c.parts<=2)/\(¬ c.op=9->1<=c.parts/\c.parts<=3)/\(3<=c.parts\/c.v.pre=[])/\(0<c.parts\/c.v.maj=0)/\(1<c.parts\/c.v.min=0)/\(2<c.parts\/c.v.pat=0):=by
 unfold Co.may at h
 simp only [Bool.and_eq_true,decide_eq_true_eq] at h
 obtain ⟨⟨⟨⟨⟨⟨⟨h1,h2⟩,h3⟩,h4⟩,h5⟩,h6⟩,h7⟩,h8⟩:=h
 refine ⟨h1,h2,h3,λe=> ?_,λe=> ?_,h5,h6,h7,h8⟩
 ·rw [if_pos e] at h4;exact of_decide_eq_true h4
 ·rw [if_neg e] at h4;exact of_decide_eq_true h4
theorem Co.may_iff {c:Co}:c.may=true↔(1<=c.op/\c.op<=9)/\c.v.may=true/\c.v.build=[]/\(c.op=9->0<=c.parts/\c.parts<=2)/\(¬ c.op=9->1<=c.parts/\c.parts<=3)/\(3<=c.parts\/c.v.pre=[])/\(0<c.parts\/c.v.maj=0)/\(1<c.parts\/c.v.min=0)/\(2<c.parts\/c.v.pat=0):=by
 refine ⟨Co.facts,λ⟨h1,h2,h3,k9,kn,h5,h6,h7,h8⟩=> ?_⟩
 unfold Co.may
 rw [decide_eq_true h1,h2,decide_eq_true h3,decide_eq_true h5,decide_eq_true h6,decide_eq_true h7,decide_eq_true h8]
 by_cases e:c.op=9
 ·rw [if_pos e,decide_eq_true (k9 e)];rfl
 ·rw [if_neg e,decide_eq_true (kn e)];rfl
def kN (v:Ver)(n:Nat):List YL:=[Lib.itoa v.maj,Lib.itoa v.min,Lib.itoa v.pat].take n
def Co.rest (c:Co):YL:=if c.op=9 then zE 46 (kN c.v c.parts.toNat++[[42]]) else zE 46 (kN c.v c.parts.toNat)++kD 45 c.v.pre
def Co.text (c:Co):YL:=vC c.op++c.rest
def Co.print (c:Co):YL:=if c.may then c.text else []
def kL (s t:YL):Bool:=decide (s.take t.length=t)
def splitC (s:YL):Int×YL:=
 if kL s [33,61] then (2,s.drop 2) else if kL s [60,61] then (4,s.drop 2) else if kL s [62,61] then (6,s.drop 2) else if kL s [61] then (1,s.drop 1)
 else if kL s [60] then (3,s.drop 1) else if kL s [62] then (5,s.drop 1) else if kL s [94] then (7,s.drop 1) else if kL s [126] then (8,s.drop 1)
 else if s.getLast?=some 42 then (9,s) else (7,s)
def tD (op:Int)(rest:YL):List YL:=if op=9 then (pcs (zA 45 rest).1).dropLast else pcs (zA 45 rest).1
def guessC (op:Int)(rest:YL):Option Co:=
 if (tD op rest).length<=3/\(tD op rest).all gG=true then
  some ⟨op,(tD op rest).length,⟨yZ (tg (tD op rest) 0),yZ (tg (tD op rest) 1),yZ (tg (tD op rest) 2),(zA 45 rest).2.1,[]⟩⟩
 else none
def fits (s:YL)(c:Co):Bool:= !decide (c.print=[]) && (decide (c.print=s)||decide (c.print=94::s))
def parseC (s:YL):Option Co:=(guessC (splitC s).1 (splitC s).2).filter (fits s)
theorem co_print {c:Co}(h:c.may=true):c.print=c.text:=by unfold Co.print;rw [h];rfl
theorem nums_mem {v:Ver}(hv:v.may=true){n:Nat}{x:YL}(h:x∈kN v n):∃ k:Int,zR k=true/\x=Lib.itoa k:=by
 obtain ⟨h1,h2,h3⟩:=bF hv
 unfold kN at h
 have h:=List.mem_of_mem_take h
 simp only [List.mem_cons,List.not_mem_nil,or_false] at h
 rcases h with rfl|rfl|rfl
 ·exact ⟨_,h1,rfl⟩
 ·exact ⟨_,h2,rfl⟩
 ·exact ⟨_,h3,rfl⟩
theorem numsN_len (v:Ver){n:Nat}(h:n<=3):(kN v n).length=n:=by
 unfold kN
 rw [List.length_take]
 simp;omega
end
section
def numT (k:Nat):Int:=(([0,1,2,3,0,1,10,9999]:List Int)[k]?).getD 0
def preT14 (k:Nat):YL:=(([[],[],[],[],[48],[49],[50],[49,49],[97],[97,46,49],[97,46,98],[98],[48,46,48],[114,99,46,49]]:List YL)[k]?).getD []
def bldT (k:Nat):YL:=(([[],[],[],[],[48,48,55],[120,46,49]]:List YL)[k]?).getD []
def genV (l:List Int)(i:Nat):Ver:=⟨numT (plc (atL l i) 8).toNat,numT (plc (atL l (i+1)) 8).toNat,numT (plc (atL l (i+2)) 8).toNat,preT14 (plc (atL l (i+3)) 14).toNat,bldT (plc (atL l (i+4)) 6).toNat⟩
def GEnd (u:Ver)(w:World)(e:Ending)(w':World):Prop:=e= .returned (yB u)/\YB w w'
end
section
end
section
structure Cu where
 e:Int
 v:Ver
 aft:Bool
deriving DecidableEq
def Cu.may (c:Cu):Bool:=if c.e=0 then c.v.may && c.v.build.isEmpty else decide (c.e= -1\/c.e=1) && decide (c.v=Ver.zero) && !c.aft
def b01 (b:Bool):Int:=if b then 1 else 0
def lex (x y:Int):Int:=if x=0 then y else x
def gH (a b:Cu):Int:=if a.may && b.may then lex (Lib.compareInt a.e b.e) (lex (zX a.v b.v) (Lib.compareInt (b01 a.aft) (b01 b.aft))) else 0
theorem zero_may:Ver.zero.may=true:=by decide
theorem may_v {c:Cu}(h:c.may=true):c.v.may=true:=by
 unfold Cu.may at h
 split at h
 ·rw [Bool.and_eq_true] at h;exact h.1
 ·simp only [Bool.and_eq_true,decide_eq_true_eq] at h;rw [h.1.2];exact zero_may
theorem may_e {c:Cu}(h:c.may=true):(c.e=0/\c.v.build=[])\/((c.e= -1\/c.e=1)/\c.v=Ver.zero/\c.aft=false):=by
 unfold Cu.may at h
 split at h
 ·rename_i h0;rw [Bool.and_eq_true] at h;exact .inl ⟨h0,List.isEmpty_iff.1 h.2⟩
 ·simp only [Bool.and_eq_true,decide_eq_true_eq,Bool.not_eq_true'] at h;exact .inr ⟨h.1.1,h.1.2,h.2⟩
theorem nD {v w:Ver}:zX v w= -1\/zX v w=0\/zX v w=1:=by
 by_cases hv:v.may=true
 ·by_cases hw:w.may=true
  ·rw [gO hv hw];exact cmpL_range _ _
  ·exact .inr (.inl (cmpR_bad (.inr (by simpa using hw))))
 ·exact .inr (.inl (cmpR_bad (.inl (by simpa using hv))))
theorem ci_range (x y:Int):Lib.compareInt x y= -1\/Lib.compareInt x y=0\/Lib.compareInt x y=1:=by
 unfold Lib.compareInt
 by_cases h:x<y
 ·rw [if_pos h];simp
 ·rw [if_neg h]
  by_cases h2:y<x
  ·rw [if_pos h2];simp
  ·rw [if_neg h2];simp
theorem tM {a b:Cu}(ha:a.may=true)(hb:b.may=true):gH a b=lex (Lib.compareInt a.e b.e) (lex (zX a.v b.v) (Lib.compareInt (b01 a.aft) (b01 b.aft))):=by
 unfold gH;rw [ha,hb];rfl
theorem cmpC_range (a b:Cu):gH a b= -1\/gH a b=0\/gH a b=1:=by
 unfold gH lex
 have h1:=ci_range a.e b.e
 have h2:=nD (v:=a.v) (w:=b.v)
 have h3:=ci_range (b01 a.aft) (b01 b.aft)
 split
 ·split
  ·split
   ·exact h3
   ·exact h2
  ·exact h1
 ·simp
structure Ord3 {α:Type}(c:α->α->Int):Prop where
 anti:∀ x y,c y x= -c x y
 on:∀ x y z,c x y<=0->c y z<=0->c x z<=0/\(c x z=0->c x y=0/\c y z=0)
 same:∀ x y z,c x y=0->c y z=0->c x z=0
theorem lex_ord {α:Type}{c d:α->α->Int}(hc:Ord3 c)(hd:Ord3 d):Ord3 (λx y=>lex (c x y) (d x y)):=by
 refine ⟨λx y=> ?_,λx y z h1 h2=> ?_,λx y z h1 h2=> ?_⟩
 ·have a:=hc.anti x y;have b:=hd.anti x y
  show lex (c y x) (d y x)= -lex (c x y) (d x y)
  unfold lex
  by_cases h:c x y=0
  ·rw [if_pos h,if_pos Om];exact b
  ·rw [if_neg h,if_neg Om];exact a
 ·have a:=hc.on x y z;have b:=hd.on x y z;have s:=hc.same x y z
  show lex _ _<=0/\(lex _ _=0->lex _ _=0/\lex _ _=0)
  replace h1:lex (c x y) (d x y)<=0:=h1
  replace h2:lex (c y z) (d y z)<=0:=h2
  unfold lex at h1 h2 ⊢
  by_cases p:c x y=0
  ·by_cases q:c y z=0
   ·rw [if_pos p] at h1 ⊢;rw [if_pos q] at h2 ⊢;rw [if_pos (s p q)];exact b h1 h2
   ·rw [if_pos p] at h1 ⊢;rw [if_neg q] at h2 ⊢
    obtain ⟨a1,a2⟩:=a Om h2
    have:c x z≠0:=λe=>q (a2 e).2
    rw [if_neg this];exact ⟨a1,λe=>absurd e this⟩
  ·rw [if_neg p] at h1 ⊢
   have h2':c y z<=0:=by
    by_cases q:c y z=0
    ·omega
    ·rw [if_neg q] at h2;exact h2
   obtain ⟨a1,a2⟩:=a h1 h2'
   have:c x z≠0:=λe=>p (a2 e).1
   rw [if_neg this];exact ⟨a1,λe=>absurd e this⟩
 ·have s:=hc.same x y z;have t:=hd.same x y z
  show lex _ _=0
  replace h1:lex (c x y) (d x y)=0:=h1
  replace h2:lex (c y z) (d y z)=0:=h2
  unfold lex at h1 h2 ⊢
  by_cases p:c x y=0
  ·by_cases q:c y z=0
   ·rw [if_pos p] at h1;rw [if_pos q] at h2;rw [if_pos (s p q)];exact t h1 h2
   ·rw [if_neg q] at h2;exact absurd h2 q
  ·rw [if_neg p] at h1;exact absurd h1 p
theorem ci_ord {α:Type}(f:α->Int):Ord3 (λx y=>Lib.compareInt (f x) (f y)):=by
 refine ⟨λx y=> ?_,λx y z=> ?_,λx y z=> ?_⟩<;>unfold Lib.compareInt<;>(repeat' split)<;>omega
theorem cmpL_ord {α:Type}(f:α->List Nat):Ord3 (λx y=>x4 (f x) (f y)):=by
 refine ⟨λx y=>cmpL_anti _ _,λx y z=>cmpL_trans _ _ _,λx y z h1 h2=> ?_⟩
 show x4 (f x) (f z)=0
 rw [fT _ _ h1,fT _ _ h2];exact tL _
def cmpK (a b:Cu):Int:=lex (Lib.compareInt a.e b.e) (lex (x4 a.v.key b.v.key) (Lib.compareInt (b01 a.aft) (b01 b.aft)))
theorem cmpK_ord:Ord3 cmpK:=lex_ord (ci_ord (λc:Cu=>c.e)) (lex_ord (cmpL_ord (λc:Cu=>c.v.key)) (ci_ord (λc:Cu=>b01 c.aft)))
theorem cmpC_K {a b:Cu}(ha:a.may=true)(hb:b.may=true):gH a b=cmpK a b:=by
 rw [tM ha hb,gO (may_v ha) (may_v hb)];rfl
theorem pL {a b:Cu}(h:a.may=false\/b.may=false):gH a b=0:=by
 unfold gH
 rcases h with h|h<;>rw [h]<;>simp
theorem cut_anti {a b:Cu}:gH b a= -gH a b:=by
 cases ha:a.may with
 |true=>
  cases hb:b.may with
  |true=>rw [cmpC_K ha hb,cmpC_K hb ha];exact cmpK_ord.anti _ _
  |false=>rw [pL (.inl hb),pL (.inr hb)];rfl
 |false=>rw [pL (a:=a) (.inl ha),pL (b:=a) (.inr ha)];rfl
theorem cut_on {a b c:Cu}(ha:a.may=true)(hb:b.may=true)(hc:c.may=true)(h1:gH a b<=0)(h2:gH b c<=0):gH a c<=0/\(gH a c=0->gH a b=0/\gH b c=0):=by
 rw [cmpC_K ha hb] at h1 ⊢;rw [cmpC_K hb hc] at h2 ⊢;rw [cmpC_K ha hc];exact cmpK_ord.on _ _ _ h1 h2
def vR (e:Int):Cu:=⟨e,Ver.zero,false⟩
def posC (v:Ver):Cu:=⟨0,kE v,false⟩
theorem posC_may {v:Ver}(h:v.may=true):(posC v).may=true:=by
 unfold posC Cu.may
 rw [if_pos rfl,pK h];rfl
def bZ (c:Cu)(v:Ver):Bool:=c.may && v.may && (if c.e=0 then decide (zX c.v v<0\/(zX c.v v=0/\c.aft=false)) else decide (c.e<0))
theorem cmpR_coreR {a v:Ver}(ha:a.may=true)(hv:v.may=true):zX a (kE v)=zX a v:=by
 rw [gO ha (pK hv),gO ha hv];rfl
theorem ahead_pos {c:Cu}{v:Ver}(hc:c.may=true)(hv:v.may=true):bZ c v=decide (gH c (posC v)<=0):=by
 rw [tM hc (posC_may hv)]
 unfold bZ
 rw [hc,hv]
 show (true && true && _)=decide (lex (Lib.compareInt c.e 0) (lex (zX c.v (kE v)) (Lib.compareInt (b01 c.aft) (b01 false)))<=0)
 rw [cmpR_coreR (may_v hc) hv]
 rcases may_e hc with ⟨h,_⟩|⟨h,h2,h3⟩
 ·rw [if_pos h,h,dD]
  unfold lex
  rw [if_pos rfl]
  rcases nD (v:=c.v) (w:=v) with e|e|e<;>rw [e]<;>cases c.aft<;>decide
 ·rw [if_neg Om]
  rcases h with h|h<;>rw [h]
  ·rw [show Lib.compareInt (-1) 0= -1 from by decide];unfold lex;simp
  ·rw [show Lib.compareInt 1 0=1 from by decide];unfold lex;simp
theorem ahead_on {a b:Cu}{v:Ver}(ha:a.may=true)(hb:b.may=true)(hv:v.may=true)(h:gH a b<=0)(h2:bZ b v=true):bZ a v=true:=by
 rw [ahead_pos hb hv,decide_eq_true_eq] at h2
 rw [ahead_pos ha hv,decide_eq_true_eq]
 exact (cut_on ha hb (posC_may hv) h h2).1
def lessC (a b:Cu):Bool:=if a.e=b.e then (if zX a.v b.v= -1 then true else if zX a.v b.v=1 then false else !a.aft && b.aft) else decide (a.e<b.e)
structure Sp where
 lo:Cu
 hi:Cu
def Sp.may (s:Sp):Bool:=decide (gH s.lo s.hi= -1)
def holdsC (s:Sp)(v:Ver):Bool:=s.may && bZ s.lo v && !bZ s.hi v
theorem beside {v w:Ver}(hv:v.may=true)(hw:w.may=true):(Sp.mk ⟨0,kE v,false⟩ ⟨0,kE v,true⟩).may=true/\holdsC ⟨⟨0,kE v,false⟩,⟨0,kE v,true⟩⟩ w=decide (zX v w=0):=by
 have m1:(Cu.mk 0 (kE v) false).may=true:=posC_may hv
 have m2:(Cu.mk 0 (kE v) true).may=true:=by unfold Cu.may;rw [if_pos rfl,pK hv];rfl
 have hs:(Sp.mk ⟨0,kE v,false⟩ ⟨0,kE v,true⟩).may=true:=by
  unfold Sp.may
  rw [tM m1 m2]
  dsimp only
  rw [mU];rfl
 refine ⟨hs, ?_⟩
 unfold holdsC bZ
 rw [hs,m1,m2,hw]
 dsimp only
 rw [if_pos rfl,if_pos rfl,order_core hv hw]
 rcases nD (v:=v) (w:=w) with e|e|e<;>rw [e]<;>rfl
theorem between {a b:Cu}{v:Ver}(ha:a.may=true)(hb:b.may=true)(hv:v.may=true)(h1:bZ a v=true)(h2:bZ b v=false):gH a b= -1:=by
 have h3:¬ gH b a<=0:=λh=>by rw [ahead_on hb ha hv h h1] at h2;cases h2
 have:=cut_anti (a:=a) (b:=b)
 rcases cmpC_range a b with e|e|e<;>omega
def genC (l:List Int)(i:Nat):Cu:=
 if plc (atL l (i+5)) 9<2 then vR (2*plc (atL l (i+5)) 9-1) else ⟨0,kE (genV l i),decide (plc (atL l (i+5)) 2=1)⟩
end
section
theorem ver_dec (u v:Ver):decide (u=v)=(decide (u.maj=v.maj) && (decide (u.min=v.min) && (decide (u.pat=v.pat) && (decide (u.pre=v.pre) && decide (u.build=v.build))))):=by
 obtain ⟨a,b,c,d,e⟩:=u
 obtain ⟨a',b',c',d',e'⟩:=v
 simp only [Ver.mk.injEq,Bool.decide_and]
theorem eq_ver (u v:Ver)(d:Nat)(w:World):(Op.equalIn (d+1+1) 42 (yB u) (yB v)).run YP w= .ok (decide (u=v)) w:=by
  have h:=eq_agg (P:=YP) (d:=d+1) (t:=42) (xs:=(yB u).cells) (ys:=(yB v).cells) (bs:=[u.maj==v.maj,u.min==v.min,u.pat==v.pat,(mkS u.pre).toList==(mkS v.pre).toList,(mkS u.build).toList==(mkS v.build).toList]) Tryz.underlying42 Kr
    ⟨by decide,⟨YI u.maj,YI v.maj,λw=>⟨by kernel_rfl,by kernel_rfl,run_equalIn_int w d _ _ _ _ _ Tryz.underlying3⟩⟩,
     by decide,⟨YI u.min,YI v.min,λw=>⟨by kernel_rfl,by kernel_rfl,run_equalIn_int w d _ _ _ _ _ Tryz.underlying3⟩⟩,
     by decide,⟨YI u.pat,YI v.pat,λw=>⟨by kernel_rfl,by kernel_rfl,run_equalIn_int w d _ _ _ _ _ Tryz.underlying3⟩⟩,
     by decide,⟨.string (mkS u.pre),.string (mkS v.pre),λw=>⟨by kernel_rfl,by kernel_rfl,run_equalIn_string w d _ _ _ Tryz.underlying9⟩⟩,
     by decide,⟨.string (mkS u.build),.string (mkS v.build),λw=>⟨by kernel_rfl,by kernel_rfl,run_equalIn_string w d _ _ _ Tryz.underlying9⟩⟩,trivial⟩ w
  rw [all5,nP,nP,int_beq,int_beq,int_beq,←ver_dec] at h
  exact h
abbrev ZJ2 (x y:Cu):Array Value:= #[YI x.e,YI x.v.maj,YI x.v.min,YI x.v.pat,.string (mkS x.v.pre),.string (mkS x.v.build),.bool x.aft,YI y.e,YI y.v.maj,YI y.v.min,YI y.v.pat,.string (mkS y.v.pre),.string (mkS y.v.build),.bool y.aft]
abbrev ZJ (x:Cu):Array Value:= #[YI x.e,YI x.v.maj,YI x.v.min,YI x.v.pat,.string (mkS x.v.pre),.string (mkS x.v.build),.bool x.aft]
def cutV (c:Cu):Value:= .agg #[YI c.e,YI c.v.maj,YI c.v.min,YI c.v.pat,.string (mkS c.v.pre),.string (mkS c.v.build),.bool c.aft]
def spanV (s:Sp):Value:= .agg (ZJ2 s.lo s.hi)
theorem guard_ver:Tryz.prog.eqGuardType Tryz.prog.depth 42=false:=by kernel_rfl
end
section
theorem ret_i64 {a b:Int}(h:a=b):Ending.returned (YI a)= .returned (YI b):=by rw [h]
theorem empty_mk (b:YL):(mkS b).toList.isEmpty=b.isEmpty:=by rw [Lib.toList_data,mk_data]
theorem compareTag_any (a b:YL)(w:World)(ha:a.length<=1000000)(hb:b.length<=1000000):
  YC 191 #[.string (mkS a),.string (mkS b)] w (YR (YI (mV a b)) w):=by
 have la:a.length<=maxLen:=by unfold maxLen;omega
 have lb:b.length<=maxLen:=by unfold maxLen;omega
 have HO:Hid (mV a b=if gG a && gG b then Lib.compareInt (yZ a) (yZ b) else if gG a && !b.isEmpty then-1 else if gG b && !a.isEmpty then 1 else Lib.compareBytes a b):=rfl
 have ea:=empty_mk a
 have eb:=empty_mk b
 obtain ⟨na,hna⟩:∃ n,yZ a=n:=⟨_,rfl⟩
 obtain ⟨nb,hnb⟩:∃ n,yZ b=n:=⟨_,rfl⟩
 have cC:=λw'=>Tryz.strings_Compare (mkS a) (mkS b) w'
 rw [mk_data,mk_data] at cC
 obtain ⟨x,hx⟩:∃ n,Lib.compareBytes a b=n:=⟨_,rfl⟩
 have cI:=λw'=>Tryz.cmp_Compare_int na nb w'
 obtain ⟨y,hy⟩:∃ n,Lib.compareInt na nb=n:=⟨_,rfl⟩
 rw [hx] at cC HO
 rw [hna,hnb,hy] at HO
 rw [hy] at cI
 clear hx hy
 cases hi:gG a<;>cases hj:gG b<;>cases ga:a.isEmpty<;>cases gb:b.isEmpty
 all_goals
  rw [hi,hj,ga,gb] at HO
  have cA:=λw'=>bC a _ hi w' la
  have cB:=λw'=>bC b _ hj w' lb
  rw [hna] at cA
  rw [hnb] at cB
  rw [ga] at ea
  rw [gb] at eb
  clear hi hj ga gb
  go_enter Tryz.func191,Tryz.ntmps191
  go_wp2_with fail
  refine (cA _).mono ?_
  rintro e w1 ⟨rfl,hb1⟩
  go_wp2_with fail
  refine (cB _).mono ?_
  rintro e w2 ⟨rfl,hb2⟩
  have hbw:YB w w2:=hb1.trans (hb2.mono hb1.size)
  go_wp2_with (first
   |(go_at_call 145;refine (cI _).mono ?_;rintro e w3 ⟨rfl,rfl⟩)
   |(go_at_call 231;refine (cC _).mono ?_;rintro e w3 ⟨rfl,rfl⟩))
  go_ret
  exact ⟨ret_i64 (by rw [HO.out];simp),hbw⟩
def or3 (x y z:Int):Int:=if x≠0 then x else if y≠0 then y else z
def nthI (x y z:Int)(k:Nat):Int:=if k=0 then x else if k=1 then y else z
end
section
end
section
def Cu.short (c:Cu):Prop:=c.v.pre.length<=1000000/\c.v.build.length<=1000000
def Ver.short (v:Ver):Prop:=v.pre.length<=1000000/\v.build.length<=1000000
def Sp.short (s:Sp):Prop:=s.lo.short/\s.hi.short
end
section
def dN:List Sp->Bool
 | []=>true
 | [s]=>s.may
 |s::t::r=>s.may && decide (gH s.hi t.lo<0) && dN (t::r)
def inSp (s:Sp)(c:Cu):Bool:=decide (gH s.lo c<=0) && decide (gH c s.hi<0)
def den (l:List Sp)(c:Cu):Bool:=l.any (inSp · c)
def rowHas (l:List Sp)(v:Ver):Bool:=dN l && l.any (holdsC · v)
def growL (l:List Sp)(c d:Cu):List Sp:=
 match l.getLast? with
 |some s=>if gH s.hi c=0 then l.dropLast++[⟨s.lo,d⟩] else l++[⟨c,d⟩]
 |none=>[⟨c,d⟩]
def buildL (p:Cu->Cu->Bool):List Sp->List Cu->List Sp
 |out,c::d::r=>buildL p (if p c d then growL out c d else out) (d::r)
 |out,_=>out
def pick (p:Cu->Cu->Bool)(x:Cu):List Cu->Bool
 |c::d::r=>(p c d && inSp ⟨c,d⟩ x)||pick p x (d::r)
 |_=>false
def Rise:List Cu->Prop
 |c::d::r=>c.may=true/\gH c d<0/\Rise (d::r)
 | [c]=>c.may=true
 | []=>True
def putL (c:Cu):List Cu->List Cu
 | []=>[c]
 |d::r=>if gH d c<0 then d::putL c r else if gH d c=0 then d::r else c::d::r
def cutsL (l:List Sp):List Cu:=l.foldl (λout s=>putL s.hi (putL s.lo out)) [vR (-1),vR 1]
def AllMay (l:List Cu):Prop:=∀ x∈l,x.may=true
structure Ends (l:List Cu):Prop where
 rise:Rise l
 head:l.head?=some (vR (-1))
 last:l.getLast?=some (vR 1)
def inL (l:List Sp)(c d:Cu):Bool:=l.any λs=>decide (gH s.lo c<=0) && decide (gH d s.hi<=0)
def makeL (l:List Sp):List Sp:=buildL (inL l) [] (cutsL l)
def orL (a b:List Sp):List Sp:=makeL (a++b)
def andL (a b:List Sp):List Sp:=buildL (λc d=>inL a c d && inL b c d) [] (cutsL (a++b))
def notL (a:List Sp):List Sp:=buildL (λc d=> !inL a c d) [] (cutsL a)
end
section
def spanC (s:Sp):List Value:=(spanV s).cells.toList
def ShortL (l:List Sp):Prop:=∀ s∈l,s.short
end
section
deriving instance DecidableEq for Sp
end
section
end
section
end
section
def cutC (s:Cu):List Value:=(cutV s).cells.toList
def ShortC (l:List Cu):Prop:=∀ s∈l,s.short
end
section
end
section
section
variable {M:List Nat}{P:Program}{n:Nat}{ops:Array Oper}{W:World}{Q:Exit->Act->World->Prop}{L0 L:List Blk}{f:Nat->Value}{fuel:Nat}{listed:Array Bool}{rest:List Oper}{o:Oper}
end
end
section
def allMay (l:List Sp):Bool:=l.all (·.may)
end
section
end
section
end
section
def minC (a b:Cu):Cu:=if 0<gH a b then b else a
def maxC (a b:Cu):Cu:=if 0<gH a b then a else b
def addL (l:List Sp)(c d:Cu):List Sp:=if (Sp.mk c d).may then l++[⟨c,d⟩] else l
def nstep (p:List Sp×Cu)(s:Sp):List Sp×Cu:=(addL p.1 p.2 s.lo,s.hi)
def notG (l:List Sp):List Sp:=addL (l.foldl nstep ([],vR (-1))).1 (l.foldl nstep ([],vR (-1))).2 (vR 1)
def andG:Nat->List Sp->List Sp->List Sp->List Sp
 |n+1,out,s::a,u::b=>if s.hi=minC s.hi u.hi then andG n (addL out (maxC s.lo u.lo) (minC s.hi u.hi)) a (u::b) else andG n (addL out (maxC s.lo u.lo) (minC s.hi u.hi)) (s::a) b
 |_,out,_,_=>out
def mstep (out:List Sp)(s:Sp):List Sp:=
 match out.getLast? with
 |none=>[s]
 |some t=>if gH t.hi s.lo<0 then out++[s] else out.dropLast++[⟨t.lo,maxC t.hi s.hi⟩]
def SortedC:List Sp->Prop
 | []=>True
 |s::r=>(∀ t∈r,gH s.lo t.lo<=0)/\SortedC r
end
section
theorem cutAt_len (c:UInt8):∀ s:YL,s.length=(zA c s).1.length+(if (zA c s).2.2 then 1+(zA c s).2.1.length else 0)
 | []=>rfl
 |b::r=>by
  unfold zA
  have ih:=cutAt_len c r
  by_cases h:b=c
  ·first|(simp [h];done)|(subst h;simp;omega)|(simp [h];omega)
  ·first|(simp [h] at ih ⊢;omega)|(simp [h,Ne.symm h] at ih ⊢;omega)
structure RF (l:List Sp)(n:Nat):Prop where
 may:dN l=true
 len:l.length<=n
section
variable {a b c:List Sp}(ha:dN a=true)(hb:dN b=true)(hc:dN c=true)
include ha in
end
end
section
def idxP (v:Ver):List Sp->Int->Int
 | [],_=> -1
 |s::r,k=>if holdsC s v then k else idxP v r (k+1)
end
section
end
section
end
section
def leastV (v:Ver):Bool:=decide (v.maj=0) && decide (v.min=0) && decide (v.pat=0)
def rightC (c:Cu):Bool:=decide (¬ c.e=0)||(!c.aft && decide (c.v.pre=[]) && !leastV c.v)
def AllRight (l:List Sp):Prop:=∀ s∈l,rightC s.lo=true/\rightC s.hi=true
def valC (c:Cu):Int:=if c.e= -1 then 0 else if c.e=1 then 1000000000000 else c.v.code
def muI (v:Ver):Int:=if v.pre=[] then v.code else v.code-1
def mu (x:Cu):Int:=if x.e=0 then (if muI x.v<0 then 0 else muI x.v) else 0
def denN (l:List Sp)(n:Int):Bool:=l.any λs=>decide (valC s.lo<=n) && decide (n<valC s.hi)
end
section
def relV (v:Ver):Ver:=Ver.rel v.maj v.min v.pat
def relA (v:Ver):Cu:=if leastV v then vR (-1) else ⟨0,relV v,false⟩
def relB (v:Ver):Cu:=if nextOk (relV v) then ⟨0,nextV (relV v),false⟩ else vR 1
def turnC (c:Cu):Cu:=if ¬ c.e=0 then c else if c.aft=true/\c.v.pre=[] then relB c.v else relA c.v
def turnS (s:Sp):Sp:=⟨turnC s.lo,turnC s.hi⟩
def makeRel (l:List Sp):List Sp:=makeL ((l.map turnS).filter (·.may))
def oneRel (v:Ver):List Sp:=[⟨relA v,relB v⟩]
def onePre (v:Ver):List Sp:=[⟨⟨0,kE v,false⟩,⟨0,kE v,true⟩⟩]
end
section
structure St where
 rel:List Sp
 pre:List Sp
def St.may (s:St):Bool:=dN s.rel && dN s.pre && s.rel.all λx=>rightC x.lo && rightC x.hi
structure SF (s:St)(n:Nat):Prop where
 rel:RF s.rel n
 pre:RF s.pre n
 right:AllRight s.rel
def setHas (s:St)(v:Ver):Bool:=s.may && v.may && (if v.pre=[] then rowHas s.rel v else rowHas s.pre v)
def noneT:St:=⟨[],[]⟩
def wholeL:List Sp:=[⟨vR (-1),vR 1⟩]
def allT:St:=⟨wholeL,wholeL⟩
def orT (a b:St):St:=⟨orL a.rel b.rel,orL a.pre b.pre⟩
def andT (a b:St):St:=⟨andL a.rel b.rel,andL a.pre b.pre⟩
def notT (a:St):St:=⟨notL a.rel,notL a.pre⟩
def minusT (a b:St):St:=andT a (notT b)
def exactT (v:Ver):St:=if v.may then (if v.pre=[] then ⟨oneRel v,[]⟩ else ⟨[],onePre v⟩) else noneT
section
variable {a b:St}{n m:Nat}{v:Ver}(ha:SF a n)(hb:SF b m)(hv:v.may=true)
include ha hb hv
end
def edgeN (l:List Sp):List Int:=l.flatMap λs=>[s.lo,s.hi].filterMap λc=>if c.e=0 then some c.v.code else none
end
section
end
section
def pG (v:Ver):Nat->Cu
 |0=>if wB v 0 then ⟨0,bumpV v 0,false⟩ else vR 1
 |k+1=>if wB v ((k+1:Nat):Int) then ⟨0,bumpV v ((k+1:Nat):Int),false⟩ else pG v k
def turnsK (c:Co):Nat:=if 0<c.v.maj\/c.parts=1 then 0 else if 0<c.v.min\/c.parts=2 then 1 else 2
def Co.low (c:Co):Cu:=⟨0,kE c.v,false⟩
def Co.aft (c:Co):Cu:=if c.parts<3/\0<c.parts then pG c.v (c.parts-1).toNat else ⟨0,kE c.v,true⟩
def Co.span (c:Co):Cu×Cu:=
 if c.op=1\/c.op=2 then (c.low,c.aft) else if c.op=3 then (vR (-1),c.low) else if c.op=4 then (vR (-1),c.aft) else if c.op=5 then (c.aft,vR 1) else if c.op=6 then (c.low,vR 1)
 else if c.op=7 then (c.low,pG c.v (turnsK c)) else if c.op=8 then (c.low,pG c.v (min (c.parts-1) 1).toNat) else if c.parts=0 then (vR (-1),vR 1) else (c.low,pG c.v (c.parts-1).toNat)
def oneRow (lo hi:Cu):List Sp:=addL [] lo hi
def Co.region (c:Co):List Sp:=if c.may then (if c.op=2 then notL (oneRow c.span.1 c.span.2) else oneRow c.span.1 c.span.2) else []
def Co.zone (c:Co):List Sp:=if c.may && !decide (c.v.pre=[]) then [⟨⟨0,{c.v with pre:=[48],build:=[]},false⟩,⟨0,{c.v with pre:=[],build:=[]},false⟩⟩] else []
def upN (v:Ver)(k:Nat):Int:=if k=0 then (v.maj+1)*100000000 else if k=1 then v.maj*100000000+(v.min+1)*10000 else v.code+1
def ordB (op n:Int):Bool:=if op=1 then decide (n=0) else if op=2 then decide (¬ n=0) else if op=3 then decide (n<0) else if op=4 then decide (n<=0) else if op=5 then decide (0<n) else decide (0<=n)
end
section
def jM (c:Co)(v:Ver)(p:Int):Bool:=(decide (p<1)||decide (v.maj=c.v.maj)) && (decide (p<2)||decide (v.min=c.v.min)) && (decide (p<3)||decide (v.pat=c.v.pat))
def overB (c:Co)(v:Ver):Bool:=if ¬ v.maj=c.v.maj\/c.parts=1 then decide (c.v.maj<v.maj) else if ¬ v.min=c.v.min\/c.parts=2 then decide (c.v.min<v.min) else decide (c.v.pat<v.pat)
def saysN (c:Co):Int:=if 0<c.v.maj\/c.parts=1 then 1 else if 0<c.v.min\/c.parts=2 then 2 else 3
def saysB (c:Co)(v:Ver):Bool:=
 if c.op=1\/c.op=9 then jM c v c.parts else if c.op=2 then !jM c v c.parts else if c.op=3 then !jM c v c.parts && !overB c v else if c.op=4 then jM c v c.parts||!overB c v
 else if c.op=5 then overB c v else if c.op=6 then jM c v c.parts||overB c v else if c.op=8 then jM c v (min c.parts 2) && (jM c v c.parts||overB c v)
 else jM c v (saysN c) && (jM c v c.parts||overB c v)
def truncN (v:Ver)(q:Nat):Int:=if q=1 then v.maj*100000000 else if q=2 then v.maj*100000000+v.min*10000 else v.code
end
section
def leastP (v:Ver):Ver:={v with pre:=[48],build:=[]}
def bareV (v:Ver):Ver:={v with pre:=[],build:=[]}
def withO (c:Co)(o:Int):Co:={c with op:=o}
end
section
end
section
abbrev ZQ (x:Co):Array Value:= #[YI x.op,YI x.parts,YI x.v.maj,YI x.v.min,YI x.v.pat,.string (mkS x.v.pre),.string (mkS x.v.build)]
def coV (c:Co):Value:= .agg #[YI c.op,YI c.parts,YI c.v.maj,YI c.v.min,YI c.v.pat,.string (mkS c.v.pre),.string (mkS c.v.build)]
def Co.short (c:Co):Prop:=c.v.short
def toldV (p:Int)(v:Ver):Ver:=⟨if p<1 then 0 else v.maj,if p<2 then 0 else v.min,if p<3 then 0 else v.pat,if p<3 then [] else v.pre,[]⟩
def genCo (l:List Int)(i:Nat):Co:=
 ⟨1+plc (atL l (i+5)) 9,if 1+plc (atL l (i+5)) 9=9 then plc (atL l (i+6)) 3 else 1+plc (atL l (i+6)) 3,toldV (if 1+plc (atL l (i+5)) 9=9 then plc (atL l (i+6)) 3 else 1+plc (atL l (i+6)) 3) (genV l i)⟩
end
section
end
section
def ordSp (c d:Cu):Sp:=if 0<gH c d then ⟨d,c⟩ else ⟨c,d⟩
def spG (l:List Int)(i n:Nat):Sp:=ordSp (genC l (i+12*n-11)) (genC l (i+12*n-5))
def spansG (l:List Int)(i:Nat):Nat->List Sp
 |0=>[]
 |n+1=>(if (spG l i (n+1)).may then [spG l i (n+1)] else [])++spansG l i n
end
section
def rowG (l:List Int)(i:Nat):List Sp:=makeL (spansG l i (plc (atL l i) (4+1:Nat)).toNat)
end
section
end
section
end
section
def highZ (v:Ver)(z:Int):Cu:=if z<0 then vR 1 else pG v z.toNat
theorem rcMay_any (c:Co)(W:World)(hc:c.short):YC 150 #[coV c] W (YR (.bool c.may) W):=by
 obtain ⟨op,parts,v⟩:=c
 have hm:= @Co.may_iff ⟨op,parts,v⟩
 simp only at hm
 have no:∀ w,YB W w→¬ (Co.may ⟨op,parts,v⟩=true)->Ending.returned (.bool false)= .returned (.bool (Co.may ⟨op,parts,v⟩))/\YB W w:=λw hb h=>⟨by rw [Bool.eq_false_iff.2 h],hb⟩
 have hmay:∀ w,YC 105 #[yB v] w (YR (.bool v.may) w):=λw=>qN v w hc.1 hc.2
 refine z8 Tryz.func150 (zZ [] λb1=>zD 7 [0] (op<1) (λh1=>(z7 [] Z5 λw hO=>no w hO.below λq=>by have:=hm.1 q;grind)) (λh1=>zD 11 [0] (op>9) (λh2=>(z7 [] Z5 λw hO=>no w hO.below λq=>by have:=hm.1 q;grind)) (λh2=>z6 (v:= .bool v.may) [0] (λw hO=>hmay w) (zL 16 v.may (λe3=>wT 23 [0] v.build [] (λh4=> ?_) (λh4=>(z7 [] Z5 λw hO=>no w hO.below λq=>by have:=hm.1 q;grind))) (λe3=>(z7 [] Z5 λw hO=>no w hO.below λq=>by have:=hm.1 q;grind))))))
 refine wE 27 (α:=Int×Int) (λq=>[(1,Zp b1 0),(3,YI q.1),(4,YI q.2)]) (λ_=>[⟨b1,(coV ⟨op,parts,v⟩).cells,143⟩]) (λq=>(op=9->q.1=0/\q.2=2)/\(¬ op=9->q.1=1/\q.2=3)) [0] (λnj=>fY 27 (op=9) (λh=>nj (0,2) [] ⟨λ_=>⟨rfl,rfl⟩,λq=>absurd h q⟩ Kr) (λh=>nj (1,3) [] ⟨λq=>absurd q h,λ_=>⟨rfl,rfl⟩⟩ Kr)) ?_
 rintro ⟨lo,hi⟩ g hr
 simp only at hr
 refine zD 31 [0] (parts<lo) (λh5=>(z7 [] Z5 λw hO=>no w hO.below λq=>by have:=hm.1 q;grind)) (λh5=>zD 36 [0] (parts>hi) (λh6=>(z7 [] Z5 λw hO=>no w hO.below λq=>by have:=hm.1 q;grind)) (λh6=> ?_))
 rcases (by omega:parts=0\/parts=1\/parts=2\/parts=3) with rfl|rfl|rfl|rfl
 ·exact wT 46 [0,0] v.pre [] (λh8=>zD 56 [0,0] (v.maj=0) (λa1=>zD 66 [0,0] (v.min=0) (λa2=>zD 77 [0,0] (v.pat=0) (λa3=>(z7 [] Z4 λw hO=>⟨by rw [hm.2 ⟨by omega,e3,h4,by omega,by omega,by first|exact .inl Om|exact .inr h8,by omega,by omega,by omega⟩],hO.below⟩)) (λa3=>(z7 [] Z5 λw hO=>no w hO.below λq=>by have:=hm.1 q;grind))) (λa2=>(z7 [] Z5 λw hO=>no w hO.below λq=>by have:=hm.1 q;grind))) (λa1=>(z7 [] Z5 λw hO=>no w hO.below λq=>by have:=hm.1 q;grind))) (λh8=>(z7 [] Z5 λw hO=>no w hO.below λq=>by have:=hm.1 q;grind))
 ·exact wT 46 [0,0] v.pre [] (λh8=>zD 66 [0,0,0] (v.min=0) (λa2=>zD 77 [0,0] (v.pat=0) (λa3=>(z7 [] Z4 λw hO=>⟨by rw [hm.2 ⟨by omega,e3,h4,by omega,by omega,by first|exact .inl Om|exact .inr h8,by omega,by omega,by omega⟩],hO.below⟩)) (λa3=>(z7 [] Z5 λw hO=>no w hO.below λq=>by have:=hm.1 q;grind))) (λa2=>(z7 [] Z5 λw hO=>no w hO.below λq=>by have:=hm.1 q;grind))) (λh8=>(z7 [] Z5 λw hO=>no w hO.below λq=>by have:=hm.1 q;grind))
 ·exact wT 46 [0,0] v.pre [] (λh8=>zD 77 [0,0,0,0] (v.pat=0) (λa3=>(z7 [] Z4 λw hO=>⟨by rw [hm.2 ⟨by omega,e3,h4,by omega,by omega,by first|exact .inl Om|exact .inr h8,by omega,by omega,by omega⟩],hO.below⟩)) (λa3=>(z7 [] Z5 λw hO=>no w hO.below λq=>by have:=hm.1 q;grind))) (λh8=>(z7 [] Z5 λw hO=>no w hO.below λq=>by have:=hm.1 q;grind))
 ·exact z7 [0,0,0,0] Z4 λw hO=>⟨by rw [hm.2 ⟨by omega,e3,h4,by omega,by omega,by first|exact .inl Om|exact .inr h8,by omega,by omega,by omega⟩],hO.below⟩
theorem rcsign_any (op:Int)(W:World):YC 152 #[YI op] W (YR (.string (mkS (vC op))) W):=by
 exact z8 Tryz.func152 (zD 5 [] (op=1) (λh=>z7 [] (.string (mkS [61])) λw hO=>⟨by subst h;rfl,hO.below⟩) (λh1=>zD 7 [] (op=2) (λh=>z7 [] (.string (mkS [33,61])) λw hO=>⟨by subst h;rfl,hO.below⟩) (λh2=>zD 9 [] (op=3) (λh=>z7 [] (.string (mkS [60])) λw hO=>⟨by subst h;rfl,hO.below⟩) (λh3=>zD 11 [] (op=4) (λh=>z7 [] (.string (mkS [60,61])) λw hO=>⟨by subst h;rfl,hO.below⟩) (λh4=>zD 13 [] (op=5) (λh=>z7 [] (.string (mkS [62])) λw hO=>⟨by subst h;rfl,hO.below⟩) (λh5=>zD 15 [] (op=6) (λh=>z7 [] (.string (mkS [62,61])) λw hO=>⟨by subst h;rfl,hO.below⟩) (λh6=>zD 17 [] (op=7) (λh=>z7 [] (.string (mkS [94])) λw hO=>⟨by subst h;rfl,hO.below⟩) (λh7=>zD 19 [] (op=8) (λh=>z7 [] (.string (mkS [126])) λw hO=>⟨by subst h;rfl,hO.below⟩) (λh8=>z7 [] (.string (mkS [])) λw hO=>⟨by unfold vC;rw [if_neg h1,if_neg h2,if_neg h3,if_neg h4,if_neg h5,if_neg h6,if_neg h7,if_neg h8],hO.below⟩)))))))))
end
section
end
section
def triV (l:List YL):Ver:=if l.length=3 then ⟨yZ (tg l 0),yZ (tg l 1),yZ (tg l 2),[],[]⟩ else Ver.zero
def triB (l:List YL):Bool:=decide (l.length=3) && (gG (tg l 0) && gG (tg l 1) && gG (tg l 2))
theorem one_keep {w w' w2:World}{v1 v2 v3:Value}(hS:w'.cell? ⟨w.heap.size,0,none⟩=some v1/\w'.cell? ⟨w.heap.size,1,none⟩=some v2/\w'.cell? ⟨w.heap.size,2,none⟩=some v3/\YB w w'/\w.heap.size<w'.heap.size)(hb:Below w'.heap.size w' w2):w2.cell? ⟨w.heap.size,0,none⟩=some v1/\w2.cell? ⟨w.heap.size,1,none⟩=some v2/\w2.cell? ⟨w.heap.size,2,none⟩=some v3/\YB w w2/\w.heap.size<w2.heap.size:=by
 obtain ⟨a0,a1,a2,h,hA⟩:=hS
 have k:∀ C i v,C<w'.heap.size->w'.cell? ⟨C,i,none⟩=some v->w2.cell? ⟨C,i,none⟩=some v:=λC i v hC e=>(hb.cell (p:=⟨C,i,none⟩) hC).trans e
 exact ⟨k _ _ _ hA a0,k _ _ _ hA a1,k _ _ _ hA a2,h.trans (hb.mono h.size),Nat.lt_of_lt_of_le hA hb.size⟩
theorem one_start (w:World)(v1 v2 v3 v4 v5:Value)(T:TypeId):(w.alloc (.cells #[v1,v2,v3,v4,v5] T)).drew.cell? ⟨w.heap.size,0,none⟩=some v1/\(w.alloc (.cells #[v1,v2,v3,v4,v5] T)).drew.cell? ⟨w.heap.size,1,none⟩=some v2/\(w.alloc (.cells #[v1,v2,v3,v4,v5] T)).drew.cell? ⟨w.heap.size,2,none⟩=some v3/\Below w.heap.size w (w.alloc (.cells #[v1,v2,v3,v4,v5] T)).drew/\w.heap.size<(w.alloc (.cells #[v1,v2,v3,v4,v5] T)).drew.heap.size:=by
 have h0:(w.alloc (.cells #[v1,v2,v3,v4,v5] T)).drew.heap[w.heap.size]?=some (.cells #[v1,v2,v3,v4,v5] T):=bI w _
 have k0:∀ i v,(#[v1,v2,v3,v4,v5]:Array Value)[i]?=some v->(w.alloc (.cells #[v1,v2,v3,v4,v5] T)).drew.cell? ⟨w.heap.size,i,none⟩=some v:=λi v e=>(cell_of_row _ _ i _ _ _ h0).trans e
 have hs:(w.alloc (.cells #[v1,v2,v3,v4,v5] T)).drew.heap.size=w.heap.size+1:=nQ w _
 have hB:Below w.heap.size w (w.alloc (.cells #[v1,v2,v3,v4,v5] T)):=(Below.refl _ w).alloc (Nat.le_refl _) _
 exact ⟨k0 0 _ rfl,k0 1 _ rfl,k0 2 _ rfl,hB.drew,by omega⟩
theorem vI (n:Int)(h:zR n=true)(w:World):
  YC 194 #[YI n] w (YR (.string (mkS (Lib.itoa n))) w):=by
 unfold zR at h;simp at h
 exact rdigits_any n Om Om w
theorem numsL_mk (a b c:Int)(p q:YL):mkS (p9 ⟨a,b,c,p,q⟩)=mkS (Lib.itoa a)++⟨#[46]⟩++mkS (Lib.itoa b)++⟨#[46]⟩++mkS (Lib.itoa c):=by
 rw [show (⟨#[46]⟩:ByteArray)=mkS [46] from rfl,yJ,yJ,yJ,yJ]
 congr 1
 unfold p9
 simp
theorem rnumbers_any (v:Ver)(w:World)(h1:zR v.maj=true)(h2:zR v.min=true)(h3:zR v.pat=true):
  YC 174 #[yB v] w (YR (.string (mkS (p9 v))) w):=by
 obtain ⟨a,b,c,p,q⟩:=v
 have HN:=Lib.hid (numsL_mk a b c p q)
 dsimp only at h1 h2 h3
 have cA:=λw'=>vI a h1 w'
 have cB:=λw'=>vI b h2 w'
 have cC:=λw'=>vI c h3 w'
 have la:=jX h1
 have lb:=jX h2
 have lc:=jX h3
 rw [←y4] at la lb lc
 unfold yB
 dsimp only
 obtain ⟨x,hx⟩:∃ x,mkS (Lib.itoa a)=x:=⟨_,rfl⟩
 obtain ⟨y,hy⟩:∃ x,mkS (Lib.itoa b)=x:=⟨_,rfl⟩
 obtain ⟨z,hz⟩:∃ x,mkS (Lib.itoa c)=x:=⟨_,rfl⟩
 rw [hx] at cA la HN
 rw [hy] at cB lb HN
 rw [hz] at cC lc HN
 clear hx hy hz h1 h2 h3
 have s1:(x++(⟨#[46]⟩:ByteArray)).size<=5:=by rw [ByteArray.size_append];show x.size+1<=5;omega
 have s2:(x++(⟨#[46]⟩:ByteArray)++y).size<=9:=by rw [ByteArray.size_append];omega
 have s3:(x++(⟨#[46]⟩:ByteArray)++y++(⟨#[46]⟩:ByteArray)).size<=10:=by rw [ByteArray.size_append];show _+1<=10;omega
 go_enter Tryz.func174,Tryz.ntmps174
 go_wp2_with fail
 have hS0:=one_start w (YI a) (YI b) (YI c) (.string (mkS p)) (.string (mkS q)) 42
 go_region_with (first
   |(go_at_call 194;with_reducible refine (cA _).mono ?_;rintro e w1 ⟨rfl,hb1⟩;have hS1:=one_keep ‹_› hb1)
   |(go_at_call 194;with_reducible refine (cB _).mono ?_;rintro e w2 ⟨rfl,hb2⟩;have hS2:=one_keep ‹_› hb2))
 all_goals
  obtain ⟨_,_,k1,hbk1,_⟩:=hS1
  obtain ⟨_,_,k2,hbk2,_⟩:=hS2
  go_wp2_with (go_at_call 194;refine (cC _).mono ?_;rintro e w3 ⟨rfl,hb3⟩)
  go_ret
  first
   |exact ⟨qD HN.out.symm,hbk2.trans (hb3.mono hbk2.size)⟩
   |exact ⟨qD HN.out.symm,hbk1.trans (hb3.mono hbk1.size)⟩
theorem rprint_good (v:Ver)(w:World)(hp:v.pre.length<=1000000)(hq:v.build.length<=1000000)(hm:v.may=true):
  YC 125 #[yB v] w (YR (.string (mkS v.text)) w):=by
 have cM:=λw'=>qN v w' hp hq
 obtain ⟨n1,n2,n3⟩:=bF hm
 have cN:=λw'=>rnumbers_any v w' n1 n2 n3
 have hT:v.text=p9 v++kD 45 v.pre++kD 43 v.build:=rfl
 have hnl:(p9 v).length<=14:=nums_len n1 n2 n3
 obtain ⟨J,hJ⟩:∃ J,p9 v=J:=⟨_,rfl⟩
 rw [hJ] at cN hT hnl
 obtain ⟨a,b,c,p,q⟩:=v
 rw [hm] at cM
 unfold yB at cN cM ⊢
 dsimp only at cN cM hp hq hT ⊢
 have HT:=Lib.hid hT
 clear hT hm n1 n2 n3 hJ
 have hj0:(mkS J).size<=14:=by rw [y4];exact hnl
 have hp0:(mkS p).size<=1000000:=by rw [y4];exact hp
 have hq0:(mkS q).size<=1000000:=by rw [y4];exact hq
 have hj1:(mkS J++(⟨#[45]⟩:ByteArray)).size<=15:=by rw [ByteArray.size_append];show _+1<=_;omega
 have hj2:(mkS J++(⟨#[45]⟩:ByteArray)++mkS p).size<=1000015:=by rw [ByteArray.size_append];omega
 have hj3:(mkS J++(⟨#[45]⟩:ByteArray)++mkS p++(⟨#[43]⟩:ByteArray)).size<=1000016:=by rw [ByteArray.size_append];show _+1<=_;omega
 have hj4:(mkS J++(⟨#[43]⟩:ByteArray)).size<=15:=by rw [ByteArray.size_append];show _+1<=_;omega
 have hpe0:(mkS p).toList.isEmpty=p.isEmpty:=by rw [Lib.toList_data,mk_data]
 have hqe0:(mkS q).toList.isEmpty=q.isEmpty:=by rw [Lib.toList_data,mk_data]
 have hcase:(p.isEmpty=true/\kD 45 p=[]\/p.isEmpty=false/\kD 45 p=45::p)/\(q.isEmpty=true/\kD 43 q=[]\/q.isEmpty=false/\kD 43 q=43::q):=by
  unfold kD;cases p<;>cases q<;>simp
 obtain ⟨hc1,hc2⟩:=hcase
 rcases hc1 with ⟨e1,t1⟩|⟨e1,t1⟩<;>rcases hc2 with ⟨e2,t2⟩|⟨e2,t2⟩
 all_goals
  rw [e1] at hpe0
  rw [e2] at hqe0
  have T1:=Lib.hid t1
  have T2:=Lib.hid t2
  clear t1 t2 e1 e2
  go_enter Tryz.func125,Tryz.ntmps125
  go_wp2_with fail
  refine (cM _).mono ?_
  rintro e w1 ⟨rfl,hb1⟩
  have hg1:=Lib.hid ((hb1.block w.heap.size (by simp)).trans (bI w _))
  have hbw1:YB w w1:=((Below.refl _ _).alloc (Nat.le_refl _) _).trans (hb1.mono (by simp))
  have hsw:w.heap.size<w1.heap.size:=by have:=hb1.size;rw [nQ] at this;omega
  go_wp2_with (first
   |(refine wpList_load_row rfl 42 _ rfl w.heap.size rfl _ _ _ _ hg1.out Tryz.underlying42 rfl Kr ?_)
   |(go_at_call 174;refine (cN _).mono ?_;rintro e w2 ⟨rfl,hb2⟩;obtain ⟨c3,f3⟩:=g8 (j:=3) ((hb2.block w.heap.size hsw).trans hg1.out) (by simp);obtain ⟨c4,f4⟩:=g8 (j:=4) ((hb2.block w.heap.size hsw).trans hg1.out) (by simp);simp only [List.getElem_toArray,List.getElem_cons_succ,List.getElem_cons_zero] at c3 c4))
  go_ret
  exact ⟨qD (by
   rw [HT.out,T1.out,T2.out];try rw [show (⟨#[45]⟩:ByteArray)=mkS [45] from rfl]
   try rw [show (⟨#[43]⟩:ByteArray)=mkS [43] from rfl]
   simp [yJ]),hbw1.trans (hb2.mono hbw1.size)⟩
theorem rprint_none (v:Ver)(w:World)(hp:v.pre.length<=1000000)(hq:v.build.length<=1000000)(hm:v.may=false):
  YC 125 #[yB v] w (YR (.string (mkS [])) w):=by
 have cM:=λw'=>qN v w' hp hq
 rw [hm] at cM
 obtain ⟨a,b,c,p,q⟩:=v
 unfold yB at cM ⊢
 dsimp only at cM ⊢
 clear hm
 go_enter Tryz.func125,Tryz.ntmps125
 go_wp2_with (go_at_call 105;refine (cM _).mono ?_;rintro e w1 ⟨rfl,hb1⟩)
 go_ret
 exact ⟨rfl,((Below.refl _ _).alloc (Nat.le_refl _) _).trans (hb1.mono (by simp))⟩
theorem rprint_any (v:Ver)(w:World)(hp:v.pre.length<=1000000)(hq:v.build.length<=1000000):
  YC 125 #[yB v] w (YR (.string (mkS v.print)) w):=by
 cases hm:v.may with
 |true=>rw [print_eq hm];exact rprint_good v w hp hq hm
 |false=>rw [print_bad hm];exact rprint_none v w hp hq hm
end
section
theorem signL_len (op:Int):(vC op).length<=2:=by
 unfold vC
 repeat' split
 all_goals decide
theorem join_len (b:UInt8)(m:Nat):∀ (l:List YL),(∀ x∈l,x.length<=m)->(zE b l).length<=l.length*(m+1)
 | [],_=>by simp [zE]
 | [x],h=>by
  have:=h x (List.mem_singleton.2 rfl)
  simp [zE];omega
 |x::y::r,h=>by
  have h1:=h x (List.mem_cons_self ..)
  have h2:=join_len b m (y::r) λz hz=>h z (List.mem_cons_of_mem _ hz)
  rw [zE,List.length_append,List.length_cons]
  simp only [List.length_cons,Nat.add_mul] at h2 ⊢
  omega
theorem nums_len9 {v:Ver}(hv:v.may=true){n:Nat}:∀ x∈kN v n,x.length<=21:=λx hx=>by
 obtain ⟨k,hk,rfl⟩:=nums_mem hv hx
 have:=jX hk
 omega
theorem p8 (v:Ver)(n:Nat):(kN v n).length<=3:=by unfold kN;rw [List.length_take];simp;omega
theorem njoin_len {v:Ver}(hv:v.may=true)(n:Nat):(zE 46 (kN v n)).length<=100:=by
 have h:=join_len 46 21 (kN v n) (nums_len9 hv)
 have:=p8 v n
 omega
theorem sjoin_len {v:Ver}(hv:v.may=true)(n:Nat):(zE 46 (kN v n++[[42]])).length<=200:=by
 have h:=join_len 46 21 (kN v n++[[42]]) (λx hx=>by
  rcases List.mem_append.1 hx with hx|hx
  ·exact nums_len9 hv x hx
  ·rw [List.mem_singleton.1 hx];decide)
 have:=p8 v n
 rw [List.length_append] at h
 simp at h;omega
def dL (v:Ver):Array Value:= #[.string (mkS (Lib.itoa v.maj)),.string (mkS (Lib.itoa v.min)),.string (mkS (Lib.itoa v.pat))]
theorem told_take (v:Ver){n:Nat}(h:n<=3):(dL v).toList.take (n*1)=vH (kN v n):=by
 rw [Nat.mul_one]
 unfold vH kN
 rw [List.map_take];rfl
theorem told_slt (v:Ver){n:Nat}(h:n<=3)(g:Nat):SlT (.slice (some ⟨g,0,none⟩) n 3) (kN v n) [⟨g,dL v,9⟩]:=by
 have e:=numsN_len v h
 refine ⟨by rw [vV,e];omega,.inr ⟨g,3,dL v,by rw [e],rfl,by rw [e];exact h,by decide,rfl, ?_⟩⟩
 rw [e];exact told_take v h
theorem parts_nat {c:Co}(h:c.may=true):((c.parts.toNat:Nat):Int)=c.parts/\c.parts.toNat<=3:=by
 obtain ⟨_,_,_,h9,hn,_⟩:=Co.facts h
 by_cases e:c.op=9
 ·have:=h9 e;omega
 ·have:=hn e;omega
theorem star_text {c:Co}(h9:c.op=9):zE 46 (kN c.v c.parts.toNat++[[42]])=c.text:=by
 unfold Co.text Co.rest
 rw [h9,if_pos rfl];rfl
theorem text_pre {c:Co}(h9:¬ c.op=9)(hp:¬ c.v.pre=[]):vC c.op++zE 46 (kN c.v c.parts.toNat)++[45]++c.v.pre=c.text:=by
 unfold Co.text Co.rest kD
 rw [if_neg h9]
 cases hq:c.v.pre with
 |nil=>exact absurd hq hp
 |cons a r=>simp
theorem text_bare {c:Co}(h9:¬ c.op=9)(hp:c.v.pre=[]):vC c.op++zE 46 (kN c.v c.parts.toNat)=c.text:=by
 unfold Co.text Co.rest kD
 rw [if_neg h9,hp];simp
theorem rctold_any (c:Co)(W:World)(hc:c.short)(hm:c.may=true):YC 151 #[coV c] W λe w'=>∃ v' ob',e= .returned v'/\(∃ g,v'= .slice (some ⟨g,0,none⟩) c.parts.toNat 3/\ob'=[⟨g,dL c.v,9⟩])/\Own [] W w' ob':=by
 obtain ⟨m1,m2,m3⟩:=bF (Co.facts hm).2.1
 have hpn:=parts_nat hm
 exact z8 Tryz.func151 (zZ [] λb1=>vE 13 [] (zY [0,0,0] 3 (z6 (k:=194) (args:= #[YI c.v.maj]) (v:= .string (mkS (Lib.itoa c.v.maj))) [] (λw _=>vI c.v.maj m1 w) (zY [] 7 (z6 (k:=194) (args:= #[YI c.v.min]) (v:= .string (mkS (Lib.itoa c.v.min))) [] (λw _=>vI c.v.min m2 w) (zY [] 11 (z6 (k:=194) (args:= #[YI c.v.pat]) (v:= .string (mkS (Lib.itoa c.v.pat))) [] (λw _=>vI c.v.pat m3 w) (zY [] 12 (k7 3 9 (dL c.v) λb2=>x_slhi 20 [1] (A:=some ⟨b2,0,none⟩) rfl 3 3 1 c.parts Om Om (.slice (some ⟨b2,0,none⟩) c.parts.toNat 3) rfl (z7 [] (.slice (some ⟨b2,0,none⟩) c.parts.toNat 3) λw hO=>⟨_,_,rfl,⟨b2,rfl,rfl⟩,Own.nth 0 ⟨b2,dL c.v,9⟩ hO⟩))))))))))
theorem rcPrint_any (c:Co)(W:World)(hc:c.short):YC 98 #[coV c] W (YR (.string (mkS c.print)) W):=by
 refine z8 Tryz.func98 (zZ [] λb1=>z6 (k:=150) (args:= #[coV c]) (v:= .bool c.may) [0] (λw _=>rcMay_any c w hc) ?_)
 cases hcm:c.may with
 |false=>exact z7 [] (.string (mkS [])) λw hO=>⟨by unfold Co.print;simp [hcm],hO.below⟩
 |true=>
  have hcv:=(Co.facts hcm).2.1
  have hpn:=parts_nat hcm
  have q1:=signL_len c.op
  have q2:=njoin_len hcv c.parts.toNat
  have q3:=hc.1
  refine xH (R:=λv' ob'=>∃ g,v'= .slice (some ⟨g,0,none⟩) c.parts.toNat 3/\ob'=[⟨g,dL c.v,9⟩]) [0] (λw hO=>rctold_any c w hc hcm) ?_
  rintro v' ob' ⟨g1,rfl,rfl⟩
  refine zD 12 [0] (c.op=9) (λh2=> ?_) (λh2=> ?_)
  ·refine x_slhm 18 [0,0] g1 c.parts.toNat 3 1 c.parts c.parts Om (.slice (some ⟨g1,0,none⟩) c.parts.toNat c.parts.toNat) rfl (gX [] 1 9 #[.string ⟨#[42]⟩] λb2=>x_appF (N:=c.parts.toNat) (cap:=c.parts.toNat) (m:=1) (cp:=1) (sz:=1) (T:=9) [] 2 0 [⟨b2, #[.string ⟨#[42]⟩],9⟩,⟨b1,(coV c).cells,143⟩,⟨g1,dL c.v,9⟩] (by show c.parts.toNat*1<=3;omega) Om Om λva oa hva0=> ?_)
   have hva:SlT va (kN c.v c.parts.toNat++[[42]]) oa:=Sl.to hva0 (by rw [List.length_append,numsN_len c.v hpn.2];rfl) (by show (dL c.v).toList.take _++_=_;rw [told_take c.v hpn.2];unfold vH;rw [List.map_append];rfl)
   exact z6 (k:=128) (args:= #[va,.int .u8 46]) (v:= .string (mkS (zE 46 (kN c.v c.parts.toNat++[[42]])))) [] (λw hO=>fG va _ 46 w (SlT.readsT hva (hO.past 0 (oa++[⟨b2, #[.string ⟨#[42]⟩],9⟩,⟨b1,(coV c).cells,143⟩,⟨g1,dL c.v,9⟩])) (λx hx=>List.mem_append_left _ hx)) (Nat.le_trans (sjoin_len hcv _) (by decide)) (by rw [List.length_append];have:=p8 c.v c.parts.toNat;simp;omega)) (z7 [] (.string (mkS (zE 46 (kN c.v c.parts.toNat++[[42]])))) λw hO=>⟨by rw [co_print hcm,←star_text h2],hO.below⟩)
  ·refine z6 (k:=152) (args:= #[YI c.op]) (v:= .string (mkS (vC c.op))) [0] (λw _=>rcsign_any c.op w) (z6 (k:=128) (args:= #[.slice (some ⟨g1,0,none⟩) c.parts.toNat 3,.int .u8 46]) (v:= .string (mkS (zE 46 (kN c.v c.parts.toNat)))) [] (λw hO=>fG _ _ 46 w (SlT.readsT (told_slt c.v hpn.2 g1) (hO.past 1 [⟨g1,dL c.v,9⟩]) (λx hx=>hx)) (Nat.le_trans q2 (by decide)) (Nat.le_trans (p8 _ _) (by decide))) (kC 27 [] (vC c.op) (zE 46 (kN c.v c.parts.toNat)) (wT 31 [0] c.v.pre [] (λh3=>z7 [] (.string (mkS (vC c.op++zE 46 (kN c.v c.parts.toNat)))) λw hO=>⟨by rw [co_print hcm,←text_bare h2 h3],hO.below⟩) (λh3=> ?_))))
   exact kC 33 [] (vC c.op++zE 46 (kN c.v c.parts.toNat)) [45] (kC 37 [0] (vC c.op++zE 46 (kN c.v c.parts.toNat)++[45]) c.v.pre (z7 [] (.string (mkS (vC c.op++zE 46 (kN c.v c.parts.toNat)++[45]++c.v.pre))) λw hO=>⟨by rw [co_print hcm,←text_pre h2 h3],hO.below⟩))
end
section
def opF (k:Nat):Int:=if k=0 then 9 else if k=1 then 7 else if k=2 then 6 else if k=3 then 3 else if k=4 then 1 else 2
structure FewC (c:Co):Prop where
 op:c.op=7\/c.op=6\/c.op=3\/c.op=1\/c.op=2
 parts:c.parts=3
 v:∃ a b:Nat,a<3/\b<2/\c.v=⟨a,b,0,[],[]⟩
def FewT (t:YL):Prop:=t=[42]∨∃ c,FewC c/\t=c.print
theorem opF_few {k:Nat}(h:k<6)(h9:¬ opF k=9):opF k=7\/opF k=6\/opF k=3\/opF k=1\/opF k=2:=by
 unfold opF at*
 repeat (first|split at* |omega)
theorem few_rd:∀ k:Nat,k<6->yQ YP 3 #[YI 9,YI 7,YI 6,YI 3,YI 1,YI 2] (0+(k:Int).toNat*1)=some (YI (opF k))
 |0,_=>by kernel_rfl
 |1,_=>by kernel_rfl
 |2,_=>by kernel_rfl
 |3,_=>by kernel_rfl
 |4,_=>by kernel_rfl
 |5,_=>by kernel_rfl
theorem few_gen (v:Value)(l:List Int)(i:Nat)(W:World)(hv:ReadsI W W.heap.size v l)(hl:l.length<=9223372036854775807)(hi:i<=100000):YC 54 #[v,YI (i:Int)] W λe w'=>∃ t,FewT t/\e= .returned (.string (mkS t))/\YB W w':=by
 obtain ⟨k,hk,hk6⟩:=yG (atL l i) 6 (by decide)
 obtain ⟨a,ha,ha3⟩:=yG (atL l (i+1)) 3 (by decide)
 obtain ⟨b,hb,hb2⟩:=yG (atL l (i+2)) 2 (by decide)
 have f1:=x3 hv hl i 6 Om (by decide) (by decide) hk
 have f2:=x3 hv hl (i+1) 3 Om (by decide) (by decide) ha
 have f3:=x3 hv hl (i+2) 2 Om (by decide) (by decide) hb
 have hrd:=few_rd k hk6
 refine z8 Tryz.func54 (zS [] λb1=>x_join (α:=Nat) (λb2=>[(6,Zp b2 0)])
  (λb2=>[⟨b2,(coV ⟨opF k,3,⟨a,b,0,[],[]⟩⟩).cells,143⟩,⟨b1, #[YI 9,YI 7,YI 6,YI 3,YI 1,YI 2],141⟩]) (λ_=>True) [0]
  (λnj=>vE 16 [] (x_i 15 [] ((i+1:Nat):Int) (x_i 19 [] ((i+2:Nat):Int) (x_h2 [] 2 15
    (z6 [] (λw hO=>f1 w hO.below) (xh_ixa 50011 [] 3 6 k 1 hk6 (xh_ldk 50012 [] 4 0 _ _ 3 _ hrd (x_h2 [] 8 15
    (z6 [] (λw hO=>f2 w hO.below) (x_h2 [] 12 15
    (z6 [] (λw hO=>f3 w hO.below) (zY [] 15 (nH λb2=>(nj b2 [0] trivial Kr))))
    (nH λb2=>(zY [] 12 (z6 [] (λw hO=>f3 w hO.below) (nj b2 [0] trivial Kr))))))
    (nH λb2=>(zY [] 8 (z6 [] (λw hO=>f2 w hO.below) (zY [] 12 (z6 [] (λw hO=>f3 w hO.below) (nj b2 [0] trivial Kr))))))))))
    (nH λb2=>(zY [] 2 (z6 [] (λw hO=>f1 w hO.below) (xh_ixa 50011 [] 3 6 k 1 hk6 (xh_ldk 50012 [] 4 0 _ _ 3 _ hrd (zY [] 8 (z6 [] (λw hO=>f2 w hO.below) (zY [] 12 (z6 [] (λw hO=>f3 w hO.below) (nj b2 [0] trivial Kr))))))))))))))
  (λb2 g _=>zD 25 [0] (opF k=9) (λh=>z7 [] (.string ⟨#[42]⟩) λw hO=>⟨[42],.inl rfl,rfl,hO.below⟩) (λh=> ?_)))
 exact z6 [0] (λw hO=>rcPrint_any ⟨opF k,3,⟨a,b,0,[],[]⟩⟩ w (by constructor<;>simp)) (z7 [] _ λw hO=>⟨_,.inr ⟨⟨opF k,3,⟨a,b,0,[],[]⟩⟩,⟨opF_few hk6 h,rfl,a,b,ha3,hb2,rfl⟩,rfl⟩,rfl,hO.below⟩)
end
section
theorem plc_mod (z n:Nat)(h:0<n):plc (z:Int) (n:Int)=((z % n:Nat):Int):=by
 have e:(z:Int).tmod n=((z % n:Nat):Int):=rfl
 unfold plc
 rw [e,if_neg Om]
theorem name_at (z:Nat)(W:World):YC 31 #[YI (z:Int)] W (YR (.string (mkS (y0 (z % 5)))) W):=by
 have hp:=plc_mod z 5 (by decide)
 refine z8 Tryz.func31 (z6 [] (λw _=>(bB z 5 w (by decide) (by decide)).mono λ_ _ ⟨e1,e2⟩=>⟨by rw [e1,show plc (z:Int) 5=((z % 5:Nat):Int) from hp],e2▸Below.refl _ _⟩) ?_)
 exact x_idx 6 [] y0 (z % 5) 5 Om (z7 [] _ λw hO=>⟨rfl,hO.below⟩)
structure Wv where
 name:YL
 rng:YL
 A:Option Addr
 cap:Nat
 fs:List YL
 bare:Bool
def wvC (x:Wv):List Value:=[.string (mkS x.name),.string (mkS x.rng),.slice x.A x.fs.length x.cap,.bool x.bare]
def wvV (x:Wv):Value:= .agg #[.string (mkS x.name),.string (mkS x.rng),.slice x.A x.fs.length x.cap,.bool x.bare]
structure mC (own:Nat)(alone:Bool)(x:Wv):Prop where
 name:∃ k,k<4/\x.name=y0 ((own+1+k) % 5)
 rng:FewT x.rng
 fs:x.fs=[]\/alone=true/\(x.fs=[[120]]\/x.fs=[[120],[121]])
theorem wish_gen (v:Value)(l:List Int)(i own:Nat)(alone:Bool)(W:World)(hv:ReadsI W W.heap.size v l)(hl:l.length<=9223372036854775807)(hi:i<=50000)(ho:own<=50000):YC 96 #[v,YI (i:Int),YI (own:Int),.bool alone] W λe w'=>∃ x ob,e= .returned (wvV x)/\(mC own alone x/\SlT (.slice x.A x.fs.length x.cap) x.fs ob)/\Own [] W w' ob:=by
 obtain ⟨k,hk,hk4⟩:=yG (atL l i) 4 (by decide)
 obtain ⟨b,hb,_⟩:=yG (atL l (i+4)) 3 (by decide)
 obtain ⟨m,hm,hm5⟩:=yG (atL l (i+5)) 5 (by decide)
 have f1:=x3 hv hl i 4 Om (by decide) (by decide) hk
 have f2:=x3 hv hl (i+4) 3 Om (by decide) (by decide) hb
 have f3:=x3 hv hl (i+5) 5 Om (by decide) (by decide) hm
 refine z8 Tryz.func96 (zS [] λb1=>x_i 12 [] ((own+1:Nat):Int) (z6 [] (λw hO=>f1 w hO.below) (x_i 16 [] ((own+1+k:Nat):Int) (z6 [] (λw hO=>name_at (own+1+k) w) (x_i 20 [] ((i+1:Nat):Int) (jE (R:=λv=>∃ t,FewT t/\v= .string (mkS t)) [] (λw hO=>(few_gen v l (i+1) w ((hv.below hO.below).more hO.size) hl Om).mono λe w' ⟨t,h1,h2,h3⟩=>⟨_,h2,⟨t,h1,rfl⟩,h3⟩) ?_))))))
 rintro _ ⟨t,ht,rfl⟩
 refine x_i 24 [] ((i+4:Nat):Int) (z6 [] (λw hO=>f2 w hO.below) ?_)
 refine d8 26 [] (.bool (decide ((b:Int)=0))) Kr (zS [] λb2=>x_i 30 [0] ((i+5:Nat):Int) (z6 [] (λw hO=>f3 w hO.below) ?_))
 have fin:∀ (fs:List YL) (A:Option Addr) (cap:Nat),(fs=[]\/alone=true/\(fs=[[120]]\/fs=[[120],[121]]))->mC own alone ⟨y0 ((own+1+k) % 5),t,A,cap,fs,decide ((b:Int)=0)⟩:=λfs A cap h=>⟨⟨k,hk4,rfl⟩,ht,h⟩
 refine x_bb 33 [] alone (λh=>zD 35 [] ((2:Int)<m) (λh2=> ?_) (λh2=> ?_)) (λh=> ?_)
 ·have hm2:m=3\/m=4:=by omega
  rcases hm2 with rfl|rfl
  ·exact gX [] 2 9 #[.string (mkS [120]),.string (mkS [121])] (λb3=>j7 [1,1,2] 2 (wvV ⟨y0 ((own+1+k) % 5),t,some ⟨b3,0,none⟩,2,[[120]],decide ((b:Int)=0)⟩) λw hO=>⟨_,_,rfl,⟨fin _ _ _ (.inr ⟨h,.inl rfl⟩),⟨rfl,.inr ⟨b3,2, #[.string (mkS [120]),.string (mkS [121])],rfl,rfl,by simp,by decide,rfl,rfl⟩⟩⟩,hO.nth 0 _⟩)
  ·exact gX [] 2 9 #[.string (mkS [120]),.string (mkS [121])] (λb3=>j7 [1,1,2] 2 (wvV ⟨y0 ((own+1+k) % 5),t,some ⟨b3,0,none⟩,2,[[120],[121]],decide ((b:Int)=0)⟩) λw hO=>⟨_,_,rfl,⟨fin _ _ _ (.inr ⟨h,.inr rfl⟩),⟨rfl,.inr ⟨b3,2, #[.string (mkS [120]),.string (mkS [121])],rfl,rfl,by simp,by decide,rfl,rfl⟩⟩⟩,hO.nth 0 _⟩)
 ·exact j7 [0,1] 1 (wvV ⟨y0 ((own+1+k) % 5),t,none,0,[],decide ((b:Int)=0)⟩) λw hO=>⟨_,[],rfl,⟨fin _ _ _ (.inl rfl),Sl.nil _ _⟩,hO.no⟩
 ·exact j7 [0,1] 1 (wvV ⟨y0 ((own+1+k) % 5),t,none,0,[],decide ((b:Int)=0)⟩) λw hO=>⟨_,[],rfl,⟨fin _ _ _ (.inl rfl),Sl.nil _ _⟩,hO.no⟩
end
section
set_option linter.unnecessarySimpa false
def fV (c:Nat):YL:=if c=0 then [32,61,32] else [32,33,61,32]
theorem keyL_part:∀ (i:Nat),i<3→∀ w,(part 9 #[.string ⟨#[111,115]⟩,.string ⟨#[97,114,99,104]⟩,.string ⟨#[97,98,105]⟩] i).run YP w= .ok (.string (mkS (bV i))) w
 |0,_,w=>by kernel_rfl
 |1,_,w=>by kernel_rfl
 |2,_,w=>by kernel_rfl
theorem sepT_part:∀ (i:Nat),i<2→∀ w,(part 9 #[.string ⟨#[32,61,32]⟩,.string ⟨#[32,33,61,32]⟩] i).run YP w= .ok (.string (mkS (fV i))) w
 |0,_,w=>by kernel_rfl
 |1,_,w=>by kernel_rfl
theorem keyL_four (k:Nat):(bV k).length<=4:=by unfold bV;split<;>(try split)<;>simp
theorem sepT_four (k:Nat):(fV k).length<=4:=by unfold fV;split<;>simp
theorem mF (k:Nat):(kQ k).length<=4:=by unfold kQ;split<;>(try split)<;>(try split)<;>simp
def WhenT (t:YL):Prop:=t=[]∨∃ k c j,k<3/\t=bV k++fV c++kQ j
theorem when_gen (v:Value)(l:List Int)(i:Nat)(W:World)(hv:ReadsI W W.heap.size v l)(hl:l.length<=9223372036854775807)(hi:i<=10000):YC 55 #[v,YI (i:Int)] W λe w'=>∃ t,WhenT t/\e= .returned (.string (mkS t))/\YB W w':=by
 obtain ⟨k,hk,hk6⟩:=yG (atL l i) 6 (by decide)
 obtain ⟨c,hc,hc2⟩:=yG (atL l (i+1)) 2 (by decide)
 obtain ⟨b,hb,hb3⟩:=yG (atL l (i+1)) 3 (by decide)
 obtain ⟨j,hj4,hj⟩:=wordT_any ((1:Int)+(b:Int))
 have hf6:=x3 hv hl i 6 Om (by decide) (by decide) hk
 have hf2:=x3 hv hl (i+1) 2 Om (by decide) (by decide) hc
 have hf3:=x3 hv hl (i+1) 3 Om (by decide) (by decide) hb
 refine Z2 (n:=28) Tryz.func55 rfl (ZO (Zv (.string ⟨#[]⟩) (ZR (Zv (v) (Zv (YI (i:Int)) (Zc (k:=43) (args:= #[v,YI (i:Int),YI 6]) (YI (k:Int)) (λw hO=>hf6 w hO.below) (Zv (YI (k:Int)) ?_)))))))
 refine ZN (qJ (ZO (Zv (YI (k:Int)) ?_)))
 by_cases h1:(2:Int)<(k:Int)
 ·refine Zg h1 (ZY (ZO (Zv (.string ⟨#[]⟩) (ZN (qK (vY (ZF (.string ⟨#[]⟩) Tryz.results55 ?_)))))))
  exact λw hO=>⟨[],.inl rfl,rfl,hO.below⟩
 have hk3:k<3:=by omega
 have q1:=keyL_four k;have q2:=sepT_four c;have q3:=mF j
 refine Zh h1 (ZX (ZB (qJ (ok_draw Kr Kr (Zw (.agg #[.string ⟨#[111,115]⟩,.string ⟨#[97,114,99,104]⟩,.string ⟨#[97,98,105]⟩]) (Zw (YI (k:Int)) (nW (.string (mkS (bV k))) Kr (wY bV hk3 rfl Kr Kr Tryz.underlying112 (λi hi w=>keyL_part i hi w) Kr) (Zw (.agg #[.string ⟨#[32,61,32]⟩,.string ⟨#[32,33,61,32]⟩]) ?_))))))))
 refine Zw (v) (Zw (YI (i:Int)) (q_sum (k:= .i64) (((i+1:Nat):Int)) Kr (λ_=>Kr) (IntWalk.i64_in _ Om) (Zq (k:=43) (args:= #[v,YI ((i+1:Nat):Int),YI 2]) (YI (c:Int)) (λw hO=>hf2 w hO.below) (nW (.string (mkS (fV c))) Kr (wY fV hc2 rfl Kr Kr Tryz.underlying145 (λi hi w=>sepT_part i hi w) Kr) (nW (.string (mkS ((bV k)++(fV c)))) Kr (bS (a:=(bV k)) (b:=(fV c)) rfl Kr Kr (by first|omega|(simp only [List.length_append,List.length_cons,List.length_nil];omega))) (Zw (v) (Zw (YI (i:Int)) (q_sum (k:= .i64) (((i+1:Nat):Int)) Kr (λ_=>Kr) (IntWalk.i64_in _ Om) (Zq (k:=43) (args:= #[v,YI ((i+1:Nat):Int),YI 3]) (YI (b:Int)) (λw hO=>hf3 w hO.below) (q_sum (k:= .i64) ((1:Int)+(b:Int)) Kr (λ_=>Kr) (IntWalk.i64_in _ Om) (Zq (k:=97) (args:= #[YI ((1:Int)+(b:Int))]) (.string (mkS (kQ j))) (λw hO=>hj w) ?_)))))))))))
 exact nW (.string (mkS (((bV k)++(fV c))++(kQ j)))) Kr (bS (a:=((bV k)++(fV c))) (b:=(kQ j)) rfl Kr Kr (by first|omega|(simp only [List.length_append,List.length_cons,List.length_nil];omega))) (Zw (.string (mkS (((bV k)++(fV c))++(kQ j)))) (q_nil (jL (qK (ZF (.string (mkS (((bV k)++(fV c))++(kQ j)))) Tryz.results55 (λw hO=>⟨_,.inr ⟨k,c,j,hk3,rfl⟩,rfl,hO.below⟩))))))
end
section
structure Nv where
 A:Option Addr
 cap:Nat
 any:List Wv
 wh:YL
 opt:YL
def nvC (x:Nv):List Value:=[.slice x.A x.any.length x.cap,.string (mkS x.wh),.string (mkS x.opt)]
def nvV (x:Nv):Value:= .agg #[.slice x.A x.any.length x.cap,.string (mkS x.wh),.string (mkS x.opt)]
structure WsO (A:Option Addr)(cap:Nat)(xs:List Wv)(ob:List Blk):Prop where
 ex:∃ o1 o2,ob=o1++o2/\Sl 139 4 (.slice A xs.length cap) xs.length (xs.flatMap wvC) o1∧∀ x∈xs,∃ o,SlT (.slice x.A x.fs.length x.cap) x.fs o∧∀ b∈o,b∈o2
structure NeedG (own:Nat)(x:Nv):Prop where
 any:(∃ w,x.any=[w]/\mC own true w)∨∃ w u,x.any=[w,u]/\mC own false w/\mC own false u
 wh:WhenT x.wh
 opt:x.opt=[]∨∃ j,j<4/\x.opt=kQ j
def WishR (own:Nat)(alone:Bool)(v:Value)(ob:List Blk):Prop:=∃ x,v=wvV x/\mC own alone x/\SlT (.slice x.A x.fs.length x.cap) x.fs ob
theorem wish_R {v:Value}{l:List Int}{i own:Nat}{alone:Bool}{W w:World}(hb:YB W w)(hv:ReadsI W W.heap.size v l)(hl:l.length<=9223372036854775807)(hi:i<=50000)(ho:own<=50000):YC 96 #[v,YI (i:Int),YI (own:Int),.bool alone] w λe w'=>∃ v ob,e= .returned v/\WishR own alone v ob/\Own [] w w' ob:=
 (wish_gen v l i own alone w ((hv.below hb).more hb.size) hl hi ho).mono λe w' ⟨x,ob,h1,h2,h3⟩=>⟨_,ob,h1,⟨x,rfl,h2⟩,h3⟩
theorem need_gen (v:Value)(l:List Int)(i own:Nat)(W:World)(hv:ReadsI W W.heap.size v l)(hl:l.length<=9223372036854775807)(hi:i<=5000)(ho:own<=5000):YC 53 #[v,YI (i:Int),YI (own:Int)] W λe w'=>∃ x ob,e= .returned (nvV x)/\(NeedG own x/\WsO x.A x.cap x.any ob)/\Own [] W w' ob:=by
 obtain ⟨m,hm,hm5⟩:=yG (atL l i) 5 (by decide)
 obtain ⟨q,hq,hq4⟩:=yG (atL l (i+16)) 4 (by decide)
 obtain ⟨j,hj4,hj⟩:=wordT_any (atL l (i+17))
 have f1:=x3 hv hl i 5 Om (by decide) (by decide) hm
 have f2:=x3 hv hl (i+16) 4 Om (by decide) (by decide) hq
 have fa:∀ w,YB W w->YC 81 #[v,YI ((i+17:Nat):Int)] w (YR (YI (atL l (i+17))) w):=λw hb=>(at_any v l (i+17) w ((hv.below hb).more hb.size) hl Om).mono λ_ _ ⟨e1,e2⟩=>⟨e1,e2▸Below.refl _ _⟩
 have ho':own<=50000:=by omega
 refine z8 Tryz.func53 (zS [] λb1=>zS [] λb2=>z6 [] (λw hO=>f1 w hO.below) (zD 13 [] ((m:Int)=1) (λh1=> ?_) (λh1=> ?_)))
 ·refine jQ 2 [] (gQ 14 [] [⟨b2,Z0,72⟩] (λw hO=>hO.nth 0 _) (x_i 23 [0] ((i+1:Nat):Int) (x_i 26 [] ((i+1:Nat):Int) (zY [] 11 (gI (R:=WishR own false) (λw hO=>wish_R (i:=i+1) hO.below hv hl Om ho') ?_)))))
  rintro _ ob ⟨x,rfl,hx,hxs⟩
  refine zY [] 12 (k7 1 139 (wvV x).cells λb3=>zY [] 13 (gV [⟨b3,(wvV x).cells,139⟩,⟨b2,Z0,72⟩,⟨b1,Z0,72⟩] [] (ob) 0 ([⟨b3,(wvV x).cells,139⟩,⟨b2,Z0,72⟩,⟨b1,Z0,72⟩]++ob) [⟨b2,Z0,72⟩] (λw hO=>by simpa using hO) (λo w hO=>hO.nth 1 _) (Sl.nil 139 4) (m:=1) (cp:=1) Om λv' o' h=> ?_))
  obtain ⟨A',c',rfl⟩:=Sl.form h
  refine (gQ 14 [1] [⟨b2, #[.slice A' 1 c',.string ⟨#[]⟩,.string ⟨#[]⟩],72⟩] (λw hO=>hO.nth 1 _) (x_i 23 [0] ((i+1:Nat):Int) (x_i 26 [] ((i+7:Nat):Int) (zY [] 11 (gI (R:=WishR own false) (λw hO=>wish_R (i:=i+7) hO.below hv hl Om ho') ?_)))))
  rintro _ ob2 ⟨y,rfl,hy,hys⟩
  refine zY [] 12 (k7 1 139 (wvV y).cells λb4=>zY [] 13 (gV [⟨b4,(wvV y).cells,139⟩,⟨b3,(wvV x).cells,139⟩,⟨b2, #[.slice A' 1 c',.string ⟨#[]⟩,.string ⟨#[]⟩],72⟩,⟨b1,Z0,72⟩] o' (ob++ob2) 0 (⟨b4,(wvV y).cells,139⟩::(([⟨b3,(wvV x).cells,139⟩,⟨b2, #[.slice A' 1 c',.string ⟨#[]⟩,.string ⟨#[]⟩],72⟩,⟨b1,Z0,72⟩]++o'++ob)++ob2)) [⟨b2, #[.slice A' 1 c',.string ⟨#[]⟩,.string ⟨#[]⟩],72⟩] (λw hO=>by simpa [List.append_assoc] using hO) (λo w hO=>hO.nth 2 _) h (m:=1) (cp:=1) Om λv2 o2 h'=> ?_))
  obtain ⟨A2,c2,rfl⟩:=Sl.form h'
  refine x_i 36 [2] ((i+14:Nat):Int) (jE (R:=λv=>∃ t,WhenT t/\v= .string (mkS t)) [] (λw hO=>(when_gen v l (i+14) w ((hv.below hO.below).more hO.size) hl Om).mono λe w' ⟨t,h1,h2,h3⟩=>⟨_,h2,⟨t,h1,rfl⟩,h3⟩) ?_)
  rintro _ ⟨t,ht,rfl⟩
  refine x_i 41 [2] ((i+16:Nat):Int) (z6 [] (λw hO=>f2 w hO.below) (zD 43 [] ((q:Int)=1) (λh2=> ?_) (λh2=> ?_)))
  ·exact x_i 46 [] ((i+17:Nat):Int) (z6 [] (λw hO=>fa w hO.below) (z6 [] (λw hO=>hj w) (j7 [2,2,3] 3 (nvV ⟨A2,c2,[x,y],t,kQ j⟩) λw hO=>⟨_,_,rfl,⟨⟨.inr ⟨x,y,rfl,hx,hy⟩,ht,.inr ⟨j,hj4,rfl⟩⟩,⟨o2,ob++ob2,rfl,h',λz hz=>by
    rcases List.mem_cons.1 hz with rfl|hz
    ·exact ⟨ob,hxs,λb hb=>List.mem_append_left _ hb⟩
    ·rw [List.mem_singleton.1 hz];exact ⟨ob2,hys,λb hb=>List.mem_append_right _ hb⟩⟩⟩,hO.past 4 _⟩)))
  ·exact j7 [2,3] 3 (nvV ⟨A2,c2,[x,y],t,[]⟩) λw hO=>⟨_,_,rfl,⟨⟨.inr ⟨x,y,rfl,hx,hy⟩,ht,.inl rfl⟩,⟨o2,ob++ob2,rfl,h',λz hz=>by
    rcases List.mem_cons.1 hz with rfl|hz
    ·exact ⟨ob,hxs,λb hb=>List.mem_append_left _ hb⟩
    ·rw [List.mem_singleton.1 hz];exact ⟨ob2,hys,λb hb=>List.mem_append_right _ hb⟩⟩⟩,hO.past 4 _⟩
 ·refine jQ 1 [] (gQ 14 [] [⟨b2,Z0,72⟩] (λw hO=>hO.nth 0 _) (x_i 23 [0] ((i+1:Nat):Int) (x_i 26 [] ((i+1:Nat):Int) (zY [] 11 (gI (R:=WishR own true) (λw hO=>wish_R (i:=i+1) hO.below hv hl Om ho') ?_)))))
  rintro _ ob ⟨x,rfl,hx,hxs⟩
  refine zY [] 12 (k7 1 139 (wvV x).cells λb3=>zY [] 13 (gV [⟨b3,(wvV x).cells,139⟩,⟨b2,Z0,72⟩,⟨b1,Z0,72⟩] [] (ob) 0 ([⟨b3,(wvV x).cells,139⟩,⟨b2,Z0,72⟩,⟨b1,Z0,72⟩]++ob) [⟨b2,Z0,72⟩] (λw hO=>by simpa using hO) (λo w hO=>hO.nth 1 _) (Sl.nil 139 4) (m:=1) (cp:=1) Om λv' o' h=> ?_))
  obtain ⟨A',c',rfl⟩:=Sl.form h
  refine x_i 36 [1] ((i+14:Nat):Int) (jE (R:=λv=>∃ t,WhenT t/\v= .string (mkS t)) [] (λw hO=>(when_gen v l (i+14) w ((hv.below hO.below).more hO.size) hl Om).mono λe w' ⟨t,h1,h2,h3⟩=>⟨_,h2,⟨t,h1,rfl⟩,h3⟩) ?_)
  rintro _ ⟨t,ht,rfl⟩
  refine x_i 41 [1] ((i+16:Nat):Int) (z6 [] (λw hO=>f2 w hO.below) (zD 43 [] ((q:Int)=1) (λh2=> ?_) (λh2=> ?_)))
  ·exact x_i 46 [] ((i+17:Nat):Int) (z6 [] (λw hO=>fa w hO.below) (z6 [] (λw hO=>hj w) (j7 [1,1,2] 2 (nvV ⟨A',c',[x],t,kQ j⟩) λw hO=>⟨_,_,rfl,⟨⟨.inl ⟨x,rfl,hx⟩,ht,.inr ⟨j,hj4,rfl⟩⟩,⟨o',ob,rfl,h,λy hy=>⟨ob,by rw [List.mem_singleton.1 hy];exact hxs,λb hb=>hb⟩⟩⟩,hO.past 3 _⟩)))
  ·exact j7 [1,2] 2 (nvV ⟨A',c',[x],t,[]⟩) λw hO=>⟨_,_,rfl,⟨⟨.inl ⟨x,rfl,hx⟩,ht,.inl rfl⟩,⟨o',ob,rfl,h,λy hy=>⟨ob,by rw [List.mem_singleton.1 hy];exact hxs,λb hb=>hb⟩⟩⟩,hO.past 3 _⟩
end
section
set_option linter.unnecessarySimpa false
structure UpTo (xs:List Fv)(i:Nat):Prop where
 le:i<=xs.length
 wd:∀ x∈xs.take i,wdL x.name=true
 up:∀ z (hz:z+1<xs.length),z+1<i->Op.bytesLess (xs[z]'Om).name xs[z+1].name=true
 it:∀ x∈xs.take i,x2 (y5 xs) x.of=true
theorem UpTo.zero (xs:List Fv):UpTo xs 0:=⟨Nat.zero_le _,λx hx=>by simp at hx,λz hz h=>by omega,λx hx=>by simp at hx⟩
theorem UpTo.next {xs:List Fv}{i:Nat}(h:UpTo xs i)(hi:i<xs.length)(h1:wdL xs[i].name=true)(h2:∀ h0:0<i,Op.bytesLess (xs[i-1]'Om).name xs[i].name=true)(h3:x2 (y5 xs) xs[i].of=true):UpTo xs (i+1):=by
 refine ⟨hi,y1 hi h.wd h1,λz hz hzi=> ?_,y1 hi h.it h3⟩
 rcases Nat.lt_succ_iff_lt_or_eq.1 hzi with q|q
 ·exact h.up z hz q
 ·subst q;exact h2 Om
theorem UpTo.may {xs:List Fv}{i:Nat}(h:UpTo xs i)(hi:xs.length<=i)(h8:xs.length<=8):qQ (y5 xs)=true:=by
 refine may_yes (by rw [q9];exact h8) (λf hf=> ?_) (ft_rise.2 λz hz=>h.up z hz (by omega)) λf hf=> ?_
 ·obtain ⟨x,hx,rfl⟩:=List.mem_map.1 hf;exact yP hi h.wd x hx
 ·obtain ⟨x,hx,rfl⟩:=List.mem_map.1 hf;exact yP hi h.it x hx
theorem may_no1 {xs:List Fv}{x:Fv}(hx:x∈xs)(h:wdL x.name=false):qQ (y5 xs)=false:=bG (.inr (.inl ⟨x.ft,ft_mem hx,h⟩))
theorem may_no2 {xs:List Fv}{z:Nat}(hz:z+1<xs.length)(h:Op.bytesLess (xs[z]'Om).name xs[z+1].name=false):qQ (y5 xs)=false:=bG (.inr (.inr (.inl (by
 cases hq:yX ((y5 xs).map Ft.name) with
 |false=>rfl
 |true=>have q:=ft_rise.1 hq z hz;rw [h] at q;cases q))))
theorem may_no3 {xs:List Fv}{x:Fv}(hx:x∈xs)(h:x2 (y5 xs) x.of=false):qQ (y5 xs)=false:=bG (.inr (.inr (.inr ⟨x.ft,ft_mem hx,h⟩)))
theorem r11May_any (A:Option Addr)(cap:Nat)(xs:List Fv)(W:World)(hv:FtIn W W.heap.size A xs):YC 172 #[.slice A xs.length cap] W (YR (.bool (qQ (y5 xs))) W):=by
 refine z8 Tryz.func172 ?_
 by_cases h1:(8:Int)<(xs.length:Int)
 ·refine zD 6 [] ((8:Int)<(xs.length:Int)) (λ_=> ?_) (λhq=>absurd (h1) hq)
  exact z7 [] Z5 (λw hO=>⟨by rw [show qQ (y5 xs)=false from bG (.inl (by rw [q9];omega))],hO.below⟩)
 refine zD 6 [] ((8:Int)<(xs.length:Int)) (λhq=>absurd hq (h1)) (λ_=>zO (α:=Nat) (λi=>[(0,.slice A xs.length cap),(3,YI (i:Int))]) (λi=>[]) (λi m=>(UpTo xs i)/\m=xs.length-i) (0) (xs.length-0) [] ⟨UpTo.zero xs,rfl⟩ ?_)
 rintro i m g kk ⟨hrel,hmm⟩ nx hkk
 subst hkk
 have hi6:=hrel.le;have hxn:=hv.n
 by_cases h2:(i:Int)<(xs.length:Int)
 ·have hil:i<xs.length:=by omega
  obtain ⟨bp,off,hA,hlt,hcell⟩:=hv.top Om
  obtain ⟨x,hx⟩:∃ x,xs[i]=x:=⟨_,rfl⟩
  have hxm:x∈xs:=hx▸List.getElem_mem hil
  refine zD 10 [] ((i:Int)<(xs.length:Int)) (λ_=> ?_) (λhq=>absurd (h2) hq)
  refine zK 15 [] hA xs.length cap i 2 (by first|omega|(simp;omega)) (zH 17 [] 9 bp (off+i*2+0) (.string (mkS x.name)) (λw hO=>Reads.load qE (hv.top.on hO.below hO.size) hA i 0 Om Om _ (by rw [hx];kernel_rfl)) (z6 (k:=218) (args:= #[.string (mkS x.name)]) (v:= .bool (wdL x.name)) [] (λw hO=>vJ x.name w (hv.name x hxm)) ?_))
  cases h3:wdL x.name with
  |true=>
   by_cases h4:(0:Int)<(i:Int)
   ·have hi0:0<i:=by omega
    obtain ⟨y,hy⟩:∃ y,xs[i-1]'Om=y:=⟨_,rfl⟩
    refine zD 22 [] ((0:Int)<(i:Int)) (λ_=> ?_) (λhq=>absurd (h4) hq)
    refine vU 26 [] (YI (IntKind.i64.wrap ((i:Int) -1))) (YI ((i-1:Nat):Int)) (by rw [IntWalk.i64_in _ Om,show (i:Int) -1=((i-1:Nat):Int) by omega]) (zK 27 [] hA xs.length cap (i-1) 2 (by first|omega|(simp;omega)) (zH 29 [] 9 bp (off+(i-1)*2+0) (.string (mkS y.name)) (λw hO=>Reads.load qE (hv.top.on hO.below hO.size) hA (i-1) 0 Om Om _ (by rw [hy];kernel_rfl)) (zK 32 [] hA xs.length cap i 2 (by first|omega|(simp;omega)) (zH 34 [] 9 bp (off+i*2+0) (.string (mkS x.name)) (λw hO=>Reads.load qE (hv.top.on hO.below hO.size) hA i 0 Om Om _ (by rw [hx];kernel_rfl)) ?_))))
    cases h5:Op.bytesLess y.name x.name with
    |true=>
     refine x_sge 35 [] y.name x.name (λ_=> ?_) (λhq=>absurd (hq.symm.trans h5) (by decide))
     refine zK 42 [] hA xs.length cap i 2 (by first|omega|(simp;omega)) (zH 44 [] 85 bp (off+i*2+1) (.slice x.A x.of.length x.cap) (λw hO=>Reads.load qE (hv.top.on hO.below hO.size) hA i 1 Om Om _ (by rw [hx];kernel_rfl)) (z6 (k:=220) (args:= #[.slice A xs.length cap,.slice x.A x.of.length x.cap]) (v:= .bool (x2 (y5 xs) x.of)) [] (λw hO=>nU A cap xs x.A x.cap x.of w (hv.on hO.below hO.size) ((hv.each x hxm).on hO.below hO.size) (hv.m x hxm) (hv.text x hxm)) ?_))
     cases h6:x2 (y5 xs) x.of with
     |true=>
      exact x_i 12 [] (((i+1:Nat):Int)) (nx (i+1) (xs.length-(i+1)) [] Om ⟨hrel.next hil (by rw [hx];exact h3) (λh0=>by rw [hx,hy];exact h5) (by rw [hx];exact h6),rfl⟩ Kr Kr)
     |false=>
      exact z7 [] Z5 (λw hO=>⟨by rw [show qQ (y5 xs)=false from may_no3 hxm h6],hO.below⟩)
    |false=>
     exact x_sge 35 [] y.name x.name (λhq=>absurd (hq.symm.trans h5) (by decide)) (λ_=>z7 [] Z5 (λw hO=>⟨by rw [show qQ (y5 xs)=false from may_no2 (z:=i-1) Om (by simp only [show i-1+1=i by omega,hx,hy];exact h5)],hO.below⟩))
   refine zD 22 [] ((0:Int)<(i:Int)) (λhq=>absurd hq (h4)) (λ_=>zK 42 [] hA xs.length cap i 2 (by first|omega|(simp;omega)) (zH 44 [] 85 bp (off+i*2+1) (.slice x.A x.of.length x.cap) (λw hO=>Reads.load qE (hv.top.on hO.below hO.size) hA i 1 Om Om _ (by rw [hx];kernel_rfl)) (z6 (k:=220) (args:= #[.slice A xs.length cap,.slice x.A x.of.length x.cap]) (v:= .bool (x2 (y5 xs) x.of)) [] (λw hO=>nU A cap xs x.A x.cap x.of w (hv.on hO.below hO.size) ((hv.each x hxm).on hO.below hO.size) (hv.m x hxm) (hv.text x hxm)) ?_)))
   cases h7:x2 (y5 xs) x.of with
   |true=>
    exact x_i 12 [] (((i+1:Nat):Int)) (nx (i+1) (xs.length-(i+1)) [] Om ⟨hrel.next hil (by rw [hx];exact h3) (λh0=>absurd h0 Om) (by rw [hx];exact h7),rfl⟩ Kr Kr)
   |false=>
    exact z7 [] Z5 (λw hO=>⟨by rw [show qQ (y5 xs)=false from may_no3 hxm h7],hO.below⟩)
  |false=>
   exact z7 [] Z5 (λw hO=>⟨by rw [show qQ (y5 xs)=false from may_no1 hxm h3],hO.below⟩)
 exact zD 10 [] ((i:Int)<(xs.length:Int)) (λhq=>absurd hq (h2)) (λ_=>z7 [] Z4 (λw hO=>⟨by rw [hrel.may Om Om],hO.below⟩))
end
section
set_option linter.unnecessarySimpa false
theorem put_new {l:List YL}{s:YL}{k:Nat}(hk:k<=l.length)(h:∀ x∈l.take k,Op.bytesLess x s=true)(h2:∀ hk:k<l.length,Op.bytesLess l[k] s=false∧¬ l[k]=s):yC l s=l.take k++[s]++l.drop k:=by
 rw [put_at k h,List.append_assoc]
 congr 1
 by_cases hl:k<l.length
 ·rw [List.drop_eq_getElem_cons hl,yC,if_neg (by rw [(h2 hl).1];simp),if_neg (h2 hl).2];rfl
 ·rw [List.drop_of_length_le Om];rfl
theorem put_old {l:List YL}{s:YL}{k:Nat}(hk:k<l.length)(h:∀ x∈l.take k,Op.bytesLess x s=true)(h2:Op.bytesLess l[k] s=false)(h3:l[k]=s):yC l s=l:=by
 rw [put_at k h,List.drop_eq_getElem_cons hk,yC,if_neg (by rw [h2];simp),if_pos h3,←List.drop_eq_getElem_cons hk,List.take_append_drop]
structure RdP (w:World)(v:Value)(l:List YL):Prop where
 ex:∃ A cap,v= .slice A l.length cap/\Reads y9 w w.heap.size A l/\l.length<=cap/\(l=[]->A=none/\cap=0)
end
section
section
variable {M:List Nat}{P:Program}{n:Nat}{ops:Array Oper}{W:World}{L0:List Blk}{Q:Exit->Act->World->Prop}{fuel:Nat}{listed:Array Bool}{f:Nat->Value}
theorem hl_appendR {α:Type}{g:α->List Value}{i0:Nat}{E ob R:List Blk}(oi:Oper){t T:TypeId}{s x:Operand}{i:TypeInfo}{z:Value}{sz:Nat}(hg:∀ y,(g y).length=sz)(hi0:ops[i0]?=some oi)(hw:zT ops n f oi=true)(ho:oi.op= .call {callee:= .builtin .append,args:= #[s,x],argTypes:= #[t,t]})
  (ht:P.underlying t=some (.slice T)) (hi:P.info? T=some i) (hz:i.zero=some z) (hsz:i.size=sz) (hzs:z.cells.size=sz)
  {v:Value} {m0:Nat} {xs:List Value} (hs:ev n f s=v) (hv:Sl T sz v m0 xs ob) {A:Option Addr} {c:Nat} {l:List α} (hx:ev n f x= .slice A l.length c)
  (hR:∀ w,Own M W w (E++ob++R)->Reads g w w.heap.size A l) (h1:∀ y,∀ u∈g y,u.oneCell'=true)
  (h63:m0+l.length<=maxLen) (hbytes:(m0+l.length)*i.bytes<=140737488355328) (hsub:∀ ob' w,Own M W w (E++ob'++R)->Own M W w L0)
  (h:∀ v' ob',Sl T sz v' (m0+l.length) (xs++l.flatMap g) ob'->v8 M P n ops W L0 Q fuel (listed.setIfInBounds i0 true) (E++ob'++R) (upd f oi.dst v')):wK M P n ops W L0 Q fuel listed i0 (E++ob++R) f:=
 fO hi0 hw λw hO=>by
  have hone:∀ u∈l.flatMap g,u.oneCell'=true:=λu hu=>by
   obtain ⟨y,_,hy⟩:=List.mem_flatMap.1 hu
   exact h1 y u hy
  cases A with
  |none=>
   have h0:l=[]:=by
    cases l with
    |nil=>rfl
    |cons y l=>obtain ⟨b,off,e,_⟩:=hR w hO (by simp);cases e
   subst h0
   have hv':Sl T sz v (m0+([]:List α).length) (xs++([]:List α).flatMap g) ob:=by simpa using hv
   refine xB v (w':=w) ?_ ⟨hsub ob w hO,(h v ob hv').go w hO⟩
   have hx':ev n f x= .slice none 0 c:=hx
   unfold execOp
   simp only [ho,resolve,invoke,builtin,Sem.run_bind,Sem.run_pure,Result.andThen_ok,List.map_toArray,List.map_cons,List.map_nil,hs,hx',dA ht hi hv c]
  |some a=>
   have hnews:∀ j u,(l.flatMap g)[j]?=some u->w.cell? (a.add j)=some u:=λj u hj=>by
    have h0:0<l.length:=by
     cases l with
     |nil=>simp at hj
     |cons y l=>simp
    obtain ⟨b,off,e,_,hc⟩:=hR w hO h0
    obtain rfl:=Option.some.inj e
    rw [yI]
    exact hc j u hj
   obtain ⟨v',w',ob',hr,h2,h3⟩:=jT (P:=P) (ty:=oi.type) (c:=c) ht hi hz hsz hzs hv hO (w6 hg l) hnews hone h63 hbytes
   refine xB v' (w':=w') ?_ ⟨hsub ob' w' h3,(h v' ob' h2).go w' h3⟩
   unfold execOp
   simp only [ho,resolve,invoke,builtin,Sem.run_bind,Sem.run_pure,Result.andThen_ok,List.map_toArray,List.map_cons,List.map_nil,hs,hx,hr]
end
section
variable {M:List Nat}{P:Program}{n:Nat}{W:World}{Q:Exit->Act->World->Prop}{c:Xc}
theorem yW {α:Type}{g:α->List Value}{T:TypeId}{sz k cp:Nat}{v:Value}{xs:List Value}{A:Option Addr}(l:List α)(E ob R:List Blk)(L1 L0:List Blk)(hs:∀ w,Own M W w L1->Own M W w (E++ob++R))(hsub:∀ ob' w,Own M W w (E++ob'++R)->Own M W w L0)
  (hgl:∀ y,(g y).length=sz) (h1:∀ y,∀ u∈g y,u.oneCell'=true) (hR:∀ w,Own M W w (E++ob++R)->Reads g w w.heap.size A l) (hv:Sl T sz v k xs ob) (hN:k+l.length<=1000000)
  (hg:∀ v' ob',Sl T sz v' (k+l.length) (xs++l.flatMap g) ob'->zB M P n W Q (aNext c (E++ob'++R) v'))
  (hkt:(c.L,hL c,c.top,(xA c)[hI c]?,zT (xA c) n c.f (xO c),(xO c).op,ev n c.f (aX (xO c) 0),ev n c.f (aX (xO c) 1),P.underlying (aT (xO c)),aInfo P T)
   =(L1,L0,.hst (xA c) (hS c) (hU c) (hL c) (hI c),some (xO c),true,aOp (xO c),v,.slice A l.length cp,some (.slice T),some (true,sz,some sz)):=by kernel_rfl):zB M P n W Q c:=by
 simp only [Prod.mk.injEq] at hkt
 obtain ⟨f1,f2,e1,e2,e3,e4,e5,e6,e8,e9⟩:=hkt
 rw [←f1] at hs
 rw [←f2] at hsub
 have:c=⟨.hst (xA c) (hS c) (hU c) (hL c) (hI c),c.k,c.L,c.f⟩:=by rw [←e1]
 rw [this]
 obtain ⟨i,z,hi,hz,hsz,hzs,hby⟩:=fC e9
 refine ⟨λhq hs0=>hs_take' hs (hl_appendR (E:=E) (ob:=ob) (R:=R) (xO c) hgl e2 e3 e4 e8 hi hz hsz hzs e5 hv e6 hR h1 ?_ ?_ hsub λv' ob' h=>(hg v' ob' h).go hq (hsub ob'))⟩
 ·unfold maxLen;omega
 ·have:=Nat.mul_le_mul hN hby;omega
theorem dM {T:TypeId}{b N sz:Nat}{cs:Array Value}(h:cs.size=N*sz)(hN:N<=maxLen):Sl T sz (.slice (some ⟨b,0,none⟩) N N) N cs.toList [⟨b,cs,T⟩]:=
 ⟨by rw [Array.length_toList];exact h,.inr ⟨b,N,cs,rfl,rfl,Nat.le_refl _,hN,h,by rw [List.take_of_length_le (by rw [Array.length_toList,h];exact Nat.le_refl _)]⟩⟩
end
end
section
def xIns (ρ:Operand->Value)(o:Oper):Option (Sem Value):=match o.op with
 | .makeMap t none=>some (Instr.makeMap t none)
 | .lookup t m x c=>some (Instr.lookup t (ρ m) (ρ x) c)
 | .range t x=>some (Instr.range t (ρ x))
 | .next it s=>some (Instr.next (ρ it) s o.type)
 | .entry it=>some (Instr.entry (ρ it))
 |_=>none
def xUpd (ρ:Operand->Value)(o:Oper):Option (Sem Unit):=match o.op with
 | .mapUpdate t m k x=>some (Instr.mapUpdate t (ρ m) (ρ k) (ρ x))
 |_=>none
section
variable {M:List Nat}{P:Program}{n:Nat}{W:World}{Q:Exit->Act->World->Prop}{c:Xc}
end
end
section
section
variable {M:List Nat}{P:Program}{n:Nat}{W:World}{Q:Exit->Act->World->Prop}{c:Xc}
theorem x_callO {k:FuncId}{args:Array Value}{Rr:Value->List Blk->Prop}(h:List Nat)(L1:List Blk)(hc:∀ w,Own M W w L1->Calls P k args w λe w'=>∃ v L',e= .returned v/\Rr v L'/\Own M W w' L')
  (hg:∀ v L',Rr v L'->zB M P n W Q ⟨.ops (xA (xgo P n nS h c)) (xT (xgo P n nS h c)),(xgo P n nS h c).k,L',upd (xgo P n nS h c).f (xO (xgo P n nS h c)).dst v⟩)
  (hkt:(xgl P n nS h c,(xgo P n nS h c).L,(xgo P n nS h c).top,zT (xA (xgo P n nS h c)) n (xgo P n nS h c).f (xO (xgo P n nS h c)),xEnt P n (xgo P n nS h c))=(xgr P n nS h c,L1,.ops (xA (xgo P n nS h c)) (xO (xgo P n nS h c)::xT (xgo P n nS h c)),true,λw=> .ok (.enter k args) w):=by kernel_rfl):zB M P n W Q c:=by
 simp only [Prod.mk.injEq] at hkt
 obtain ⟨hk,f1,e1,e3,e4⟩:=hkt
 refine zM h c hk ?_
 generalize xgo P n nS h c=d at*
 have e5:∀ w,(execOp (ev n d.f) (xO d)).run P w= .ok (.enter k args) w:=λw=>by
  have h1:=congrFun e4 w
  unfold xEnt at h1
  rw [e1] at h1
  dsimp only at h1
  rw [e3] at h1
  exact h1
 have:d=⟨.ops (xA d) (xO d::xT d),d.k,d.L,d.f⟩:=by rw [←e1]
 rw [this]
 rw [←f1] at hc
 exact ⟨λhq=>s_callo Rr e3 e5 hc λv L' k2=>(hg v L' k2).go hq⟩
theorem qS {k:FuncId}{args:Array Value}{Rr:Value->List Blk->Prop}(h:List Nat)(L1 R ob:List Blk)(hs:∀ w,Own M W w L1->Own M W w (R++ob))(hc:∀ w,Own M W w (R++ob)->Calls P k args w λe w'=>∃ v ob',e= .returned v/\Rr v ob'/\Own (ob.map Blk.b) w w' ob')
  (hg:∀ v ob',Rr v ob'->zB M P n W Q ⟨.ops (xA (xgo P n nS h c)) (xT (xgo P n nS h c)),(xgo P n nS h c).k,R++ob',upd (xgo P n nS h c).f (xO (xgo P n nS h c)).dst v⟩)
  (hkt:(xgl P n nS h c,(xgo P n nS h c).L,(xgo P n nS h c).top,zT (xA (xgo P n nS h c)) n (xgo P n nS h c).f (xO (xgo P n nS h c)),xEnt P n (xgo P n nS h c))=(xgr P n nS h c,L1,.ops (xA (xgo P n nS h c)) (xO (xgo P n nS h c)::xT (xgo P n nS h c)),true,λw=> .ok (.enter k args) w):=by kernel_rfl):zB M P n W Q c:=by
 simp only [Prod.mk.injEq] at hkt
 obtain ⟨hk,f1,e1,e3,e4⟩:=hkt
 refine zM h c hk ?_
 generalize xgo P n nS h c=d at*
 have e5:∀ w,(execOp (ev n d.f) (xO d)).run P w= .ok (.enter k args) w:=λw=>by
  have h1:=congrFun e4 w
  unfold xEnt at h1
  rw [e1] at h1
  dsimp only at h1
  rw [e3] at h1
  exact h1
 have:d=⟨.ops (xA d) (xO d::xT d),d.k,d.L,d.f⟩:=by rw [←e1]
 rw [this]
 rw [←f1] at hs
 refine ⟨λhq=>s_take hs (s_callo (λv L'=>∃ ob',Rr v ob'/\L'=R++ob') e3 e5 (λw hO=>(hc w hO).mono λe w' ⟨v,ob',k1,k2,k3⟩=>⟨v,_,k1,⟨ob',k2,rfl⟩,(Own.back (hO.perm List.perm_append_comm) k3).perm List.perm_append_comm⟩) λv L' ⟨ob',k2,k3⟩=> ?_)⟩
 subst k3
 exact (hg v ob' k2).go hq
theorem xh_callL {k:FuncId}{args:Array Value}{Rr:Value->List Blk->Prop}(L1 R ob L0:List Blk)(hs:∀ w,Own M W w L1->Own M W w (R++ob))(hsub:∀ ob' w,Own M W w (R++ob')->Own M W w L0)(hc:∀ w,Own M W w (R++ob)->Calls P k args w λe w'=>∃ v ob',e= .returned v/\Rr v ob'/\Own (ob.map Blk.b) w w' ob')
  (hg:∀ v ob',Rr v ob'->zB M P n W Q (aNext c (R++ob') v))
  (hkt:(c.L,hL c,c.top,(xA c)[hI c]?,zT (xA c) n c.f (xO c),λw=>(execOp (ev n c.f) (xO c)).run P w)=(L1,L0,.hst (xA c) (hS c) (hU c) (hL c) (hI c),some (xO c),true,λw=> .ok (.enter k args) w):=by kernel_rfl):zB M P n W Q c:=by
 simp only [Prod.mk.injEq] at hkt
 obtain ⟨f1,f2,e1,e2,e3,e4⟩:=hkt
 rw [←f1] at hs
 rw [←f2] at hsub
 have:c=⟨.hst (xA c) (hS c) (hU c) (hL c) (hI c),c.k,c.L,c.f⟩:=by rw [←e1]
 rw [this]
 refine ⟨λhq hs0=>hs_take' hs (hl_callx (xO c) (λv L'=>∃ ob',Rr v ob'/\L'=R++ob') e2 e3 (λw=>congrFun e4 w) (λw hO=>(hc w hO).mono λe w' ⟨v,ob',k1,k2,k3⟩=>⟨v,_,k1,⟨ob',k2,rfl⟩,(Own.back (hO.perm List.perm_append_comm) k3).perm List.perm_append_comm⟩) (λv L' ⟨ob',_,k3⟩ w hO=>hsub ob' w (k3▸hO)) λv L' ⟨ob',k2,k3⟩=> ?_)⟩
 subst k3
 exact (hg v ob' k2).go hq (hsub ob')
theorem x_drawLF (fu:Fuel1)(m:Nat)(h:List Nat)(L0:List Blk)(hs:∀ w,Own M W w (jP P n nS fu h c).L->Own M W w L0)(hg:zB M P n W Q ⟨.hps ((xDr (jP P n nS fu h c)).toList.take m).toArray (Array.replicate m false) m L0,.tl (xDr (jP P n nS fu h c)) ((xDr (jP P n nS fu h c)).toList.drop m)::(jP P n nS fu h c).k,(jP P n nS fu h c).L,(jP P n nS fu h c).f⟩)
  (hkt:(xl P n nS fu h c,(jP P n nS fu h c).top,P.follows .mixedOrders,preB .any (xDr (jP P n nS fu h c)).toList m)=(xr P n nS (tE fu) h c,.code (.region (xId (jP P n nS fu h c)) (xDr (jP P n nS fu h c)) true),true,true):=by kernel_rfl):zB M P n W Q c:=by
 simp only [Prod.mk.injEq] at hkt
 obtain ⟨hk,e1,e2,e3⟩:=hkt
 refine xrun_ok fu h c hk ?_
 generalize jP P n nS fu h c=d at hg hs e1 e3 ⊢
 generalize xDr d=a at hg e1 e3
 obtain ⟨l,rfl⟩:∃ l:List Oper,a=l.toArray:=⟨a.toList,by simp⟩
 have:d=⟨.code (.region (xId d) l.toArray true),d.k,d.L,d.f⟩:=by rw [←e1]
 rw [this]
 have hg':zB M P n W Q ⟨.hps (l.take m).toArray (Array.replicate m false) m L0,.tl l.toArray (l.drop m)::d.k,d.L,d.f⟩:=by simpa using hg
 exact ⟨λhq=>p7 m L0 e2 (by simpa using e3) (hg'.go hq hs)⟩
theorem x_appR {α:Type}{g:α->List Value}{T:TypeId}{sz k cp:Nat}{v:Value}{xs:List Value}{A:Option Addr}(h:List Nat)(l:List α)(E ob R:List Blk)(L1:List Blk)(hs:∀ w,Own M W w L1->Own M W w (E++ob++R))
  (hgl:∀ y,(g y).length=sz) (h1:∀ y,∀ u∈g y,u.oneCell'=true) (hR:∀ w,Own M W w (E++ob++R)->Reads g w w.heap.size A l) (hv:Sl T sz v k xs ob) (hN:k+l.length<=1000000)
  (hg:∀ v' ob',Sl T sz v' (k+l.length) (xs++l.flatMap g) ob'->zB M P n W Q ⟨.ops (xA (xgo P n nS h c)) (xT (xgo P n nS h c)),(xgo P n nS h c).k,E++ob'++R,upd (xgo P n nS h c).f (xO (xgo P n nS h c)).dst v'⟩)
  (hkt:(xgl P n nS h c,(xgo P n nS h c).L,(xgo P n nS h c).top,zT (xA (xgo P n nS h c)) n (xgo P n nS h c).f (xO (xgo P n nS h c)),(xO (xgo P n nS h c)).op,ev n (xgo P n nS h c).f (aX (xO (xgo P n nS h c)) 0),ev n (xgo P n nS h c).f (aX (xO (xgo P n nS h c)) 1),P.underlying (aT (xO (xgo P n nS h c))),aInfo P T)
   =(xgr P n nS h c,L1,.ops (xA (xgo P n nS h c)) (xO (xgo P n nS h c)::xT (xgo P n nS h c)),true,aOp (xO (xgo P n nS h c)),v,.slice A l.length cp,some (.slice T),some (true,sz,some sz)):=by kernel_rfl):zB M P n W Q c:=by
 simp only [Prod.mk.injEq] at hkt
 obtain ⟨hk,f1,e1,e3,e4,e5,e6,e8,e9⟩:=hkt
 refine zM h c hk ?_
 generalize xgo P n nS h c=d at*
 rw [←f1] at hs
 have:d=⟨.ops (xA d) (xO d::xT d),d.k,d.L,d.f⟩:=by rw [←e1]
 rw [this]
 obtain ⟨i,z,hi,hz,hsz,hzs,hby⟩:=fC e9
 have h63:k+l.length<=maxLen:=by unfold maxLen;omega
 have hbytes:(k+l.length)*i.bytes<=140737488355328:=by have:=Nat.mul_le_mul hN hby;omega
 have hone:∀ u∈l.flatMap g,u.oneCell'=true:=λu hu=>by
  obtain ⟨y,_,hy⟩:=List.mem_flatMap.1 hu
  exact h1 y u hy
 refine ⟨λhq=>s_take hs (kW e3 λw hO=> ?_)⟩
 cases A with
 |none=>
  have h0:l=[]:=by
   cases l with
   |nil=>rfl
   |cons y l=>obtain ⟨b,off,e,_⟩:=hR w hO (by simp);cases e
  subst h0
  have hv':Sl T sz v (k+([]:List α).length) (xs++([]:List α).flatMap g) ob:=by simpa using hv
  refine xB v (w':=w) ?_ (((hg v ob hv').go hq).go w hO)
  have hx':ev n d.f (aX (xO d) 1)= .slice none 0 cp:=e6
  unfold execOp
  rw [e4]
  simp only [aOp,resolve,invoke,builtin,Sem.run_bind,Sem.run_pure,Result.andThen_ok,List.map_toArray,List.map_cons,List.map_nil,e5,hx',dA e8 hi hv cp]
 |some a=>
  have hnews:∀ j u,(l.flatMap g)[j]?=some u->w.cell? (a.add j)=some u:=λj u hj=>by
   have h0:0<l.length:=by
    cases l with
    |nil=>simp at hj
    |cons y l=>simp
   obtain ⟨b,off,e,_,hc⟩:=hR w hO h0
   obtain rfl:=Option.some.inj e
   rw [yI]
   exact hc j u hj
  obtain ⟨v',w',ob',hr,h2,h3⟩:=jT (P:=P) (ty:=(xO d).type) (c:=cp) e8 hi hz hsz hzs hv hO (w6 hgl l) hnews hone h63 hbytes
  refine xB v' (w':=w') ?_ (((hg v' ob' h2).go hq).go w' h3)
  unfold execOp
  rw [e4]
  simp only [aOp,resolve,invoke,builtin,Sem.run_bind,Sem.run_pure,Result.andThen_ok,List.map_toArray,List.map_cons,List.map_nil,e5,e6,hr]
end
end
section
def sT (o:Oper):TypeId:=match o.op with
 | .store T _ _=>T
 |_=>0
def sP (o:Oper):Operand:=match o.op with
 | .store _ p _=>p
 |_=> .tmp 0
def sQ (o:Oper):Operand:=match o.op with
 | .store _ _ q=>q
 |_=> .tmp 0
def sDn (o:Oper):Bool:=o.dst.isNone
theorem sDn_is {o:Oper}(h:sDn o=true):o.dst=none:=by
 unfold sDn at h
 cases hd:o.dst with
 |none=>rfl
 |some d=>rw [hd] at h;cases h
section
variable {M:List Nat}{P:Program}{n:Nat}{ops:Array Oper}{W:World}{L L0:List Blk}{Q:Exit->Act->World->Prop}{fuel:Nat}{listed:Array Bool}{f:Nat->Value}
end
section
variable {M:List Nat}{P:Program}{n:Nat}{W:World}{Q:Exit->Act->World->Prop}{c:Xc}
theorem x_sto (q:Nat)(x:Blk)(off sz:Nat)(v:Value)(L1:List Blk)(hle:off+sz<=x.cs.size)(hg:zB M P n W Q ⟨.ops (xA c) (xT c),c.k,L1.set q ⟨x.b,yR x.cs off v.cells,x.ty⟩,c.f⟩)
  (hkt:(c.L,c.top,zT (xA c) n c.f (xO c),(xO c).op,sDn (xO c),ev n c.f (sP (xO c)),ev n c.f (sQ (xO c)),L1[q]?,(P.info? (sT (xO c))).map (·.size),v.cells.size,v.cells.toList.all λu=>u.oneCell')
   =(L1,.ops (xA c) (xO c::xT c),true,.store (sT (xO c)) (sP (xO c)) (sQ (xO c)),true,.pointer (some ⟨x.b,off,none⟩),v,some x,some sz,sz,true):=by kernel_rfl):zB M P n W Q c:=by
 simp only [Prod.mk.injEq] at hkt
 obtain ⟨f1,e1,e2,e3,e4,e5,e6,e7,e8,e9,e10⟩:=hkt
 have:c=⟨.ops (xA c) (xO c::xT c),c.k,L1,c.f⟩:=by rw [←e1,←f1]
 rw [this]
 exact ⟨λhq=>s_storeS q x v sz e2 e3 (sDn_is e4) e7 e5 e6 e8 e9 hle e10 (hg.go hq)⟩
theorem xh_sllo (t:Nat)(h:List Nat)(i:Nat){A:Option Addr}{b off:Nat}(hA:A=some ⟨b,off,none⟩)(N cp sz:Nat)(j:Int)(h0:0<=j)(h1:j<=N)(v:Value)(hv: .slice (some ⟨b,off+(if cp=j.toNat then 0 else j.toNat*sz),none⟩) (N-j.toNat) (cp-j.toNat)=v)(hg:zB M P n W Q (xHn (xgo P n t h c) i v))
  (hkt:(xgl P n t h c,fZ n i (xgo P n t h c),(slQ (xOi i (xgo P n t h c))).2.2.2,ev n (xgo P n t h c).f (slQ (xOi i (xgo P n t h c))).2.1,ev n (xgo P n t h c).f (slQ (xOi i (xgo P n t h c))).2.2.1,P.underlying (slQ (xOi i (xgo P n t h c))).1,(P.info? (xEl P (slQ (xOi i (xgo P n t h c))).1)).map (·.size))
   =(xgr P n t h c,wM i (xgo P n t h c),true,.slice A N cp,YI j,some (.slice (xEl P (slQ (xOi i (xgo P n t h c))).1)),some sz):=by kernel_rfl):zB M P n W Q c:=by
 simp only [Prod.mk.injEq] at hkt
 obtain ⟨hk,e1,e2,e3,e4,e5,e6⟩:=hkt
 subst hA
 exact zM h c hk (tQ (λw _=>by rw [run_sllo (slQ_op e2) e3 e4 e5 e6 h0 h1 w,hv]) hg e1)
theorem xh_slhi (t:Nat)(h:List Nat)(i:Nat){A:Option Addr}{b off:Nat}(hA:A=some ⟨b,off,none⟩)(N cp sz:Nat)(j:Int)(h0:0<=j)(h1:j<=cp)(v:Value)(hv: .slice (some ⟨b,off,none⟩) j.toNat cp=v)(hg:zB M P n W Q (xHn (xgo P n t h c) i v))
  (hkt:(xgl P n t h c,fZ n i (xgo P n t h c),(shQ (xOi i (xgo P n t h c))).2.2.2,ev n (xgo P n t h c).f (shQ (xOi i (xgo P n t h c))).2.1,ev n (xgo P n t h c).f (shQ (xOi i (xgo P n t h c))).2.2.1,P.underlying (shQ (xOi i (xgo P n t h c))).1,(P.info? (xEl P (shQ (xOi i (xgo P n t h c))).1)).map (·.size))
   =(xgr P n t h c,wM i (xgo P n t h c),true,.slice A N cp,YI j,some (.slice (xEl P (shQ (xOi i (xgo P n t h c))).1)),some sz):=by kernel_rfl):zB M P n W Q c:=by
 simp only [Prod.mk.injEq] at hkt
 obtain ⟨hk,e1,e2,e3,e4,e5,e6⟩:=hkt
 subst hA
 exact zM h c hk (tQ (λw _=>by rw [run_slhi (shQ_op e2) e3 e4 e5 e6 h0 h1 w,hv]) hg e1)
end
end
section
set_option linter.unnecessarySimpa false
def tP (v:Value)(l:List YL)(s:YL)(v':Value)(ob:List Blk):Prop:=(v'=v/\yC l s=l/\ob=[])\/SlT v' (yC l s) ob
theorem xP (s:YL):∀ u∈y9 s,u.oneCell'=true:=λu hu=>by rw [List.mem_singleton.1 hu];rfl
theorem reads_take11 {w:World}{B b off:Nat}{l:List YL}(h:Reads y9 w B (some ⟨b,off,none⟩) l)(k:Nat):Reads y9 w B (some ⟨b,off,none⟩) (l.take k):=λh0=>by
 obtain ⟨b',off',e,hlt,hc⟩:=h (by rw [List.length_take] at h0;omega)
 cases e
 refine ⟨b,off,rfl,hlt,λj u hj=>hc j u ?_⟩
 have:l.flatMap y9=(l.take k).flatMap y9++(l.drop k).flatMap y9:=by rw [←List.flatMap_append,List.take_append_drop]
 rw [this,List.getElem?_append_left (List.getElem?_eq_some_iff.1 hj).1];exact hj
theorem reads_drop11 {w:World}{B b off cap:Nat}{l:List YL}(h:Reads y9 w B (some ⟨b,off,none⟩) l)(hcap:l.length<=cap)(k:Nat):Reads y9 w B (some ⟨b,off+(if cap=k then 0 else k*1),none⟩) (l.drop k):=λh0=>by
 rw [List.length_drop] at h0
 obtain ⟨b',off',e,hlt,hc⟩:=h Om
 cases e
 rw [if_neg Om]
 refine ⟨b,off+k*1,rfl,hlt,λj u hj=> ?_⟩
 have h1:l.flatMap y9=(l.take k).flatMap y9++(l.drop k).flatMap y9:=by rw [←List.flatMap_append,List.take_append_drop]
 have h2:((l.take k).flatMap y9).length=k:=by rw [w6 zW,List.length_take];omega
 rw [Nat.add_assoc]
 refine hc (k*1+j) u ?_
 rw [h1,List.getElem?_append_right Om,h2,show k*1+j-k=j by omega];exact hj
theorem g11put_cons (A:Option Addr)(cap bp off:Nat)(l:List YL)(s:YL)(W:World)(hA:A=some ⟨bp,off,none⟩)(hl0:l≠[])(hcap:l.length<=cap)(hv:Reads y9 W W.heap.size A l)(hn:l.length<=900000):YC 99 #[.slice A l.length cap,.string (mkS s)] W λe w'=>∃ v' ob,e= .returned v'/\tP (.slice A l.length cap) l s v' ob/\Own [] W w' ob:=by
 subst hA
 have hlp:0<l.length:=List.length_pos_iff.2 hl0
 have hTk:∀ k w,Own [] W w []->Reads y9 w w.heap.size (some ⟨bp,off,none⟩) (l.take k):=λk w hO=>reads_take11 (hv.on hO.below hO.size) k
 have hDk:∀ k w,Own [] W w []->Reads y9 w w.heap.size (some ⟨bp,off+(if cap=k then 0 else k*1),none⟩) (l.drop k):=λk w hO=>reads_drop11 (hv.on hO.below hO.size) hcap k
 have hA:(some ⟨bp,off,none⟩:Option Addr)=some ⟨bp,off,none⟩:=rfl
 have hld:∀ (k:Nat) (hk:k<l.length) x,l[k]=x→∀ w,Own [] W w []->(loadVar 9 ⟨bp,off+k*1+0,none⟩).run YP w= .ok (.string (mkS x)) w:=λk hk x hx w hO=>by
  obtain ⟨b',off',e,hel⟩:=hv.elem zW k hk
  cases e
  exact hel w hO.below _ 0 _ (by rw [hx];kernel_rfl)
 refine z8 Tryz.func99 (x_loopE (α:=Nat) (β:=Nat) (λk=>[(0,.slice (some ⟨bp,off,none⟩) l.length cap),(1,.string (mkS s)),(5,YI (k:Int))]) (λ_=>[]) (λk m=>(k<=l.length∧∀ x∈l.take k,Op.bytesLess x s=true)/\m=l.length-k) 0 l.length (λk=>[(0,.slice (some ⟨bp,off,none⟩) l.length cap),(1,.string (mkS s)),(5,YI (k:Int))]) (λ_=>[]) (λk=>k<=l.length/\(∀ x∈l.take k,Op.bytesLess x s=true)∧∀ hk:k<l.length,Op.bytesLess l[k] s=false) [] ⟨⟨Nat.zero_le _,λx h=>by simp at h⟩,rfl⟩ ?_ ?_)
 ·rintro k mm g ⟨⟨hk,hno⟩,hmm⟩ nx nex
  refine zD 9 [] ((k:Int)<(l.length:Int)) (λh9=> ?_) (λh9=>nex k [] ⟨hk,hno,λq=>absurd q Om⟩ Kr)
  have hj:k<l.length:=by omega
  obtain ⟨x,hx⟩:∃ x,l[k]=x:=⟨_,rfl⟩
  have hgo:=y1 (p:=λx=>Op.bytesLess x s=true) hj hno
  rw [hx] at hgo
  refine zK 13 [] hA l.length cap k 1 hj (zH 14 [] 9 bp (off+k*1+0) (.string (mkS x)) (λw hO=>hld k hj x hx w hO.no) (x_slt 16 [] x s (λh16=> ?_) (λh16=>nex k [] ⟨hk,hno,λq=>by rw [hx];exact h16⟩ Kr)))
  exact x_i 19 [] ((k+1:Nat):Int) (nx (k+1) (l.length-(k+1)) [] Om ⟨⟨hj,hgo h16⟩,rfl⟩ Kr Kr)
 ·rintro k g ⟨hk,hno,hge⟩
  have hlt:(l.take k).length=k:=by rw [List.length_take];omega
  refine zD 23 [] ((k:Int)<(l.length:Int)) (λh23=> ?_) (λh23=> ?_)
  ·have hj:k<l.length:=by omega
   obtain ⟨x,hx⟩:∃ x,l[k]=x:=⟨_,rfl⟩
   refine zK 27 [] hA l.length cap k 1 hj (zH 28 [] 9 bp (off+k*1+0) (.string (mkS x)) (λw hO=>hld k hj x hx w hO.no) (kJ 30 [] x s (λh30=> ?_) (λh30=> ?_)))
   ·exact z7 [] (.slice (some ⟨bp,off,none⟩) l.length cap) λw hO=>⟨_,[],rfl,.inl ⟨rfl,put_old hj hno (hge hj) (hx.trans h30),rfl⟩,hO.no⟩
   have hq:yC l s=l.take k++[s]++l.drop k:=put_new hk hno λq=>⟨hge q,by rw [hx];exact h30⟩
   refine gQ 11 [] [] (λw hO=>hO.no) (xh_slhi 50035 [] 2 hA l.length cap 1 (k:Int) (by omega) (by omega) (.slice (some ⟨bp,off,none⟩) (l.take k).length cap) (by rw [hlt];rfl) (xh_sllo 50042 [] 9 hA l.length cap 1 (k:Int) (by omega) (by omega) (.slice (some ⟨bp,off+(if cap=k then 0 else k*1),none⟩) (l.drop k).length (cap-k)) (by rw [List.length_drop];rfl) (x_h2 [] 3 5 (yW (g:=y9) (T:=9) (k:=0) (v:= .slice none 0 0) (xs:=[]) (l.take k) [] [] [] ([]) [] (cp:=cap) (λw hO=>hO) (λo w hO=>hO.no) zW xP (λw hO=>hTk k w hO.no) (Sl.nil _ _) (by simp only [List.length_take,List.length_nil];omega) λv1 o1 h1=> ?_) (k7 1 9 #[.string (mkS s)] λb=>zY [] 3 (yW (g:=y9) (T:=9) (k:=0) (v:= .slice none 0 0) (xs:=[]) (l.take k) [⟨b, #[.string (mkS s)],9⟩] [] [] ([⟨b, #[.string (mkS s)],9⟩]) [] (cp:=cap) (λw hO=>hO) (λo w hO=>hO.no) zW xP (λw hO=>hTk k w hO.no) (Sl.nil _ _) (by simp only [List.length_take,List.length_nil];omega) λv1 o1 h1=> ?_)))))
   ·obtain ⟨V1,c1,rfl⟩:=h1.form
    refine zY [] 5 (k7 1 9 #[.string (mkS s)] λb=>zY [] 6 (gV (m:=1) (cp:=1) [⟨b, #[.string (mkS s)],9⟩] o1 [] 0 (⟨b, #[.string (mkS s)],9⟩::([]++o1++[])) [] (λw hO=>hO.cast (by simp)) (λo w hO=>hO.no) h1 (by simp only [List.length_take,List.length_nil];omega) λv2 o2 h2=> ?_))
    obtain ⟨V2,c2,rfl⟩:=h2.form
    refine zY [] 10 (yW (g:=y9) (l.drop k) [⟨b, #[.string (mkS s)],9⟩] o2 [] ([⟨b, #[.string (mkS s)],9⟩]++o2++[]) [] (cp:=cap-k) (λw hO=>hO) (λo w hO=>hO.no) zW xP (λw hO=>hDk k w hO.no) h2 (by simp only [List.length_take,List.length_drop,List.length_nil];omega) λv3 o3 h3=> ?_)
    have hs3:SlT v3 (l.take k++[s]++l.drop k) o3:=Sl.to (show Sl 9 1 v3 (0+(l.take k).length+1+(l.drop k).length) (([]++(l.take k).flatMap y9)++y9 s++(l.drop k).flatMap y9) o3 from h3) (by first|(simp;done)|(simp;omega)) (by rw [x5];simp)
    exact z7 [] v3 λw hO=>⟨_,o3,rfl,.inr (by rw [hq];exact hs3),(hO.past 1 (o3++[])).cast (by simp)⟩
   ·obtain ⟨V1,c1,rfl⟩:=h1.form
    refine zY [] 6 (gV (m:=1) (cp:=1) [⟨b, #[.string (mkS s)],9⟩] o1 [] 0 ([⟨b, #[.string (mkS s)],9⟩]++o1++[]) [] (λw hO=>hO) (λo w hO=>hO.no) h1 (by simp only [List.length_take,List.length_nil];omega) λv2 o2 h2=> ?_)
    obtain ⟨V2,c2,rfl⟩:=h2.form
    refine zY [] 10 (yW (g:=y9) (l.drop k) [⟨b, #[.string (mkS s)],9⟩] o2 [] ([⟨b, #[.string (mkS s)],9⟩]++o2++[]) [] (cp:=cap-k) (λw hO=>hO) (λo w hO=>hO.no) zW xP (λw hO=>hDk k w hO.no) h2 (by simp only [List.length_take,List.length_drop,List.length_nil];omega) λv3 o3 h3=> ?_)
    have hs3:SlT v3 (l.take k++[s]++l.drop k) o3:=Sl.to (show Sl 9 1 v3 (0+(l.take k).length+1+(l.drop k).length) (([]++(l.take k).flatMap y9)++y9 s++(l.drop k).flatMap y9) o3 from h3) (by first|(simp;done)|(simp;omega)) (by rw [x5];simp)
    exact z7 [] v3 λw hO=>⟨_,o3,rfl,.inr (by rw [hq];exact hs3),(hO.past 1 (o3++[])).cast (by simp)⟩
  ·have hq:yC l s=l.take k++[s]++l.drop k:=put_new hk hno λq=>absurd q Om
   refine gQ 11 [] [] (λw hO=>hO.no) (xh_slhi 50035 [] 2 hA l.length cap 1 (k:Int) (by omega) (by omega) (.slice (some ⟨bp,off,none⟩) (l.take k).length cap) (by rw [hlt];rfl) (xh_sllo 50042 [] 9 hA l.length cap 1 (k:Int) (by omega) (by omega) (.slice (some ⟨bp,off+(if cap=k then 0 else k*1),none⟩) (l.drop k).length (cap-k)) (by rw [List.length_drop];rfl) (x_h2 [] 3 5 (yW (g:=y9) (T:=9) (k:=0) (v:= .slice none 0 0) (xs:=[]) (l.take k) [] [] [] ([]) [] (cp:=cap) (λw hO=>hO) (λo w hO=>hO.no) zW xP (λw hO=>hTk k w hO.no) (Sl.nil _ _) (by simp only [List.length_take,List.length_nil];omega) λv1 o1 h1=> ?_) (k7 1 9 #[.string (mkS s)] λb=>zY [] 3 (yW (g:=y9) (T:=9) (k:=0) (v:= .slice none 0 0) (xs:=[]) (l.take k) [⟨b, #[.string (mkS s)],9⟩] [] [] ([⟨b, #[.string (mkS s)],9⟩]) [] (cp:=cap) (λw hO=>hO) (λo w hO=>hO.no) zW xP (λw hO=>hTk k w hO.no) (Sl.nil _ _) (by simp only [List.length_take,List.length_nil];omega) λv1 o1 h1=> ?_)))))
   ·obtain ⟨V1,c1,rfl⟩:=h1.form
    refine zY [] 5 (k7 1 9 #[.string (mkS s)] λb=>zY [] 6 (gV (m:=1) (cp:=1) [⟨b, #[.string (mkS s)],9⟩] o1 [] 0 (⟨b, #[.string (mkS s)],9⟩::([]++o1++[])) [] (λw hO=>hO.cast (by simp)) (λo w hO=>hO.no) h1 (by simp only [List.length_take,List.length_nil];omega) λv2 o2 h2=> ?_))
    obtain ⟨V2,c2,rfl⟩:=h2.form
    refine zY [] 10 (yW (g:=y9) (l.drop k) [⟨b, #[.string (mkS s)],9⟩] o2 [] ([⟨b, #[.string (mkS s)],9⟩]++o2++[]) [] (cp:=cap-k) (λw hO=>hO) (λo w hO=>hO.no) zW xP (λw hO=>hDk k w hO.no) h2 (by simp only [List.length_take,List.length_drop,List.length_nil];omega) λv3 o3 h3=> ?_)
    have hs3:SlT v3 (l.take k++[s]++l.drop k) o3:=Sl.to (show Sl 9 1 v3 (0+(l.take k).length+1+(l.drop k).length) (([]++(l.take k).flatMap y9)++y9 s++(l.drop k).flatMap y9) o3 from h3) (by first|(simp;done)|(simp;omega)) (by rw [x5];simp)
    exact z7 [] v3 λw hO=>⟨_,o3,rfl,.inr (by rw [hq];exact hs3),(hO.past 1 (o3++[])).cast (by simp)⟩
   ·obtain ⟨V1,c1,rfl⟩:=h1.form
    refine zY [] 6 (gV (m:=1) (cp:=1) [⟨b, #[.string (mkS s)],9⟩] o1 [] 0 ([⟨b, #[.string (mkS s)],9⟩]++o1++[]) [] (λw hO=>hO) (λo w hO=>hO.no) h1 (by simp only [List.length_take,List.length_nil];omega) λv2 o2 h2=> ?_)
    obtain ⟨V2,c2,rfl⟩:=h2.form
    refine zY [] 10 (yW (g:=y9) (l.drop k) [⟨b, #[.string (mkS s)],9⟩] o2 [] ([⟨b, #[.string (mkS s)],9⟩]++o2++[]) [] (cp:=cap-k) (λw hO=>hO) (λo w hO=>hO.no) zW xP (λw hO=>hDk k w hO.no) h2 (by simp only [List.length_take,List.length_drop,List.length_nil];omega) λv3 o3 h3=> ?_)
    have hs3:SlT v3 (l.take k++[s]++l.drop k) o3:=Sl.to (show Sl 9 1 v3 (0+(l.take k).length+1+(l.drop k).length) (([]++(l.take k).flatMap y9)++y9 s++(l.drop k).flatMap y9) o3 from h3) (by first|(simp;done)|(simp;omega)) (by rw [x5];simp)
    exact z7 [] v3 λw hO=>⟨_,o3,rfl,.inr (by rw [hq];exact hs3),(hO.past 1 (o3++[])).cast (by simp)⟩
theorem g11put_nil (s:YL)(W:World):YC 99 #[.slice none 0 0,.string (mkS s)] W λe w'=>∃ v' ob,e= .returned v'/\tP (.slice none 0 0) [] s v' ob/\Own [] W w' ob:=by
 have hN:∀ w,Own [] W w []->Reads y9 w w.heap.size none ([]:List YL):=λw hO h0=>absurd h0 (Nat.lt_irrefl 0)
 have hq:yC [] s=([]:List YL)++[s]++[]:=rfl
 refine z8 Tryz.func99 (jQ 0 [] (gQ 11 [] [] (λw hO=>hO.no) (x_h2 [] 3 5 (yW (g:=y9) (T:=9) (k:=0) (v:= .slice none 0 0) (xs:=[]) (([]:List YL)) [] [] [] ([]) [] (cp:=0) (λw hO=>hO) (λo w hO=>hO.no) zW xP (λw hO=>hN w hO.no) (Sl.nil _ _) (by simp only [List.length_take,List.length_nil];omega) λv1 o1 h1=> ?_) (k7 1 9 #[.string (mkS s)] λb=>zY [] 3 (yW (g:=y9) (T:=9) (k:=0) (v:= .slice none 0 0) (xs:=[]) (([]:List YL)) [⟨b, #[.string (mkS s)],9⟩] [] [] ([⟨b, #[.string (mkS s)],9⟩]) [] (cp:=0) (λw hO=>hO) (λo w hO=>hO.no) zW xP (λw hO=>hN w hO.no) (Sl.nil _ _) (by simp only [List.length_take,List.length_nil];omega) λv1 o1 h1=> ?_)))))
 ·obtain ⟨V1,c1,rfl⟩:=h1.form
  refine zY [] 5 (k7 1 9 #[.string (mkS s)] λb=>zY [] 6 (gV (m:=1) (cp:=1) [⟨b, #[.string (mkS s)],9⟩] o1 [] 0 (⟨b, #[.string (mkS s)],9⟩::([]++o1++[])) [] (λw hO=>hO.cast (by simp)) (λo w hO=>hO.no) h1 (by simp only [List.length_take,List.length_nil];omega) λv2 o2 h2=> ?_))
  obtain ⟨V2,c2,rfl⟩:=h2.form
  refine zY [] 10 (yW (g:=y9) (([]:List YL)) [⟨b, #[.string (mkS s)],9⟩] o2 [] ([⟨b, #[.string (mkS s)],9⟩]++o2++[]) [] (cp:=0) (λw hO=>hO) (λo w hO=>hO.no) zW xP (λw hO=>hN w hO.no) h2 (by simp only [List.length_take,List.length_drop,List.length_nil];omega) λv3 o3 h3=> ?_)
  have hs3:SlT v3 (([]:List YL)++[s]++([]:List YL)) o3:=Sl.to (show Sl 9 1 v3 (0+(([]:List YL)).length+1+(([]:List YL)).length) (([]++(([]:List YL)).flatMap y9)++y9 s++(([]:List YL)).flatMap y9) o3 from h3) (by first|(simp;done)|(simp;omega)) (by rw [x5];simp)
  exact z7 [] v3 λw hO=>⟨_,o3,rfl,.inr (by rw [hq];exact hs3),(hO.past 1 (o3++[])).cast (by simp)⟩
 ·obtain ⟨V1,c1,rfl⟩:=h1.form
  refine zY [] 6 (gV (m:=1) (cp:=1) [⟨b, #[.string (mkS s)],9⟩] o1 [] 0 ([⟨b, #[.string (mkS s)],9⟩]++o1++[]) [] (λw hO=>hO) (λo w hO=>hO.no) h1 (by simp only [List.length_take,List.length_nil];omega) λv2 o2 h2=> ?_)
  obtain ⟨V2,c2,rfl⟩:=h2.form
  refine zY [] 10 (yW (g:=y9) (([]:List YL)) [⟨b, #[.string (mkS s)],9⟩] o2 [] ([⟨b, #[.string (mkS s)],9⟩]++o2++[]) [] (cp:=0) (λw hO=>hO) (λo w hO=>hO.no) zW xP (λw hO=>hN w hO.no) h2 (by simp only [List.length_take,List.length_drop,List.length_nil];omega) λv3 o3 h3=> ?_)
  have hs3:SlT v3 (([]:List YL)++[s]++([]:List YL)) o3:=Sl.to (show Sl 9 1 v3 (0+(([]:List YL)).length+1+(([]:List YL)).length) (([]++(([]:List YL)).flatMap y9)++y9 s++(([]:List YL)).flatMap y9) o3 from h3) (by first|(simp;done)|(simp;omega)) (by rw [x5];simp)
  exact z7 [] v3 λw hO=>⟨_,o3,rfl,.inr (by rw [hq];exact hs3),(hO.past 1 (o3++[])).cast (by simp)⟩
theorem kY {A:Option Addr}{cap:Nat}{l:List YL}{ob L:List Blk}{M:List Nat}{W0:World}(s:YL)(W:World)(hv:SlT (.slice A l.length cap) l ob)(h0:l=[]->A=none/\cap=0)(hO:Own M W0 W L)(hs:∀ x∈ob,x∈L)(hn:l.length<=900000):YC 99 #[.slice A l.length cap,.string (mkS s)] W λe w'=>∃ v' ob',e= .returned v'/\tP (.slice A l.length cap) l s v' ob'/\Own [] W w' ob':=by
 by_cases hl:l=[]
 ·obtain ⟨rfl,rfl⟩:=h0 hl
  subst hl
  exact g11put_nil s W
 ·have h1:Reads y9 W W.heap.size A l:=SlT.reads hv rfl hO hs
  rcases hv.2 with ⟨e,h0,_⟩|⟨g,c,cur,e,_,h2,_⟩
  ·exact absurd (List.eq_nil_of_length_eq_zero h0) hl
  ·injection e with e1 e2 e3
   subst e3
   exact g11put_cons A cap g 0 l s W e1 hl h2 h1 hn
end
section
def nmF (k:Nat):YL:=if k=0 then dfl else if k=1 then [120] else if k=2 then [121] else [122]
def ItemG (needs:List Nv)(keep:Nat->Bool)(s:YL):Prop:=
 (∃ m∈needs,¬ m.opt=[]/\s=[63]++m.opt)\/(∃ m∈needs,∃ w,m.any=[w]/\s=w.name++[47]++[120])∨∃ j,j<4/\keep j=true/\s=nmF j
structure OfG (needs:List Nv)(keep:Nat->Bool)(l:List YL)(b:Nat):Prop where
 rise:yX l=true
 len:l.length<=b
 all:∀ s∈l,ItemG needs keep s
theorem OfG.nil (needs:List Nv)(keep:Nat->Bool):OfG needs keep [] 0:=⟨rfl,Nat.le_refl _,λs h=>by simp at h⟩
theorem OfG.more {needs:List Nv}{keep:Nat->Bool}{l:List YL}{b b':Nat}(h:OfG needs keep l b)(hb:b<=b'):OfG needs keep l b':=⟨h.rise,Nat.le_trans h.len hb,h.all⟩
theorem OfG.put {needs:List Nv}{keep:Nat->Bool}{l:List YL}{b:Nat}(h:OfG needs keep l b){s:YL}(hs:ItemG needs keep s):OfG needs keep (yC l s) (b+1):=
 ⟨put_rise h.rise,Nat.le_trans put_len (Nat.add_le_add_right h.len 1),λx hx=>by
  rcases put_mem.1 hx with rfl|hx
  ·exact hs
  ·exact h.all x hx⟩
structure FeatsG (needs:List Nv)(keep:Nat->Bool)(k:Nat)(xs:List Fv):Prop where
 names:xs.map Fv.name=((List.range k).filter keep).map nmF
 each:∀ x∈xs,OfG needs keep x.of 5
theorem FeatsG.nil (needs:List Nv)(keep:Nat->Bool):FeatsG needs keep 0 []:=⟨rfl,λx h=>by simp at h⟩
theorem FeatsG.skip {needs:List Nv}{keep:Nat->Bool}{k:Nat}{xs:List Fv}(h:FeatsG needs keep k xs)(hk:keep k=false):FeatsG needs keep (k+1) xs:=
 ⟨by rw [List.range_succ,List.filter_append,List.map_append,←h.names];simp [hk],h.each⟩
theorem FeatsG.add {needs:List Nv}{keep:Nat->Bool}{k:Nat}{xs:List Fv}(h:FeatsG needs keep k xs)(hk:keep k=true){x:Fv}(hn:x.name=nmF k)(ho:OfG needs keep x.of 5):FeatsG needs keep (k+1) (xs++[x]):=
 ⟨by rw [List.range_succ,List.filter_append,List.map_append,List.map_append,←h.names];simp [hk,hn],λy hy=>by
  rcases List.mem_append.1 hy with hy|hy
  ·exact h.each y hy
  ·rw [List.mem_singleton.1 hy];exact ho⟩
structure OfS (A:Option Addr)(c:Nat)(l:List YL)(o3:List Blk):Prop where
 ex:∃ o,SlT (.slice A l.length c) l o∧∀ b∈o,b∈o3
 bare:l=[]->A=none/\c=0
theorem OfS.nil:OfS none 0 [] []:=⟨⟨[],Sl.nil _ _,λb h=>h⟩,λ_=>⟨rfl,rfl⟩⟩
theorem OfS.more {A:Option Addr}{c:Nat}{l:List YL}{o o':List Blk}(h:OfS A c l o)(hs:∀ b∈o,b∈o'):OfS A c l o':=by
 obtain ⟨⟨q,h1,h2⟩,h3⟩:=h
 exact ⟨⟨q,h1,λb hb=>hs b (h2 b hb)⟩,h3⟩
theorem put_ne (l:List YL)(s:YL):yC l s≠[]:=λe=>by
 have:s∈yC l s:=put_mem.2 (.inl rfl)
 rw [e] at this;simp at this
theorem OfS.put {A:Option Addr}{c:Nat}{l:List YL}{o3 ob:List Blk}{s:YL}{v:Value}(h:OfS A c l o3)(hp:tP (.slice A l.length c) l s v ob):∃ A' c',v= .slice A' (yC l s).length c'/\OfS A' c' (yC l s) (o3++ob):=by
 rcases hp with ⟨rfl,e,rfl⟩|hp
 ·refine ⟨A,c,by rw [e], ?_⟩
  rw [e]
  exact h.more λb hb=>by simpa using hb
 ·obtain ⟨A',c',rfl⟩:=SlT.form hp
  exact ⟨A',c',rfl,⟨⟨ob,hp,λb hb=>List.mem_append_right _ hb⟩,λe=>absurd e (put_ne l s)⟩⟩
structure FtO (A:Option Addr)(c:Nat)(xs:List Fv)(o7 o2:List Blk):Prop where
 top:Sl 148 2 (.slice A xs.length c) xs.length (xs.flatMap fvC) o7
 each:∀ x∈xs,∃ o,SlT (.slice x.A x.of.length x.cap) x.of o∧∀ b∈o,b∈o2
theorem FtO.nil:FtO none 0 [] [] []:=⟨Sl.nil _ _,λx h=>by simp at h⟩
theorem FtO.more {A:Option Addr}{c:Nat}{xs:List Fv}{o7 o2 o2':List Blk}(h:FtO A c xs o7 o2)(hs:∀ b∈o2,b∈o2'):FtO A c xs o7 o2':=⟨h.top,λx hx=>by
 obtain ⟨o,h1,h2⟩:=h.each x hx
 exact ⟨o,h1,λb hb=>hs b (h2 b hb)⟩⟩
theorem FtO.add {A A':Option Addr}{c c':Nat}{xs:List Fv}{o7 o7' o2:List Blk}{x:Fv}(h:FtO A c xs o7 o2)(ht:Sl 148 2 (.slice A' (xs.length+1) c') (xs.length+1) (xs.flatMap fvC++fvC x) o7')(hx:∃ o,SlT (.slice x.A x.of.length x.cap) x.of o∧∀ b∈o,b∈o2):FtO A' c' (xs++[x]) o7' o2:=
 ⟨by rw [List.length_append,List.length_singleton,List.flatMap_append,List.flatMap_singleton];exact ht,λy hy=>by
  rcases List.mem_append.1 hy with hy|hy
  ·exact h.each y hy
  ·rw [List.mem_singleton.1 hy];exact hx⟩
end
section
theorem vT (x:Nv):(nvC x).length=3:=rfl
theorem qC (x:Wv):(wvC x).length=4:=rfl
theorem nmF_rd:∀ k:Nat,k<4->yQ YP 9 #[.string (mkS dfl),.string (mkS [120]),.string (mkS [121]),.string (mkS [122])] (0+(k:Int).toNat*1)=some (.string (mkS (nmF k)))
 |0,_=>by kernel_rfl
 |1,_=>by kernel_rfl
 |2,_=>by kernel_rfl
 |3,_=>by kernel_rfl
abbrev G8b (b:Nat):Blk:=⟨b, #[.string (mkS dfl),.string (mkS [120]),.string (mkS [121]),.string (mkS [122])],146⟩
abbrev G0b (b:Nat)(nm pre bld:YL)(a1 a2 a3:Int)(nA:Option Addr)(nc:Nat)(needs:List Nv)(vb vf:Value):Blk:=⟨b, #[.string (mkS nm),YI a1,YI a2,YI a3,.string (mkS pre),.string (mkS bld),.slice nA needs.length nc,vb,vf],47⟩
abbrev GBb (b k:Nat)(A:Option Addr)(n c:Nat):Blk:=⟨b, #[.string (mkS (nmF k)),.slice A n c],148⟩
theorem features_gen (v:Value)(l:List Int)(i:Nat)(nm pre bld:YL)(a1 a2 a3:Int)(nA:Option Addr)(nc:Nat)(needs:List Nv)(vb vf:Value)(W:World)(hv:ReadsI W W.heap.size v l)(hl:l.length<=9223372036854775807)(hi:i<=5000)
  (hN:Reads nvC W W.heap.size nA needs) (hWs:∀ m∈needs,Reads wvC W W.heap.size m.A m.any) (hlen:needs.length<=1000) (hopt:∀ m∈needs,m.opt.length<=1000) (hnm:∀ m∈needs,∀ w∈m.any,w.name.length<=1000):
  YC 56 #[v,YI (i:Int),.agg #[.string (mkS nm),YI a1,YI a2,YI a3,.string (mkS pre),.string (mkS bld),.slice nA needs.length nc,vb,vf]] W λe w'=>∃ A c xs o7 o2,e= .returned (.slice A xs.length c)/\(FtO A c xs o7 o2/\FeatsG needs (λj=>decide (plc (atL l (i+j)) 3≠0)) 4 xs)/\Own [] W w' (o7++o2):=by
 have fa:∀ (j:Nat),j<=100→∀ w,YB W w->YC 81 #[v,YI ((i+j:Nat):Int)] w (YR (YI (atL l (i+j))) w):=λj hj w hb=>(at_any v l (i+j) w ((hv.below hb).more hb.size) hl Om).mono λ_ _ ⟨e1,e2⟩=>⟨e1,e2▸Below.refl _ _⟩
 have fp:∀ (z:Int) w,YC 18 #[YI z,YI 3] w (YR (YI (plc z 3)) w):=λz w=>(bB z 3 w (by decide) (by decide)).mono λ_ _ ⟨e1,e2⟩=>⟨e1,e2▸Below.refl _ _⟩
 generalize hkeep:(λj=>decide (plc (atL l (i+j)) 3≠0))=keep
 have hk1:∀ j,plc (atL l (i+j)) 3=0->keep j=false:=λj h=>by rw [←hkeep];simp [h]
 have hk2:∀ j,¬ plc (atL l (i+j)) 3=0->keep j=true:=λj h=>by rw [←hkeep];simp [h]
 refine z8 Tryz.func56 (zZ [] (λb0=>zS [] λb8=> ?_))
 refine zO (α:=Nat×List Fv×Option Addr×Nat×List Blk×List Blk) (λ(k,xs,A7,c7,_,_)=>[(0,v),(1,YI (i:Int)),(5,Zp b0 0),(7,.slice A7 xs.length c7),(8,Zp b8 0),(9,YI (k:Int))])
  (λ(_,_,_,_,o7,o2)=>[G8b b8,G0b b0 nm pre bld a1 a2 a3 nA nc needs vb vf]++(o7++o2)) (λ(k,xs,A7,c7,o7,o2) m=>k<=4/\m=4-k/\FtO A7 c7 xs o7 o2/\FeatsG needs keep k xs) (0,[],none,0,[],[]) 4 [0] ⟨by omega,rfl,FtO.nil,FeatsG.nil _ _⟩ ?_
 rintro ⟨k,xs,A7,c7,o7,o2⟩ mm g kk ⟨hk4,hmm,hO7,hG⟩ nx hkk
 subst hkk
 refine zD 16 [] ((k:Int)<4) (λh4=> ?_) (λh4=> ?_)
 rotate_left
 ·obtain rfl:k=4:=by omega
  exact z7 [] _ λw hO=>⟨A7,c7,xs,o7,o2,rfl,⟨hO7,hG⟩,hO.past 2 _⟩
 have hkl:k<4:=by omega
 refine x_i 22 [] ((i+k:Nat):Int) (z6 [] (λw hO=>fa k (by omega) w hO.below) (z6 [] (λw hO=>fp (atL l (i+k)) w) (zD 26 [] (plc (atL l (i+k)) 3=0) (λh3=> ?_) (λh3=> ?_))))
 ·refine x_i 18 [] ((k+1:Nat):Int) (nx (k+1,xs,A7,c7,o7,o2) (4-(k+1)) [] Om ⟨by omega,rfl,hO7,hG.skip (hk1 k h3)⟩ Kr Kr)
 have hxl:xs.length<=4:=by
  have e:=congrArg List.length hG.names
  rw [List.length_map,List.length_map] at e
  have:=List.length_filter_le keep (List.range k)
  rw [List.length_range] at this;omega
 refine x_ixa 28 [] 4 k 1 hkl (x_ldk 29 [] 0 _ _ 9 _ (nmF_rd k hkl) (zS [] λb11=> ?_))
 refine zP [0] ([GBb b11 k none 0 0,G8b b8,G0b b0 nm pre bld a1 a2 a3 nA nc needs vb vf]++(o7++o2++[])) (λw hO=>(hO.past 0 ([GBb b11 k none 0 0,G8b b8,G0b b0 nm pre bld a1 a2 a3 nA nc needs vb vf]++(o7++o2))).cast (by simp)) ?_
 refine x_loopE (α:=Nat×List YL×Option Addr×Nat×List Blk) (β:=List YL×Option Addr×Nat×List Blk) (λ(j,_,_,_,_)=>[(0,v),(1,YI (i:Int)),(5,Zp b0 0),(7,.slice A7 xs.length c7),(8,Zp b8 0),(9,YI (k:Int)),(10,YI (atL l (i+k))),(11,Zp b11 0),(12,YI (j:Int))]) (λ(_,lst,A,c,o3)=>[GBb b11 k A lst.length c,G8b b8,G0b b0 nm pre bld a1 a2 a3 nA nc needs vb vf]++(o7++o2++o3)) (λ(j,lst,A,c,o3) m=>j<=2/\m=2-j/\OfS A c lst o3/\OfG needs keep lst (2*j)) (0,[],none,0,[]) 2
  (λ_=>[(0,v),(1,YI (i:Int)),(5,.pointer (some ⟨b0,0,none⟩)),(7,.slice A7 xs.length c7),(8,.pointer (some ⟨b8,0,none⟩)),(9,YI (k:Int)),(10,YI (atL l (i+k))),(11,.pointer (some ⟨b11,0,none⟩))]) (λ(lst,A,c,o3)=>[GBb b11 k A lst.length c,G8b b8,G0b b0 nm pre bld a1 a2 a3 nA nc needs vb vf]++(o7++o2++o3)) (λ(lst,A,c,o3)=>OfS A c lst o3/\OfG needs keep lst 4) [] ⟨by omega,rfl,OfS.nil,OfG.nil _ _⟩ ?_ ?_
 ·rintro ⟨j,lst,A,c,o3⟩ m2 g2 ⟨hj2,hm2,hf0,hg0⟩ nx2 nex
  refine zD 35 [2] ((j:Int)<needs.length) (λh35=>zD 38 [] ((j:Int)<2) (λh38=> ?_) (λh38=>nex (lst,A,c,o3) [] ⟨hf0,hg0.more Om⟩ Kr)) (λh35=>nex (lst,A,c,o3) [] ⟨hf0,hg0.more Om⟩ Kr)
  obtain rfl|rfl:j=0\/j=1:=by omega
  ·have hJ:0<needs.length:=by omega
   obtain ⟨nb,no,hnA,hnl⟩:=hN.elem vT 0 hJ
   have hmm:needs[0]∈needs:=List.getElem_mem hJ
   generalize needs[0]=md at hnl hmm
   have hol:=hopt md hmm
   refine zK 45 [2] hnA needs.length nc 0 3 hJ (zH 46 [] 72 nb (no+0*3+0) (nvV md) (λw hO=>hnl w hO.below _ 0 _ Kr) (zS [] λb13=>wT 49 [0,0] md.opt [] (λh49=> ?_) (λh49=>nI 57 [] ?_ ?_)))
   ·refine zD 69 [0] ((md.any.length:Int)=1) (λh69=>nI 77 [] ?_ ?_) (λh69=> ?_)
    ·obtain ⟨wd,hwd⟩:∃ w,md.any=[w]:=List.length_eq_one_iff.1 Om
     obtain ⟨wb,wo,hwA,hwl⟩:=(hWs md hmm).elem qC 0 Om
     obtain ⟨q0,hs0,hb0⟩:=hf0.ex
     have hwn:wd.name.length<=1000:=hnm md hmm wd (by simp [hwd])
     have hw0:md.any[0]'Om=wd:=by simp [hwd]
     refine vE 10 [] (bQ 50083 [1,0] 4 hwA md.any.length md.cap 0 4 Om (dF 50085 [] 6 9 wb (wo+0*4+0) (.string (mkS wd.name)) (λw hO=>hwl w hO.below _ 0 _ (by rw [hw0];kernel_rfl)) (qR 50086 [] 7 wd.name [47] (qR 50087 [] 8 (wd.name++[47]) [120] (zY [] 9 (gI (R:=tP (.slice A lst.length c) lst (wd.name++[47]++[120])) (λw hO=>kY (ob:=q0) (wd.name++[47]++[120]) w hs0 hf0.bare (hO.past 4 (o7++o2++o3)) (λb hb=>by have:=hb0 b hb;simp only [List.mem_append] at this ⊢;grind) (by have:=hg0.len;omega)) ?_))))))
     rintro _ ob0b hp0b
     obtain ⟨A0b,c0b,rfl,hf0b⟩:=hf0.put hp0b
     have hg0b:=hg0.put (.inr (.inl ⟨md,hmm,wd,hwd,rfl⟩))
     exact zP [1] ([GBb b11 k A0b ((yC lst (wd.name++[47]++[120])).length) c0b,G8b b8,G0b b0 nm pre bld a1 a2 a3 nA nc needs vb vf]++(o7++o2++(o3++ob0b))) (λw hO=>(hO.past 1 (([GBb b11 k A0b ((yC lst (wd.name++[47]++[120])).length) c0b,G8b b8,G0b b0 nm pre bld a1 a2 a3 nA nc needs vb vf]++(o7++o2++o3))++ob0b)).cast (by simp only [List.append_assoc,List.cons_append,List.nil_append])) (nx2 (1,(yC lst (wd.name++[47]++[120])),A0b,c0b,(o3++ob0b)) 1 [] Om ⟨by omega,rfl,hf0b,hg0b.more Om⟩ Kr Kr)
    ·exact zP [] ([GBb b11 k A lst.length c,G8b b8,G0b b0 nm pre bld a1 a2 a3 nA nc needs vb vf]++(o7++o2++o3)) (λw hO=>(hO.past 1 ([GBb b11 k A lst.length c,G8b b8,G0b b0 nm pre bld a1 a2 a3 nA nc needs vb vf]++(o7++o2++o3))).cast (by simp only [List.append_assoc,List.cons_append,List.nil_append])) (nx2 (1,lst,A,c,o3) 1 [] Om ⟨by omega,rfl,hf0,hg0.more Om⟩ Kr Kr)
    ·exact zP [] ([GBb b11 k A lst.length c,G8b b8,G0b b0 nm pre bld a1 a2 a3 nA nc needs vb vf]++(o7++o2++o3)) (λw hO=>(hO.past 1 ([GBb b11 k A lst.length c,G8b b8,G0b b0 nm pre bld a1 a2 a3 nA nc needs vb vf]++(o7++o2++o3))).cast (by simp only [List.append_assoc,List.cons_append,List.nil_append])) (nx2 (1,lst,A,c,o3) 1 [] Om ⟨by omega,rfl,hf0,hg0.more Om⟩ Kr Kr)
   ·obtain ⟨q0,hs0,hb0⟩:=hf0.ex
    refine kC 63 [1,0] [63] md.opt (xH (R:=tP (.slice A lst.length c) lst ([63]++md.opt)) [] (λw hO=>kY (ob:=q0) ([63]++md.opt) w hs0 hf0.bare (hO.past 4 (o7++o2++o3)) (λb hb=>by have:=hb0 b hb;simp only [List.mem_append] at this ⊢;grind) (by have:=hg0.len;omega)) ?_)
    rintro _ oba hpa
    obtain ⟨Aa,ca,rfl,hfa⟩:=hf0.put hpa
    have hga:=hg0.put (.inl ⟨md,hmm,h49,rfl⟩)
    refine zD 69 [1,0] ((md.any.length:Int)=1) (λh69=>nI 77 [] ?_ ?_) (λh69=> ?_)
    ·obtain ⟨wd,hwd⟩:∃ w,md.any=[w]:=List.length_eq_one_iff.1 Om
     obtain ⟨wb,wo,hwA,hwl⟩:=(hWs md hmm).elem qC 0 Om
     obtain ⟨qa,hsa,hba⟩:=hfa.ex
     have hwn:wd.name.length<=1000:=hnm md hmm wd (by simp [hwd])
     have hw0:md.any[0]'Om=wd:=by simp [hwd]
     refine vE 10 [] (bQ 50083 [1,0] 4 hwA md.any.length md.cap 0 4 Om (dF 50085 [] 6 9 wb (wo+0*4+0) (.string (mkS wd.name)) (λw hO=>hwl w hO.below _ 0 _ (by rw [hw0];kernel_rfl)) (qR 50086 [] 7 wd.name [47] (qR 50087 [] 8 (wd.name++[47]) [120] (zY [] 9 (gI (R:=tP (.slice Aa (yC lst ([63]++md.opt)).length ca) (yC lst ([63]++md.opt)) (wd.name++[47]++[120])) (λw hO=>kY (ob:=qa) (wd.name++[47]++[120]) w hsa hfa.bare (hO.past 4 ((o7++o2++o3)++oba)) (λb hb=>by have:=hba b hb;simp only [List.mem_append] at this ⊢;grind) (by have:=hga.len;omega)) ?_))))))
     rintro _ obab hpab
     obtain ⟨Aab,cab,rfl,hfab⟩:=hfa.put hpab
     have hgab:=hga.put (.inr (.inl ⟨md,hmm,wd,hwd,rfl⟩))
     exact zP [1] ([GBb b11 k Aab ((yC (yC lst ([63]++md.opt)) (wd.name++[47]++[120])).length) cab,G8b b8,G0b b0 nm pre bld a1 a2 a3 nA nc needs vb vf]++(o7++o2++((o3++oba)++obab))) (λw hO=>(hO.past 1 ((([GBb b11 k Aab ((yC (yC lst ([63]++md.opt)) (wd.name++[47]++[120])).length) cab,G8b b8,G0b b0 nm pre bld a1 a2 a3 nA nc needs vb vf]++(o7++o2++o3))++oba)++obab)).cast (by simp only [List.append_assoc,List.cons_append,List.nil_append])) (nx2 (1,(yC (yC lst ([63]++md.opt)) (wd.name++[47]++[120])),Aab,cab,((o3++oba)++obab)) 1 [] Om ⟨by omega,rfl,hfab,hgab.more Om⟩ Kr Kr)
    ·exact zP [] ([GBb b11 k Aa ((yC lst ([63]++md.opt)).length) ca,G8b b8,G0b b0 nm pre bld a1 a2 a3 nA nc needs vb vf]++(o7++o2++(o3++oba))) (λw hO=>(hO.past 1 (([GBb b11 k Aa ((yC lst ([63]++md.opt)).length) ca,G8b b8,G0b b0 nm pre bld a1 a2 a3 nA nc needs vb vf]++(o7++o2++o3))++oba)).cast (by simp only [List.append_assoc,List.cons_append,List.nil_append])) (nx2 (1,(yC lst ([63]++md.opt)),Aa,ca,(o3++oba)) 1 [] Om ⟨by omega,rfl,hfa,hga.more Om⟩ Kr Kr)
    ·exact zP [] ([GBb b11 k Aa ((yC lst ([63]++md.opt)).length) ca,G8b b8,G0b b0 nm pre bld a1 a2 a3 nA nc needs vb vf]++(o7++o2++(o3++oba))) (λw hO=>(hO.past 1 (([GBb b11 k Aa ((yC lst ([63]++md.opt)).length) ca,G8b b8,G0b b0 nm pre bld a1 a2 a3 nA nc needs vb vf]++(o7++o2++o3))++oba)).cast (by simp only [List.append_assoc,List.cons_append,List.nil_append])) (nx2 (1,(yC lst ([63]++md.opt)),Aa,ca,(o3++oba)) 1 [] Om ⟨by omega,rfl,hfa,hga.more Om⟩ Kr Kr)
   ·refine zD 69 [0] ((md.any.length:Int)=1) (λh69=>nI 77 [] ?_ ?_) (λh69=> ?_)
    ·obtain ⟨wd,hwd⟩:∃ w,md.any=[w]:=List.length_eq_one_iff.1 Om
     obtain ⟨wb,wo,hwA,hwl⟩:=(hWs md hmm).elem qC 0 Om
     obtain ⟨q0,hs0,hb0⟩:=hf0.ex
     have hwn:wd.name.length<=1000:=hnm md hmm wd (by simp [hwd])
     have hw0:md.any[0]'Om=wd:=by simp [hwd]
     refine vE 10 [] (bQ 50083 [1,0] 4 hwA md.any.length md.cap 0 4 Om (dF 50085 [] 6 9 wb (wo+0*4+0) (.string (mkS wd.name)) (λw hO=>hwl w hO.below _ 0 _ (by rw [hw0];kernel_rfl)) (qR 50086 [] 7 wd.name [47] (qR 50087 [] 8 (wd.name++[47]) [120] (zY [] 9 (gI (R:=tP (.slice A lst.length c) lst (wd.name++[47]++[120])) (λw hO=>kY (ob:=q0) (wd.name++[47]++[120]) w hs0 hf0.bare (hO.past 4 (o7++o2++o3)) (λb hb=>by have:=hb0 b hb;simp only [List.mem_append] at this ⊢;grind) (by have:=hg0.len;omega)) ?_))))))
     rintro _ ob0b hp0b
     obtain ⟨A0b,c0b,rfl,hf0b⟩:=hf0.put hp0b
     have hg0b:=hg0.put (.inr (.inl ⟨md,hmm,wd,hwd,rfl⟩))
     exact zP [1] ([GBb b11 k A0b ((yC lst (wd.name++[47]++[120])).length) c0b,G8b b8,G0b b0 nm pre bld a1 a2 a3 nA nc needs vb vf]++(o7++o2++(o3++ob0b))) (λw hO=>(hO.past 1 (([GBb b11 k A0b ((yC lst (wd.name++[47]++[120])).length) c0b,G8b b8,G0b b0 nm pre bld a1 a2 a3 nA nc needs vb vf]++(o7++o2++o3))++ob0b)).cast (by simp only [List.append_assoc,List.cons_append,List.nil_append])) (nx2 (1,(yC lst (wd.name++[47]++[120])),A0b,c0b,(o3++ob0b)) 1 [] Om ⟨by omega,rfl,hf0b,hg0b.more Om⟩ Kr Kr)
    ·exact zP [] ([GBb b11 k A lst.length c,G8b b8,G0b b0 nm pre bld a1 a2 a3 nA nc needs vb vf]++(o7++o2++o3)) (λw hO=>(hO.past 1 ([GBb b11 k A lst.length c,G8b b8,G0b b0 nm pre bld a1 a2 a3 nA nc needs vb vf]++(o7++o2++o3))).cast (by simp only [List.append_assoc,List.cons_append,List.nil_append])) (nx2 (1,lst,A,c,o3) 1 [] Om ⟨by omega,rfl,hf0,hg0.more Om⟩ Kr Kr)
    ·exact zP [] ([GBb b11 k A lst.length c,G8b b8,G0b b0 nm pre bld a1 a2 a3 nA nc needs vb vf]++(o7++o2++o3)) (λw hO=>(hO.past 1 ([GBb b11 k A lst.length c,G8b b8,G0b b0 nm pre bld a1 a2 a3 nA nc needs vb vf]++(o7++o2++o3))).cast (by simp only [List.append_assoc,List.cons_append,List.nil_append])) (nx2 (1,lst,A,c,o3) 1 [] Om ⟨by omega,rfl,hf0,hg0.more Om⟩ Kr Kr)
  ·have hJ:1<needs.length:=by omega
   obtain ⟨nb,no,hnA,hnl⟩:=hN.elem vT 1 hJ
   have hmm:needs[1]∈needs:=List.getElem_mem hJ
   generalize needs[1]=md at hnl hmm
   have hol:=hopt md hmm
   refine zK 45 [2] hnA needs.length nc 1 3 hJ (zH 46 [] 72 nb (no+1*3+0) (nvV md) (λw hO=>hnl w hO.below _ 0 _ Kr) (zS [] λb13=>wT 49 [0,0] md.opt [] (λh49=> ?_) (λh49=>nI 57 [] ?_ ?_)))
   ·refine zD 69 [0] ((md.any.length:Int)=1) (λh69=>nI 77 [] ?_ ?_) (λh69=> ?_)
    ·obtain ⟨wd,hwd⟩:∃ w,md.any=[w]:=List.length_eq_one_iff.1 Om
     obtain ⟨wb,wo,hwA,hwl⟩:=(hWs md hmm).elem qC 0 Om
     obtain ⟨q0,hs0,hb0⟩:=hf0.ex
     have hwn:wd.name.length<=1000:=hnm md hmm wd (by simp [hwd])
     have hw0:md.any[0]'Om=wd:=by simp [hwd]
     refine vE 10 [] (bQ 50083 [1,0] 4 hwA md.any.length md.cap 0 4 Om (dF 50085 [] 6 9 wb (wo+0*4+0) (.string (mkS wd.name)) (λw hO=>hwl w hO.below _ 0 _ (by rw [hw0];kernel_rfl)) (qR 50086 [] 7 wd.name [47] (qR 50087 [] 8 (wd.name++[47]) [120] (zY [] 9 (gI (R:=tP (.slice A lst.length c) lst (wd.name++[47]++[120])) (λw hO=>kY (ob:=q0) (wd.name++[47]++[120]) w hs0 hf0.bare (hO.past 4 (o7++o2++o3)) (λb hb=>by have:=hb0 b hb;simp only [List.mem_append] at this ⊢;grind) (by have:=hg0.len;omega)) ?_))))))
     rintro _ ob0b hp0b
     obtain ⟨A0b,c0b,rfl,hf0b⟩:=hf0.put hp0b
     have hg0b:=hg0.put (.inr (.inl ⟨md,hmm,wd,hwd,rfl⟩))
     exact zP [1] ([GBb b11 k A0b ((yC lst (wd.name++[47]++[120])).length) c0b,G8b b8,G0b b0 nm pre bld a1 a2 a3 nA nc needs vb vf]++(o7++o2++(o3++ob0b))) (λw hO=>(hO.past 1 (([GBb b11 k A0b ((yC lst (wd.name++[47]++[120])).length) c0b,G8b b8,G0b b0 nm pre bld a1 a2 a3 nA nc needs vb vf]++(o7++o2++o3))++ob0b)).cast (by simp only [List.append_assoc,List.cons_append,List.nil_append])) (nx2 (2,(yC lst (wd.name++[47]++[120])),A0b,c0b,(o3++ob0b)) 0 [] Om ⟨by omega,rfl,hf0b,hg0b.more Om⟩ Kr Kr)
    ·exact zP [] ([GBb b11 k A lst.length c,G8b b8,G0b b0 nm pre bld a1 a2 a3 nA nc needs vb vf]++(o7++o2++o3)) (λw hO=>(hO.past 1 ([GBb b11 k A lst.length c,G8b b8,G0b b0 nm pre bld a1 a2 a3 nA nc needs vb vf]++(o7++o2++o3))).cast (by simp only [List.append_assoc,List.cons_append,List.nil_append])) (nx2 (2,lst,A,c,o3) 0 [] Om ⟨by omega,rfl,hf0,hg0.more Om⟩ Kr Kr)
    ·exact zP [] ([GBb b11 k A lst.length c,G8b b8,G0b b0 nm pre bld a1 a2 a3 nA nc needs vb vf]++(o7++o2++o3)) (λw hO=>(hO.past 1 ([GBb b11 k A lst.length c,G8b b8,G0b b0 nm pre bld a1 a2 a3 nA nc needs vb vf]++(o7++o2++o3))).cast (by simp only [List.append_assoc,List.cons_append,List.nil_append])) (nx2 (2,lst,A,c,o3) 0 [] Om ⟨by omega,rfl,hf0,hg0.more Om⟩ Kr Kr)
   ·obtain ⟨q0,hs0,hb0⟩:=hf0.ex
    refine kC 63 [1,0] [63] md.opt (xH (R:=tP (.slice A lst.length c) lst ([63]++md.opt)) [] (λw hO=>kY (ob:=q0) ([63]++md.opt) w hs0 hf0.bare (hO.past 4 (o7++o2++o3)) (λb hb=>by have:=hb0 b hb;simp only [List.mem_append] at this ⊢;grind) (by have:=hg0.len;omega)) ?_)
    rintro _ oba hpa
    obtain ⟨Aa,ca,rfl,hfa⟩:=hf0.put hpa
    have hga:=hg0.put (.inl ⟨md,hmm,h49,rfl⟩)
    refine zD 69 [1,0] ((md.any.length:Int)=1) (λh69=>nI 77 [] ?_ ?_) (λh69=> ?_)
    ·obtain ⟨wd,hwd⟩:∃ w,md.any=[w]:=List.length_eq_one_iff.1 Om
     obtain ⟨wb,wo,hwA,hwl⟩:=(hWs md hmm).elem qC 0 Om
     obtain ⟨qa,hsa,hba⟩:=hfa.ex
     have hwn:wd.name.length<=1000:=hnm md hmm wd (by simp [hwd])
     have hw0:md.any[0]'Om=wd:=by simp [hwd]
     refine vE 10 [] (bQ 50083 [1,0] 4 hwA md.any.length md.cap 0 4 Om (dF 50085 [] 6 9 wb (wo+0*4+0) (.string (mkS wd.name)) (λw hO=>hwl w hO.below _ 0 _ (by rw [hw0];kernel_rfl)) (qR 50086 [] 7 wd.name [47] (qR 50087 [] 8 (wd.name++[47]) [120] (zY [] 9 (gI (R:=tP (.slice Aa (yC lst ([63]++md.opt)).length ca) (yC lst ([63]++md.opt)) (wd.name++[47]++[120])) (λw hO=>kY (ob:=qa) (wd.name++[47]++[120]) w hsa hfa.bare (hO.past 4 ((o7++o2++o3)++oba)) (λb hb=>by have:=hba b hb;simp only [List.mem_append] at this ⊢;grind) (by have:=hga.len;omega)) ?_))))))
     rintro _ obab hpab
     obtain ⟨Aab,cab,rfl,hfab⟩:=hfa.put hpab
     have hgab:=hga.put (.inr (.inl ⟨md,hmm,wd,hwd,rfl⟩))
     exact zP [1] ([GBb b11 k Aab ((yC (yC lst ([63]++md.opt)) (wd.name++[47]++[120])).length) cab,G8b b8,G0b b0 nm pre bld a1 a2 a3 nA nc needs vb vf]++(o7++o2++((o3++oba)++obab))) (λw hO=>(hO.past 1 ((([GBb b11 k Aab ((yC (yC lst ([63]++md.opt)) (wd.name++[47]++[120])).length) cab,G8b b8,G0b b0 nm pre bld a1 a2 a3 nA nc needs vb vf]++(o7++o2++o3))++oba)++obab)).cast (by simp only [List.append_assoc,List.cons_append,List.nil_append])) (nx2 (2,(yC (yC lst ([63]++md.opt)) (wd.name++[47]++[120])),Aab,cab,((o3++oba)++obab)) 0 [] Om ⟨by omega,rfl,hfab,hgab.more Om⟩ Kr Kr)
    ·exact zP [] ([GBb b11 k Aa ((yC lst ([63]++md.opt)).length) ca,G8b b8,G0b b0 nm pre bld a1 a2 a3 nA nc needs vb vf]++(o7++o2++(o3++oba))) (λw hO=>(hO.past 1 (([GBb b11 k Aa ((yC lst ([63]++md.opt)).length) ca,G8b b8,G0b b0 nm pre bld a1 a2 a3 nA nc needs vb vf]++(o7++o2++o3))++oba)).cast (by simp only [List.append_assoc,List.cons_append,List.nil_append])) (nx2 (2,(yC lst ([63]++md.opt)),Aa,ca,(o3++oba)) 0 [] Om ⟨by omega,rfl,hfa,hga.more Om⟩ Kr Kr)
    ·exact zP [] ([GBb b11 k Aa ((yC lst ([63]++md.opt)).length) ca,G8b b8,G0b b0 nm pre bld a1 a2 a3 nA nc needs vb vf]++(o7++o2++(o3++oba))) (λw hO=>(hO.past 1 (([GBb b11 k Aa ((yC lst ([63]++md.opt)).length) ca,G8b b8,G0b b0 nm pre bld a1 a2 a3 nA nc needs vb vf]++(o7++o2++o3))++oba)).cast (by simp only [List.append_assoc,List.cons_append,List.nil_append])) (nx2 (2,(yC lst ([63]++md.opt)),Aa,ca,(o3++oba)) 0 [] Om ⟨by omega,rfl,hfa,hga.more Om⟩ Kr Kr)
   ·refine zD 69 [0] ((md.any.length:Int)=1) (λh69=>nI 77 [] ?_ ?_) (λh69=> ?_)
    ·obtain ⟨wd,hwd⟩:∃ w,md.any=[w]:=List.length_eq_one_iff.1 Om
     obtain ⟨wb,wo,hwA,hwl⟩:=(hWs md hmm).elem qC 0 Om
     obtain ⟨q0,hs0,hb0⟩:=hf0.ex
     have hwn:wd.name.length<=1000:=hnm md hmm wd (by simp [hwd])
     have hw0:md.any[0]'Om=wd:=by simp [hwd]
     refine vE 10 [] (bQ 50083 [1,0] 4 hwA md.any.length md.cap 0 4 Om (dF 50085 [] 6 9 wb (wo+0*4+0) (.string (mkS wd.name)) (λw hO=>hwl w hO.below _ 0 _ (by rw [hw0];kernel_rfl)) (qR 50086 [] 7 wd.name [47] (qR 50087 [] 8 (wd.name++[47]) [120] (zY [] 9 (gI (R:=tP (.slice A lst.length c) lst (wd.name++[47]++[120])) (λw hO=>kY (ob:=q0) (wd.name++[47]++[120]) w hs0 hf0.bare (hO.past 4 (o7++o2++o3)) (λb hb=>by have:=hb0 b hb;simp only [List.mem_append] at this ⊢;grind) (by have:=hg0.len;omega)) ?_))))))
     rintro _ ob0b hp0b
     obtain ⟨A0b,c0b,rfl,hf0b⟩:=hf0.put hp0b
     have hg0b:=hg0.put (.inr (.inl ⟨md,hmm,wd,hwd,rfl⟩))
     exact zP [1] ([GBb b11 k A0b ((yC lst (wd.name++[47]++[120])).length) c0b,G8b b8,G0b b0 nm pre bld a1 a2 a3 nA nc needs vb vf]++(o7++o2++(o3++ob0b))) (λw hO=>(hO.past 1 (([GBb b11 k A0b ((yC lst (wd.name++[47]++[120])).length) c0b,G8b b8,G0b b0 nm pre bld a1 a2 a3 nA nc needs vb vf]++(o7++o2++o3))++ob0b)).cast (by simp only [List.append_assoc,List.cons_append,List.nil_append])) (nx2 (2,(yC lst (wd.name++[47]++[120])),A0b,c0b,(o3++ob0b)) 0 [] Om ⟨by omega,rfl,hf0b,hg0b.more Om⟩ Kr Kr)
    ·exact zP [] ([GBb b11 k A lst.length c,G8b b8,G0b b0 nm pre bld a1 a2 a3 nA nc needs vb vf]++(o7++o2++o3)) (λw hO=>(hO.past 1 ([GBb b11 k A lst.length c,G8b b8,G0b b0 nm pre bld a1 a2 a3 nA nc needs vb vf]++(o7++o2++o3))).cast (by simp only [List.append_assoc,List.cons_append,List.nil_append])) (nx2 (2,lst,A,c,o3) 0 [] Om ⟨by omega,rfl,hf0,hg0.more Om⟩ Kr Kr)
    ·exact zP [] ([GBb b11 k A lst.length c,G8b b8,G0b b0 nm pre bld a1 a2 a3 nA nc needs vb vf]++(o7++o2++o3)) (λw hO=>(hO.past 1 ([GBb b11 k A lst.length c,G8b b8,G0b b0 nm pre bld a1 a2 a3 nA nc needs vb vf]++(o7++o2++o3))).cast (by simp only [List.append_assoc,List.cons_append,List.nil_append])) (nx2 (2,lst,A,c,o3) 0 [] Om ⟨by omega,rfl,hf0,hg0.more Om⟩ Kr Kr)
 ·rintro ⟨lst,A,c,o3⟩ g2 ⟨hf0,hg0⟩
  refine zD 91 [] ((k:Int)<3) (λh91=>nI 96 [] (x_i 102 [] ((i+k:Nat):Int) (x_i 103 [] ((i+(k+1):Nat):Int) (z6 [] (λw hO=>fa (k+1) (by omega) w hO.below) (z6 [] (λw hO=>fp (atL l (i+(k+1))) w) (kT 106 [] (plc (atL l (i+(k+1))) 3=0) (λh5=> ?_) (λh5=> ?_)))))) ?_) (λh91=> ?_)
  ·refine gX [0] 1 148 #[.string (mkS (nmF k)),.slice A lst.length c] (λb12=>x_app [] [GBb b12 k A lst.length c,GBb b11 k A lst.length c,G8b b8,G0b b0 nm pre bld a1 a2 a3 nA nc needs vb vf] o7 (o2++o3) 0 (GBb b12 k A lst.length c::([GBb b11 k A lst.length c,G8b b8,G0b b0 nm pre bld a1 a2 a3 nA nc needs vb vf]++(o7++o2++o3))) (λw hO=>hO.cast (by simp only [List.append_assoc,List.cons_append,List.nil_append])) hO7.top (m:=1) (cp:=1) Om λv' o7' hS=> ?_)
   obtain ⟨A8,c8,rfl⟩:=Sl.form hS
   obtain ⟨q0,hs0,hb0⟩:=hf0.ex
   exact vU 7 [] (.slice A8 (xs.length+1) c8) (.slice A8 (xs++[(⟨nmF k,A,lst,c⟩:Fv)]).length c8) (by simp) (x_i 18 [] ((k+1:Nat):Int) (zP [] ([G8b b8,G0b b0 nm pre bld a1 a2 a3 nA nc needs vb vf]++(o7'++(o2++o3))) (λw hO=>(hO.past 2 ([G8b b8,G0b b0 nm pre bld a1 a2 a3 nA nc needs vb vf]++o7'++(o2++o3))).cast (by simp only [List.append_assoc,List.cons_append,List.nil_append])) (nx (k+1,xs++[⟨nmF k,A,lst,c⟩],A8,c8,o7',(o2++o3)) (4-(k+1)) [] Om ⟨by omega,rfl,(hO7.more (o2':=(o2++o3)) (λb hb=>by simp [hb])).add (x:=⟨nmF k,A,lst,c⟩) hS ⟨q0,hs0,λb hb=>by have:=hb0 b hb;simp only [List.mem_append] at this ⊢;grind⟩,hG.add (hk2 k h3) rfl (hg0.more Om)⟩ Kr Kr)))
  ·obtain ⟨q0,hs0,hb0⟩:=hf0.ex
   refine vE 7 [] (x_i 111 [0] ((k+1:Nat):Int) (xh_ixa 50112 [] 4 4 (k+1) 1 Om (xh_ldk 50113 [] 5 1 _ _ 9 _ (nmF_rd (k+1) Om) (zY [] 6 (gI (R:=tP (.slice A lst.length c) lst (nmF (k+1))) (λw hO=>kY (ob:=q0) (nmF (k+1)) w hs0 hf0.bare (hO.past 3 (o7++o2++o3)) (λb hb=>by have:=hb0 b hb;simp only [List.mem_append] at this ⊢;grind) (by have:=hg0.len;omega)) ?_)))))
   rintro _ oba hpa
   obtain ⟨Aa,ca,rfl,hfa⟩:=hf0.put hpa
   have hga:=hg0.put (.inr (.inr ⟨k+1,by omega,hk2 (k+1) h5,rfl⟩))
   refine gX [0,0] 1 148 #[.string (mkS (nmF k)),.slice Aa (yC lst (nmF (k+1))).length ca] (λb12=>x_app [] [GBb b12 k Aa ((yC lst (nmF (k+1))).length) ca,GBb b11 k Aa ((yC lst (nmF (k+1))).length) ca,G8b b8,G0b b0 nm pre bld a1 a2 a3 nA nc needs vb vf] o7 (o2++o3++oba) 0 (GBb b12 k Aa ((yC lst (nmF (k+1))).length) ca::(([GBb b11 k Aa ((yC lst (nmF (k+1))).length) ca,G8b b8,G0b b0 nm pre bld a1 a2 a3 nA nc needs vb vf]++(o7++o2++o3))++oba)) (λw hO=>hO.cast (by simp only [List.append_assoc,List.cons_append,List.nil_append])) hO7.top (m:=1) (cp:=1) Om λv' o7' hS=> ?_)
   obtain ⟨A8,c8,rfl⟩:=Sl.form hS
   obtain ⟨qa,hsa,hba⟩:=hfa.ex
   exact vU 7 [] (.slice A8 (xs.length+1) c8) (.slice A8 (xs++[(⟨nmF k,Aa,(yC lst (nmF (k+1))),ca⟩:Fv)]).length c8) (by simp) (x_i 18 [] ((k+1:Nat):Int) (zP [] ([G8b b8,G0b b0 nm pre bld a1 a2 a3 nA nc needs vb vf]++(o7'++(o2++o3++oba))) (λw hO=>(hO.past 2 ([G8b b8,G0b b0 nm pre bld a1 a2 a3 nA nc needs vb vf]++o7'++(o2++o3++oba))).cast (by simp only [List.append_assoc,List.cons_append,List.nil_append])) (nx (k+1,xs++[⟨nmF k,Aa,(yC lst (nmF (k+1))),ca⟩],A8,c8,o7',(o2++o3++oba)) (4-(k+1)) [] Om ⟨by omega,rfl,(hO7.more (o2':=(o2++o3++oba)) (λb hb=>by simp [hb])).add (x:=⟨nmF k,Aa,(yC lst (nmF (k+1))),ca⟩) hS ⟨qa,hsa,λb hb=>by have:=hba b hb;simp only [List.mem_append] at this ⊢;grind⟩,hG.add (hk2 k h3) rfl (hga.more Om)⟩ Kr Kr)))
  ·refine gX [0] 1 148 #[.string (mkS (nmF k)),.slice A lst.length c] (λb12=>x_app [] [GBb b12 k A lst.length c,GBb b11 k A lst.length c,G8b b8,G0b b0 nm pre bld a1 a2 a3 nA nc needs vb vf] o7 (o2++o3) 0 (GBb b12 k A lst.length c::([GBb b11 k A lst.length c,G8b b8,G0b b0 nm pre bld a1 a2 a3 nA nc needs vb vf]++(o7++o2++o3))) (λw hO=>hO.cast (by simp only [List.append_assoc,List.cons_append,List.nil_append])) hO7.top (m:=1) (cp:=1) Om λv' o7' hS=> ?_)
   obtain ⟨A8,c8,rfl⟩:=Sl.form hS
   obtain ⟨q0,hs0,hb0⟩:=hf0.ex
   exact vU 7 [] (.slice A8 (xs.length+1) c8) (.slice A8 (xs++[(⟨nmF k,A,lst,c⟩:Fv)]).length c8) (by simp) (x_i 18 [] ((k+1:Nat):Int) (zP [] ([G8b b8,G0b b0 nm pre bld a1 a2 a3 nA nc needs vb vf]++(o7'++(o2++o3))) (λw hO=>(hO.past 2 ([G8b b8,G0b b0 nm pre bld a1 a2 a3 nA nc needs vb vf]++o7'++(o2++o3))).cast (by simp only [List.append_assoc,List.cons_append,List.nil_append])) (nx (k+1,xs++[⟨nmF k,A,lst,c⟩],A8,c8,o7',(o2++o3)) (4-(k+1)) [] Om ⟨by omega,rfl,(hO7.more (o2':=(o2++o3)) (λb hb=>by simp [hb])).add (x:=⟨nmF k,A,lst,c⟩) hS ⟨q0,hs0,λb hb=>by have:=hb0 b hb;simp only [List.mem_append] at this ⊢;grind⟩,hG.add (hk2 k h3) rfl (hg0.more Om)⟩ Kr Kr)))
  ·refine gX [0] 1 148 #[.string (mkS (nmF k)),.slice A lst.length c] (λb12=>x_app [] [GBb b12 k A lst.length c,GBb b11 k A lst.length c,G8b b8,G0b b0 nm pre bld a1 a2 a3 nA nc needs vb vf] o7 (o2++o3) 0 (GBb b12 k A lst.length c::([GBb b11 k A lst.length c,G8b b8,G0b b0 nm pre bld a1 a2 a3 nA nc needs vb vf]++(o7++o2++o3))) (λw hO=>hO.cast (by simp only [List.append_assoc,List.cons_append,List.nil_append])) hO7.top (m:=1) (cp:=1) Om λv' o7' hS=> ?_)
   obtain ⟨A8,c8,rfl⟩:=Sl.form hS
   obtain ⟨q0,hs0,hb0⟩:=hf0.ex
   exact vU 7 [] (.slice A8 (xs.length+1) c8) (.slice A8 (xs++[(⟨nmF k,A,lst,c⟩:Fv)]).length c8) (by simp) (x_i 18 [] ((k+1:Nat):Int) (zP [] ([G8b b8,G0b b0 nm pre bld a1 a2 a3 nA nc needs vb vf]++(o7'++(o2++o3))) (λw hO=>(hO.past 2 ([G8b b8,G0b b0 nm pre bld a1 a2 a3 nA nc needs vb vf]++o7'++(o2++o3))).cast (by simp only [List.append_assoc,List.cons_append,List.nil_append])) (nx (k+1,xs++[⟨nmF k,A,lst,c⟩],A8,c8,o7',(o2++o3)) (4-(k+1)) [] Om ⟨by omega,rfl,(hO7.more (o2':=(o2++o3)) (λb hb=>by simp [hb])).add (x:=⟨nmF k,A,lst,c⟩) hS ⟨q0,hs0,λb hb=>by have:=hb0 b hb;simp only [List.mem_append] at this ⊢;grind⟩,hG.add (hk2 k h3) rfl (hg0.more Om)⟩ Kr Kr)))
end
section
structure Bv where
 name:YL
 rng:YL
 wh:YL
def bvC (x:Bv):List Value:=[.string (mkS x.name),.string (mkS x.rng),.string (mkS x.wh)]
structure BarG (own:Nat)(x:Bv):Prop where
 name:∃ k,k<4/\x.name=y0 ((own+1+k) % 5)
 rng:FewT x.rng
 wh:WhenT x.wh
structure NsO (A:Option Addr)(c:Nat)(xs:List Nv)(o1 o2:List Blk):Prop where
 top:Sl 72 3 (.slice A xs.length c) xs.length (xs.flatMap nvC) o1
 each:∀ x∈xs,∃ o,WsO x.A x.cap x.any o∧∀ b∈o,b∈o2
theorem NsO.nil:NsO none 0 [] [] []:=⟨Sl.nil _ _,λx h=>by simp at h⟩
theorem NsO.add {A A':Option Addr}{c c':Nat}{xs:List Nv}{o1 o1' o2 ob:List Blk}{x:Nv}(h:NsO A c xs o1 o2)(ht:Sl 72 3 (.slice A' (xs.length+1) c') (xs.length+1) (xs.flatMap nvC++nvC x) o1')(hx:WsO x.A x.cap x.any ob):NsO A' c' (xs++[x]) o1' (o2++ob):=
 ⟨by rw [List.length_append,List.length_singleton,List.flatMap_append,List.flatMap_singleton];exact ht,λy hy=>by
  rcases List.mem_append.1 hy with hy|hy
  ·obtain ⟨o,h1,h2⟩:=h.each y hy
   exact ⟨o,h1,λb hb=>List.mem_append_left _ (h2 b hb)⟩
  ·rw [List.mem_singleton.1 hy];exact ⟨ob,hx,λb hb=>List.mem_append_right _ hb⟩⟩
structure Rv where
 name:YL
 maj:Int
 min:Int
 pat:Int
 pre:YL
 bld:YL
 nA:Option Addr
 nc:Nat
 needs:List Nv
 bA:Option Addr
 bc:Nat
 bars:List Bv
 fA:Option Addr
 fc:Nat
 fts:List Fv
def rvC (x:Rv):List Value:=[.string (mkS x.name),YI x.maj,YI x.min,YI x.pat,.string (mkS x.pre),.string (mkS x.bld),.slice x.nA x.needs.length x.nc,.slice x.bA x.bars.length x.bc,.slice x.fA x.fts.length x.fc]
def rvV (x:Rv):Value:= .agg #[.string (mkS x.name),YI x.maj,YI x.min,YI x.pat,.string (mkS x.pre),.string (mkS x.bld),.slice x.nA x.needs.length x.nc,.slice x.bA x.bars.length x.bc,.slice x.fA x.fts.length x.fc]
def PbG (pre bld:YL):Prop:=(pre=[]/\bld=[])\/(pre=[114,99,46,49]/\bld=[])\/(pre=[]/\bld=[55])
structure RecG (own:Nat)(keep:Nat->Bool)(x:Rv):Prop where
 name:x.name=y0 (own % 5)
 ver:∃ a b:Nat,a<3/\b<2/\x.maj=a/\x.min=b/\x.pat=0
 pb:PbG x.pre x.bld
 nlen:x.needs.length<=2
 needs:∀ m∈x.needs,NeedG own m
 blen:x.bars.length<=1
 bars:∀ b∈x.bars,BarG own b
 fts:FeatsG x.needs keep 4 x.fts
structure RecO (x:Rv)(ob:List Blk):Prop where
 ex:∃ o1 o2 o4 o7 o8,ob=o4++(o1++o2)++(o7++o8)/\NsO x.nA x.nc x.needs o1 o2/\Sl 102 3 (.slice x.bA x.bars.length x.bc) x.bars.length (x.bars.flatMap bvC) o4/\FtO x.fA x.fc x.fts o7 o8
theorem nameT_len (k:Nat):(y0 k).length<=3:=by unfold y0;split<;>(try split)<;>(try split)<;>(try split)<;>simp
theorem NsO.reads {A:Option Addr}{c:Nat}{xs:List Nv}{o1 o2 L:List Blk}{M:List Nat}{W w:World}(h:NsO A c xs o1 o2)(hO:Own M W w L)(h1:∀ b∈o1,b∈L)(h2:∀ b∈o2,b∈L):Reads nvC w w.heap.size A xs∧∀ m∈xs,Reads wvC w w.heap.size m.A m.any:=
 ⟨Sl.reads h.top rfl hO h1,λm hm=>by
  obtain ⟨o,⟨⟨p1,p2,rfl,hp,_⟩⟩,ho⟩:=h.each m hm
  exact Sl.reads hp rfl hO λb hb=>h2 b (ho b (List.mem_append_left _ hb))⟩
theorem need_short {own:Nat}{x:Nv}(h:NeedG own x):x.opt.length<=1000∧∀ w∈x.any,w.name.length<=1000:=by
 refine ⟨?_,λw hw=> ?_⟩
 ·rcases h.opt with e|⟨j,_,e⟩
  ·rw [e];simp
  ·rw [e];have:=mF j;omega
 ·have key:∀ (a:Bool) (u:Wv),mC own a u->u.name.length<=1000:=λa u hu=>by
   obtain ⟨k,_,e⟩:=hu.name
   rw [e];have:=nameT_len ((own+1+k) % 5);omega
  rcases h.any with ⟨u,e,hu⟩|⟨u,z,e,hu,hz⟩
  ·rw [e] at hw;rw [List.mem_singleton.1 hw];exact key _ _ hu
  ·rw [e] at hw
   rcases List.mem_cons.1 hw with rfl|hw
   ·exact key _ _ hu
   ·rw [List.mem_singleton.1 hw];exact key _ _ hz
def NeedR (own:Nat)(v:Value)(ob:List Blk):Prop:=∃ x,v=nvV x/\NeedG own x/\WsO x.A x.cap x.any ob
theorem record_gen (v:Value)(l:List Int)(i own:Nat)(W:World)(hv:ReadsI W W.heap.size v l)(hl:l.length<=9223372036854775807)(hi:i<=1000)(ho:own<=1000):YC 20 #[v,YI (i:Int),YI (own:Int)] W λe w'=>∃ x ob,e= .returned (rvV x)/\(RecG own (λj=>decide (plc (atL l (i+52+j)) 3≠0)) x/\RecO x ob)/\Own [] W w' ob:=by
 obtain ⟨a,ha,ha3⟩:=yG (atL l i) 3 (by decide)
 obtain ⟨b,hb,hb2⟩:=yG (atL l (i+1)) 2 (by decide)
 obtain ⟨p,hp,hp9⟩:=yG (atL l (i+2)) 9 (by decide)
 obtain ⟨n4,hn,hn4⟩:=yG (atL l (i+3)) 4 (by decide)
 obtain ⟨m5,hm,hm5⟩:=yG (atL l (i+45)) 5 (by decide)
 obtain ⟨q4,hq,hq4⟩:=yG (atL l (i+46)) 4 (by decide)
 have f1:=x3 hv hl i 3 Om (by decide) (by decide) ha
 have f2:=x3 hv hl (i+1) 2 Om (by decide) (by decide) hb
 have f3:=x3 hv hl (i+2) 9 Om (by decide) (by decide) hp
 have f4:=x3 hv hl (i+3) 4 Om (by decide) (by decide) hn
 have f5:=x3 hv hl (i+45) 5 Om (by decide) (by decide) hm
 have f6:=x3 hv hl (i+46) 4 Om (by decide) (by decide) hq
 refine z8 Tryz.func20 (zS [] λb1=>z6 [] (λw hO=>name_at own w) (z6 [] (λw hO=>f1 w hO.below) (x_i 16 [] ((i+1:Nat):Int) (z6 [] (λw hO=>f2 w hO.below) (zS [] λb2=>x_i 22 [0] ((i+2:Nat):Int) (z6 [] (λw hO=>f3 w hO.below) ?_))))))
 refine wE (α:=YL) 24 (λ_=>[(0,v),(1,YI (i:Int)),(2,YI (own:Int)),(6,Zp b1 0),(7,Zp b2 0)]) (λpre=>[⟨b2, #[.string (mkS (y0 (own % 5))),YI a,YI b,YI 0,.string (mkS pre),.string (mkS []),.slice none 0 0,.slice none 0 0,.slice none 0 0],47⟩,⟨b1,ZE,47⟩]) (λpre=>(pre=[]∧¬ (p:Int)=1)\/(pre=[114,99,46,49]/\(p:Int)=1)) [] (λnj=>fY 24 ((p:Int)=1) (λh=>nj [114,99,46,49] [0] (.inr ⟨rfl,h⟩) Kr) (λh=>nj [] [] (.inl ⟨rfl,h⟩) Kr)) ?_
 rintro pre g hpre
 refine x_i 29 [] ((i+2:Nat):Int) (z6 [] (λw hO=>f3 w hO.below) ?_)
 refine wE (α:=YL) 31 (λ_=>[(0,v),(1,YI (i:Int)),(2,YI (own:Int)),(6,Zp b1 0),(7,Zp b2 0)]) (λbld=>[⟨b2, #[.string (mkS (y0 (own % 5))),YI a,YI b,YI 0,.string (mkS pre),.string (mkS bld),.slice none 0 0,.slice none 0 0,.slice none 0 0],47⟩,⟨b1,ZE,47⟩]) (λbld=>PbG pre bld) [] (λnj=>fY 31 ((p:Int)=2) (λh=>nj [55] [0] (hpre.elim (λq=> .inr (.inr ⟨q.1,rfl⟩)) (λq=>absurd q.2 Om)) Kr) (λh=>nj [] [] (hpre.elim (λq=> .inl ⟨q.1,rfl⟩) (λq=> .inr (.inl ⟨q.1,rfl⟩))) Kr)) ?_
 rintro bld g2 hpb
 refine x_i 36 [] ((i+3:Nat):Int) (z6 [] (λw hO=>f4 w hO.below) (d8 38 [] (YI ((n4 % 3:Nat):Int)) Kr ?_))
 refine zP [] ([⟨b2, #[.string (mkS (y0 (own % 5))),YI a,YI b,YI 0,.string (mkS pre),.string (mkS bld),.slice none 0 0,.slice none 0 0,.slice none 0 0],47⟩,⟨b1,ZE,47⟩]++([]++[])) (λw hO=>hO.past 0 _) ?_
 refine x_loopE (α:=Nat×List Nv×Option Addr×Nat×List Blk×List Blk) (β:=List Nv×Option Addr×Nat×List Blk×List Blk) (λ(k,_,_,_,_,_)=>[(0,v),(1,YI (i:Int)),(2,YI (own:Int)),(6,Zp b1 0),(7,Zp b2 0),(8,YI (k:Int))]) (λ(_,ns,A,c,o1,o2)=>[⟨b2, #[.string (mkS (y0 (own % 5))),YI a,YI b,YI 0,.string (mkS pre),.string (mkS bld),.slice A ns.length c,.slice none 0 0,.slice none 0 0],47⟩,⟨b1,ZE,47⟩]++(o1++o2)) (λ(k,ns,A,c,o1,o2) m=>m=k/\ns.length+k<=2/\NsO A c ns o1 o2∧∀ x∈ns,NeedG own x) (n4 % 3,[],none,0,[],[]) (n4 % 3)
  (λ_=>[(0,v),(1,YI (i:Int)),(2,YI (own:Int)),(6,.pointer (some ⟨b1,0,none⟩)),(7,.pointer (some ⟨b2,0,none⟩))]) (λ(ns,A,c,o1,o2)=>[⟨b2, #[.string (mkS (y0 (own % 5))),YI a,YI b,YI 0,.string (mkS pre),.string (mkS bld),.slice A ns.length c,.slice none 0 0,.slice none 0 0],47⟩,⟨b1,ZE,47⟩]++(o1++o2)) (λ(ns,A,c,o1,o2)=>ns.length<=2/\NsO A c ns o1 o2∧∀ x∈ns,NeedG own x) [] ⟨rfl,by simp;omega,NsO.nil,λx h=>by simp at h⟩ ?_ ?_
 ·rintro ⟨k,ns,A,c,o1,o2⟩ mk g3 ⟨rfl,hlen,hO1,hG⟩ nx nex
  refine zD 40 [] ((0:Int)<mk) (λh40=> ?_) (λh40=>nex (ns,A,c,o1,o2) [] ⟨by omega,hO1,hG⟩ Kr)
  obtain ⟨k,rfl⟩:∃ k,mk=k+1:=⟨mk-1,by omega⟩
  refine gQ 13 [] [⟨b2, #[.string (mkS (y0 (own % 5))),YI a,YI b,YI 0,.string (mkS pre),.string (mkS bld),.slice A ns.length c,.slice none 0 0,.slice none 0 0],47⟩] (λw hO=>hO.nth 0 _) (x_i 47 [0] ((i+4:Nat):Int) (x_i 49 [] ((20*(k+1):Nat):Int) (x_i 50 [] ((i+4+20*(k+1):Nat):Int) (vU 51 [] (YI (IntKind.i64.wrap (((i+4+20*(k+1):Nat):Int) -20))) (YI ((i+4+20*k:Nat):Int)) (by rw [IntWalk.i64_in _ Om];congr 1;omega) (zY [] 10 (gI (R:=NeedR own) (λw hO=>(need_gen v l (i+4+20*k) own w ((hv.below hO.below).more hO.size) hl Om Om).mono λe w' ⟨x,ob,h1,h2,h3⟩=>⟨_,ob,h1,⟨x,rfl,h2⟩,h3⟩) ?_))))))
  rintro _ ob ⟨x,rfl,hx,hxo⟩
  refine zY [] 11 (k7 1 72 (nvV x).cells λb3=>zY [] 12 (gV [⟨b3,(nvV x).cells,72⟩,⟨b2, #[.string (mkS (y0 (own % 5))),YI a,YI b,YI 0,.string (mkS pre),.string (mkS bld),.slice A ns.length c,.slice none 0 0,.slice none 0 0],47⟩,⟨b1,ZE,47⟩] o1 (o2++ob) 0 (⟨b3,(nvV x).cells,72⟩::(([⟨b2, #[.string (mkS (y0 (own % 5))),YI a,YI b,YI 0,.string (mkS pre),.string (mkS bld),.slice A ns.length c,.slice none 0 0,.slice none 0 0],47⟩,⟨b1,ZE,47⟩]++(o1++o2))++ob)) [⟨b2, #[.string (mkS (y0 (own % 5))),YI a,YI b,YI 0,.string (mkS pre),.string (mkS bld),.slice A ns.length c,.slice none 0 0,.slice none 0 0],47⟩] (λw hO=>hO.cast (by simp only [List.append_assoc,List.cons_append,List.nil_append])) (λo w hO=>hO.nth 1 _) hO1.top (m:=1) (cp:=1) Om λv' o1' hS=> ?_))
  obtain ⟨A',c',rfl⟩:=Sl.form hS
  refine vU 42 [1] (YI (IntKind.i64.wrap (((k+1:Nat):Int) -1))) (YI (k:Int)) (by rw [IntWalk.i64_in _ Om];congr 1;omega) (zP [] ([⟨b2, #[.string (mkS (y0 (own % 5))),YI a,YI b,YI 0,.string (mkS pre),.string (mkS bld),.slice A' (ns++[x]).length c',.slice none 0 0,.slice none 0 0],47⟩,⟨b1,ZE,47⟩]++(o1'++(o2++ob))) (λw hO=>(hO.past 1 ([⟨b2, #[.string (mkS (y0 (own % 5))),YI a,YI b,YI 0,.string (mkS pre),.string (mkS bld),.slice A' (ns.length+1) c',.slice none 0 0,.slice none 0 0],47⟩,⟨b1,ZE,47⟩]++o1'++(o2++ob))).cast (by simp only [List.append_assoc,List.cons_append,List.nil_append,List.length_append,List.length_cons,List.length_nil])) ?_)
  exact nx (k,ns++[x],A',c',o1',o2++ob) k [] Om ⟨rfl,by simp;omega,hO1.add hS hxo,λy hy=>by
   rcases List.mem_append.1 hy with hy|hy
   ·exact hG y hy
   ·rw [List.mem_singleton.1 hy];exact hx⟩ Kr Kr
 ·rintro ⟨ns,A,c,o1,o2⟩ g3 ⟨hlen,hO1,hG⟩
  refine x_i 59 [] ((i+45:Nat):Int) (z6 [] (λw hO=>f5 w hO.below) ?_)
  refine wE (α:=List Bv×Option Addr×Nat×List Blk) 61 (λ_=>[(0,v),(1,YI (i:Int)),(2,YI (own:Int)),(6,Zp b1 0),(7,Zp b2 0)]) (λ(bs,bA,bc,o4)=>[⟨b2, #[.string (mkS (y0 (own % 5))),YI a,YI b,YI 0,.string (mkS pre),.string (mkS bld),.slice A ns.length c,.slice bA bs.length bc,.slice none 0 0],47⟩,⟨b1,ZE,47⟩]++(o4++(o1++o2))) (λ(bs,bA,bc,o4)=>bs.length<=1/\(∀ y∈bs,BarG own y)/\Sl 102 3 (.slice bA bs.length bc) bs.length (bs.flatMap bvC) o4) [] (λnj=>fY 61 ((m5:Int)=1) (λh61=> ?_) (λh61=>nj ([],none,0,[]) [] ⟨by simp,λy h=>by simp at h,Sl.nil _ _⟩ Kr)) ?_
  ·refine gQ 21 [] [⟨b2, #[.string (mkS (y0 (own % 5))),YI a,YI b,YI 0,.string (mkS pre),.string (mkS bld),.slice A ns.length c,.slice none 0 0,.slice none 0 0],47⟩] (λw hO=>hO.nth 0 _) (x_i 65 [0] ((own+1:Nat):Int) (x_i 68 [] ((i+46:Nat):Int) (x_i 74 [] ((i+47:Nat):Int) (x_i 78 [] ((i+50:Nat):Int) (zY [] 7 (z6 [] (λw hO=>f6 w hO.below) (x_i 70 [] ((own+1+q4:Nat):Int) (zY [] 9 (z6 [] (λw hO=>name_at (own+1+q4) w) (zY [] 13 (jE (R:=λv=>∃ t,FewT t/\v= .string (mkS t)) [] (λw hO=>(few_gen v l (i+47) w ((hv.below hO.below).more hO.size) hl Om).mono λe w' ⟨t,h1,h2,h3⟩=>⟨_,h2,⟨t,h1,rfl⟩,h3⟩) ?_)))))))))))
   rintro _ ⟨t,ht,rfl⟩
   refine zY [] 17 (jE (R:=λv=>∃ t,WhenT t/\v= .string (mkS t)) [] (λw hO=>(when_gen v l (i+50) w ((hv.below hO.below).more hO.size) hl Om).mono λe w' ⟨t,h1,h2,h3⟩=>⟨_,h2,⟨t,h1,rfl⟩,h3⟩) ?_)
   rintro _ ⟨u,hu,rfl⟩
   refine zY [] 19 (k7 1 102 #[.string (mkS (y0 ((own+1+q4) % 5))),.string (mkS t),.string (mkS u)] λb3=>zY [] 20 (gV [⟨b3, #[.string (mkS (y0 ((own+1+q4) % 5))),.string (mkS t),.string (mkS u)],102⟩,⟨b2, #[.string (mkS (y0 (own % 5))),YI a,YI b,YI 0,.string (mkS pre),.string (mkS bld),.slice A ns.length c,.slice none 0 0,.slice none 0 0],47⟩,⟨b1,ZE,47⟩] [] (o1++o2) 0 (⟨b3, #[.string (mkS (y0 ((own+1+q4) % 5))),.string (mkS t),.string (mkS u)],102⟩::([⟨b2, #[.string (mkS (y0 (own % 5))),YI a,YI b,YI 0,.string (mkS pre),.string (mkS bld),.slice A ns.length c,.slice none 0 0,.slice none 0 0],47⟩,⟨b1,ZE,47⟩]++(o1++o2))) [⟨b2, #[.string (mkS (y0 (own % 5))),YI a,YI b,YI 0,.string (mkS pre),.string (mkS bld),.slice A ns.length c,.slice none 0 0,.slice none 0 0],47⟩] (λw hO=>hO.cast (by simp only [List.append_assoc,List.cons_append,List.nil_append])) (λo w hO=>hO.nth 1 _) (Sl.nil 102 3) (m:=1) (cp:=1) Om λv' o4 hS=> ?_))
   obtain ⟨bA,bc,rfl⟩:=Sl.form hS
   exact zP [1] ([⟨b2, #[.string (mkS (y0 (own % 5))),YI a,YI b,YI 0,.string (mkS pre),.string (mkS bld),.slice A ns.length c,.slice bA (0+1) bc,.slice none 0 0],47⟩,⟨b1,ZE,47⟩]++(o4++(o1++o2))) (λw hO=>(hO.past 1 ([⟨b2, #[.string (mkS (y0 (own % 5))),YI a,YI b,YI 0,.string (mkS pre),.string (mkS bld),.slice A ns.length c,.slice bA (0+1) bc,.slice none 0 0],47⟩,⟨b1,ZE,47⟩]++o4++(o1++o2))).cast (by simp only [List.append_assoc,List.cons_append,List.nil_append])) (nj ([⟨y0 ((own+1+q4) % 5),t,u⟩],bA,bc,o4) [] ⟨by simp,λy hy=>by rw [List.mem_singleton.1 hy];exact ⟨⟨q4,hq4,rfl⟩,ht,hu⟩,hS⟩ Kr)
  rintro ⟨bs,bA,bc,o4⟩ g4 ⟨hbl,hbG,hbS⟩
  refine x_i 86 [] ((i+52:Nat):Int) (xH (R:=λv ob=>∃ Af cf xs o7 o8,v= .slice Af xs.length cf/\ob=o7++o8/\FtO Af cf xs o7 o8/\FeatsG ns (λj=>decide (plc (atL l (i+52+j)) 3≠0)) 4 xs) [0] (λw hO=>have hr:=hO1.reads (hO.past 2 (o4++(o1++o2))) (λb hb=>by simp [hb]) (λb hb=>by simp [hb]);(features_gen v l (i+52) (y0 (own % 5)) pre bld a b 0 A c ns (.slice bA bs.length bc) (.slice none 0 0) w ((hv.below hO.below).more hO.size) hl Om hr.1 hr.2 Om (λm hm=>(need_short (hG m hm)).1) (λm hm=>(need_short (hG m hm)).2)).mono λe w' ⟨Af,cf,xs,o7,o8,h1,h2,h3⟩=>⟨_,_,h1,⟨Af,cf,xs,o7,o8,rfl,rfl,h2⟩,h3⟩) ?_)
  rintro _ _ ⟨Af,cf,xs,o7,o8,rfl,rfl,hF,hFG⟩
  exact j7 [0,0,1] 1 (rvV ⟨y0 (own % 5),a,b,0,pre,bld,A,c,ns,bA,bc,bs,Af,cf,xs⟩) λw hO=>⟨_,_,rfl,⟨⟨rfl,⟨a,b,ha3,hb2,rfl,rfl,rfl⟩,hpb,hlen,hG,hbl,hbG,hFG⟩,⟨o1,o2,o4,o7,o8,rfl,hO1,hbS,hF⟩⟩,hO.past 2 _⟩
end
section
def rngs:List YL:=[42]::[[94],[62,61],[60],[61],[33,61]].flatMap λs=>[48,49,50].flatMap λa=>[48,49].map λb=>s++[a,46,b,46,48]
def mrks:List YL:=[]::[[111,115],[97,114,99,104],[97,98,105]].flatMap λk=>[[32,61,32],[32,33,61,32]].flatMap λs=>[[120],[121],[122],[119,95,49]].map λw=>k++s++w
def x6 (s:YL):Bool:=rngs.contains s
def yM (s:YL):Bool:=mrks.contains s
def GdR (s:YL):Prop:=s∈rngs
def GdM (s:YL):Prop:=s∈mrks
abbrev GqR:=GdR
abbrev GqM:=GdM
theorem gqR_of {s:YL}(h:GdR s):GqR s:=h
theorem gqM_of {s:YL}(h:GdM s):GqM s:=h
theorem gdR_of {s:YL}(h:x6 s=true):GdR s:=List.contains_iff_mem.1 h
theorem gdM_of {s:YL}(h:yM s=true):GdM s:=List.contains_iff_mem.1 h
theorem rngs_all:∀ s∈rngs,(10:UInt8)∉s/\s≠[]/\s.length<=96:=by decide+kernel
theorem mrks_all:∀ s∈mrks,(10:UInt8)∉s/\s.length<=96:=by decide+kernel
theorem gqR_len {s:YL}(h:GqR s):s.length<=1000000:=Nat.le_trans (rngs_all s h).2.2 (by decide)
theorem gqM_len {s:YL}(h:GqM s):s.length<=1000000:=Nat.le_trans (mrks_all s h).2 (by decide)
theorem pg_short {s:YL}(h:x6 s=true):s.length<=96:=(rngs_all s (gdR_of h)).2.2
theorem pm_short {s:YL}(h:yM s=true):s.length<=96:=(mrks_all s (gdM_of h)).2
theorem plainG_in {s:YL}(h:GqR s):x6 s=true:=List.contains_iff_mem.2 h
theorem plainM_in {s:YL}(h:GqM s):yM s=true:=List.contains_iff_mem.2 h
end
section
def Wv.wt (x:Wv):Wt:=⟨x.name,x.rng,x.fs,x.bare⟩
def Nv.nt (x:Nv):Nt:=⟨x.any.map Wv.wt,x.wh,x.opt⟩
theorem bvC_len (x:Bv):(bvC x).length=3:=rfl
def bvV (x:Bv):Value:= .agg #[.string (mkS x.name),.string (mkS x.rng),.string (mkS x.wh)]
def Bv.bt (x:Bv):Bt:=⟨x.name,x.rng,x.wh⟩
def Rv.ver (x:Rv):Ver:=⟨x.maj,x.min,x.pat,x.pre,x.bld⟩
def Rv.rt (x:Rv):Rt:=⟨x.name,x.ver,x.needs.map Nv.nt,x.bars.map Bv.bt,y5 x.fts⟩
structure RcIn (w:World)(B:Nat)(x:Rv):Prop where
 needs:Reads nvC w B x.nA x.needs
 any:∀ n∈x.needs,Reads wvC w B n.A n.any
 wfs:∀ n∈x.needs,∀ u∈n.any,Reads y9 w B u.A u.fs
 bars:Reads bvC w B x.bA x.bars
 fts:FtIn w B x.fA x.fts
 nn:x.needs.length<=5000
 na:∀ n∈x.needs,n.any.length<=5000
 nf:∀ n∈x.needs,∀ u∈n.any,u.fs.length<=5000
 nb:x.bars.length<=5000
 sn:x.name.length<=1000000/\x.pre.length<=1000000/\x.bld.length<=1000000
 sw:∀ n∈x.needs,GqM n.wh/\n.opt.length<=1000000
 su:∀ n∈x.needs,∀ u∈n.any,u.name.length<=1000000/\GqR u.rng∧∀ s∈u.fs,s.length<=1000000
 sb:∀ b∈x.bars,b.name.length<=1000000/\GqR b.rng/\GqM b.wh
theorem RcIn.on {w w':World}{B B':Nat}{x:Rv}(h:RcIn w B x)(hb:Below B w w')(hB:B<=B'):RcIn w' B' x:=
 ⟨h.needs.on hb hB,λn hn=>(h.any n hn).on hb hB,λn hn u hu=>(h.wfs n hn u hu).on hb hB,h.bars.on hb hB,h.fts.on hb hB,h.nn,h.na,h.nf,h.nb,h.sn,h.sw,h.su,h.sb⟩
structure RcSm (w:World)(B:Nat)(x:Rv):Prop where
 needs:Reads nvC w B x.nA x.needs
 any:∀ n∈x.needs,Reads wvC w B n.A n.any
 wfs:∀ n∈x.needs,∀ u∈n.any,Reads y9 w B u.A u.fs
 bars:Reads bvC w B x.bA x.bars
 fts:FtIn w B x.fA x.fts
 nn:x.needs.length<=5000
 na:∀ n∈x.needs,n.any.length<=5000
 nf:∀ n∈x.needs,∀ u∈n.any,u.fs.length<=5000
 nb:x.bars.length<=5000
end
section
def dB (sep:YL):List YL->YL
 | []=>[]
 | [x]=>x
 |x::y::l=>x++sep++dB sep (y::l)
theorem joinB_two (sep x y:YL)(l:List YL):dB sep (x::y::l)=x++sep++dB sep (y::l):=rfl
def sumN:List Nat->Nat
 | []=>0
 |n::l=>n+sumN l
def altText (a:List Co):YL:=dB [44,32] (a.map Co.print)
def rgText (r:List (List Co)):YL:=dB [32,124,124,32] (r.map altText)
def fewA (a:List Co):Bool:=decide (1<=a.length/\a.length<=6) && a.all Co.may
def fewR (r:List (List Co)):Bool:=decide (1<=r.length/\r.length<=6) && r.all fewA
def rgMay (r:List (List Co)):Bool:=fewR r && decide ((rgText r).length<=96)
def rgPrint (r:List (List Co)):YL:=if rgMay r then rgText r else []
def xN:YL->YL
 | []=>[]
 |c::l=>if c=32 then xN l else c::l
def bareL (s:YL):YL:=(xN (xN s).reverse).reverse
def j6:YL->YL->List YL
 |acc,[]=>[acc]
 |acc,[c]=>[acc++[c]]
 |acc,c::d::r=>if c=124/\d=124 then acc::j6 [] r else j6 (acc++[c]) (d::r)
def allO {α β:Type}(f:α->Option β):List α->Option (List β)
 | []=>some []
 |x::l=>match f x,allO f l with
  |some y,some m=>some (y::m)
  |_,_=>none
def parseP (s:YL):Option Co:=parseC (bareL s)
def parseA (s:YL):Option (List Co):=allO parseP (zJ 44 [] s)
def parseAll (s:YL):Option (List (List Co)):=allO parseA (j6 [] s)
def parseG (s:YL):Option (List (List Co)):=if 96<s.length then none else (parseAll s).filter rgMay
def errG (s:YL):Int:=if 96<s.length then 3 else match parseAll s with
 |none=>6
 |some r=>if fewR r then (if (rgText r).length<=96 then 0 else 3) else 6
def blanks (n:Nat):YL:=List.replicate n 32
inductive Two {α β:Type} (R:α->β->Prop):List α->List β->Prop
 |nil:Two R [] []
 |cons {x:α} {y:β} {l:List α} {m:List β} (h:R x y) (t:Two R l m):Two R (x::l) (y::m)
def SpellC (s:YL)(c:Co):Prop:=∃ n m,s=blanks n++c.text++blanks m
def SpellA (s:YL)(a:List Co):Prop:=∃ ps,s=zE 44 ps/\Two SpellC ps a/\ps≠[]
def SpellR (s:YL)(r:List (List Co)):Prop:=∃ l,s=dB [124,124] l/\Two SpellA l r/\l≠[]
end
section
def qM (l:List YL)(alone:Bool):Bool:=l.all wdL && decide (l.length<=6) && yX l && (alone||decide (l=[]))
def k6 (own:YL)(x:Wt)(alone:Bool):Int:=
 if nmL x.name=false then 4 else if x.name=own then 8 else if x6 x.rng=false then 6 else if qM x.fs alone=false then 11 else 0
def y8 {α:Type}(f:α->Int):List α->Int
 | []=>0
 |a::r=>if f a=0 then y8 f r else f a
theorem gL {α:Type}{f:α->Int}:∀ {l:List α},(∀ x∈l,f x=0)->y8 f l=0
 | [],_=>rfl
 |a::r,h=>by rw [y8,if_pos (h a (List.mem_cons_self ..)),gL λx hx=>h x (List.mem_cons_of_mem _ hx)]
theorem bL {α:Type}{f:α->Int}:∀ {l:List α} {i:Nat} (hi:i<l.length),(∀ x∈l.take i,f x=0)->f l[i]≠0->y8 f l=f l[i]
 |a::r,0,_,_,h=>by
  have h':f a≠0:=h
  rw [y8,if_neg h'];rfl
 |a::r,i+1,hi,h0,h=>by
  rw [y8,if_pos (h0 a (by simp))]
  exact bL (l:=r) (i:=i) (by simpa using hi) (λx hx=>h0 x (by rw [List.take_succ_cons];exact List.mem_cons_of_mem _ hx)) h
theorem firstE_map {α β:Type}(f:β->Int)(g:α->β):∀ l:List α,y8 f (l.map g)=y8 (λx=>f (g x)) l
 | []=>rfl
 |a::r=>by rw [List.map_cons,y8,y8,firstE_map f g r]
def k5 {α:Type}(f:α->Int):Nat->List α->Int×Int
 |_,[]=>(0,0)
 |k,a::r=>if f a=0 then k5 f (k+1) r else (f a,(k:Int))
theorem kA {α:Type}{f:α->Int}:∀ {l:List α} {k:Nat},(∀ x∈l,f x=0)->k5 f k l=(0,0)
 | [],_,_=>rfl
 |a::r,k,h=>by rw [k5,if_pos (h a (List.mem_cons_self ..)),kA λx hx=>h x (List.mem_cons_of_mem _ hx)]
theorem vQ {α:Type}{f:α->Int}:∀ {l:List α} {i:Nat} (k:Nat) (hi:i<l.length),(∀ x∈l.take i,f x=0)->f l[i]≠0->k5 f k l=(f l[i],((k+i:Nat):Int))
 |a::r,0,k,_,_,h=>by
  have h':f a≠0:=h
  rw [k5,if_neg h'];rfl
 |a::r,i+1,k,hi,h0,h=>by
  rw [k5,if_pos (h0 a (by simp)),vQ (l:=r) (i:=i) (k+1) (by simpa using hi) (λx hx=>h0 x (by rw [List.take_succ_cons];exact List.mem_cons_of_mem _ hx)) h,show k+1+i=k+(i+1) by omega];rfl
theorem bX {α β:Type}(f:β->Int)(g:α->β):∀ (l:List α) (k:Nat),k5 f k (l.map g)=k5 (λx=>f (g x)) k l
 | [],_=>rfl
 |a::r,k=>by rw [List.map_cons,k5,k5,bX f g r]
def xF (own:YL)(n:Nt):Int:=
 if n.any=[] then 9 else if 3<n.any.length then 3 else if y8 (λx=>k6 own x (decide (n.any.length=1))) n.any≠0 then y8 (λx=>k6 own x (decide (n.any.length=1))) n.any
 else if yM n.wh=false then 7 else if n.opt≠[]/\wdL n.opt=false then 14 else 0
def gP (own:YL)(b:Bt):Int:=
 if nmL b.name=false then 4 else if b.name=own then 8 else if x6 b.rng=false then 6 else if yM b.wh=false then 7 else 0
def optR (l:List Nt)(s:YL):Bool:=l.any λn=>decide (n.opt=s)
def nY (s:YL)(n:Nt):Bool:=match n.any with
 | [x]=>decide (x.name=s)
 |_=>false
def pulR (l:List Nt)(s:YL):Bool:=l.any (nY s)
def yL (l:List Nt)(s:YL):Int:=
 if (zI s).1=2/\optR l (wordOf s)=false then 14 else if (zI s).1=3/\pulR l (wordOf s)=false then 16 else 0
def xE (r:Rt):Int×Int:=
 if (k5 (xF r.name) 0 r.needs).1≠0 then k5 (xF r.name) 0 r.needs
 else if (k5 (gP r.name) 0 r.bars).1≠0 then k5 (gP r.name) 0 r.bars
 else if qQ r.fts=false then (11,0)
 else k5 (λf:Ft=>y8 (yL r.needs) f.of) 0 r.fts
def zN (r:Rt):Int×Int:=
 if nmL r.name=false then (4,0) else if r.ver.may=false then (5,0) else if 8<r.needs.length\/8<r.bars.length then (3,0)
 else if (xE r).1≠0 then xE r else if 4096<(yT r).length then (3,0) else (0,0)
end
section
theorem firstE_zero {α:Type}{f:α->Int}:∀ {l:List α},y8 f l=0→∀ x∈l,f x=0
 | [],_,x,h=>by cases h
 |a::r,h,x,hx=>by
  by_cases h0:f a=0
  ·rw [y8,if_pos h0] at h
   rcases List.mem_cons.1 hx with rfl|hx
   ·exact h0
   ·exact firstE_zero h x hx
  ·rw [y8,if_neg h0] at h;exact absurd h h0
theorem wJ {α:Type}{f:α->Int}:∀ {l:List α} {k:Nat},(k5 f k l).1=0→∀ x∈l,f x=0
 | [],_,_,x,h=>by cases h
 |a::r,k,h,x,hx=>by
  by_cases h0:f a=0
  ·rw [k5,if_pos h0] at h
   rcases List.mem_cons.1 hx with rfl|hx
   ·exact h0
   ·exact wJ h x hx
  ·rw [k5,if_neg h0] at h;exact absurd h h0
theorem wI {α:Type}(f:α->YL)(k:Nat):∀ {l:List α},(∀ x∈l,(f x).length<=k)->(l.flatMap f).length<=l.length*k
 | [],_=>by simp
 |a::r,h=>by
  have h1:=h a (List.mem_cons_self ..)
  have h2:=wI f k (l:=r) λx hx=>h x (List.mem_cons_of_mem _ hx)
  rw [List.flatMap_cons,List.length_append,List.length_cons,Nat.add_mul];omega
theorem jn_most (b:UInt8)(k:Nat):∀ {l:List YL},(∀ x∈l,x.length<=k)->(zE b l).length<=l.length*(k+1)
 | [],_=>by simp [zE]
 | [a],h=>by
  have h1:=h a (List.mem_cons_self ..)
  rw [zE];simp only [List.length_cons,List.length_nil];omega
 |a::c::r,h=>by
  have h1:=h a (List.mem_cons_self ..)
  have h2:=jn_most b k (l:=c::r) λx hx=>h x (List.mem_cons_of_mem _ hx)
  rw [zE,List.length_append,List.length_cons,List.length_cons,Nat.add_mul];omega
theorem gZ {s:YL}(h:nmL s=true):s.length<=16:=by
 unfold nmL jV at h
 simp only [Bool.and_eq_true,decide_eq_true_eq] at h
 have:=h.1
 rwa [qX] at this
theorem dG {s:YL}(h:wdL s=true):s.length<=12:=by unfold wdL at h;simp only [Bool.and_eq_true,decide_eq_true_eq] at h;omega
theorem tS {s:YL}(h:yM s=true):(kR s).length<=102:=by
 have:=pm_short h
 unfold kR
 split
 ·simp
 ·simp only [List.length_append,bR,List.length_cons,List.length_nil];omega
theorem pT {own:YL}{x:Wt}{al:Bool}(h:k6 own x al=0):nmL x.name=true/\x6 x.rng=true/\qM x.fs al=true:=by
 unfold k6 at h
 cases h1:nmL x.name
 ·rw [if_pos h1] at h;simp at h
 ·rw [if_neg (by simp [h1])] at h
  split at h
  ·simp at h
  ·cases h2:x6 x.rng
   ·rw [if_pos h2] at h;simp at h
   ·rw [if_neg (by simp [h2])] at h
    cases h3:qM x.fs al
    ·rw [if_pos h3] at h;simp at h
    ·exact ⟨rfl,rfl,rfl⟩
theorem wishT_short {own:YL}{x:Wt}{al:Bool}(h:k6 own x al=0):(x7 x).length<=250:=by
 obtain ⟨h1,h2,h3⟩:=pT h
 have k1:=gZ h1
 have k2:=pg_short h2
 have k3:(qT x.fs).length<=79:=by
  unfold qM at h3
  simp only [Bool.and_eq_true,decide_eq_true_eq,List.all_eq_true] at h3
  unfold qT
  split
  ·simp
  ·have:=jn_most 44 12 (l:=x.fs) λs hs=>dG (h3.1.1.1 s hs)
   have:=h3.1.1.2;omega
 have k4:(vX x.bare).length=4:=by unfold vX;cases x.bare<;>rfl
 unfold x7
 simp only [List.length_append,txAny,List.length_cons,List.length_nil];omega
theorem fM {own:YL}{n:Nt}(h:xF own n=0):n.any≠[]/\n.any.length<=3/\(∀ x∈n.any,k6 own x (decide (n.any.length=1))=0)/\yM n.wh=true/\(n.opt=[]\/wdL n.opt=true):=by
 unfold xF at h
 by_cases h1:n.any=[]
 ·rw [if_pos h1] at h;simp at h
 ·rw [if_neg h1] at h
  by_cases h2:3<n.any.length
  ·rw [if_pos h2] at h;simp at h
  ·rw [if_neg h2] at h
   by_cases h3:y8 (λx=>k6 own x (decide (n.any.length=1))) n.any=0
   ·rw [if_neg (by simp [h3])] at h
    cases h4:yM n.wh
    ·rw [if_pos h4] at h;simp at h
    ·rw [if_neg (by simp [h4])] at h
     refine ⟨h1,by omega,firstE_zero h3,rfl, ?_⟩
     by_cases h5:n.opt=[]
     ·exact .inl h5
     ·cases h6:wdL n.opt
      ·rw [if_pos ⟨h5,h6⟩] at h;simp at h
      ·exact .inr rfl
   ·rw [if_pos h3] at h;exact absurd h h3
theorem needT_short {own:YL}{n:Nt}(h:xF own n=0):(x8 n).length<=900:=by
 obtain ⟨_,h2,h3,h4,h5⟩:=fM h
 have k1:=wI x7 250 (l:=n.any) λx hx=>wishT_short (h3 x hx)
 have k2:=tS h4
 have k3:(dU n.opt).length<=20:=by
  unfold dU
  split
  ·simp
  ·rcases h5 with e|e
   ·contradiction
   ·have:=dG e
    simp only [List.length_append,txOpt,List.length_cons,List.length_nil];omega
 unfold x8
 simp only [List.length_append,txNeed,List.length_cons,List.length_nil];omega
theorem bar_fine {own:YL}{b:Bt}(h:gP own b=0):nmL b.name=true/\x6 b.rng=true/\yM b.wh=true:=by
 unfold gP at h
 cases h1:nmL b.name
 ·rw [if_pos h1] at h;simp at h
 ·rw [if_neg (by simp [h1])] at h
  split at h
  ·simp at h
  ·cases h2:x6 b.rng
   ·rw [if_pos h2] at h;simp at h
   ·rw [if_neg (by simp [h2])] at h
    cases h3:yM b.wh
    ·rw [if_pos h3] at h;simp at h
    ·exact ⟨rfl,rfl,rfl⟩
theorem barT_short {own:YL}{b:Bt}(h:gP own b=0):(qB b).length<=300:=by
 obtain ⟨h1,h2,h3⟩:=bar_fine h
 have k1:=gZ h1
 have k2:=pg_short h2
 have k3:=tS h3
 unfold qB
 simp only [List.length_append,txBar,List.length_cons,List.length_nil];omega
theorem mR {r:Rt}(h:(xE r).1=0):(∀ n∈r.needs,xF r.name n=0)/\(∀ b∈r.bars,gP r.name b=0)/\qQ r.fts=true∧∀ f∈r.fts,y8 (yL r.needs) f.of=0:=by
 unfold xE at h
 by_cases h1:(k5 (xF r.name) 0 r.needs).1=0
 ·rw [if_neg (by simp [h1])] at h
  by_cases h2:(k5 (gP r.name) 0 r.bars).1=0
  ·rw [if_neg (by simp [h2])] at h
   cases h3:qQ r.fts
   ·rw [if_pos h3] at h;simp at h
   ·rw [if_neg (by simp [h3])] at h
    exact ⟨wJ h1,wJ h2,rfl,wJ h⟩
  ·rw [if_pos h2] at h;exact absurd h h2
 ·rw [if_pos h1] at h;exact absurd h h1
theorem rec_small {r:Rt}(hn:r.name.length<=1000000)(hv:r.ver.print.length<=3000000)(h8:r.needs.length<=8)(hb8:r.bars.length<=8)(hp:(xE r).1=0)(hf:∀ f∈r.fts,∀ s∈f.of,s.length<=1000000):(yT r).length<=100000000:=by
 obtain ⟨h1,h2,h3,_⟩:=mR hp
 unfold qQ at h3
 simp only [Bool.and_eq_true,decide_eq_true_eq,List.all_eq_true] at h3
 have k1:=wI x8 900 (l:=r.needs) λn hx=>needT_short (h1 n hx)
 have k2:=wI qB 300 (l:=r.bars) λn hx=>barT_short (h2 n hx)
 have k3:=wI xM 9000000 (l:=r.fts) λf hx=>by
  have e1:=h3.2 f hx
  unfold x2 at e1
  simp only [Bool.and_eq_true,decide_eq_true_eq] at e1
  have e2:=jn_most 32 1000000 (l:=x1::f.name::f.of) λs hs=>by
   rcases List.mem_cons.1 hs with rfl|hs
   ·decide
   ·rcases List.mem_cons.1 hs with rfl|hs
    ·have:=dG (h3.1.1.2 f hx);omega
    ·exact hf f hx s hs
  unfold xM
  simp only [List.length_append,List.length_cons,List.length_nil] at e2 ⊢
  have:=e1.1.1;omega
 have k4:=h3.1.1.1
 unfold yT gB
 simp only [List.length_append,txPack,List.length_cons,List.length_nil];omega
theorem yN {r:Rt}(h:(zN r).1=0):nmL r.name=true/\r.ver.may=true/\r.needs.length<=8/\r.bars.length<=8/\(xE r).1=0/\(yT r).length<=4096:=by
 unfold zN at h
 cases h1:nmL r.name
 ·rw [if_pos h1] at h;simp at h
 ·rw [if_neg (by simp [h1])] at h
  cases h2:r.ver.may
  ·rw [if_pos h2] at h;simp at h
  ·rw [if_neg (by simp [h2])] at h
   by_cases h3:8<r.needs.length\/8<r.bars.length
   ·rw [if_pos h3] at h;simp at h
   ·rw [if_neg h3] at h
    by_cases h4:(xE r).1=0
    ·rw [if_neg (by simp [h4])] at h
     by_cases h5:4096<(yT r).length
     ·rw [if_pos h5] at h;simp at h
     ·exact ⟨rfl,rfl,by omega,by omega,h4,by omega⟩
    ·rw [if_pos h4] at h;exact absurd h h4
def j9 (r:Rt):YL:=if (zN r).1=0 then yT r else []
end
section
def dK:UInt64:=0xFF51AFD7ED558CCD
def dI:UInt64:=0x9E3779B97F4A7C15
def jS (x:UInt64):UInt64:=x<<<13|||x>>>51
def dStep (h:UInt64)(b:UInt8):UInt64:=jS (h^^^b.toUInt64)*dK
def dMix (l:YL):UInt64:=l.foldl dStep dI
def dEnd (h:UInt64):UInt64:=h^^^h>>>29
def fX (l:YL):UInt64:=dEnd (dMix l)
def dBytes (n:UInt64):YL:=([56,48,40,32,24,16,8,0]:List UInt64).map λk=>(n>>>k).toUInt8
def dPair (a b:UInt64):UInt64:=fX (dBytes a++dBytes b)
def dRoot (l:List UInt64):UInt64:=l.foldl dPair (fX [])
end
section
def yE (r:Rt):Int:=if (zN r).1=0 then ((fX (yT r)).toNat:Int) else 0
structure Et where
 rc:Rt
 sum:Int
 yk:Bool
deriving DecidableEq
structure Sh where
 name:YL
 es:List Et
deriving DecidableEq
def nilSh:Sh:=⟨[],[]⟩
def oneV (a v:Ver):Bool:=a.may && v.may && decide (zX a v=0)
def jJ (n:YL)(v:Ver)(e:Et):Bool:=decide (e.rc.name=n) && oneV e.rc.ver v
def yD (l:List Et)(n:YL)(v:Ver):Int:=match l.findIdx? (jJ n v) with
 |some i=>(i:Int)
 |none=> -1
theorem place_none {l:List Et}{n:YL}{v:Ver}:yD l n v= -1↔∀ e∈l,jJ n v e=false:=by
 unfold yD
 rw [←List.findIdx?_eq_none_iff]
 cases h:l.findIdx? (jJ n v) with
 |none=>simp
 |some i=>simp
theorem place_at {l:List Et}{n:YL}{v:Ver}{i:Nat}(hi:i<l.length)(h0:∀ e∈l.take i,jJ n v e=false)(h1:jJ n v l[i]=true):yD l n v=(i:Int):=by
 unfold yD
 have:l.findIdx? (jJ n v)=some i:=List.findIdx?_eq_some_iff_getElem.2 ⟨hi,h1,λj hj=>by
  have:=h0 l[j] (List.mem_take_iff_getElem.2 ⟨j,by omega,rfl⟩)
  simp [this]⟩
 rw [this]
theorem place_some {l:List Et}{n:YL}{v:Ver}(h:yD l n v≠ -1):∃ i,∃ hi:i<l.length,yD l n v=(i:Int)/\jJ n v l[i]=true∧∀ e∈l.take i,jJ n v e=false:=by
 unfold yD at h ⊢
 cases hq:l.findIdx? (jJ n v) with
 |none=>rw [hq] at h;exact absurd rfl h
 |some i=>
  obtain ⟨hi,h1,h2⟩:=List.findIdx?_eq_some_iff_getElem.1 hq
  refine ⟨i,hi,rfl,h1,λe he=> ?_⟩
  obtain ⟨j,hj,rfl⟩:=List.mem_take_iff_getElem.1 he
  have:=h2 j Om
  simpa using this
theorem place_ge (l:List Et)(n:YL)(v:Ver):yD l n v= -1\/0<=yD l n v:=by
 by_cases h:yD l n v= -1
 ·exact .inl h
 ·obtain ⟨i,_,e,_⟩:=place_some h
  exact .inr Om
def okE (e:Et):Prop:=(zN e.rc).1=0/\yE e.rc=e.sum
def sumU (e:Et):UInt64:=UInt64.ofNat e.sum.toNat
structure yS (s:Sh):Prop where
 name:nmL s.name=true
 few:s.es.length<=64
 ok:∀ e∈s.es,okE e
 apart:s.es.Pairwise λa b=>jJ b.rc.name b.rc.ver a=false
instance:DecidablePred okE:=λe=>by unfold okE;infer_instance
instance:DecidablePred yS:=λs=>decidable_of_iff (nmL s.name=true/\s.es.length<=64/\(∀ e∈s.es,okE e)/\s.es.Pairwise λa b=>jJ b.rc.name b.rc.ver a=false) ⟨λ⟨a,b,c,d⟩=>⟨a,b,c,d⟩,λh=>⟨h.name,h.few,h.ok,h.apart⟩⟩
def markY:List Et->Nat->Bool->List Et
 | [],_,_=>[]
 |e::r,0,on=>{e with yk:=on}::r
 |e::r,i+1,on=>e::markY r i on
def coreE (e:Et):Rt×Int:=(e.rc,e.sum)
theorem may_core {s t:Sh}(hn:s.name=t.name)(he:s.es.map coreE=t.es.map coreE)(h:yS s):yS t:=by
 have hl:s.es.length=t.es.length:=by have:=congrArg List.length he;simpa using this
 refine ⟨hn▸h.name,by have:=h.few;omega,λe he'=> ?_, ?_⟩
 ·have:coreE e∈s.es.map coreE:=he▸List.mem_map_of_mem he'
  obtain ⟨a,ha,q⟩:=List.mem_map.1 this
  have h1:=h.ok a ha
  have e1:a.rc=e.rc:=congrArg Prod.fst q
  have e2:a.sum=e.sum:=congrArg Prod.snd q
  unfold okE at h1 ⊢
  rw [e1,e2] at h1;exact h1
 ·have key:∀ l:List Et,(l.Pairwise λa b=>jJ b.rc.name b.rc.ver a=false)↔(l.map coreE).Pairwise λa b=>(decide (a.1.name=b.1.name) && oneV a.1.ver b.1.ver)=false:=λl=>by
   rw [List.pairwise_map];rfl
  rw [key,←he,←key];exact h.apart
theorem put_may {s:Sh}{r:Rt}(h:yS s)(hr:(zN r).1=0)(hp:yD s.es r.name r.ver= -1)(hl:s.es.length<64):yS ⟨s.name,s.es++[⟨r,yE r,false⟩]⟩:=by
 refine ⟨h.name,by rw [List.length_append,List.length_singleton];omega,λe he=> ?_, ?_⟩
 ·rcases List.mem_append.1 he with he|he
  ·exact h.ok e he
  ·rw [List.mem_singleton.1 he];exact ⟨hr,rfl⟩
 ·rw [List.pairwise_append]
  refine ⟨h.apart,List.pairwise_singleton _ _,λa ha b hb=> ?_⟩
  rw [List.mem_singleton.1 hb]
  exact place_none.1 hp a ha
def nX (s:Sh)(r:Rt):Sh×Int:=
 if yS s then if (zN r).1=0 then if yD s.es r.name r.ver= -1 then if s.es.length=64 then (nilSh,10) else (⟨s.name,s.es++[⟨r,yE r,false⟩]⟩,0) else (nilSh,8) else (nilSh,(zN r).1) else (nilSh,1)
def yankS (s:Sh)(n:YL)(v:Ver)(on:Bool):Sh×Int:=
 if yS s then if yD s.es n v= -1 then (nilSh,9) else (⟨s.name,markY s.es (yD s.es n v).toNat on⟩,0) else (nilSh,1)
def findS (s:Sh)(n:YL)(v:Ver):Int:=if yS s then yD s.es n v else-1
def GrownS (a b:Sh):Prop:=yS a/\yS b/\a.name=b.name/\a.es.length<=b.es.length/\a.es.map Et.rc=(b.es.take a.es.length).map Et.rc
instance (a b:Sh):Decidable (GrownS a b):=by unfold GrownS;infer_instance
end
section
structure LsO {α:Type}(T:TypeId)(k:Nat)(C:α->List Value)(O:α->List Blk->Prop)(A:Option Addr)(c:Nat)(xs:List α)(o1 o2:List Blk):Prop where
 top:Sl T k (.slice A xs.length c) xs.length (xs.flatMap C) o1
 each:∀ x∈xs,∃ o,O x o∧∀ b∈o,b∈o2
section
variable {α:Type}{T:TypeId}{k:Nat}{C:α->List Value}{O:α->List Blk->Prop}
theorem LsO.nil:LsO T k C O none 0 [] [] []:=⟨Sl.nil _ _,λx h=>by simp at h⟩
theorem LsO.add {A A':Option Addr}{c c':Nat}{xs:List α}{o1 o1' o2 ob:List Blk}{x:α}(h:LsO T k C O A c xs o1 o2)(ht:Sl T k (.slice A' (xs.length+1) c') (xs.length+1) (xs.flatMap C++C x) o1')(hx:O x ob):LsO T k C O A' c' (xs++[x]) o1' (o2++ob):=
 ⟨by rw [List.length_append,List.length_singleton,List.flatMap_append,List.flatMap_singleton];exact ht,λy hy=>by
  rcases List.mem_append.1 hy with hy|hy
  ·obtain ⟨o,h1,h2⟩:=h.each y hy
   exact ⟨o,h1,λb hb=>List.mem_append_left _ (h2 b hb)⟩
  ·rw [List.mem_singleton.1 hy];exact ⟨ob,hx,λb hb=>List.mem_append_right _ hb⟩⟩
end
structure Ev where
 rec':Rv
 sum:Int
 yk:Bool
def evC (x:Ev):List Value:=rvC x.rec'++[.int .u64 x.sum,.bool x.yk]
theorem gE (x:Ev):(evC x).length=11:=rfl
def evV (x:Ev):Value:= .agg #[.string (mkS x.rec'.name),YI x.rec'.maj,YI x.rec'.min,YI x.rec'.pat,.string (mkS x.rec'.pre),.string (mkS x.rec'.bld),.slice x.rec'.nA x.rec'.needs.length x.rec'.nc,.slice x.rec'.bA x.rec'.bars.length x.rec'.bc,.slice x.rec'.fA x.rec'.fts.length x.rec'.fc,.int .u64 x.sum,.bool x.yk]
def Ev.et (x:Ev):Et:=⟨x.rec'.rt,x.sum,x.yk⟩
structure Hv where
 name:YL
 A:Option Addr
 cap:Nat
 es:List Ev
def hvV (x:Hv):Value:= .agg #[.string (mkS x.name),.slice x.A x.es.length x.cap]
def Hv.sh (x:Hv):Sh:=⟨x.name,x.es.map Ev.et⟩
abbrev hvB (b:Nat)(x:Hv):Blk:=⟨b, #[.string (mkS x.name),.slice x.A x.es.length x.cap],24⟩
abbrev rvB (b:Nat)(x:Rv):Blk:=⟨b, #[.string (mkS x.name),YI x.maj,YI x.min,YI x.pat,.string (mkS x.pre),.string (mkS x.bld),.slice x.nA x.needs.length x.nc,.slice x.bA x.bars.length x.bc,.slice x.fA x.fts.length x.fc],47⟩
abbrev evB (b:Nat)(u:Ev):Blk:=⟨b, #[.string (mkS u.rec'.name),YI u.rec'.maj,YI u.rec'.min,YI u.rec'.pat,.string (mkS u.rec'.pre),.string (mkS u.rec'.bld),.slice u.rec'.nA u.rec'.needs.length u.rec'.nc,.slice u.rec'.bA u.rec'.bars.length u.rec'.bc,.slice u.rec'.fA u.rec'.fts.length u.rec'.fc,.int .u64 u.sum,.bool u.yk],69⟩
structure EsIn (w:World)(B:Nat)(A:Option Addr)(es:List Ev):Prop where
 top:Reads evC w B A es
 each:∀ e∈es,RcIn w B e.rec'
 n:es.length<=5000
theorem EsIn.on {w w':World}{B B':Nat}{A:Option Addr}{es:List Ev}(h:EsIn w B A es)(hb:Below B w w')(hB:B<=B'):EsIn w' B' A es:=⟨h.top.on hb hB,λe he=>(h.each e he).on hb hB,h.n⟩
structure ShIn (w:World)(B:Nat)(x:Hv):Prop where
 es:EsIn w B x.A x.es
 le:x.es.length<=x.cap
 sn:x.name.length<=1000000
theorem ShIn.on {w w':World}{B B':Nat}{x:Hv}(h:ShIn w B x)(hb:Below B w w')(hB:B<=B'):ShIn w' B' x:=⟨h.es.on hb hB,h.le,h.sn⟩
def ShO (x:Hv)(ob:List Blk):Prop:=∃ o1 o2,ob=o1++o2/\LsO 69 11 evC (λe o=>RecO e.rec' o) x.A x.cap x.es o1 o2
end
end Go.Proofs.YtflhcaljcoekpaaGreatDoor
