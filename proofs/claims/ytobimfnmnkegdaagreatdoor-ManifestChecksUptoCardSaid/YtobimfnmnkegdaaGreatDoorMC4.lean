import Derived.Lib.SplitLaws
import Derived.Lib.TrimByte
import Derived.Lib.Join
import Derived.Lib.MakeNoZero
import Derived.Laws.IdiomCopy
import Derived.Shelf.Strings.SplitCore
import Derived.Test.YtobimfnmnkegdaaGreatDoorMC3
set_option maxRecDepth 1000000
set_option maxHeartbeats 8000000
set_option linter.unusedVariables false
set_option linter.unusedSimpArgs false
set_option linter.unnecessarySimpa false
namespace Go.Proofs.YtobimfnmnkegdaaGreatDoor
open Go.RowKit

section
def Wv.wt (x:Wv):Wt:=⟨x.name,x.rng,x.fs,x.bare⟩
def Nv.nt (x:Nv):Nt:=⟨x.any.map Wv.wt,x.wh,x.opt⟩
theorem bvC_len (x:Bv):(bvC x).length=3:=rfl
def bvV (x:Bv):Value:= .agg #[.string (mkS x.name),.string (mkS x.rng),.string (mkS x.wh)]
def Bv.bt (x:Bv):Bt:=⟨x.name,x.rng,x.wh⟩
def Rv.ver (x:Rv):Ver:=⟨x.maj,x.min,x.pat,x.pre,x.bld⟩
def Rv.rt (x:Rv):Rt:=⟨x.name,x.ver,x.needs.map Nv.nt,x.bars.map Bv.bt,yT x.fts⟩
structure RcIn (w:World)(B:Nat)(x:Rv):Prop where
 needs:Reads nvC w B x.nA x.needs
 any:∀ n∈x.needs,Reads wvC w B n.A n.any
 wfs:∀ n∈x.needs,∀ u∈n.any,Reads yY w B u.A u.fs
 bars:Reads bvC w B x.bA x.bars
 fts:FtIn w B x.fA x.fts
 nn:x.needs.length<=1048576
 na:∀ n∈x.needs,n.any.length<=1048576
 nf:∀ n∈x.needs,∀ u∈n.any,u.fs.length<=1048576
 nb:x.bars.length<=1048576
 sn:x.name.length<=1048576/\x.pre.length<=1048576/\x.bld.length<=1048576
 sw:∀ n∈x.needs,GqM n.wh/\n.opt.length<=1048576
 su:∀ n∈x.needs,∀ u∈n.any,u.name.length<=1048576/\GqR u.rng∧∀ s∈u.fs,s.length<=1048576
 sb:∀ b∈x.bars,b.name.length<=1048576/\GqR b.rng/\GqM b.wh
theorem RcIn.on {w w':World}{B B':Nat}{x:Rv}(h:RcIn w B x)(hb:Below B w w')(hB:B<=B'):RcIn w' B' x:=
 ⟨h.needs.on hb hB,λn hn=>(h.any n hn).on hb hB,λn hn u hu=>(h.wfs n hn u hu).on hb hB,h.bars.on hb hB,h.fts.on hb hB,h.nn,h.na,h.nf,h.nb,h.sn,h.sw,h.su,h.sb⟩
structure RcSm (w:World)(B:Nat)(x:Rv):Prop where
 needs:Reads nvC w B x.nA x.needs
 any:∀ n∈x.needs,Reads wvC w B n.A n.any
 wfs:∀ n∈x.needs,∀ u∈n.any,Reads yY w B u.A u.fs
 bars:Reads bvC w B x.bA x.bars
 fts:FtIn w B x.fA x.fts
 nn:x.needs.length<=1048576
 na:∀ n∈x.needs,n.any.length<=1048576
 nf:∀ n∈x.needs,∀ u∈n.any,u.fs.length<=1048576
 nb:x.bars.length<=1048576
end
section
structure LsO {α:Type}(T:TypeId)(k:Nat)(C:α->List Value)(O:α->List Blk->Prop)(A:Option Addr)(c:Nat)(xs:List α)(o1 o2:List Blk):Prop where
 top:Sl T k (.slice A xs.length c) xs.length (xs.flatMap C) o1
 each:∀ x∈xs,∃ o,O x o∧∀ b∈o,b∈o2
section
variable {α:Type}{T:TypeId}{k:Nat}{C:α->List Value}{O:α->List Blk->Prop}
end
structure Ev where
 rec':Rv
 sum:Int
 yk:Bool
def evC (x:Ev):List Value:=rvC x.rec'++[.int .u64 x.sum,.bool x.yk]
theorem evC_len (x:Ev):(evC x).length=11:=rfl
def evV (x:Ev):Value:= .agg #[.string (mkS x.rec'.name),YI x.rec'.maj,YI x.rec'.min,YI x.rec'.pat,.string (mkS x.rec'.pre),.string (mkS x.rec'.bld),.slice x.rec'.nA x.rec'.needs.length x.rec'.nc,.slice x.rec'.bA x.rec'.bars.length x.rec'.bc,.slice x.rec'.fA x.rec'.fts.length x.rec'.fc,.int .u64 x.sum,.bool x.yk]
def Ev.et (x:Ev):Et:=⟨x.rec'.rt,x.sum,x.yk⟩
structure Hv where
 name:YL
 A:Option Addr
 cap:Nat
 es:List Ev
def hvV (x:Hv):Value:= .agg #[.string (mkS x.name),.slice x.A x.es.length x.cap]
def Hv.sh (x:Hv):Sh:=⟨x.name,x.es.map Ev.et⟩
abbrev hvB (b:Nat)(x:Hv):Blk:=⟨b, #[.string (mkS x.name),.slice x.A x.es.length x.cap],91⟩
abbrev rvB (b:Nat)(x:Rv):Blk:=⟨b, #[.string (mkS x.name),YI x.maj,YI x.min,YI x.pat,.string (mkS x.pre),.string (mkS x.bld),.slice x.nA x.needs.length x.nc,.slice x.bA x.bars.length x.bc,.slice x.fA x.fts.length x.fc],29⟩
abbrev evB (b:Nat)(u:Ev):Blk:=⟨b, #[.string (mkS u.rec'.name),YI u.rec'.maj,YI u.rec'.min,YI u.rec'.pat,.string (mkS u.rec'.pre),.string (mkS u.rec'.bld),.slice u.rec'.nA u.rec'.needs.length u.rec'.nc,.slice u.rec'.bA u.rec'.bars.length u.rec'.bc,.slice u.rec'.fA u.rec'.fts.length u.rec'.fc,.int .u64 u.sum,.bool u.yk],88⟩
structure EsIn (w:World)(B:Nat)(A:Option Addr)(es:List Ev):Prop where
 top:Reads evC w B A es
 each:∀ e∈es,RcIn w B e.rec'
 n:es.length<=5000
structure ShIn (w:World)(B:Nat)(x:Hv):Prop where
 es:EsIn w B x.A x.es
 le:x.es.length<=x.cap
 sn:x.name.length<=1048576
def ShO (x:Hv)(ob:List Blk):Prop:=∃ o1 o2,ob=o1++o2/\LsO 88 11 evC (λe o=>RecO e.rec' o) x.A x.cap x.es o1 o2
end
section
def pmC (p:Pn):List Value:=[.string (mkS p.name),.string (mkS p.shelf)]
theorem pZ (x:Pn):(pmC x).length=2:=rfl
def pmV (p:Pn):Value:= .agg #[.string (mkS p.name),.string (mkS p.shelf)]
def hoC (p:Ho):List Value:=[.string (mkS p.name),.string (mkS p.rg)]
theorem tC (x:Ho):(hoC x).length=2:=rfl
def hoV (p:Ho):Value:= .agg #[.string (mkS p.name),.string (mkS p.rg)]
structure Mv where
 rec':Rv
 pA:Option Addr
 pc:Nat
 pins:List Pn
 hA:Option Addr
 hc:Nat
 holds:List Ho
def mvV (x:Mv):Value:= .agg #[.string (mkS x.rec'.name),YI x.rec'.maj,YI x.rec'.min,YI x.rec'.pat,.string (mkS x.rec'.pre),.string (mkS x.rec'.bld),.slice x.rec'.nA x.rec'.needs.length x.rec'.nc,.slice x.rec'.bA x.rec'.bars.length x.rec'.bc,.slice x.rec'.fA x.rec'.fts.length x.rec'.fc,.slice x.pA x.pins.length x.pc,.slice x.hA x.holds.length x.hc]
abbrev mvB (b:Nat)(x:Mv):Blk:=⟨b, #[.string (mkS x.rec'.name),YI x.rec'.maj,YI x.rec'.min,YI x.rec'.pat,.string (mkS x.rec'.pre),.string (mkS x.rec'.bld),.slice x.rec'.nA x.rec'.needs.length x.rec'.nc,.slice x.rec'.bA x.rec'.bars.length x.rec'.bc,.slice x.rec'.fA x.rec'.fts.length x.rec'.fc,.slice x.pA x.pins.length x.pc,.slice x.hA x.holds.length x.hc],44⟩
def Mv.mt (x:Mv):Mt:=⟨x.rec'.rt,x.pins,x.holds⟩
structure PmIn (w:World)(B:Nat)(A:Option Addr)(ps:List Pn):Prop where
 top:Reads pmC w B A ps
 sn:∀ p∈ps,p.name.length<=1048576/\p.shelf.length<=1048576
 n:ps.length<=1048576
theorem PmIn.on {w w':World}{B B':Nat}{A:Option Addr}{xs:List Pn}(h:PmIn w B A xs)(hb:Below B w w')(hB:B<=B'):PmIn w' B' A xs:=⟨h.top.on hb hB,h.sn,h.n⟩
structure HoIn (w:World)(B:Nat)(A:Option Addr)(ps:List Ho):Prop where
 top:Reads hoC w B A ps
 sn:∀ p∈ps,p.name.length<=1048576/\GqR p.rg
 n:ps.length<=1048576
theorem HoIn.on {w w':World}{B B':Nat}{A:Option Addr}{xs:List Ho}(h:HoIn w B A xs)(hb:Below B w w')(hB:B<=B'):HoIn w' B' A xs:=⟨h.top.on hb hB,h.sn,h.n⟩
structure MnIn (w:World)(B:Nat)(x:Mv):Prop where
 rc:RcIn w B x.rec'
 pin:PmIn w B x.pA x.pins
 hold:HoIn w B x.hA x.holds
theorem MnIn.on {w w':World}{B B':Nat}{x:Mv}(h:MnIn w B x)(hb:Below B w w')(hB:B<=B'):MnIn w' B' x:=⟨h.rc.on hb hB,h.pin.on hb hB,h.hold.on hb hB⟩
structure MnO (x:Mv)(o1 o2 o3:List Blk):Prop where
 rc:RecO x.rec' o1
 pin:Sl 57 2 (.slice x.pA x.pins.length x.pc) x.pins.length (x.pins.flatMap pmC) o2
 hold:Sl 59 2 (.slice x.hA x.holds.length x.hc) x.holds.length (x.holds.flatMap hoC) o3
theorem sl_lit {T sz g n:Nat}{cs:Array Value}{xs:List Value}(h:cs.toList=xs)(hn:xs.length=n*sz)(hm:n<=1000):Sl T sz (.slice (some ⟨g,0,none⟩) n n) n xs [⟨g,cs,T⟩]:=
 ⟨hn,.inr ⟨g,n,cs,rfl,rfl,Nat.le_refl _,by unfold maxLen;omega,by rw [←Array.length_toList,h,hn],by rw [h,←hn,List.take_length]⟩⟩
def mv0:Mv:=⟨⟨[],0,0,0,[],[],none,0,[],none,0,[],none,0,[]⟩,none,0,[],none,0,[]⟩
theorem mv0_o:MnO mv0 [] [] []:=⟨⟨⟨[],[],[],[],[],rfl,NsO.nil,Sl.nil _ _,FtO.nil⟩⟩,Sl.nil _ _,Sl.nil _ _⟩
end
section
def flatC:List Sp->List Cu
 | []=>[]
 |s::l=>s.lo::s.hi::flatC l
def altRel (a:List Co):List Sp:=a.foldl (λl c=>andL l c.region) wholeL
def altZone (a:List Co):List Sp:=a.foldl (λl c=>orL l c.zone) []
def altSet (a:List Co):St:=⟨makeRel (altRel a),andL (altRel a) (altZone a)⟩
def orAll (r:List (List Co)):St:=r.foldl (λs a=>orT s (altSet a)) noneT
def rgSet (r:List (List Co)):St:=if rgMay r then orAll r else noneT
end
section
structure SetIn (w:World)(B:Nat)(A A':Option Addr)(a:St):Prop where
 rel:Reads spanC w B A a.rel
 pre:Reads spanC w B A' a.pre
 lr:a.rel.length<=100000
 lp:a.pre.length<=100000
 sr:ShortL a.rel
 sp:ShortL a.pre
end
section
end
section
def ordC:List Nat:=[2,4,6,1,3,5,7,8]
def fndC (s:YL):List Nat->Int×YL
 | []=>if s.getLast?=some 42 then (9,s) else (7,s)
 |k::r=>if yO s (y9 k) then ((k:Int),s.drop (y9 k).length) else fndC s r
theorem begins_le {s t:YL}(h:yO s t=true):t.length<=s.length:=by
 have q:=congrArg List.length (of_decide_eq_true h)
 rw [List.length_take] at q;omega
theorem pre_hit {s:YL}{k:Nat}(hk:k<s.length)(h:s[k]=45)(hf:(45:UInt8)∉s.take k):zA 45 s=(s.take k,s.drop (k+1),true):=by
 have e:s=s.take k++45::s.drop (k+1):=by
  have:=(List.take_append_drop k s).symm
  rw [List.drop_eq_getElem_cons hk,h] at this;exact this
 conv=>lhs;rw [e]
 exact bM 45 _ _ hf
theorem pre_on {s:YL}{k:Nat}(hk:k<s.length)(h:¬ s[k]=45)(hf:(45:UInt8)∉s.take k):(45:UInt8)∉s.take (k+1):=by
 rw [List.take_succ_eq_append_getElem hk]
 intro hm
 rcases List.mem_append.1 hm with hm|hm
 ·exact hf hm
 ·exact h (List.mem_singleton.1 hm).symm
theorem wT {c:UInt8}{n:Nat}(hn:n<256):(c.toNat:Int)=(n:Int)↔c=UInt8.ofNat n:=by
 constructor
 ·intro h
  apply UInt8.toNat_inj.1
  rw [UInt8.toNat_ofNat']
  omega
 ·intro h
  rw [h,UInt8.toNat_ofNat'];omega
theorem last_is {s:YL}(h:0<s.length){c:UInt8}(hc:s[s.length-1]'Om=c):s.getLast?=some c:=by
 rw [List.getLast?_eq_getElem?,List.getElem?_eq_getElem (by omega),hc]
def jP (l:List YL):Bool:=decide (l.length<=3) && l.all qM
def gV (l:List YL):Ver:=if jP l then ⟨zK (tg l 0),zK (tg l 1),zK (tg l 2),[],[]⟩ else Ver.zero
theorem tgi_get {l:List YL}{i:Nat}(h:i<l.length):l[i]=tg l i:=by
 unfold tg
 rw [List.getElem?_eq_getElem h];rfl
theorem nums_bad {l:List YL}{i:Nat}(h:i<l.length)(hb:qM (tg l i)=false):jP l=false:=by
 unfold jP
 cases hq:l.all qM with
 |false=>simp
 |true=>rw [←tgi_get h,List.all_eq_true.1 hq _ (List.getElem_mem h)] at hb;cases hb
theorem nums_big {l:List YL}(h:3<l.length):jP l=false:=by unfold jP;rw [decide_eq_false Om];rfl
theorem nums_all {l:List YL}(h3:l.length<=3)(h:∀ i,i<l.length->qM (tg l i)=true):jP l=true:=by
 unfold jP
 rw [decide_eq_true h3,List.all_eq_true.2];· rfl
 intro x hx
 obtain ⟨i,hi,rfl⟩:=List.mem_iff_getElem.1 hx
 rw [tgi_get hi];exact h i hi
theorem tgi_out {l:List YL}{i:Nat}(h:l.length<=i):zK (tg l i)=0:=by
 unfold tg
 rw [List.getElem?_eq_none h];rfl
theorem rcpre_any (s:YL)(W:World)(hs:s.length<=1048576):YC 217 #[.string (mkS s)] W (YR (.tuple #[.string (mkS (zA 45 s).1),.string (mkS (zA 45 s).2.1)]) W):=by
 refine zD Tryz.func217 (zM (α:=Nat) (λk=>[(0,.string (mkS s)),(4,YI (k:Int))]) (λ_=>[]) (λk m=>(k<=s.length/\(45:UInt8)∉s.take k)/\m=s.length-k) 0 (s.length-0) [] ⟨⟨Nat.zero_le _,by simp⟩,rfl⟩ ?_)
 rintro k m g kk ⟨hrel,hmm⟩ nx hkk
 subst hkk
 have hkl:=hrel.1
 refine zB 8 [] ((k:Int)<(s.length:Int)) (λh1=> ?_) (λh1=> ?_)
 ·have hk:k<s.length:=by omega
  exact dF 13 [] s k hk s[k] rfl (zB 14 [] ((s[k].toNat:Int)=45) (λh2=>x_shi 17 [] s (k:Int) Om Om (.string (mkS (s.take k))) rfl (x_i 20 [] ((k+1:Nat):Int) (x_slo 21 [] s ((k+1:Nat):Int) Om Om (.string (mkS (s.drop (k+1)))) rfl (zS [] (.string (mkS (s.take k))) (.string (mkS (s.drop (k+1)))) λw hO=>⟨by rw [pre_hit hk ((wT (n:=45) (by decide)).1 h2) hrel.2],hO.below⟩)))) (λh2=>x_i 10 [] ((k+1:Nat):Int) (nx (k+1) (s.length-(k+1)) [] Om ⟨⟨by omega,pre_on hk (λq0=>h2 ((wT (n:=45) (by decide)).2 q0)) hrel.2⟩,rfl⟩ Kr Kr)))
 ·exact zS [] (.string (mkS s)) (.string (mkS [])) λw hO=>⟨by rw [jW 45 s (by have q0:=hrel.2;rwa [List.take_of_length_le Om] at q0)],hO.below⟩
theorem rcsplit_any (s:YL)(W:World)(hs:s.length<=1048576):YC 216 #[.string (mkS s)] W (YR (.tuple #[YI (qB s).1,.string (mkS (qB s).2)]) W):=by
 refine zD Tryz.func216 (gM [] 8 3 ZM λb1=>zM (α:=Nat) (λi=>[(0,.string (mkS s)),(4,.slice (some ⟨b1,0,none⟩) 8 8),(5,YI (i:Int))]) (λ_=>[⟨b1,ZM,3⟩]) (λi m=>(i<=8/\qB s=fndC s (ordC.drop i))/\m=8-i) 0 (8-0) [] ⟨⟨by omega,rfl⟩,rfl⟩ ?_)
 rintro i m g kk ⟨⟨hi,hf⟩,hmm⟩ nx hkk
 subst hkk
 by_cases h1:(i:Int)<8
 ·obtain ⟨o,hrd,hd⟩:∃ o:Nat,yZ YP 3 ZM i=some (YI (o:Int))/\ordC.drop i=o::ordC.drop (i+1):=by
   rcases (by omega:i=0\/i=1\/i=2\/i=3\/i=4\/i=5\/i=6\/i=7) with rfl|rfl|rfl|rfl|rfl|rfl|rfl|rfl<;>refine ⟨_, ?_,rfl⟩<;>kernel_rfl
  rw [hd] at hf
  unfold fndC at hf
  refine zB 11 [] ((i:Int)<8) (λ_=>jI 16 [] (A:=some ⟨b1,0,none⟩) rfl 8 8 (i:Int) 1 i Om (jH 17 [] 0 ZM i 3 (YI (o:Int)) hrd (z8 (k:=135) (args:= #[YI (o:Int)]) (v:= .string (mkS (y9 o))) [] (λw _=>rcsign_any o w) (z8 (k:=244) (args:= #[.string (mkS s),.string (mkS (y9 o))]) (v:= .bool (yO s (y9 o))) [] (λw _=>rcbegins_any s (y9 o) w) ?_)))) (λh=>absurd h1 h)
  cases hb:yO s (y9 o) with
  |true=>
   have hble:=begins_le hb
   rw [if_pos hb] at hf
   exact jI 24 [] (A:=some ⟨b1,0,none⟩) rfl 8 8 (i:Int) 1 i Om (jH 25 [] 0 ZM i 3 (YI (o:Int)) hrd (x_slo 29 [] s ((y9 o).length:Int) Om Om (.string (mkS (s.drop (y9 o).length))) rfl (zS [] (YI (o:Int)) (.string (mkS (s.drop (y9 o).length))) λw hO=>⟨by rw [hf],hO.below⟩)))
  |false=>
   rw [if_neg (by rw [hb];decide)] at hf
   exact x_i 13 [] ((i+1:Nat):Int) (nx (i+1) (8-(i+1)) [] Om ⟨⟨by omega,hf⟩,rfl⟩ Kr Kr)
 ·obtain rfl:i=8:=by omega
  have hf:qB s=if s.getLast?=some 42 then (9,s) else (7,s):=hf
  have h9:=λ(h:s.getLast?=some 42) (w:World) (hb:YB W w)=>show Ending.returned (.tuple #[YI 9,.string (mkS s)])= .returned (.tuple #[YI (qB s).1,.string (mkS (qB s).2)])/\YB W w from ⟨by rw [hf,if_pos h],hb⟩
  have h7:=λ(h:¬ s.getLast?=some 42) (w:World) (hb:YB W w)=>show Ending.returned (.tuple #[YI 7,.string (mkS s)])= .returned (.tuple #[YI (qB s).1,.string (mkS (qB s).2)])/\YB W w from ⟨by rw [hf,if_neg h],hb⟩
  refine zB 11 [] (((8:Nat):Int)<8) (λh=>absurd h h1) (λ_=>zB 32 [] ((0:Int)<(s.length:Int)) (λh0=> ?_) (λh0=> ?_))
  ·have hk:s.length-1<s.length:=by omega
   exact v8 37 [] (YI (IntKind.i64.wrap ((s.length:Int) -1))) (YI ((s.length-1:Nat):Int)) (by rw [IntWalk.i64_in _ Om,show (s.length:Int) -1=((s.length-1:Nat):Int) by omega]) (dF 38 [] s (s.length-1) hk s[s.length-1] rfl (zB 39 [] ((s[s.length-1].toNat:Int)=42) (λh=>zS [] (YI 9) (.string (mkS s)) λw hO=>h9 (by rw [last_is Om rfl,(wT (n:=42) (by decide)).1 h];rfl) w hO.below) (λh=>zS [] (YI 7) (.string (mkS s)) λw hO=>h7 (by rw [last_is Om rfl];intro q9;exact h ((wT (n:=42) (by decide)).2 (Option.some.inj q9))) w hO.below)))
  ·exact zS [] (YI 7) (.string (mkS s)) λw hO=>h7 (by rw [List.eq_nil_of_length_eq_zero (by omega:s.length=0)];decide) w hO.below
end
section
def nuZ (l:List YL)(i k:Nat):Int:=if k<i then zK (tg l k) else 0
def nuA (l:List YL)(i:Nat):Array Value:= #[YI (nuZ l i 0),YI (nuZ l i 1),YI (nuZ l i 2)]
theorem nuA_set {l:List YL}{i:Nat}(h:i<3):zW (nuA l i) (0+i*1) (Value.int .i64 (zK (tg l i))).cells=nuA l (i+1):=by
 rcases (by omega:i=0\/i=1\/i=2) with rfl|rfl|rfl<;>rfl
theorem nuZ_end (l:List YL)(k:Nat):nuZ l l.length k=zK (tg l k):=by
 unfold nuZ
 split
 ·rfl
 ·rw [tgi_out Om]
theorem rcnumbers_any (A:Option Addr)(n cap:Nat)(l:List YL)(W:World)(hv:Reads yY W W.heap.size A l)(hn:n=l.length)(htl:∀ i,(tg l i).length<=1048576)(hmx:l.length<=4194304):YC 218 #[.slice A n cap] W (YR (.tuple #[kJ (gV l),.bool (jP l)]) W):=by
 subst hn
 have hno:=λ(h:jP l=false) (w:World) (hb:YB W w)=>show Ending.returned (.tuple #[kJ Ver.zero,.bool false])= .returned (.tuple #[kJ (gV l),.bool (jP l)])/\YB W w from ⟨by rw [show gV l=Ver.zero from if_neg (by rw [h];decide),h],hb⟩
 refine zD Tryz.func218 (zJ [] λb1=>zJ [] λb2=>zB 10 [] ((3:Int)<(l.length:Int)) (λh=>yD [1] 1 (kJ Ver.zero) Z5 λw hO=>hno (nums_big Om) w hO.below) (λh1=> ?_))
 refine zM (α:=Nat) (λi=>[(0,.slice A l.length cap),(2,Zp b1 0),(4,Zp b2 0),(5,YI (i:Int))]) (λi=>[⟨b2,nuA l i,171⟩,⟨b1,(kJ Ver.zero).cells,24⟩]) (λi m=>(i<=l.length∧∀ j,j<i->qM (tg l j)=true)/\m=l.length-i) 0 (l.length-0) [] ⟨⟨Nat.zero_le _,λj h=>absurd h (Nat.not_lt_zero _)⟩,rfl⟩ ?_
 rintro i m g kk ⟨⟨hi,hall⟩,hmm⟩ nx hkk
 subst hkk
 by_cases h2:(i:Int)<(l.length:Int)
 ·have hk:i<l.length:=by omega
  obtain ⟨b,off,hA,hlt,hcell⟩:=hv Om
  refine zB 15 [] ((i:Int)<(l.length:Int)) (λ_=>zI 21 [] hA l.length cap i 1 hk (zH 22 [] 9 b (off+i*1) (.string (mkS (tg l i))) (λw hO=>wG zX (λj u h=>(hO.below.cell (p:=⟨b,off+j,none⟩) hlt).trans (hcell j u h)) i 0 hk Om _ (by rw [tgi_get hk];kernel_rfl)) (z8 (k:=166) (args:= #[.string (mkS (tg l i))]) (v:= .tuple #[YI (zK (tg l i)),.bool (qM (tg l i))]) [] (λw _=>(rnumber_mk (tg l i) w (Nat.le_trans (htl i) (by decide))).mono λe w' ⟨q1,q2⟩=>⟨q1,q2▸Below.refl _ _⟩) ?_))) (λh=>absurd h2 h)
  cases h3:qM (tg l i) with
  |true=>
   refine x_ixa 31 [] 3 i 1 Om (x_sto 0 ⟨b2,nuA l i,171⟩ (0+i*1) 1 (YI (zK (tg l i))) [⟨b2,nuA l i,171⟩,⟨b1,(kJ Ver.zero).cells,24⟩] (by show 0+i*1+1<=3;omega) (x_i 17 [] ((i+1:Nat):Int) (y8 [] [⟨b2,nuA l (i+1),171⟩,⟨b1,(kJ Ver.zero).cells,24⟩] (λw hO=>(hO.past 0 [⟨b2,zW (nuA l i) (0+i*1) (Value.int .i64 (zK (tg l i))).cells,171⟩,⟨b1,(kJ Ver.zero).cells,24⟩]).cast (by rw [nuA_set Om])) (nx (i+1) (l.length-(i+1)) [] Om ⟨⟨by omega,λj hj=> ?_⟩,rfl⟩ Kr Kr))))
   rcases Nat.lt_succ_iff_lt_or_eq.1 hj with h|rfl
   ·exact hall j h
   ·exact h3
  |false=>exact yD [1] 1 (kJ Ver.zero) (.bool false) λw hO=>hno (nums_bad hk h3) w hO.below
 ·obtain rfl:i=l.length:=by omega
  exact zB 15 [] ((l.length:Int)<(l.length:Int)) (λh=>absurd h h2) (λ_=>yD [0,0,0,1] 1 (kJ ⟨nuZ l l.length 0,nuZ l l.length 1,nuZ l l.length 2,[],[]⟩) Z4 λw hO=>⟨by have h:=nums_all Om hall;rw [show gV l=⟨zK (tg l 0),zK (tg l 1),zK (tg l 2),[],[]⟩ from if_pos h,h,nuZ_end,nuZ_end,nuZ_end],hO.below⟩)
end
section
def pcV (s:YL):Co:=(gF s).getD ⟨0,0,Ver.zero⟩
def pcE (s:YL):Int:=if (gF s).isSome then 0 else 6
theorem guess_nums (op:Int)(r:YL):guessC op r=if jP (qD op r) then some ⟨op,((qD op r).length:Int),{gV (qD op r) with pre:=(zA 45 r).2.1}⟩ else none:=by
 unfold guessC gV
 by_cases h:jP (qD op r)=true
 ·have h2:=h
  unfold jP at h2
  rw [Bool.and_eq_true,decide_eq_true_eq] at h2
  rw [if_pos h2,if_pos h,if_pos h]
 ·have h2:¬ ((qD op r).length<=3/\(qD op r).all qM=true):=λq=>h (by unfold jP;rw [decide_eq_true q.1,q.2];rfl)
  rw [if_neg h2,if_neg h]
theorem fD {s r tl:YL}{op:Int}{gl:List YL}(h1:(qB s).1=op)(h2:(qB s).2=r)(h3:qD op r=gl)(h4:(zA 45 r).2.1=tl):
  gF s=(if jP gl then some ⟨op,(gl.length:Int),{gV gl with pre:=tl}⟩ else none:Option Co).filter (fits s):=by
 unfold gF
 rw [h1,h2,guess_nums,h3,h4]
theorem pc_none {s:YL}(h:gF s=none):pcV s=⟨0,0,Ver.zero⟩/\pcE s=6:=by unfold pcV pcE;rw [h];exact ⟨rfl,rfl⟩
theorem pc_some {s:YL}{c:Co}(h:gF s=some c):pcV s=c/\pcE s=0:=by unfold pcV pcE;rw [h];exact ⟨rfl,rfl⟩
theorem split6_le (s:YL):(qB s).2.length<=s.length:=by
 unfold qB
 repeat' split
 all_goals first|exact Nat.le_refl _|(rw [List.length_drop];omega)
theorem guess_take {op:Int}{r ah:YL}(h:(zA 45 r).1=ah):qD op r=(pcs ah).take (qD op r).length/\(qD op r).length<=(pcs ah).length:=by
 unfold qD
 rw [h]
 split
 ·rw [List.length_dropLast]
  exact ⟨List.dropLast_eq_take,by omega⟩
 ·exact ⟨(List.take_of_length_le (Nat.le_refl _)).symm,Nat.le_refl _⟩
theorem Reads.front {α:Type}{g:α->List Value}{w:World}{B:Nat}{A:Option Addr}{l:List α}(h:Reads g w B A l)(k:Nat):Reads g w B A (l.take k):=λh0=>by
 rw [List.length_take] at h0
 obtain ⟨b,off,e,hlt,hc⟩:=h Om
 refine ⟨b,off,e,hlt,λj u hj=>hc j u ?_⟩
 have e2:l.flatMap g=(l.take k).flatMap g++(l.drop k).flatMap g:=by rw [←List.flatMap_append,List.take_append_drop]
 rw [e2,List.getElem?_append_left (List.getElem?_eq_some_iff.1 hj).1]
 exact hj
theorem pcs_pos6 (s:YL):0<(pcs s).length:=List.length_pos_iff.2 (pcs_ne s)
theorem tg_short {l:List YL}(h:∀ x∈l,x.length<=1048576)(i:Nat):(tg l i).length<=1048576:=by
 unfold tg
 cases hq:l[i]? with
 |none=>exact Nat.zero_le _
 |some x=>exact h x (List.mem_of_getElem? hq)
theorem pcs_count (s:YL):(pcs s).length<=s.length+1:=by
 unfold pcs
 rw [split_len]
 have:=List.length_filter_le (·==(46:UInt8)) s
 omega
theorem rcParse_any (s:YL)(W:World)(hs:s.length<=1048576):YC 180 #[.string (mkS s)] W (YR (.tuple #[coV (pcV s),YI (pcE s)]) W):=by
 obtain ⟨op,hop⟩:∃ x,(qB s).1=x:=⟨_,rfl⟩
 obtain ⟨r,hr⟩:∃ x,(qB s).2=x:=⟨_,rfl⟩
 obtain ⟨ah,hah⟩:∃ x,(zA 45 r).1=x:=⟨_,rfl⟩
 obtain ⟨tl,htl⟩:∃ x,(zA 45 r).2.1=x:=⟨_,rfl⟩
 obtain ⟨gl,hgl⟩:∃ x,qD op r=x:=⟨_,rfl⟩
 have hrl:r.length<=s.length:=hr▸split6_le s
 have hal:ah.length+tl.length<=r.length:=by rw [←hah,←htl];exact jX 45 r
 have hpl:=pcs_count ah
 have hp0:=pcs_pos6 ah
 have hbad:=λ(h:gF s=none) (w:World) (hb:YB W w)=>show Ending.returned (.tuple #[(coV ⟨0,0,Ver.zero⟩),YI 6])= .returned (.tuple #[coV (pcV s),YI (pcE s)])/\YB W w from ⟨by rw [(pc_none h).1,(pc_none h).2],hb⟩
 refine zD Tryz.func180 (zJ [] λb1=>z8 (k:=216) (args:= #[.string (mkS s)]) (v:= .tuple #[YI op,.string (mkS r)]) [] (λw _=>ret_v (by rw [hop,hr]) (rcsplit_any s w hs)) (z8 (k:=217) (args:= #[.string (mkS r)]) (v:= .tuple #[.string (mkS ah),.string (mkS tl)]) [] (λw _=>ret_v (by rw [hah,htl]) (rcpre_any r w Om)) (k8 (R:=λv' ob'=>SlT v' (pcs ah) ob') [] (λw hO=>rsplit_own ah w Om) ?_)))
 intro v1 o1 hsl
 obtain ⟨A1,c1,rfl⟩:=hsl.form
 obtain ⟨g1,cur1,rfl,rfl,hc1,hm1,hz1,ht1⟩:=Sl.block hsl (pcs_pos6 ah)
 refine bR 26 (α:=Nat) (λn=>[(0,.string (mkS s)),(2,Zp b1 0),(4,YI op),(7,.string (mkS tl)),(8,.slice (some ⟨g1,0,none⟩) n c1)]) (λ_=>[⟨b1,(coV ⟨0,0,Ver.zero⟩).cells,140⟩,⟨g1,cur1,9⟩]) (λn=>n=gl.length) [] (λnj=>x_now 26 (op=9) (λh1=> ?_) (λh1=>nj (pcs ah).length [] (by rw [←hgl];unfold qD;rw [hah,if_neg h1]) Kr)) (λn gg hng=> ?_)
 ·have hgn:(((pcs ah).length:Int) -1).toNat=gl.length:=by rw [←hgl];unfold qD;rw [hah,if_pos h1,List.length_dropLast];omega
  exact x_i 30 [] (((pcs ah).length:Int) -1) (x_slhi 31 [] (A:=some ⟨g1,0,none⟩) rfl (pcs ah).length c1 1 (((pcs ah).length:Int) -1) Om Om (.slice (some ⟨g1,0,none⟩) gl.length c1) (by rw [hgn]) (nj gl.length [] rfl Kr))
 have hglt:(pcs ah).take n=gl:=by rw [hng,←hgl];exact (guess_take hah).1.symm
 have hgn:gl.length<=(pcs ah).length:=by rw [←hgl];exact (guess_take hah).2
 have hgs:∀ x∈gl,x.length<=1048576:=λx hx=>by rw [←hglt] at hx;exact Nat.le_trans (pcs_mem_len ah x (List.mem_of_mem_take hx)) Om
 refine z8 (k:=218) (args:= #[.slice (some ⟨g1,0,none⟩) n c1]) (v:= .tuple #[kJ (gV gl),.bool (jP gl)]) [] (λw hO=>rcnumbers_any (some ⟨g1,0,none⟩) n c1 gl w (hglt▸(SlT.reads hsl rfl (hO.past 1 [⟨g1,cur1,9⟩]) (λx hx=>hx)).front n) hng (tg_short hgs) Om) (zJ [] λb2=> ?_)
 cases h2:jP gl with
 |false=>exact yD [0,1] 1 (coV ⟨0,0,Ver.zero⟩) (.int .i64 6) λw hO=>hbad (by rw [fD hop hr hgl htl,h2];rfl) w hO.below
 |true=>
  have hcs:((⟨op,(n:Int),{gV gl with pre:=tl}⟩:Co)).short:=⟨by show tl.length<=_;omega,by show (gV gl).build.length<=_;unfold gV;split<;>exact Nat.zero_le _⟩
  obtain ⟨pt,hpt⟩:∃ x,Co.print (⟨op,(n:Int),{gV gl with pre:=tl}⟩:Co)=x:=⟨_,rfl⟩
  have hgood:=λ(h:gF s=some (⟨op,(n:Int),{gV gl with pre:=tl}⟩:Co)) (w:World) (hb:YB W w)=>show Ending.returned (.tuple #[coV (⟨op,(n:Int),{gV gl with pre:=tl}⟩:Co),YI 0])= .returned (.tuple #[coV (pcV s),YI (pcE s)])/\YB W w from ⟨by rw [(pc_some h).1,(pc_some h).2],hb⟩
  refine zJ [0,0,0] λb3=>z8 (k:=85) (args:= #[coV (⟨op,(n:Int),{gV gl with pre:=tl}⟩:Co)]) (v:= .string (mkS pt)) [0,0] (λw _=>ret_v (by rw [←hpt]) (rcPrint_any (⟨op,(n:Int),{gV gl with pre:=tl}⟩:Co) w hcs)) (x4 50 [] pt [] (λh3=>(yD [2] 2 (coV ⟨0,0,Ver.zero⟩) (YI 6) λw hO=>hbad (by rw [fD hop hr hgl htl,h2,←hng];exact Option.filter_eq_none_iff.2 λq0 q1=>by obtain rfl:=Option.some.inj q1;unfold fits;rw [hpt,decide_eq_true (show pt=[] from h3)];simp) w hO.below)) (λh3=>gA 54 [] pt s (λh4=>(yD [0,2] 2 (coV (⟨op,(n:Int),{gV gl with pre:=tl}⟩:Co)) (YI 0) λw hO=>hgood (by rw [fD hop hr hgl htl,h2,←hng];exact Option.filter_eq_some_iff.2 ⟨rfl,by unfold fits;rw [hpt,decide_eq_false (show ¬ pt=[] from h3),decide_eq_true (show pt=s from h4)];simp⟩) w hO.below)) (λh4=>zR 58 [] [94] s (gA 59 [] pt ([94]++s) (λh5=>(yD [0,2] 2 (coV (⟨op,(n:Int),{gV gl with pre:=tl}⟩:Co)) (YI 0) λw hO=>hgood (by rw [fD hop hr hgl htl,h2,←hng];exact Option.filter_eq_some_iff.2 ⟨rfl,by unfold fits;rw [hpt,decide_eq_false (show ¬ pt=[] from h3),decide_eq_false (show ¬ pt=s from h4),decide_eq_true (show pt=94::s from h5)];simp⟩) w hO.below)) (λh5=>(yD [2] 2 (coV ⟨0,0,Ver.zero⟩) (YI 6) λw hO=>hbad (by rw [fD hop hr hgl htl,h2,←hng];exact Option.filter_eq_none_iff.2 λq0 q1=>by obtain rfl:=Option.some.inj q1;unfold fits;rw [hpt,decide_eq_false (show ¬ pt=[] from h3),decide_eq_false (show ¬ pt=s from h4),decide_eq_false (show ¬ pt=94::s from h5)];simp) w hO.below))))))
end
section
def coC (c:Co):List Value:=(coV c).cells.toList
theorem coC_len (c:Co):(coC c).length=7:=rfl
theorem co_cells (c:Co):∀ u∈coC c,u.oneCell'=true:=by
 intro u hu
 unfold coC coV at hu
 simp only [Value.cells,List.mem_cons,List.not_mem_nil,or_false] at hu
 rcases hu with rfl|rfl|rfl|rfl|rfl|rfl|rfl<;>rfl
structure Al where
 A:Option Addr
 l:List Co
 cap:Nat
def alC (x:Al):List Value:=[.slice x.A x.l.length x.cap]
theorem alC_len (x:Al):(alC x).length=1:=rfl
theorem al_cells (x:Al):∀ u∈alC x,u.oneCell'=true:=λu hu=>by rw [List.mem_singleton.1 hu];rfl
def yX (xs:List Al):List (List Co):=xs.map Al.l
theorem gO (xs:List Al):(yX xs).length=xs.length:=List.length_map ..
theorem rgOf_get {xs:List Al}{i:Nat}(hi:i<xs.length){x:Al}(h:xs[i]=x):(yX xs)[i]'(by rw [gO];exact hi)=x.l:=by
 unfold yX;rw [List.getElem_map,h]
def ShortA (l:List Co):Prop:=∀ c∈l,c.short
structure RgIn (w:World)(B:Nat)(A:Option Addr)(xs:List Al):Prop where
 top:Reads alC w B A xs
 each:∀ x∈xs,Reads coC w B x.A x.l
 n:xs.length<=1000
 m:∀ x∈xs,x.l.length<=1000
 short:∀ x∈xs,ShortA x.l
theorem RgIn.on {w w':World}{B B':Nat}{A:Option Addr}{xs:List Al}(h:RgIn w B A xs)(hb:Below B w w')(hB:B<=B'):RgIn w' B' A xs:=⟨h.top.on hb hB,λx hx=>(h.each x hx).on hb hB,h.n,h.m,h.short⟩
theorem take_all {α:Type}{p:α->Prop}{l:List α}{i:Nat}(h:∀ x∈l.take i,p x)(hi:i<l.length){x:α}(hx:l[i]=x)(hp:p x):∀ y∈l.take (i+1),p y:=λy hy=>by
 rw [List.take_succ_eq_append_getElem hi] at hy
 rcases List.mem_append.1 hy with hy|hy
 ·exact h y hy
 ·rw [List.mem_singleton.1 hy,hx];exact hp
theorem take_end {α:Type}{p:α->Prop}{l:List α}{i:Nat}(h:∀ x∈l.take i,p x)(hi:l.length<=i):∀ y∈l,p y:=by rwa [List.take_of_length_le hi] at h
theorem fewA_len {l:List Co}(h:¬ (1<=l.length/\l.length<=6)):fewA l=false:=by unfold fewA;rw [decide_eq_false h];rfl
theorem fewA_one {l:List Co}{c:Co}(hm:c∈l)(h:c.may=false):fewA l=false:=by
 cases hf:fewA l with
 |false=>rfl
 |true=>rw [(fewA.facts hf).2 c hm] at h;cases h
theorem fewA_all {l:List Co}(h1:1<=l.length/\l.length<=6)(h:∀ c∈l,c.may=true):fewA l=true:=by
 unfold fewA;rw [decide_eq_true h1,List.all_eq_true.2 h];rfl
theorem few_len {xs:List Al}(h:¬ (1<=xs.length/\xs.length<=6)):fewR (yX xs)=false:=by unfold fewR;rw [gO,decide_eq_false h];rfl
theorem few_one {xs:List Al}{x:Al}(hm:x∈xs)(h:fewA x.l=false):fewR (yX xs)=false:=by
 cases hf:fewR (yX xs) with
 |false=>rfl
 |true=>rw [(fewR.facts hf).2 x.l (List.mem_map.2 ⟨x,hm,rfl⟩)] at h;cases h
theorem few_all {xs:List Al}(h1:1<=xs.length/\xs.length<=6)(h:∀ x∈xs,fewA x.l=true):fewR (yX xs)=true:=by
 unfold fewR;rw [gO,decide_eq_true h1,List.all_eq_true.2 λa ha=>by obtain ⟨x,hx,rfl⟩:=List.mem_map.1 ha;exact h x hx];rfl
theorem few_mem {xs:List Al}(h:fewR (yX xs)=true):(1<=xs.length/\xs.length<=6)∧∀ x∈xs,(1<=x.l.length/\x.l.length<=6)∧∀ c∈x.l,c.may=true:=by
 obtain ⟨h1,h2⟩:=fewR.facts h
 rw [gO] at h1
 exact ⟨h1,λx hx=>fewA.facts (h2 x.l (List.mem_map.2 ⟨x,hx,rfl⟩))⟩
theorem joinB_step (sep:YL){l:List YL}{i:Nat}(hi:i<l.length):vN sep (l.take (i+1))=(if i=0 then [] else vN sep (l.take i)++sep)++l[i]:=by
 rw [List.take_succ_eq_append_getElem hi,joinB_snoc]
 by_cases h:i=0
 ·subst h;rfl
 ·have hne:l.take i≠[]:=λe=>by
   have h3:(l.take i).length=0:=by rw [e];rfl
   rw [List.length_take] at h3;omega
  rw [if_neg hne,if_neg h]
theorem altText_step {l:List Co}{k:Nat}(hk:k<l.length){c:Co}(hc:l[k]=c):xN (l.take (k+1))=(if k=0 then [] else xN (l.take k)++[44,32])++c.print:=by
 unfold xN
 rw [List.map_take,List.map_take,joinB_step _ (by rw [List.length_map];exact hk),List.getElem_map,hc]
theorem rgText_step {r:List (List Co)}{i:Nat}(hi:i<r.length){a:List Co}(ha:r[i]=a):kN (r.take (i+1))=(if i=0 then [] else kN (r.take i)++[32,124,124,32])++xN a:=by
 unfold kN
 rw [List.map_take,List.map_take,joinB_step _ (by rw [List.length_map];exact hi),List.getElem_map,ha]
theorem co_len {c:Co}(h:c.may=true):c.print.length<=300:=by
 obtain ⟨_,hv,_⟩:=Co.facts h
 have hp:=preOk_short (may_pre hv)
 rw [vK h]
 unfold Co.text Co.rest
 rw [List.length_append]
 have h1:(y9 c.op).length<=2:=by
  unfold y9
  repeat' split
  all_goals decide
 split
 ·have:=sjoin_len hv c.parts.toNat;omega
 ·rw [List.length_append]
  have:=njoin_len hv c.parts.toNat
  have:(xH 45 c.v.pre).length<=37:=by
   unfold xH
   split
   ·exact Nat.zero_le _
   ·rw [List.length_cons];omega
  omega
end
section
theorem coInfo:(Tryz.prog.info? 140).map (λi=>(i.zero.map (·.cells.size),i.size,i.bytes))=some (some 7,7,72):=by kernel_rfl
theorem co_info:∃ i z,Tryz.prog.info? 140=some i/\i.zero=some z/\i.size=7/\z.cells.size=7/\i.bytes=72:=by
 have h:=coInfo
 cases hi:Tryz.prog.info? 140 with
 |none=>rw [hi] at h;cases h
 |some i=>
  rw [hi] at h
  simp only [Option.map_some,Option.some.injEq,Prod.mk.injEq] at h
  cases hz:i.zero with
  |none=>rw [hz] at h;simp at h
  |some z=>rw [hz] at h;simp at h;exact ⟨i,z,rfl,hz,h.2.1,h.1,h.2.2⟩
theorem alInfo:(Tryz.prog.info? 223).map (λi=>(i.zero.map (·.cells.size),i.size,i.bytes))=some (some 1,1,24):=by kernel_rfl
theorem al_info:∃ i z,Tryz.prog.info? 223=some i/\i.zero=some z/\i.size=1/\z.cells.size=1/\i.bytes=24:=by
 have h:=alInfo
 cases hi:Tryz.prog.info? 223 with
 |none=>rw [hi] at h;cases h
 |some i=>
  rw [hi] at h
  simp only [Option.map_some,Option.some.injEq,Prod.mk.injEq] at h
  cases hz:i.zero with
  |none=>rw [hz] at h;simp at h
  |some z=>rw [hz] at h;simp at h;exact ⟨i,z,rfl,hz,h.2.1,h.1,h.2.2⟩
def SlCo (v:Value)(l:List Co)(ob:List Blk):Prop:=Sl 140 7 v l.length (l.flatMap coC) ob
structure RgA (u:Value)(xs:List Al)(o1 o2:List Blk):Prop where
 top:Sl 223 1 u xs.length (xs.flatMap alC) o1
 each:∀ x∈xs,∃ o,(∀ b∈o,b∈o2)/\SlCo (.slice x.A x.l.length x.cap) x.l o
def RgO (v:Value)(r:List (List Co))(ob:List Blk):Prop:=∃ xs u o1 o2,v= .agg #[u]/\ob=o1++o2/\yX xs=r/\RgA u xs o1 o2
theorem RgA.nil:RgA (.slice none 0 0) [] [] []:=⟨Sl.nil _ _,λx hx=>by simp at hx⟩
theorem RgO.nil:RgO (.agg #[.slice none 0 0]) [] []:=⟨[],_,[],[],rfl,rfl,rfl,RgA.nil⟩
theorem RgA.add {u u2:Value}{xs:List Al}{o1 o2 o3 oa:List Blk}{A:Option Addr}{cap:Nat}{a:List Co}(h:RgA u xs o1 o2)(h2:Sl 223 1 u2 (xs.length+1) (xs.flatMap alC++alC ⟨A,a,cap⟩) o3)(ha:SlCo (.slice A a.length cap) a oa):RgA u2 (xs++[⟨A,a,cap⟩]) o3 (oa++o2):=
 ⟨h2.to (by simp) (by simp),λx hx=>by
  rcases List.mem_append.1 hx with hx|hx
  ·obtain ⟨o,k1,k2⟩:=h.each x hx
   exact ⟨o,λb hb=>List.mem_append_right _ (k1 b hb),k2⟩
  ·obtain rfl:=List.mem_singleton.1 hx
   exact ⟨oa,λb hb=>List.mem_append_left _ hb,ha⟩⟩
structure FineR (r:List (List Co)):Prop where
 n:r.length<=1000
 m:∀ a∈r,a.length<=1000/\ShortA a
theorem RgA.inn {A:Option Addr}{n cap:Nat}{xs:List Al}{o1 o2 L:List Blk}{M:List Nat}{W w:World}(h:RgA (.slice A n cap) xs o1 o2)(hn:xs.length=n)(hO:Own M W w L)(h1:∀ x∈o1,x∈L)(h2:∀ x∈o2,x∈L)(hf:FineR (yX xs)):RgIn w w.heap.size A xs:=by
 subst hn
 refine ⟨Sl.reads h.top rfl hO h1,λx hx=> ?_,by have:=hf.n;rwa [gO] at this,λx hx=>(hf.m x.l (List.mem_map.2 ⟨x,hx,rfl⟩)).1,λx hx=>(hf.m x.l (List.mem_map.2 ⟨x,hx,rfl⟩)).2⟩
 obtain ⟨o,k1,k2⟩:=h.each x hx
 exact Sl.reads k2 rfl hO λb hb=>h2 b (k1 b hb)
theorem SlT.blk {v:Value}{l:List YL}{ob:List Blk}(h:SlT v l ob)(hn:l≠[]):∃ g cur cap,v= .slice (some ⟨g,0,none⟩) l.length cap/\ob=[⟨g,cur,9⟩]/\cur.toList.take (l.length*1)=l.flatMap yY:=by
 obtain ⟨A,cap,rfl⟩:=h.form
 have h0:0<l.length:=by cases l with
  |nil=>exact absurd rfl hn
  |cons _ _=>simp
 obtain ⟨g,cur,rfl,e,_,_,_,e2⟩:=Sl.block h h0
 exact ⟨g,cur,cap,rfl,e,by rw [e2,kL]⟩
theorem pc_ok {s:YL}(h:pcE s=0):gF s=some (pcV s):=by
 cases hp:gF s with
 |none=>rw [(pc_none hp).2] at h;exact absurd h (by decide)
 |some c=>rw [(pc_some hp).1]
theorem pc_err {s:YL}(h:¬ pcE s=0):gF s=none:=by
 cases hp:gF s with
 |none=>rfl
 |some c=>exact absurd (pc_some hp).2 h
theorem parseP_may {s:YL}{c:Co}(h:parseP s=some c):c.may=true:=((t7 _ c).1 h).1
theorem co_short {c:Co}(h:c.may=true):c.short:=by
 obtain ⟨_,hv,hb,_⟩:=Co.facts h
 exact may_short hv hb
theorem parseA_fine {s:YL}{a:List Co}(h:parseA s=some a)(hs:s.length<=100):a.length<=1000∧∀ c∈a,c.may=true:=by
 refine ⟨?_,λc hc=> ?_⟩
 ·rw [fO h,split_len]
  have:=List.length_filter_le (λx:UInt8=>x==44) s
  omega
 ·obtain ⟨x,_,e⟩:=allO_back h c hc
  exact parseP_may e
theorem fine_part {s:YL}(hs:s.length<=96){l:List YL}(hl:∀ x∈l,x∈kB [] s)(hn:l.length<=97){r:List (List Co)}(h:fP parseA l=some r):FineR r:=by
 refine ⟨by rw [fO h];omega,λa ha=> ?_⟩
 obtain ⟨x,hx,e⟩:=allO_back h a ha
 have:=altsL_le s [] x (hl x hx)
 have:=parseA_fine e (by simp at this;omega)
 exact ⟨this.1,λc hc=>co_short (this.2 c hc)⟩
theorem fine_few {r:List (List Co)}(h:fewR r=true):FineR r:=by
 obtain ⟨h1,h2⟩:=fewR.facts h
 refine ⟨by omega,λa ha=> ?_⟩
 obtain ⟨k1,k2⟩:=fewA.facts (h2 a ha)
 exact ⟨by omega,λc hc=>co_short (k2 c hc)⟩
theorem allO_next {α β:Type}{f:α->Option β}{l:List α}{i:Nat}(hi:i<l.length){y:α}(hy:l[i]=y){m:List β}{z:β}(h:fP f (l.take i)=some m)(hz:f y=some z):fP f (l.take (i+1))=some (m++[z]):=by
 rw [List.take_succ_eq_append_getElem hi,hy]
 exact allO_snoc h hz
theorem all_fails {s:YL}{l m:List YL}(hl:l=kB [] s){i k:Nat}(hi:i<l.length){y z:YL}(hy:l[i]=y)(hm:m=zE 44 [] y)(hk:k<m.length)(hz:m[k]=z)(h:¬ pcE (yE z)=0):vG s=none:=by
 have h1:parseA y=none:=allO_none (x:=z) (by rw [←hm,←hz];exact List.getElem_mem hk) (pc_err h)
 exact allO_none (x:=y) (by rw [←hl,←hy];exact List.getElem_mem hi) h1
theorem errG_none {s:YL}(hs:s.length<=96)(h:vG s=none):d5 s=6/\kV s=none:=by
 unfold d5 kV
 rw [if_neg Om,if_neg Om,h];exact ⟨rfl,rfl⟩
theorem errG_few {s:YL}(hs:s.length<=96){r:List (List Co)}(h:vG s=some r)(hf:fewR r=false):d5 s=6/\kV s=none:=by
 unfold d5 kV
 rw [if_neg Om,if_neg Om,h]
 simp [hf,rgMay,Option.filter]
theorem errG_big {s:YL}(hs:s.length<=96){r:List (List Co)}(h:vG s=some r)(hf:fewR r=true)(hb:96<(kN r).length):d5 s=3/\kV s=none:=by
 unfold d5 kV
 rw [if_neg Om,if_neg Om,h]
 simp [hf,rgMay,Option.filter];omega
theorem errG_fine {s:YL}(hs:s.length<=96){r:List (List Co)}(h:vG s=some r)(hf:fewR r=true)(hb:(kN r).length<=96):d5 s=0/\kV s=some r:=by
 unfold d5 kV
 rw [if_neg Om,if_neg Om,h]
 simp [hf,rgMay,Option.filter,hb]
theorem errG_long {s:YL}(hs:96<s.length):d5 s=3/\kV s=none:=by
 unfold d5 kV
 rw [if_pos hs,if_pos hs];exact ⟨rfl,rfl⟩
theorem rsplit44_own (s:YL)(W:World)(hs:s.length<=1048576):
  YC 69 #[.string (mkS s),.int .u8 44] W λe w'=>∃ v' ob',e= .returned v'/\SlT v' (zE 44 [] s) ob'/\Own [] W w' ob':=
 (rsplit_any (mkS s) 44 W (by rw [zQ];exact hs)).mono λe w' ⟨v,h1,h2,h3⟩=>by
  unfold vE at h2
  rw [mk_data] at h2
  obtain ⟨ob,k1,k2⟩:=Own.row h2 h3
  exact ⟨v,ob,h1,k1,k2⟩
theorem bareF_len:∀ (s:YL),(yI s).length<=s.length
 | []=>Nat.le_refl _
 |c::l=>by
  rw [yI]
  split
  ·have:=bareF_len l;rw [List.length_cons];omega
  ·exact Nat.le_refl _
theorem bareL_len (s:YL):(yE s).length<=s.length:=by
 unfold yE
 rw [List.length_reverse]
 have h1:=bareF_len (yI s).reverse
 rw [List.length_reverse] at h1
 have:=bareF_len s
 omega
theorem t6 {y:YL}(h:y.length<=96):(zE 44 [] y).length<=97∧∀ z∈zE 44 [] y,z.length<=96:=by
 refine ⟨?_,λz hz=>by have:=nV 44 y [] z hz;simp at this;omega⟩
 rw [split_len]
 have:=List.length_filter_le (λx:UInt8=>x==44) y
 omega
section
variable {M:List Nat}{W w:World}
theorem own_two {x y:Blk}{A:List Blk}(h:Own M W w (x::y::A)):Own M W w A:=h.sublist ((List.sublist_cons_self y A).trans (List.sublist_cons_self x (y::A)))
theorem own_turn {x y r t g:Blk}{oa o1 o2:List Blk}(h:Own M W w (([x,y,g,r,t]++oa)++o1++o2)):Own M W w (g::r::t::(o1++(oa++o2))):=by
 have h1:Own M W w (x::y::g::r::t::((oa++o1)++o2)):=by simpa [List.append_assoc] using h
 refine (own_two h1).perm (List.Perm.cons _ (List.Perm.cons _ (List.Perm.cons _ ?_)))
 rw [←List.append_assoc]
 exact List.Perm.append_right _ List.perm_append_comm
end
end
section
theorem altsL_index:∀ (s acc:YL),kB acc s=if Lib.index s [124,124]= -1 then [acc++s] else (acc++s.take (Lib.index s [124,124]).toNat)::kB [] (s.drop ((Lib.index s [124,124]).toNat+2))
 | [],acc=>by simp [kB,Lib.index]
 | [c],acc=>by simp [kB,Lib.index,List.isPrefixOf]
 |c::d::r,acc=>by
  by_cases h:c=124/\d=124
  ·obtain ⟨rfl,rfl⟩:=h
   have e:Lib.index (124::124::r) [124,124]=0:=by simp [Lib.index,List.isPrefixOf]
   rw [e,kB,if_pos ⟨rfl,rfl⟩,if_neg (by decide)];simp
  ·have hp:List.isPrefixOf ([124,124]:YL) (c::d::r)=false:=by
    rw [List.isPrefixOf,List.isPrefixOf,List.isPrefixOf]
    by_cases hc:c=124
    ·have hd:¬ d=124:=λq=>h ⟨hc,q⟩
     have:((124:UInt8)==d)=false:=beq_eq_false_iff_ne.2 (Ne.symm hd)
     simp [this]
    ·have:((124:UInt8)==c)=false:=beq_eq_false_iff_ne.2 (Ne.symm hc)
     simp [this]
   have ge:=Lib.index_ge (d::r) [124,124]
   rw [kB,if_neg h,altsL_index (d::r) (acc++[c])]
   have e:Lib.index (c::d::r) [124,124]=if Lib.index (d::r) [124,124]= -1 then-1 else Lib.index (d::r) [124,124]+1:=by
    conv=>lhs;rw [Lib.index]
    rw [hp,if_neg (by decide)]
    simp
   rw [e]
   generalize Lib.index (d::r) [124,124]=n at ge
   by_cases hn:n= -1
   ·subst hn;simp
   ·rw [if_neg hn,if_neg hn,if_neg Om]
    have e2:(n+1).toNat=n.toNat+1:=by omega
    rw [e2,List.take_succ_cons,show n.toNat+1+2=(n.toNat+2)+1 from by omega,List.drop_succ_cons]
    simp
theorem splitK_from (sep:YL):∀ (f:Nat) (s:YL),s.length<f->Lib.splitK sep 0 (Lib.countFrom sep f s) s=if Lib.index s sep= -1 then [s] else s.take (Lib.index s sep).toNat::Lib.splitK sep 0 (Lib.countFrom sep (f-1) (s.drop ((Lib.index s sep).toNat+sep.length))) (s.drop ((Lib.index s sep).toNat+sep.length))
 |f+1,s,h=>by
  rw [Lib.countFrom]
  by_cases q:Lib.index s sep= -1
  ·rw [if_pos (by simp [q]),if_pos q,Lib.splitK]
  ·rw [if_neg (by simp [q]),if_neg q,Nat.add_comm 1,Lib.splitK,if_neg (by simp [q]),Nat.add_zero];rfl
theorem alts_from:∀ (f:Nat) (s:YL),s.length<f->Lib.splitK [124,124] 0 (Lib.countFrom [124,124] f s) s=kB [] s
 |f+1,s,h=>by
  rw [splitK_from _ _ _ h,altsL_index s []]
  by_cases q:Lib.index s [124,124]= -1
  ·rw [if_pos q,if_pos q];rfl
  ·have hr:=Lib.index_room s [124,124] (by have:=Lib.index_ge s [124,124];omega)
   rw [if_neg q,if_neg q]
   show _::Lib.splitK [124,124] 0 (Lib.countFrom [124,124] f _) _=_
   rw [alts_from f _ (by rw [List.length_drop];simp only [List.length_cons,List.length_nil];simp only [List.length_cons,List.length_nil] at hr;have:=Lib.index_ge s [124,124];omega)]
   rfl
theorem split_alts (s:YL):Lib.splitK [124,124] 0 (Lib.count s [124,124]) s=kB [] s:=alts_from _ s (Nat.lt_succ_self _)
theorem cut_index (b:UInt8)(s:YL):zE b [] s=if Lib.index s [b]= -1 then [s] else s.take (Lib.index s [b]).toNat::zE b [] (s.drop ((Lib.index s [b]).toNat+1)):=by
 have hc:=cutAt_cut b s
 have hge:=Lib.index_ge s [b]
 rw [xG,←hc]
 unfold Lib.cut
 by_cases h:Lib.index s [b]= -1
 ·have h2:¬ 0<=Lib.index s [b]:=by omega
  simp [h]
 ·have h2:0<=Lib.index s [b]:=by omega
  simp [h,h2]
theorem cuts_from (b:UInt8):∀ (f:Nat) (s:YL),s.length<f->Lib.splitK [b] 0 (Lib.countFrom [b] f s) s=zE b [] s
 |f+1,s,h=>by
  rw [splitK_from _ _ _ h,cut_index b s]
  by_cases q:Lib.index s [b]= -1
  ·rw [if_pos q,if_pos q]
  ·have hr:=Lib.index_room s [b] (by have:=Lib.index_ge s [b];omega)
   rw [if_neg q,if_neg q]
   show _::Lib.splitK [b] 0 (Lib.countFrom [b] f _) _=_
   rw [cuts_from b f _ (by rw [List.length_drop];simp only [List.length_cons,List.length_nil];simp only [List.length_cons,List.length_nil] at hr;have:=Lib.index_ge s [b];omega)]
   rfl
theorem pU (b:UInt8)(s:YL):Lib.splitK [b] 0 (Lib.count s [b]) s=zE b [] s:=cuts_from b _ s (Nat.lt_succ_self _)
theorem splitB_list (sep:YL)(k:Nat)(s:YL):Lib.splitB (mkS sep) 0 k (mkS s)=(Lib.splitK sep 0 k s).map mkS:=by
 have h:=Lib.splitB_data (mkS sep) 0 k (mkS s)
 rw [mk_data,mk_data] at h
 rw [←h,List.map_map]
 refine ((List.map_congr_left λx _=> ?_).trans (List.map_id _)).symm
 exact Lib.mk_data x
theorem splitB_alts (s:YL):Lib.splitB (mkS [124,124]) 0 (Lib.countB (mkS s) (mkS [124,124])) (mkS s)=(kB [] s).map mkS:=by
 rw [splitB_list,show Lib.countB (mkS s) (mkS [124,124])=Lib.count s [124,124] from by unfold Lib.countB;rw [mk_data,mk_data],split_alts]
theorem splitB_cuts (b:UInt8)(s:YL):Lib.splitB (mkS [b]) 0 (Lib.countB (mkS s) (mkS [b])) (mkS s)=(zE b [] s).map mkS:=by
 rw [splitB_list,show Lib.countB (mkS s) (mkS [b])=Lib.count s [b] from by unfold Lib.countB;rw [mk_data,mk_data],pU]
theorem bareF_drop:∀ (s:YL),Lib.trimLeftB s 32=yI s
 | []=>rfl
 |c::l=>by
  unfold Lib.trimLeftB
  rw [yI,List.dropWhile_cons]
  by_cases h:c=32
  ·subst h
   rw [if_pos (by decide),if_pos rfl];exact bareF_drop l
  ·rw [if_neg (by simp [h]),if_neg h]
def bareR (s:YL):YL:=(yI s.reverse).reverse
theorem bareF_snoc {c:UInt8}(h:c≠32):∀ (x:YL),yI (x++[c])=yI x++[c]
 | []=>by
  show yI [c]=[c]
  rw [yI];exact if_neg h
 |d::x=>by
  rw [List.cons_append,yI,yI]
  by_cases q:d=32
  ·rw [if_pos q,if_pos q,bareF_snoc h x]
  ·rw [if_neg q,if_neg q];rfl
theorem bareF_snoc32:∀ (x:YL),yI (x++[32])=if yI x=[] then [] else yI x++[32]
 | []=>by simp [yI]
 |d::x=>by
  rw [List.cons_append,yI,yI]
  by_cases q:d=32
  ·rw [if_pos q,if_pos q,bareF_snoc32 x]
  ·rw [if_neg q,if_neg q,if_neg (by simp)];rfl
theorem bare_swap:∀ (s:YL),yI (bareR s)=bareR (yI s)
 | []=>rfl
 |c::l=>by
  have ih:=bare_swap l
  by_cases h:c=32
  ·subst h
   rw [show yI (32::l)=yI l from by rw [yI,if_pos rfl],←ih]
   unfold bareR
   rw [List.reverse_cons,bareF_snoc32]
   by_cases q:yI l.reverse=[]
   ·rw [if_pos q,q]
   ·rw [if_neg q,List.reverse_append]
    show yI (32::(yI l.reverse).reverse)=_
    rw [yI,if_pos rfl]
  ·rw [show yI (c::l)=c::l from by rw [yI,if_neg h]]
   unfold bareR
   rw [List.reverse_cons,bareF_snoc h,List.reverse_append]
   show yI (c::(yI l.reverse).reverse)=c::(yI l.reverse).reverse
   rw [yI,if_neg h]
theorem trim_bare (s:YL):Lib.trimB s 32=yE s:=by
 unfold Lib.trimB Lib.trimRightB
 have e:∀ l:YL,l.dropWhile (·==32)=yI l:=bareF_drop
 rw [e,bareF_drop]
 exact bare_swap s
def fX (r:List (List Co)):YL:=if fewR r then kN r else []
theorem altText_ne {a:List Co}(h:fewA a=true):xN a≠[]:=by
 obtain ⟨h1,h2⟩:=fewA.facts h
 cases a with
 |nil=>exact absurd h1.1 (by decide)
 |cons c l=>
  have hc:c.print≠[]:=by
   rw [vK (h2 c (List.mem_cons_self ..))]
   exact text_ne (h2 c (List.mem_cons_self ..))
  unfold xN
  cases l with
  |nil=>exact hc
  |cons d l=>
   rw [List.map_cons,List.map_cons,pE]
   intro e
   exact hc (List.append_eq_nil_iff.1 (List.append_eq_nil_iff.1 e).1).1
theorem rgText_ne {r:List (List Co)}(h:fewR r=true):kN r≠[]:=by
 obtain ⟨h1,h2⟩:=fewR.facts h
 cases r with
 |nil=>exact absurd h1.1 (by decide)
 |cons a l=>
  have hc:=altText_ne (h2 a (List.mem_cons_self ..))
  unfold kN
  cases l with
  |nil=>exact hc
  |cons d l=>
   rw [List.map_cons,List.map_cons,pE]
   intro e
   exact hc (List.append_eq_nil_iff.1 (List.append_eq_nil_iff.1 e).1).1
theorem textR_nil {r:List (List Co)}:fX r=[]↔fewR r=false:=by
 unfold fX
 cases h:fewR r with
 |false=>simp
 |true=>simp [rgText_ne h]
theorem print_text (r:List (List Co)):wB r=if 96<(fX r).length then [] else fX r:=by
 unfold wB rgMay fX
 cases fewR r with
 |false=>simp
 |true=>
  by_cases h:(kN r).length<=96
  ·simp [h,Nat.not_lt.2 h]
  ·simp [h,Nat.lt_of_not_le h]
end
section
theorem grow_inner (B b n:Nat)(w:World)(hB:B<=b)(hbk:w.heap[b]?=some (.cells #[.pointer (some ⟨b,0,none⟩),.slice none 0 0] 98 (0,0)))(hBw:B<=w.heap.size)(hn:n<=281474976710656):
  YC 187 #[.pointer (some ⟨b,0,none⟩),YI n] w λe w'=>e= .returned (.tuple #[])/\(Lib.BuilderAt 98 5 B b (.pointer (some ⟨b,0,none⟩)) [] w'/\Below B w w'):=by
 obtain ⟨cs,hrun,hle,hmax⟩:=Lib.run_makeNoZero (P:=YP) w.drew #[3] 96 5 Tryz.underlying96 n hn
 have hlt:b<w.heap.size:=by
  rcases Nat.lt_or_ge b w.heap.size with h|h
  ·exact h
  ·simp [Array.getElem?_eq_none h] at hbk
 have hw:IntKind.i64.wrap (IntKind.i64.wrap 0+(n:Int))=n:=by
  rw [IntKind.wrap_i64,IntKind.wrap_i64];omega
 have hcall:(callFunc 220 #[YI (IntKind.i64.wrap (IntKind.i64.wrap 0+(n:Int)))]).run YP w.drew= .ok (.value (.slice (some ⟨w.drew.heap.size,0,none⟩) n cs.size)) (w.drew.drew.drew.alloc (.cells cs 5)):=by
  rw [hw,run_callFunc_extern Tryz.func220 Kr Kr Kr (e:=Extern.BytealgMakeNoZero.makeNoZero #[3] #[96]) Kr,hrun]
  rfl
 have c1:w.drew.cell? ⟨b,1,none⟩=some (.slice none 0 0):=by
  have:w.drew.heap[b]?=_:=hbk
  rw [Lib.cell_of_heap this];rfl
 have hb2:(w.alloc (.cells cs 5)).heap[b]?=_:=(Lib.alloc_old w _ b hlt).trans hbk
 have c2:(w.alloc (.cells cs 5)).cell? ⟨b,1,none⟩=some (.slice none 0 0):=by rw [Lib.cell_of_heap hb2];rfl
 have f2:(w.alloc (.cells cs 5)).frozen? ⟨b,1,none⟩=false:=Lib.frozen_of_heap hb2 1
 have hcopy:∀ W:World,(Builtin.copy_ #[96,96] 3 #[.slice (some ⟨w.heap.size,0,none⟩) 0 cs.size,.slice none 0 0]).run YP W= .ok (goInt 0) W:=
  λW=>run_copy_none W 96 96 3 5 _ _ 0 cs.size 0 0 Tryz.underlying96 Kr rfl
 clear hw hlt hb2
 have mixed:Tryz.prog.follows .mixedOrders=true:=by kernel_rfl
 go_enter Tryz.func187,Tryz.ntmps187
 go_wp2
 have hfin:=Lib.grown_fresh (T:=98) (e:=5) (cs:=cs) hB hbk hBw (hmax (by unfold maxLen;omega)) (by decide)
 have hbel:Below B w ((w.alloc (.cells cs 5)).setCell ⟨b,1,none⟩ (.slice (some ⟨w.heap.size,0,none⟩) 0 cs.size)).drew.drew.drew:=((((Below.refl B w).alloc hBw _).setCell (p:=⟨b,1,none⟩) hB _).drew).drew.drew
 go_region_o
 all_goals (go_wp2;go_end0;exact ⟨rfl,hfin.1,hbel⟩)
theorem grow_fresh (B b n:Nat)(w:World)(hB:B<=b)(hbk:w.heap[b]?=some (.cells #[.pointer none,.slice none 0 0] 98 (0,0)))(hBw:B<=w.heap.size)(hn:n<=281474976710656):
  YC 144 #[.pointer (some ⟨b,0,none⟩),YI n] w λe w'=>e= .returned (.tuple #[])/\(Lib.BuilderAt 98 5 B b (.pointer (some ⟨b,0,none⟩)) [] w'/\Below B w w'):=by
 obtain ⟨w1,hw1⟩:∃ x,x=w.setCell ⟨b,0,none⟩ (.pointer (some ⟨b,0,none⟩)):=⟨_,rfl⟩
 have hbk1:w1.heap[b]?=some (.cells #[.pointer (some ⟨b,0,none⟩),.slice none 0 0] 98 (0,0)):=by
  rw [hw1];simp [World.setCell,Array.getElem?_modify,hbk]
 have hs1:B<=w1.heap.size:=by rw [hw1];simpa [World.setCell] using hBw
 have hb1:Below B w w1:=by rw [hw1];exact (Below.refl B w).setCell (p:=⟨b,0,none⟩) hB _
 have hc:YC 89 #[.pointer (some ⟨b,0,none⟩)] w λe w'=>e= .returned (.tuple #[])/\w'=w1:=by
  rw [hw1]
  exact tR b w (by rw [Lib.cell_of_heap hbk];rfl) (by simp [World.shape?,hbk]) (Lib.frozen_of_heap hbk 0)
 clear hw1
 have c1:w1.cell? ⟨b,1,none⟩=some (.slice none 0 0):=by rw [Lib.cell_of_heap hbk1];rfl
 have c1':w1.drew.cell? ⟨b,1,none⟩=some (.slice none 0 0):=c1
 have hU:Lib.BuilderAt 98 5 B b (.pointer (some ⟨b,0,none⟩)) [] w1:=⟨hB,.slice none 0 0,hbk1,World.ownsRow_nil _ _ _ _,by simp [Value.ownBlock]⟩
 have mixed:Tryz.prog.follows .mixedOrders=true:=by kernel_rfl
 go_enter Tryz.func144,Tryz.ntmps144
 go_wp2_with (go_at_call 89;refine hc.mono ?_;rintro e w' ⟨rfl,hw⟩;rw [hw])
 go_region_o
 all_goals go_wp2_with (go_at_call 187;refine (grow_inner B b n w1.drew hB hbk1 hs1 hn).mono ?_;rintro e w' ⟨rfl,h1,h2⟩)
 all_goals first
  |(go_end0;exact ⟨rfl,h1,hb1.drew.trans h2⟩)
  |(go_end0;exact ⟨rfl,hU.drew,hb1.drew⟩)
end
section
structure HasLib (w:World):Prop where
 tab:HasTab w
 max:∃ m,w.cell? ⟨1,0,none⟩=some (YI m)
theorem HasLib.on {w w':World}(h:HasLib w)(hb:YB w w'):HasLib w':=
 ⟨h.tab.on hb,let ⟨m,hm⟩:=h.max;⟨m,(hb.cell (World.block_lt_of_cell? _ _ hm)).trans hm⟩⟩
theorem hasLib_of {W:World}(ht:HasTab W)(hS:W.ShapedOpen YP):HasLib W:=⟨ht,Tryz.laysM143.s1_3 W hS⟩
theorem split_own (s sep:YL)(l:List YL)(W:World)(h0:1<=sep.length)(hs:s.length<=1048576)(hl:Lib.splitB (mkS sep) 0 (Lib.countB (mkS s) (mkS sep)) (mkS s)=l.map mkS)(ht:HasLib W):
  YC 154 #[.string (mkS s),.string (mkS sep)] W λe w'=>∃ v' ob',e= .returned v'/\SlT v' l ob'/\Own [] W w' ob':=by
 obtain ⟨m,hm⟩:=ht.max
 have hz:(mkS sep).size=sep.length:=zQ sep
 have hlen:=Lib.splitB_all (mkS sep) Om 0 _ (mkS s) rfl
 have hle:=Lib.countB_le (mkS sep) Om (mkS s).size (mkS s) (Nat.le_refl _)
 rw [zQ] at hle
 rw [hl,List.length_map] at hlen
 refine (Tryz.strings_Split (mkS s) (mkS sep) m W (by rw [zQ];omega) hm Om).mono λe w' ⟨he,hw⟩=> ?_
 subst hw
 rw [hl,List.map_map] at*
 rw [←hlen] at he
 refine ⟨_,_,he,slt_lit l W.heap.size _ (by unfold jD;rfl) (by unfold maxLen;omega),(Own.start [] W).alloc _ _⟩
theorem split_bars (s:YL)(W:World)(hs:s.length<=1048576)(ht:HasLib W):
  YC 154 #[.string (mkS s),.string ⟨#[124,124]⟩] W λe w'=>∃ v' ob',e= .returned v'/\SlT v' (kB [] s) ob'/\Own [] W w' ob':=
 split_own s [124,124] (kB [] s) W (by decide) hs (splitB_alts s) ht
theorem split_comma (s:YL)(W:World)(hs:s.length<=1048576)(ht:HasLib W):
  YC 154 #[.string (mkS s),.string ⟨#[44]⟩] W λe w'=>∃ v' ob',e= .returned v'/\SlT v' (zE 44 [] s) ob'/\Own [] W w' ob':=
 split_own s [44] (zE 44 [] s) W (by decide) hs (splitB_cuts 44 s) ht
theorem trim_any (s:YL)(W:World)(hs:s.length<=1048576):
  YC 177 #[.string (mkS s),.string ⟨#[32]⟩] W (YR (.string (mkS (yE s))) W):=
 (Tryz.strings_Trim_one (mkS s) 32 (by decide) W (by rw [zQ];omega)).mono λe w' ⟨he,hw⟩=>
  ⟨by rw [he,mk_data,trim_bare];rfl,hw.elim (λq=>q▸Below.refl _ _) (λq=>q▸(Below.refl _ _).drew)⟩
def qO (sep:YL):List YL->YL
 | []=>[]
 |x::r=>sep++x++qO sep r
theorem joinB_T (sep:YL):∀ (r:List YL) (x:YL),vN sep (x::r)=x++qO sep r
 | [],x=>by simp [vN,qO]
 |y::r,x=>by rw [pE,joinB_T sep r y,qO];simp only [List.append_assoc]
theorem joinT_snoc (sep x:YL):∀ (r:List YL),qO sep (r++[x])=qO sep r++(sep++x)
 | []=>by simp [qO]
 |y::r=>by rw [List.cons_append,qO,qO,joinT_snoc sep x r];simp only [List.append_assoc]
theorem joinT_len {sep:YL}(hs:sep.length<=100):∀ {r:List YL},(∀ x∈r,x.length<=1048576)->(qO sep r).length<=r.length*1048676
 | [],_=>by simp [qO]
 |y::r,h=>by
  have h1:=joinT_len hs (r:=r) λx hx=>h x (List.mem_cons_of_mem _ hx)
  have h2:=h y (List.mem_cons_self ..)
  rw [qO];simp only [List.length_append,List.length_cons];omega
theorem bc_two (x y z:YL):Lib.byteCells (x++(y++z))=Lib.byteCells x++Lib.strCells (mkS y)++Lib.strCells (mkS z):=by
 rw [jL,jL,←Lib.byteCells_append,←Lib.byteCells_append,List.append_assoc]
theorem join_many (sep x0:YL)(r:List YL)(b off cap:Nat)(w:World)(hc:∀ j (h:j<(x0::r).length),w.cell? ⟨b,off+j,none⟩=some (.string (mkS ((x0::r)[j]))))
  (hb:b<w.heap.size) (hr:1<=r.length) (hn:r.length<=1000) (h0:sep≠[]) (hs:sep.length<=100) (hx:∀ x∈x0::r,x.length<=1048576) (hcap:r.length+1<=cap):
  YC 94 #[.slice (some ⟨b,off,none⟩) (r.length+1) cap,.string (mkS sep)] w (YR (.string (mkS (vN sep (x0::r)))) w):=by
 have HT:=Lib.hid (show ∀ k,(x0++qO sep (r.take k)).length<=2000000000 from λk=>by
  have h1:=joinT_len hs (r:=r.take k) λx hm=>hx x (List.mem_cons_of_mem _ (List.mem_of_mem_take hm))
  have h2:=hx x0 (List.mem_cons_self ..)
  have h3:(r.take k).length<=1000:=Nat.le_trans (by rw [List.length_take];exact Nat.min_le_right ..) hn
  rw [List.length_append];omega)
 have HC:=Lib.hid hc
 have HX:=Lib.hid hx
 have HJ:=Lib.hid (joinB_T sep r x0)
 have hx0:(mkS x0).size<=1048576:=by rw [zQ];exact hx x0 (List.mem_cons_self ..)
 obtain ⟨S,hS⟩:∃ q,q=mkS sep:=⟨_,rfl⟩
 have hSz:S.size=sep.length:=by rw [hS,zQ]
 have hS1:1<=S.size:=by cases sep with
  |nil=>exact absurd rfl h0
  |cons _ _=>rw [hSz];simp
 have hS9:S.size<=100:=by omega
 rw [←hS]
 have HS:=Lib.hid hS
 obtain ⟨N,hN⟩:∃ q,q=r.length+1:=⟨_,rfl⟩
 rw [←hN] at hcap ⊢
 have hcast:((N:Int) -1)=(r.length:Int):=by omega
 have hmul:S.size*r.length<=100000:=Nat.le_trans (Nat.mul_le_mul hS9 hn) (by decide)
 have hdv:¬ (9223372036854775807/((N:Int) -1)<=(S.size:Int)):=by
  rw [hcast]
  intro q
  have h1:(9223372036854775807:Int)<((S.size:Int)+1)*(r.length:Int):=
   Int.lt_mul_of_ediv_lt Om (Int.lt_add_one_of_le q)
  have h2:((S.size:Int)+1)*(r.length:Int)=((S.size*r.length+r.length:Nat):Int):=by rw [Int.add_mul,Int.one_mul];push_cast;rfl
  omega
 have hprod:wrap64 ((S.size:Int)*((N:Int) -1))=((S.size*r.length:Nat):Int):=by
  rw [hcast,show (S.size:Int)*(r.length:Int)=((S.size*r.length:Nat):Int) from by push_cast;rfl]
  exact IntWalk.wrap64_in _ ⟨by omega,by omega⟩
 generalize S.size*r.length=M at hmul hprod
 have hne0:((N:Int)==0)=false:=beq_eq_false_iff_ne.2 Om
 have hne1:((N:Int)==1)=false:=beq_eq_false_iff_ne.2 Om
 have hN2:2<=N:=by omega
 have hN9:N<=1001:=by omega
 have HN:=Lib.hid hN
 have H0:=Lib.hid h0
 clear hc hx hs h0 hS hSz hcast hN hr hn
 go_enter Tryz.func94,Tryz.ntmps94
 go_wp2
 go_loop [5,41] (λn i=>∃ (k t:Nat),k<=N/\i=YI k/\n=YI t/\t<=100000+k*1048576) (λ_ i=>N-(intOf i).toNat)
 case atStart=>exact ⟨0,M,Nat.zero_le _,rfl,rfl,by omega⟩
 case round=>
  obtain ⟨k,t,hk,rfl,rfl,ht⟩:=hrel
  by_cases hkn:k<N
  ·have hkl:k<(x0::r).length:=by have:=HN.out;rw [List.length_cons];omega
   obtain ⟨y,hy⟩:∃ q,q=mkS ((x0::r)[k]):=⟨_,rfl⟩
   have hyz:y.size<=1048576:=by rw [hy,zQ];exact HX.out _ (List.getElem_mem hkl)
   have hck:w.cell? ⟨b,off+k,none⟩=some (.string y):=by rw [hy];exact HC.out k hkl
   clear hy hkl
   go_wp2
   exact ⟨⟨k+1,t+y.size,by omega,by go_num,by go_num,by omega⟩,by simp [intOf];omega⟩
  ·obtain rfl:k=N:=by omega
   go_wp2_with (go_at_call 144;refine (grow_fresh w.heap.size w.heap.size t _ (Nat.le_refl _) (heap_alloc_new w _) (by simp) Om).mono ?_)
   rintro e w1 rfl h1 hb1
   have hb1':YB w w1:=((Below.refl w.heap.size w).alloc (Nat.le_refl _) _).trans hb1
   have hsz1:=hb1'.size
   have hc0:w1.cell? ⟨b,off,none⟩=some (.string (mkS x0)):=by
    rw [hb1'.cell (p:=⟨b,off,none⟩) hb]
    exact HC.out 0 (by simp)
   have H1:=Lib.hid (Or.inr h1:Lib.IsBuilder 98 5 w.heap.size w.heap.size [] w1)
   have HB1:=Lib.hid hb1'
   clear h1 hb1 hb1' ht hprod hmul hdv hkn hk
   obtain ⟨X,hX⟩:∃ q,q=mkS x0:=⟨_,rfl⟩
   rw [←hX] at hc0 hx0
   have HX0:=Lib.hid hX
   clear hX
   go_wp2_with (go_at_call 49;refine (kF w.heap.size w.heap.size [] X w1 H1.out ?_ hsz1).mono ?_)
   ·simp;omega
   rintro e w2 ⟨rfl,h2,hb2⟩
   have H2:=Lib.hid (show Lib.IsBuilder 98 5 w.heap.size w.heap.size (Lib.byteCells (x0++qO sep (r.take 0))) w2 from by
    rw [HX0.out,jL,List.nil_append] at h2
    rw [List.take_zero,qO,List.append_nil];exact Or.inr h2)
   have HB2:=Lib.hid (HB1.out.trans hb2)
   clear h2 hb2 hsz1 hc0
   have hrk:k-1=r.length:=by have:=HN.out;omega
   go_wp2
   go_loopw [65] (λi wr=>∃ j:Nat,j<=r.length/\i=YI j/\Hid (Lib.IsBuilder 98 5 w.heap.size w.heap.size (Lib.byteCells (x0++qO sep (r.take j))) wr)/\Hid (YB w wr)) (λi _=>r.length-(intOf i).toNat)
   case atStart=>exact ⟨0,Nat.zero_le _,rfl,H2,HB2⟩
   case round=>
    obtain ⟨j,hj,rfl,HB,HW⟩:=hrel
    have hsz:=HW.out.size
    by_cases hjr:j<r.length
    ·obtain ⟨y,hy⟩:∃ q,q=mkS r[j]:=⟨_,rfl⟩
     have hyz:y.size<=1048576:=by rw [hy,zQ];exact HX.out _ (List.mem_cons_of_mem _ (List.getElem_mem hjr))
     have hck:wr.cell? ⟨b,off+1+j,none⟩=some (.string y):=by
      rw [HW.out.cell (p:=⟨b,off+1+j,none⟩) hb,hy,show off+1+j=off+(j+1) from by omega]
      exact HC.out (j+1) (by simp;omega)
     have HY:=Lib.hid hy
     have hlen:(Lib.byteCells (x0++qO sep (r.take j))).length<=2000000000:=by rw [Lib.byteCells_length];exact HT.out j
     have HE:=Lib.hid (show Lib.byteCells (x0++qO sep (r.take j))++Lib.strCells S++Lib.strCells y=Lib.byteCells (x0++qO sep (r.take (j+1))) from by
      rw [HS.out,HY.out,List.take_succ_eq_append_getElem hjr,joinT_snoc,←List.append_assoc,bc_two])
     clear hy
     go_wp2_with (go_at_call 49;refine (kF w.heap.size w.heap.size _ S wr HB.out ?_ hsz).mono ?_)
     ·omega
     rintro e w3 ⟨rfl,h3,hb3⟩
     have hsz3:=Nat.le_trans hsz hb3.size
     have H3:=Lib.hid h3
     have HB3:=Lib.hid hb3
     clear h3 hb3
     go_wp2_with (go_at_call 49;refine (kF w.heap.size w.heap.size _ y w3 (Or.inr H3.out) ?_ hsz3).mono ?_)
     ·rw [List.length_append,Lib.strCells_length];omega
     rintro e w4 ⟨rfl,h4,hb4⟩
     rw [HE.out] at h4
     have H4:=Lib.hid (Or.inr h4:Lib.IsBuilder 98 5 w.heap.size w.heap.size (Lib.byteCells (x0++qO sep (r.take (j+1)))) w4)
     have HB4:=Lib.hid ((HW.out.trans HB3.out).trans hb4)
     clear h4 hb4
     go_wp2
     go_roundw
     case rel=>exact ⟨j+1,by omega,by go_num,H4,HB4⟩
     case measure=>simp [intOf];omega
    ·obtain rfl:j=r.length:=by omega
     have HB':=HB.out
     rw [List.take_length,←HJ.out] at HB'
     have hne:vN sep (x0::r)≠[]:=by
      rw [HJ.out]
      cases r with
      |nil=>simp at hrk;omega
      |cons y r=>rw [qO];intro q;exact H0.out (List.append_eq_nil_iff.1 (List.append_eq_nil_iff.1 (List.append_eq_nil_iff.1 q).2).1).1
     have HBF:=Lib.hid HB'
     clear HB'
     go_wp2_with (go_at_call 50;refine (string_any w.heap.size w.heap.size _ _ HBF.out hne).mono ?_)
     rintro e w5 ⟨rfl,hb5⟩
     go_wp2
     go_ret
     exact ⟨rfl,HW.out.trans hb5⟩
theorem join_one (sep x:YL)(A:Option Addr)(cap:Nat)(w:World)(hv:Reads yY w w.heap.size A [x])(hcap:1<=cap):
  YC 94 #[.slice A 1 cap,.string (mkS sep)] w (YR (.string (mkS x)) w):=by
 obtain ⟨b,off,rfl,hb,hcell⟩:=hv (by simp)
 have hc:w.cell? ⟨b,off,none⟩=some (.string (mkS x)):=hcell 0 _ rfl
 go_enter Tryz.func94,Tryz.ntmps94
 go_wp2
 go_ret
 exact ⟨rfl,Below.refl _ _⟩
theorem join_none (sep:YL)(A:Option Addr)(cap:Nat)(w:World):
  YC 94 #[.slice A 0 cap,.string (mkS sep)] w (YR (.string (mkS [])) w):=by
 go_enter Tryz.func94,Tryz.ntmps94
 go_wp2
 go_ret
 exact ⟨rfl,Below.refl _ _⟩
theorem sjoin_any (sep:YL)(l:List YL)(A:Option Addr)(cap:Nat)(w:World)(hv:Reads yY w w.heap.size A l)(h0:sep≠[])(hs:sep.length<=100)(hn:l.length<=1000)(hx:∀ x∈l,x.length<=1048576)(hcap:l.length<=cap):
  YC 94 #[.slice A l.length cap,.string (mkS sep)] w (YR (.string (mkS (vN sep l))) w):=by
 match l,hv,hn,hx,hcap with
 | [],_,_,_,_=>exact join_none sep A cap w
 | [x],hv,_,_,hcap=>exact join_one sep x A cap w hv hcap
 |x::y::r,hv,hn,hx,hcap=>
  obtain ⟨b,off,rfl,hb,hcell⟩:=hv (by simp)
  refine join_many sep x (y::r) b off cap w (λj hj=> ?_) hb (by simp) (by simp at hn ⊢;omega) h0 hs hx hcap
  refine hcell j _ ?_
  rw [←kL];unfold jD
  rw [List.getElem?_map,List.getElem?_eq_getElem hj];rfl
theorem SlT.caps {A:Option Addr}{n cap:Nat}{l:List YL}{ob:List Blk}(h:SlT (.slice A n cap) l ob):n=l.length/\l.length<=cap:=by
 rcases h.2 with ⟨h1,h2,_⟩|⟨g,c,cur,h1,_,h3,_⟩
 ·injection h1 with q1 q2 q3
  exact ⟨by omega,by omega⟩
 ·injection h1 with q1 q2 q3
  exact ⟨q2,by omega⟩
end
section
def fC:Nat->YL->List YL
 |0,s=>[s]
 |k+1,s=>if (zA 46 s).2.2 then (zA 46 s).1::fC k (zA 46 s).2.1 else [s]
theorem pcsK_len:∀ (k:Nat) (s:YL),1<=(fC k s).length/\(fC k s).length<=k+1
 |0,s=>⟨Nat.le_refl _,Nat.le_refl _⟩
 |k+1,s=>by
  have h:=pcsK_len k (zA 46 s).2.1
  unfold fC
  split
  ·simp only [List.length_cons];omega
  ·simp only [List.length_cons,List.length_nil];omega
theorem pcsK_mem:∀ (k:Nat) (s:YL),∀ x∈fC k s,x.length<=s.length
 |0,s,x,hx=>by rw [List.mem_singleton.1 hx];exact Nat.le_refl _
 |k+1,s,x,hx=>by
  unfold fC at hx
  have hl:=jX 46 s
  split at hx
  ·rcases List.mem_cons.1 hx with e|hx
   ·rw [e];omega
   ·have:=pcsK_mem k (zA 46 s).2.1 x hx;omega
  ·rw [List.mem_singleton.1 hx];exact Nat.le_refl _
theorem pcsK_join:∀ (k:Nat) (l:List YL),l≠[]->l.length<=k+1->(∀ x∈l,(46:UInt8)∉x)->fC k (zG 46 l)=l
 |_,[],h,_,_=>absurd rfl h
 |0,[x],_,_,_=>rfl
 |k+1,[x],_,_,h=>by
  unfold fC
  show (if (zA 46 x).2.2=true then _ else _)=_
  rw [jW 46 x (h x (List.mem_singleton.2 rfl))]
  exact if_neg Bool.false_ne_true
 |0,x::y::r,_,hl,_=>by simp at hl
 |k+1,x::y::r,_,hl,h=>by
  have ih:=pcsK_join k (y::r) (by simp) (by simpa using hl) λz hz=>h z (List.mem_cons_of_mem _ hz)
  unfold fC
  rw [zG,bM 46 _ _ (h x (List.mem_cons_self ..)),if_pos rfl]
  dsimp only
  rw [ih]
def sgo (s:YL):Nat->Int×YL
 |0=>(7,s)
 |k+1=>if yO s (y9 ((k+1:Nat):Int))=true/\(s.drop (y9 ((k+1:Nat):Int)).length).length<(sgo s k).2.length then (((k+1:Nat):Int),s.drop (y9 ((k+1:Nat):Int)).length) else sgo s k
theorem sgo_le (s:YL):∀ k,(sgo s k).2.length<=s.length
 |0=>Nat.le_refl _
 |k+1=>by
  unfold sgo
  split
  ·show (s.drop _).length<=_;rw [List.length_drop];omega
  ·exact sgo_le s k
def dX (s:YL):List YL:=fC 2 (zA 45 (sgo s 8).2).1
def starP (s:YL):Bool:=decide ((dX s).getLast?=some [42])
def wL (s:YL):Co:=⟨if starP s then 9 else (sgo s 8).1,if starP s then ((dX s).length:Int) -1 else ((dX s).length:Int),⟨zK (tg (dX s) 0),zK (tg (dX s) 1),zK (tg (dX s) 2),(zA 45 (sgo s 8).2).2.1,[]⟩⟩
theorem nob {d a:UInt8}{r t:YL}(h:d≠a):¬ (yO (d::r) (a::t)=true):=by rw [vT h];decide
theorem sgo_plain {d:UInt8}{r:YL}(h:yL d.toNat=true\/d=42):sgo (d::r) 8=(7,d::r):=by
 have hd:∀ a:UInt8,yL a.toNat=false->a≠42->d≠a:=λa ha h42 e=>by
  subst e
  rcases h with h|h
  ·rw [ha] at h;cases h
  ·exact h42 h
 have hb:∀ k:Nat,1<=k->k<=8→¬ (yO (d::r) (y9 (k:Int))=true):=λk h1 h8=>by
  have hk:k=1\/k=2\/k=3\/k=4\/k=5\/k=6\/k=7\/k=8:=by omega
  rcases hk with rfl|rfl|rfl|rfl|rfl|rfl|rfl|rfl
  ·exact nob (hd 61 (by decide) (by decide))
  ·exact nob (hd 33 (by decide) (by decide))
  ·exact nob (hd 60 (by decide) (by decide))
  ·exact nob (hd 60 (by decide) (by decide))
  ·exact nob (hd 62 (by decide) (by decide))
  ·exact nob (hd 62 (by decide) (by decide))
  ·exact nob (hd 94 (by decide) (by decide))
  ·exact nob (hd 126 (by decide) (by decide))
 have:∀ k:Nat,k<=8->sgo (d::r) k=(7,d::r):=λk=>by
  induction k with
  |zero=>intro _;rfl
  |succ k ih=>
   intro h8
   unfold sgo
   rw [if_neg (λq=>hb (k+1) Om h8 q.1)]
   exact ih Om
 exact this 8 (by decide)
theorem sgo_sign {op:Int}(h1:1<=op)(h8:op<=8){d:UInt8}{r:YL}(hd:yL d.toNat=true):sgo (y9 op++d::r) 8=(op,d::r):=by
 have h61:d≠61:=λe=>by subst e;revert hd;decide
 have hop:op=1\/op=2\/op=3\/op=4\/op=5\/op=6\/op=7\/op=8:=by omega
 rcases hop with rfl|rfl|rfl|rfl|rfl|rfl|rfl|rfl<;>simp [y9,sgo,yO,h61]
theorem numD_star:zK [42]=0:=by decide
theorem tg_star {v:Ver}(hv:v.may=true){n:Nat}(h:n<=2)(h0:0<n\/v.maj=0)(h1:1<n\/v.min=0)(h2:2<n\/v.pat=0):zK (tg (y7 v n++[[42]]) 0)=v.maj/\zK (tg (y7 v n++[[42]]) 1)=v.min/\zK (tg (y7 v n++[[42]]) 2)=v.pat:=by
 obtain ⟨m1,m2,m3⟩:=qN hv
 have e1:=vI m1
 have e2:=vI m2
 match n,h with
 |0,_=>exact ⟨numD_star.trans (h0.resolve_left (by decide)).symm,(h1.resolve_left (by decide)).symm,(h2.resolve_left (by decide)).symm⟩
 |1,_=>exact ⟨e1,numD_star.trans (h1.resolve_left (by decide)).symm,(h2.resolve_left (by decide)).symm⟩
 |2,_=>exact ⟨e1,e2,numD_star.trans (h2.resolve_left (by decide)).symm⟩
theorem rest_pieces {c:Co}(h:c.may=true):fC 2 (zA 45 c.rest).1=(if c.op=9 then y7 c.v c.parts.toNat++[[42]] else y7 c.v c.parts.toNat)/\(zA 45 c.rest).2.1=c.v.pre:=by
 obtain ⟨_,hv,hb,h9,hn,hp,k0,k1,k2⟩:=Co.facts h
 unfold Co.rest
 by_cases e:c.op=9
 ·rw [if_pos e,if_pos e]
  have f:∀ b:UInt8,yL b.toNat=false->b≠42→∀ x∈y7 c.v c.parts.toNat++[[42]],b∉x:=λb hb hb2 x hx=>by
   rcases List.mem_append.1 hx with hx|hx
   ·exact bJ hv b hb x hx
   ·rw [List.mem_singleton.1 hx]
    intro hm
    exact hb2 (List.mem_singleton.1 hm)
  rw [jW 45 _ (m7 45 (by decide) _ (f 45 (by decide) (by decide)))]
  have hq:=h9 e
  have hpre:c.v.pre=[]:=hp.resolve_left Om
  refine ⟨?_,hpre.symm⟩
  refine pcsK_join 2 _ (by simp) ?_ (f 46 (by decide) (by decide))
  rw [List.length_append,wD c.v Om]
  simp only [List.length_cons,List.length_nil];omega
 ·rw [if_neg e,if_neg e]
  have hq:=hn e
  have hlen:=wD c.v (n:=c.parts.toNat) Om
  have hne:y7 c.v c.parts.toNat≠[]:=λh0=>by
   rw [h0] at hlen
   simp at hlen;omega
  rw [cut_tail 45 _ _ (m7 45 (by decide) _ (bJ hv 45 (by decide)))]
  exact ⟨pcsK_join 2 _ hne Om (bJ hv 46 (by decide)),rfl⟩
theorem nums_last {c:Co}(h:c.may=true)(hn:¬ c.op=9):¬ (y7 c.v c.parts.toNat).getLast?=some [42]:=λhl=>by
 have hv:=(Co.facts h).2.1
 have:=bJ hv 42 (by decide) _ (List.mem_of_getLast? hl)
 exact this (List.mem_singleton.2 rfl)
theorem guess_of {c:Co}{s:YL}(h:c.may=true)(hs:(sgo s 8).2=c.rest)(ho:c.op=9\/(sgo s 8).1=c.op):wL s=c:=by
 obtain ⟨_,hv,hb,h9,hn,hp,k0,k1,k2⟩:=Co.facts h
 obtain ⟨p1,p2⟩:=rest_pieces h
 have hpc:dX s=if c.op=9 then y7 c.v c.parts.toNat++[[42]] else y7 c.v c.parts.toNat:=by unfold dX;rw [hs];exact p1
 unfold wL
 rw [hs,p2]
 by_cases e:c.op=9
 ·have hq:=h9 e
  rw [if_pos e] at hpc
  have hst:starP s=true:=by unfold starP;rw [hpc,List.getLast?_concat];exact decide_eq_true rfl
  obtain ⟨e1,e2,e3⟩:=tg_star hv (n:=c.parts.toNat) Om Om Om Om
  rw [hst,hpc,if_pos rfl,if_pos rfl,e1,e2,e3,List.length_append,wD c.v Om,List.length_singleton]
  obtain ⟨op,parts,a,b,d,q,r⟩:=c
  simp only at hb e hq ⊢
  rw [hb,e]
  congr 1
  omega
 ·have hq:=hn e
  rw [if_neg e] at hpc
  have hst:starP s=false:=by unfold starP;rw [hpc];exact decide_eq_false (nums_last h e)
  obtain ⟨e1,e2,e3⟩:=nums_back hv (n:=c.parts.toNat) Om Om Om Om
  rw [hst,hpc,if_neg (by decide),if_neg (by decide),e1,e2,e3,wD c.v Om,ho.resolve_left e]
  obtain ⟨op,parts,a,b,d,q,r⟩:=c
  simp only at hb hq ⊢
  rw [hb]
  congr 1
  omega
theorem guess_co {c:Co}{s:YL}(h:c.may=true)(hs:c.text=s\/c.text=94::s):wL s=c:=by
 obtain ⟨ho,_⟩:=Co.facts h
 by_cases hn:c.op=9
 ·obtain ⟨d,r,e,hd⟩:=star_head h hn
  have ht:c.text=d::r:=by unfold Co.text;rw [hn,show y9 9=[] from rfl,List.nil_append,e]
  rcases hs with hs|hs
  ·rw [ht] at hs
   rw [←hs]
   exact guess_of h (by rw [sgo_plain hd,e]) (.inl hn)
  ·rw [ht] at hs
   injection hs with e1 _
   rw [e1] at hd
   exact absurd hd (by decide)
 ·obtain ⟨d,r,e,hd⟩:=nY h hn
  have ht:c.text=y9 c.op++d::r:=by unfold Co.text;rw [e]
  have hs8:=sgo_sign ho.1 Om (r:=r) hd
  rcases hs with hs|hs
  ·rw [ht] at hs
   rw [←hs]
   exact guess_of h (by rw [hs8,e]) (.inr (by rw [hs8]))
  ·rw [ht] at hs
   have hop:c.op=1\/c.op=2\/c.op=3\/c.op=4\/c.op=5\/c.op=6\/c.op=7\/c.op=8:=by omega
   have h7:c.op=7:=by rcases hop with e2|e2|e2|e2|e2|e2|e2|e2<;>rw [e2] at hs<;>first|exact e2|simp [y9] at hs
   rw [h7] at hs
   have hs2:d::r=s:=by injection hs
   rw [←hs2]
   exact guess_of h (by rw [sgo_plain (.inl hd),e]) (.inr (by rw [sgo_plain (.inl hd),h7]))
theorem guess_nil:wL []=⟨7,1,⟨0,0,0,[],[]⟩⟩:=by decide
theorem fits_may {s:YL}(h:(wL s).print=s\/(wL s).print=94::s):(wL s).may=true:=by
 refine print_may λe=> ?_
 rw [e] at h
 rcases h with h|h
 ·subst h
  revert e
  rw [guess_nil]
  decide+kernel
 ·cases h
theorem prog_some {s:YL}(h:(wL s).print=s\/(wL s).print=94::s):gF s=some (wL s):=by
 have hm:=fits_may h
 rw [vK hm] at h
 exact (t7 s _).2 ⟨hm,h⟩
theorem prog_none {s:YL}(h:¬ ((wL s).print=s\/(wL s).print=94::s)):gF s=none:=by
 cases hp:gF s with
 |none=>rfl
 |some c=>
  obtain ⟨hm,ht⟩:=(t7 s c).1 hp
  have hg:=guess_co hm ht
  rw [hg,vK hm] at h
  exact absurd ht h
def behC (c:Co):Cu:=if c.parts=3 then ⟨0,c.v,true⟩ else if c.parts=0 then dV 1 else highC c.v (c.parts-1).toNat
def leadK (c:Co):Int:=if ¬ c.v.maj=0 then 0 else if ¬ c.v.min=0 then 1 else if ¬ c.v.pat=0 then 2 else c.parts-1
def boundC (c:Co):Cu×Cu:=
 if c.op=3 then (dV (-1),⟨0,c.v,false⟩) else if c.op=4 then (dV (-1),behC c) else if c.op=5 then (behC c,dV 1) else if c.op=6 then (⟨0,c.v,false⟩,dV 1)
 else if c.op=7 then (⟨0,c.v,false⟩,highC c.v (leadK c).toNat) else if c.op=8 then (⟨0,c.v,false⟩,highC c.v (min (c.parts-1) 1).toNat) else if c.parts=0 then (dV (-1),dV 1) else (⟨0,c.v,false⟩,behC c)
end
section
def fF (v:Ver):Array Value:= #[YI v.maj,YI v.min,YI v.pat]
theorem cnums_any (v:Ver)(W:World):YC 240 #[kJ v] W λe w'=>∃ v' ob',e= .returned v'/\(∃ g,v'= .slice (some ⟨g,0,none⟩) 3 3/\ob'=[⟨g,fF v,3⟩])/\Own [] W w' ob':=by
 exact zD Tryz.func240 (yK [] λb1=>gM [0,0,0] 3 3 #[YI v.maj,YI v.min,YI v.pat] λb2=>z7 [] (.slice (some ⟨b2,0,none⟩) 3 3) λw hO=>⟨_,_,rfl,⟨b2,rfl,rfl⟩,Own.nth 0 ⟨b2,fF v,3⟩ hO⟩)
theorem cMay_any (c:Co)(W:World)(hc:c.short):YC 215 #[coV c] W (YR (.bool c.may) W):=by
 obtain ⟨op,parts,v⟩:=c
 have hm:= @Co.may_iff ⟨op,parts,v⟩
 simp only at hm
 have no:∀ w,YB W w→¬ (Co.may ⟨op,parts,v⟩=true)->Ending.returned (.bool false)= .returned (.bool (Co.may ⟨op,parts,v⟩))/\YB W w:=λw hb h=>⟨by rw [Bool.eq_false_iff.2 h],hb⟩
 have hmay:∀ w,YC 64 #[kJ v] w (YR (.bool v.may) w):=λw=>may_any v w (Nat.lt_of_le_of_lt hc.1 (by decide)) (Nat.lt_of_le_of_lt hc.2 (by decide))
 have hnum:∀ w,YC 240 #[kJ v] w λe w'=>∃ v' ob',e= .returned v'/\(∃ g,v'= .slice (some ⟨g,0,none⟩) 3 3/\ob'=[⟨g,fF v,3⟩])/\Own [] w w' ob':=λw=>cnums_any v w
 refine zD Tryz.func215 (yK [] λb1=>bR 9 (α:=Int×Int) (λq=>[(1,Zp b1 0),(3,YI q.1),(4,YI q.2)]) (λ_=>[⟨b1,(coV ⟨op,parts,v⟩).cells,140⟩]) (λq=>(op=9->q.1=0/\q.2=2)/\(¬ op=9->q.1=1/\q.2=3)) [0] (λnj=>x_now 9 (op=9) (λh=>nj (0,2) [] ⟨λ_=>⟨rfl,rfl⟩,λq=>absurd h q⟩ Kr) (λh=>nj (1,3) [] ⟨λq=>absurd q h,λ_=>⟨rfl,rfl⟩⟩ Kr)) ?_)
 rintro ⟨lo,hi⟩ g hr
 simp only at hr
 refine zB 12 [0] (op<1) (λh1=>(z7 [] Z5 λw hO=>no w hO.below λq=>by have:=hm.1 q;grind)) (λh1=>zB 16 [0] (op>9) (λh2=>(z7 [] Z5 λw hO=>no w hO.below λq=>by have:=hm.1 q;grind)) (λh2=>zB 22 [0] (parts<lo) (λh5=>(z7 [] Z5 λw hO=>no w hO.below λq=>by have:=hm.1 q;grind)) (λh5=>zB 28 [0] (parts>hi) (λh6=>(z7 [] Z5 λw hO=>no w hO.below λq=>by have:=hm.1 q;grind)) (λh6=> ?_))))
 rcases (by omega:parts=0\/parts=1\/parts=2\/parts=3) with rfl|rfl|rfl|rfl
 ·refine x_drawF (.s (.s (.s (.s (.s (.s (.s (.s .z)))))))) 8 [] (gD [0,0] 2 (nN (R:=λv' ob'=>∃ g,v'= .slice (some ⟨g,0,none⟩) 3 3/\ob'=[⟨g,fF v,3⟩]) (λw hO=>hnum w) ?_))
  rintro v' ob' ⟨gb,rfl,rfl⟩
  exact mA 3 [] (vP 42 [1] (v.maj=0) (λa1=>vP 42 [1] (v.min=0) (λa2=>vP 42 [1] (v.pat=0) (λa3=>z8 (v:= .bool v.may) [0] (λw hO=>hmay w) (zP 46 v.may (λe3=>x4 51 [0] v.build [] (λh4=>x4 57 [0] v.pre [] (λh8=>(z7 [] Z4 λw hO=>⟨by rw [hm.2 ⟨by omega,e3,h4,by omega,by omega,by first|exact .inr h8|exact .inl Om,by omega,by omega,by omega⟩],hO.below⟩)) (λh8=>(z7 [0] Z5 λw hO=>no w hO.below λq=>by have:=hm.1 q;grind))) (λh4=>(z7 [] Z5 λw hO=>no w hO.below λq=>by have:=hm.1 q;grind))) (λe3=>(z7 [] Z5 λw hO=>no w hO.below λq=>by have:=hm.1 q;grind)))) (λa3=>(z7 [] Z5 λw hO=>no w hO.below λq=>by have:=hm.1 q;grind))) (λa2=>(z7 [] Z5 λw hO=>no w hO.below λq=>by have:=hm.1 q;grind))) (λa1=>(z7 [] Z5 λw hO=>no w hO.below λq=>by have:=hm.1 q;grind)))
 ·refine x_drawF (.s (.s (.s (.s (.s (.s (.s (.s .z)))))))) 8 [] (gD [0,0] 2 (nN (R:=λv' ob'=>∃ g,v'= .slice (some ⟨g,0,none⟩) 3 3/\ob'=[⟨g,fF v,3⟩]) (λw hO=>hnum w) ?_))
  rintro v' ob' ⟨gb,rfl,rfl⟩
  exact mA 3 [] (vP 42 [1] (v.min=0) (λa2=>vP 42 [1] (v.pat=0) (λa3=>z8 (v:= .bool v.may) [0] (λw hO=>hmay w) (zP 46 v.may (λe3=>x4 51 [0] v.build [] (λh4=>x4 57 [0] v.pre [] (λh8=>(z7 [] Z4 λw hO=>⟨by rw [hm.2 ⟨by omega,e3,h4,by omega,by omega,by first|exact .inr h8|exact .inl Om,by omega,by omega,by omega⟩],hO.below⟩)) (λh8=>(z7 [0] Z5 λw hO=>no w hO.below λq=>by have:=hm.1 q;grind))) (λh4=>(z7 [] Z5 λw hO=>no w hO.below λq=>by have:=hm.1 q;grind))) (λe3=>(z7 [] Z5 λw hO=>no w hO.below λq=>by have:=hm.1 q;grind)))) (λa3=>(z7 [] Z5 λw hO=>no w hO.below λq=>by have:=hm.1 q;grind))) (λa2=>(z7 [] Z5 λw hO=>no w hO.below λq=>by have:=hm.1 q;grind)))
 ·refine x_drawF (.s (.s (.s (.s (.s (.s (.s (.s .z)))))))) 8 [] (gD [0,0] 2 (nN (R:=λv' ob'=>∃ g,v'= .slice (some ⟨g,0,none⟩) 3 3/\ob'=[⟨g,fF v,3⟩]) (λw hO=>hnum w) ?_))
  rintro v' ob' ⟨gb,rfl,rfl⟩
  exact mA 3 [] (vP 42 [1] (v.pat=0) (λa3=>z8 (v:= .bool v.may) [0] (λw hO=>hmay w) (zP 46 v.may (λe3=>x4 51 [0] v.build [] (λh4=>x4 57 [0] v.pre [] (λh8=>(z7 [] Z4 λw hO=>⟨by rw [hm.2 ⟨by omega,e3,h4,by omega,by omega,by first|exact .inr h8|exact .inl Om,by omega,by omega,by omega⟩],hO.below⟩)) (λh8=>(z7 [0] Z5 λw hO=>no w hO.below λq=>by have:=hm.1 q;grind))) (λh4=>(z7 [] Z5 λw hO=>no w hO.below λq=>by have:=hm.1 q;grind))) (λe3=>(z7 [] Z5 λw hO=>no w hO.below λq=>by have:=hm.1 q;grind)))) (λa3=>(z7 [] Z5 λw hO=>no w hO.below λq=>by have:=hm.1 q;grind)))
 ·refine x_drawF (.s (.s (.s (.s (.s (.s (.s (.s .z)))))))) 8 [] (gD [0,0] 2 (nN (R:=λv' ob'=>∃ g,v'= .slice (some ⟨g,0,none⟩) 3 3/\ob'=[⟨g,fF v,3⟩]) (λw hO=>hnum w) ?_))
  rintro v' ob' ⟨gb,rfl,rfl⟩
  exact mA 3 [] (z8 (v:= .bool v.may) [0] (λw hO=>hmay w) (zP 46 v.may (λe3=>x4 51 [0] v.build [] (λh4=>x4 57 [0] v.pre [] (λh8=>(z7 [] Z4 λw hO=>⟨by rw [hm.2 ⟨by omega,e3,h4,by omega,by omega,by first|exact .inr h8|exact .inl Om,by omega,by omega,by omega⟩],hO.below⟩)) (λh8=>(z7 [0] Z4 λw hO=>⟨by rw [hm.2 ⟨by omega,e3,h4,by omega,by omega,by first|exact .inr h8|exact .inl Om,by omega,by omega,by omega⟩],hO.below⟩))) (λh4=>(z7 [] Z5 λw hO=>no w hO.below λq=>by have:=hm.1 q;grind))) (λe3=>(z7 [] Z5 λw hO=>no w hO.below λq=>by have:=hm.1 q;grind))))
theorem csign_any (op:Int)(W:World):YC 239 #[YI op] W (YR (.string (mkS (y9 op))) W):=by
 exact zD Tryz.func239 (zB 7 [] (op=2) (λh=>zR 24 [] [33] [61] (z7 [] (.string (mkS ([33]++[61]))) λw hO=>⟨by subst h;rfl,hO.below⟩)) (λh2=>zB 9 [] (op=1) (λh=>zR 24 [] [] [61] (z7 [] (.string (mkS ([]++[61]))) λw hO=>⟨by subst h;rfl,hO.below⟩)) (λh1=>zB 11 [] (op=4) (λh=>zR 24 [] [60] [61] (z7 [] (.string (mkS ([60]++[61]))) λw hO=>⟨by subst h;rfl,hO.below⟩)) (λh4=>zB 13 [] (op=3) (λh=>zR 24 [] [60] [] (z7 [] (.string (mkS ([60]++[]))) λw hO=>⟨by subst h;rfl,hO.below⟩)) (λh3=>zB 15 [] (op=6) (λh=>zR 24 [] [62] [61] (z7 [] (.string (mkS ([62]++[61]))) λw hO=>⟨by subst h;rfl,hO.below⟩)) (λh6=>zB 17 [] (op=5) (λh=>zR 24 [] [62] [] (z7 [] (.string (mkS ([62]++[]))) λw hO=>⟨by subst h;rfl,hO.below⟩)) (λh5=>zB 19 [] (op=7) (λh=>zR 24 [] [94] [] (z7 [] (.string (mkS ([94]++[]))) λw hO=>⟨by subst h;rfl,hO.below⟩)) (λh7=>zB 21 [] (op=8) (λh=>zR 24 [] [126] [] (z7 [] (.string (mkS ([126]++[]))) λw hO=>⟨by subst h;rfl,hO.below⟩)) (λh8=>zR 24 [] [] [] (z7 [] (.string (mkS ([]++[]))) λw hO=>⟨by unfold y9;rw [if_neg h1,if_neg h2,if_neg h3,if_neg h4,if_neg h5,if_neg h6,if_neg h7,if_neg h8];rfl,hO.below⟩))))))))))
end
section
def cpL (s t:YL):YL:=if yO s t=true then s.drop t.length else s
theorem prefix_begins:∀ (t s:YL),t.isPrefixOf s=yO s t
 | [],s=>by simp [yO]
 |a::t,[]=>by simp [yO,List.isPrefixOf]
 |a::t,b::s=>by
  have ih:=prefix_begins t s
  unfold yO at ih ⊢
  rw [List.isPrefixOf,ih,List.length_cons,List.take_succ_cons]
  by_cases h:a=b
  ·subst h;simp
  ·simp [h,Ne.symm h]
theorem cutpre_any (s t:YL)(w:World):YC 161 #[.string (mkS s),.string (mkS t)] w (YR (.tuple #[.string (mkS (cpL s t)),.bool (yO s t)]) w):=
 (Tryz.strings_CutPrefix (mkS s) (mkS t) w).mono λe w' ⟨he,hw⟩=>by
  subst hw
  refine ⟨?_,Below.refl _ _⟩
  rw [he,mk_data,mk_data]
  unfold Lib.trimPrefix Lib.hasPrefix cpL
  rw [prefix_begins];rfl
theorem splitK_pcs:∀ (k:Nat) (s:YL),Lib.splitK [46] 0 k s=fC k s
 |0,s=>rfl
 |k+1,s=>by
  have hc:=cutAt_cut 46 s
  have hge:=Lib.index_ge s [46]
  unfold Lib.splitK fC
  rw [←hc]
  unfold Lib.cut
  by_cases h:Lib.index s [46]= -1
  ·have h2:¬ 0<=Lib.index s [46]:=by omega
   simp [h]
  ·have h2:0<=Lib.index s [46]:=by omega
   simp [h,h2,splitK_pcs k]
theorem pcsK_more:∀ (k:Nat) (s:YL),s.length<=k->fC k s=fC (k+1) s
 |0,s,h=>by
  obtain rfl:=List.eq_nil_of_length_eq_zero (Nat.le_zero.1 h)
  rfl
 |k+1,s,h=>by
  have hl:=m8 46 s
  rw [fC]
  conv=>rhs;rw [fC]
  cases hq:(zA 46 s).2.2 with
  |false=>rw [if_neg Bool.false_ne_true,if_neg Bool.false_ne_true]
  |true=>
   rw [hq,if_pos rfl] at hl
   rw [if_pos rfl,if_pos rfl,pcsK_more k _ Om]
theorem pcsK_min (s:YL):fC (min 3 (s.length+1) -1) s=fC 2 s:=by
 by_cases h0:s.length=0
 ·rw [h0,show min 3 (0+1) -1=0 from rfl,pcsK_more 0 s Om,pcsK_more 1 s Om]
 ·by_cases h1:s.length=1
  ·rw [h1,show min 3 (1+1) -1=1 from rfl,pcsK_more 1 s Om]
  ·rw [show min 3 (s.length+1) -1=2 by omega]
theorem splitB_pcs (k:Nat)(s:YL):Lib.splitB ⟨#[46]⟩ 0 k (mkS s)=(fC k s).map mkS:=by
 have h:=Lib.splitB_data ⟨#[46]⟩ 0 k (mkS s)
 rw [mk_data,show (⟨#[46]⟩:ByteArray).data.toList=[46] from rfl,splitK_pcs] at h
 rw [←h,List.map_map]
 refine ((List.map_congr_left λx _=> ?_).trans (List.map_id _)).symm
 exact Lib.mk_data x
theorem split3_any (s:YL)(W:World)(hs:s.length<=1048576):
  YC 150 #[.string (mkS s),.string ⟨#[46]⟩,YI 0,YI 3] W λe w'=>∃ v' ob',e= .returned v'/\SlT v' (fC 2 s) ob'/\Own [] W w' ob':=by
 have hsz:=zQ s
 have hI:∀ (x:ByteArray) (c:Array Value),x.size<=(mkS s).size->YC 192 #[.string x,.string ⟨#[46]⟩] (W.alloc (.cells c 9)) λe w'=>e= .returned (YI (Lib.indexB x ⟨#[46]⟩))/\w'=W.alloc (.cells c 9):=
  λx c _=>(Tryz.strings_Index_one x 46 _).mono λe w' ⟨he,hw⟩=>⟨by rw [he,dY];try rfl,hw⟩
 have hC:YC 191 #[.string (mkS s),.string ⟨#[46]⟩] W λe w'=>e= .returned (YI (Lib.countB (mkS s) ⟨#[46]⟩))/\w'=W:=
  (Tryz.strings_Count_one (mkS s) 46 W).mono λe w' ⟨he,hw⟩=>⟨by rw [he];show _=Ending.returned (Value.int .i64 ((Lib.count (mkS s).data.toList [46]:Nat):Int));rw [Lib.count_one];rfl,hw⟩
 have c:=Any.strings_genSplit_core Tryz.lays221 Kr (mkS s) ⟨#[46]⟩ 0 3 (min 3 ((mkS s).size+1)) W Om (by decide) (Nat.zero_le _) hI hC (by decide) (by decide) (by rw [if_neg (by decide)];omega)
 rw [hsz,splitB_pcs,pcsK_min] at c
 obtain ⟨hl1,hl3⟩:=pcsK_len 2 s
 have hle:(fC 2 s).length<=min 3 (s.length+1):=by
  have h:=Lib.splitB_length_le ⟨#[46]⟩ 0 (min 3 (s.length+1) -1) (mkS s)
  rw [splitB_pcs,pcsK_min,List.length_map] at h
  omega
 rw [List.length_map] at c
 refine Calls.mono c λe w' ⟨he,hw⟩=> ?_
 subst hw
 refine ⟨_,_,he,⟨by rw [bF];omega,.inr ⟨W.heap.size,min 3 (s.length+1),_,rfl,rfl,hle,by unfold maxLen;omega,by rw [Lib.cellsOf_size (by rw [List.length_map];exact hle),Nat.mul_one], ?_⟩⟩,(Own.start [] W).alloc _ _⟩
 unfold Lib.cellsOf
 rw [List.map_map,List.take_append_of_le_length (by rw [List.length_map];omega),List.take_of_length_le (by rw [List.length_map];omega)]
 rfl
end
section
theorem splitn_any (s:YL)(W:World)(hs:s.length<=1048576):YC 103 #[.string (mkS s),.string ⟨#[46]⟩,YI 3] W λe w'=>∃ v' ob',e= .returned v'/\SlT v' (fC 2 s) ob'/\Own [] W w' ob':=by
 exact zD Tryz.func103 (k8 (R:=λv' ob'=>SlT v' (fC 2 s) ob') [] (λw hO=>split3_any s w hs) λv1 o1 h=>z7 [] v1 λw hO=>⟨v1,o1,rfl,h,hO.past 0 o1⟩)
theorem sgo_take {s r:YL}{k:Nat}{op:Int}(h:sgo s k=(op,r))(hb:yO s (y9 ((k+1:Nat):Int))=true)(hl:((mkS (cpL s (y9 ((k+1:Nat):Int)))).size:Int)<((mkS r).size:Int)):sgo s (k+1)=(((k+1:Nat):Int),cpL s (y9 ((k+1:Nat):Int))):=by
 rw [zQ,zQ] at hl
 unfold cpL at hl ⊢
 rw [if_pos hb] at hl ⊢
 unfold sgo
 rw [h,if_pos ⟨hb,by show _<r.length;omega⟩]
theorem sgo_not {s r:YL}{k:Nat}{op:Int}(h:sgo s k=(op,r))(hb:yO s (y9 ((k+1:Nat):Int))=false):sgo s (k+1)=(op,r):=by
 unfold sgo
 rw [h,if_neg (λq=>by rw [hb] at q;exact Bool.false_ne_true q.1)]
theorem sgo_long {s r:YL}{k:Nat}{op:Int}(h:sgo s k=(op,r))(hb:yO s (y9 ((k+1:Nat):Int))=true)(hl:¬ ((mkS (cpL s (y9 ((k+1:Nat):Int)))).size:Int)<((mkS r).size:Int)):sgo s (k+1)=(op,r):=by
 rw [zQ,zQ] at hl
 unfold cpL at hl
 rw [if_pos hb] at hl
 unfold sgo
 rw [h,if_neg (λq=>hl (by have q2:_<r.length:=q.2;omega))]
theorem ccut_any (s:YL)(W:World)(hs:s.length<=1048576):YC 206 #[.string (mkS s)] W (YR (.tuple #[YI (sgo s 8).1,.string (mkS (sgo s 8).2)]) W):=by
 refine zD Tryz.func206 (zM (α:=Nat×Int×YL) (λ(k,op,r)=>[(0,.string (mkS s)),(4,YI op),(5,.string (mkS r)),(6,YI ((k+1:Nat):Int))]) (λ_=>[]) (λ(k,op,r) m=>(k<=8/\sgo s k=(op,r))/\m=8-k) (0,7,s) (8-0) [] ⟨⟨by omega,rfl⟩,rfl⟩ ?_)
 rintro ⟨k,op,r⟩ m g kk ⟨⟨hkl,hrel⟩,hmm⟩ nx hkk
 subst hkk
 by_cases h1:((k+1:Nat):Int)<9
 ·refine zB 11 [] (((k+1:Nat):Int)<9) (λ_=>z8 (k:=239) (args:= #[YI ((k+1:Nat):Int)]) (v:= .string (mkS (y9 ((k+1:Nat):Int)))) [] (λw _=>csign_any _ w) (z8 (k:=161) (args:= #[.string (mkS s),.string (mkS (y9 ((k+1:Nat):Int)))]) (v:= .tuple #[.string (mkS (cpL s (y9 ((k+1:Nat):Int)))),.bool (yO s (y9 ((k+1:Nat):Int)))]) [] (λw _=>cutpre_any s (y9 ((k+1:Nat):Int)) w) ?_)) (λh=>absurd h1 h)
  cases h2:yO s (y9 ((k+1:Nat):Int)) with
  |true=>exact zB 27 [] (((cpL s (y9 ((k+1:Nat):Int))).length:Int)<(r.length:Int)) (λh3=>x_i 13 [] ((k+1+1:Nat):Int) (nx (k+1,((k+1:Nat):Int),(cpL s (y9 ((k+1:Nat):Int)))) (8-(k+1)) [] Om ⟨⟨by omega,sgo_take hrel h2 (by rw [zQ,zQ];exact h3)⟩,rfl⟩ Kr Kr)) (λh3=>x_i 13 [] ((k+1+1:Nat):Int) (nx (k+1,op,r) (8-(k+1)) [] Om ⟨⟨by omega,sgo_long hrel h2 (by rw [zQ,zQ];exact h3)⟩,rfl⟩ Kr Kr))
  |false=>exact x_i 13 [] ((k+1+1:Nat):Int) (nx (k+1,op,r) (8-(k+1)) [] Om ⟨⟨by omega,sgo_not hrel h2⟩,rfl⟩ Kr Kr)
 ·obtain rfl:k=8:=by omega
  exact zB 11 [] (((8+1:Nat):Int)<9) (λh=>absurd h h1) (λ_=>zS [] (YI op) (.string (mkS r)) λw hO=>⟨by rw [hrel],hO.below⟩)
theorem nth_ok {v:Ver}(h:v.may=true){k:Nat}(hk:k<3):zT (bQ v.maj v.min v.pat k)=true:=by
 obtain ⟨m1,m2,m3⟩:=qN h
 have hj:k=0\/k=1\/k=2:=by omega
 rcases hj with rfl|rfl|rfl
 ·exact m1
 ·exact m2
 ·exact m3
theorem nth_in {v:Ver}(h:v.may=true){k:Nat}(hk:k<3): -9223372036854775808<=bQ v.maj v.min v.pat k/\bQ v.maj v.min v.pat k<=9223372036854775807:=by
 have q:=nth_ok h hk
 unfold zT at q;simp at q;omega
theorem nums_next (v:Ver){k:Nat}(hk:k<3):y7 v (k+1)=y7 v k++[Lib.itoa (bQ v.maj v.min v.pat k)]:=by
 have hj:k=0\/k=1\/k=2:=by omega
 rcases hj with rfl|rfl|rfl<;>rfl
theorem star_ne {l:List YL}:zG 46 (l++[[42]])≠[]:=λe=>by
 have h:=last_join [] l
 rw [show ([]:YL)++[42]=[42] from rfl,e] at h
 cases h
theorem nums_ne {c:Co}(h:c.may=true)(hn:¬ c.op=9):zG 46 (y7 c.v c.parts.toNat)≠[]:=λe=>by
 obtain ⟨d,r,e2,hd⟩:=nY h hn
 unfold Co.rest at e2
 rw [if_neg hn,e,List.nil_append] at e2
 unfold xH at e2
 split at e2
 ·cases e2
 ·injection e2 with e3 _
  rw [←e3] at hd
  revert hd;decide
theorem text_pre2 {c:Co}(h9:¬ c.op=9)(hp:¬ c.v.pre=[]):y9 c.op++zG 46 (y7 c.v c.parts.toNat)++([45]++c.v.pre)=c.text:=by
 rw [←text_pre h9 hp];simp
theorem star_text2 {c:Co}(h9:c.op=9):y9 c.op++zG 46 (y7 c.v c.parts.toNat++[[42]])=c.text:=by
 rw [←star_text h9,h9];rfl
theorem star_pre {c:Co}(h:c.may=true)(h9:c.op=9):c.v.pre=[]:=by
 obtain ⟨_,_,_,k9,_,hp,_⟩:=Co.facts h
 have:=k9 h9
 exact hp.resolve_left Om
theorem cPrint_any (c:Co)(W:World)(hc:c.short)(ht:HasTab W):YC 207 #[coV c] W (YR (.string (mkS c.print)) W):=by
 refine zD Tryz.func207 (yK [] λb1=>z8 (k:=215) (args:= #[coV c]) (v:= .bool c.may) [0] (λw _=>cMay_any c w hc) ?_)
 cases hcm:c.may with
 |false=>exact z7 [] (.string (mkS [])) λw hO=>⟨by unfold Co.print;simp [hcm],hO.below⟩
 |true=>
  have hcv:=(Co.facts hcm).2.1
  have hpn:=parts_nat hcm
  have hpr:=hpn.2
  have hpc:=hpn.1
  have q1:=signL_len c.op
  have q2:=njoin_len hcv c.parts.toNat
  have q4:=sjoin_len hcv c.parts.toNat
  have q3:=hc.1
  refine x_drawF (.s (.s (.s (.s (.s (.s (.s (.s (.s (.s (.s (.s (.s .z))))))))))))) 8 [] (gD [0,0] 2 (nN (R:=λv' ob'=>∃ g,v'= .slice (some ⟨g,0,none⟩) 3 3/\ob'=[⟨g,fF c.v,3⟩]) (λw hO=>cnums_any c.v w) ?_))
  rintro v' ob' ⟨g1,rfl,rfl⟩
  refine xh_slhi 50015 [] 5 (A:=some ⟨g1,0,none⟩) rfl 3 3 1 c.parts Om Om (.slice (some ⟨g1,0,none⟩) c.parts.toNat 3) rfl (zM (α:=Nat×Value×List Blk) (λ(k,va,_)=>[(1,Zp b1 0),(3,va),(15,.slice (some ⟨g1,0,none⟩) c.parts.toNat 3),(16,YI (c.parts.toNat:Int)),(17,YI (k:Int))]) (λ(_,_,oa)=>⟨b1,(coV c).cells,140⟩::⟨g1,fF c.v,3⟩::oa) (λ(k,va,oa) m=>(k<=c.parts.toNat/\SlT va (y7 c.v k) oa)/\m=c.parts.toNat-k) (0,.slice none 0 0,[]) (c.parts.toNat-0) [] ⟨⟨Nat.zero_le _,Sl.nil _ _⟩,rfl⟩ ?_)
  rintro ⟨k,va,oa⟩ m g kk ⟨⟨hkl,hva⟩,hmm⟩ nx hkk
  subst hkk
  have hlk:(y7 c.v k).length<=3:=by have:=numsN_le c.v k;omega
  by_cases h2:(k:Int)<(c.parts.toNat:Int)
  ·have hrd:yZ YP 3 (fF c.v) k=some (YI (bQ c.v.maj c.v.min c.v.pat k)):=by rcases (by omega:k=0\/k=1\/k=2) with rfl|rfl|rfl<;>kernel_rfl
   have hni:=nth_in hcv (show k<3 by omega)
   refine zB 18 [] ((k:Int)<(c.parts.toNat:Int)) (λ_=>jI 19 [] (A:=some ⟨g1,0,none⟩) rfl c.parts.toNat 3 (k:Int) 1 k Om (jH 20 [] 1 (fF c.v) k 3 (YI (bQ c.v.maj c.v.min c.v.pat k)) hrd (z8 (k:=148) (args:= #[YI (bQ c.v.maj c.v.min c.v.pat k)]) (v:= .string (mkS (Lib.itoa (bQ c.v.maj c.v.min c.v.pat k)))) [] (λw hO=>digits_mk _ hni.1 hni.2 w (ht.on hO.below)) (gM [] 1 9 #[.string (mkS (Lib.itoa (bQ c.v.maj c.v.min c.v.pat k)))] λb2=>wM (m:=1) (cp:=1) [] [⟨b2, #[.string (mkS (Lib.itoa (bQ c.v.maj c.v.min c.v.pat k)))],9⟩,⟨b1,(coV c).cells,140⟩,⟨g1,fF c.v,3⟩] oa [] 0 (⟨b2, #[.string (mkS (Lib.itoa (bQ c.v.maj c.v.min c.v.pat k)))],9⟩::⟨b1,(coV c).cells,140⟩::⟨g1,fF c.v,3⟩::oa) (λw hO=>hO.cast (by simp)) hva Om λva2 oa2 hva0=> ?_)))) (λh=>absurd h2 h)
   have hva2:SlT va2 (y7 c.v k++[Lib.itoa (bQ c.v.maj c.v.min c.v.pat k)]) oa2:=SlT.add hva0
   exact x_i 26 [] ((k+1:Nat):Int) (y8 [] (⟨b1,(coV c).cells,140⟩::⟨g1,fF c.v,3⟩::oa2) (λw hO=>(hO.past 1 (⟨b1,(coV c).cells,140⟩::⟨g1,fF c.v,3⟩::(oa2++[]))).cast (by simp)) (nx (k+1,va2,oa2) (c.parts.toNat-(k+1)) [] Om ⟨⟨by omega,by rw [nums_next c.v Om];exact hva2⟩,rfl⟩ Kr Kr))
  ·obtain rfl:k=c.parts.toNat:=by omega
   refine zB 18 [] ((c.parts.toNat:Int)<(c.parts.toNat:Int)) (λh=>absurd h h2) (λ_=>zB 29 [0] (c.op=9) (λh3=> ?_) (λh3=> ?_))
   ·refine gM [] 1 9 #[.string ⟨#[42]⟩] λb2=>wM (m:=1) (cp:=1) [] [⟨b2, #[.string ⟨#[42]⟩],9⟩,⟨b1,(coV c).cells,140⟩,⟨g1,fF c.v,3⟩] oa [] 0 (⟨b2, #[.string ⟨#[42]⟩],9⟩::⟨b1,(coV c).cells,140⟩::⟨g1,fF c.v,3⟩::oa) (λw hO=>hO.cast (by simp)) hva Om λva2 oa2 hva0=> ?_
    have hva2:SlT va2 (y7 c.v c.parts.toNat++[[42]]) oa2:=SlT.add hva0
    exact z8 (k:=239) (args:= #[YI c.op]) (v:= .string (mkS (y9 c.op))) [1] (λw _=>csign_any c.op w) (z8 (k:=146) (args:= #[va2,.int .u8 46]) (v:= .string (mkS (zG 46 (y7 c.v c.parts.toNat++[[42]])))) [] (λw hO=>d2 va2 _ 46 w (SlT.readsT hva2 (hO.past 3 (oa2++[])) (λx hx=>List.mem_append_left _ hx)) (Nat.le_trans q4 (by decide)) (by rw [List.length_append];simp;omega) star_ne) (zR 38 [] (y9 c.op) (zG 46 (y7 c.v c.parts.toNat++[[42]])) (gA 42 [1] c.v.pre [] (λh4=>z7 [] (.string (mkS (y9 c.op++(zG 46 (y7 c.v c.parts.toNat++[[42]]))))) λw hO=>⟨by rw [vK hcm,←star_text2 h3],hO.below⟩) (λh4=>absurd (star_pre hcm h3) h4))))
   ·exact z8 (k:=239) (args:= #[YI c.op]) (v:= .string (mkS (y9 c.op))) [0] (λw _=>csign_any c.op w) (z8 (k:=146) (args:= #[va,.int .u8 46]) (v:= .string (mkS (zG 46 (y7 c.v c.parts.toNat)))) [] (λw hO=>d2 va _ 46 w (SlT.readsT hva (hO.past 2 oa) (λx hx=>hx)) (Nat.le_trans q2 (by decide)) (Nat.le_trans hlk (by decide)) (nums_ne hcm h3)) (zR 38 [] (y9 c.op) (zG 46 (y7 c.v c.parts.toNat)) (gA 42 [0] c.v.pre [] (λh4=>z7 [] (.string (mkS (y9 c.op++(zG 46 (y7 c.v c.parts.toNat))))) λw hO=>⟨by rw [vK hcm,←text_bare h3 h4],hO.below⟩) (λh4=>zR 47 [0] [45] c.v.pre (zR 48 [] (y9 c.op++(zG 46 (y7 c.v c.parts.toNat))) ([45]++c.v.pre) (z7 [] (.string (mkS (y9 c.op++(zG 46 (y7 c.v c.parts.toNat))++([45]++c.v.pre)))) λw hO=>⟨by rw [vK hcm,←text_pre2 h3 h4],hO.below⟩))))))
end
section
theorem last_pl {l:List YL}(h:1<=l.length){x:YL}(hx:tg l (l.length-1)=x):l.getLast?=some x:=by
 rw [List.getLast?_eq_getElem?,List.getElem?_eq_getElem (by omega),tgi_get (by omega),hx]
theorem guess_is {s r ah tl:YL}{op:Int}{pl:List YL}(h1:(sgo s 8).1=op)(h2:(sgo s 8).2=r)(h3:(zA 45 r).1=ah)(h4:(zA 45 r).2.1=tl)(h5:fC 2 ah=pl){x:YL}(hx:tg pl (pl.length-1)=x)(hl:1<=pl.length):
  wL s=if x=[42] then (⟨9,((pl.length:Int) -1),⟨zK (tg pl 0),zK (tg pl 1),zK (tg pl 2),tl,[]⟩⟩:Co) else (⟨op,(pl.length:Int),⟨zK (tg pl 0),zK (tg pl 1),zK (tg pl 2),tl,[]⟩⟩:Co):=by
 have hp:dX s=pl:=by unfold dX;rw [h2,h3,h5]
 unfold wL starP
 rw [hp,h2,h4,h1,last_pl hl hx]
 by_cases q:x=[42]
 ·rw [if_pos q,q,decide_eq_true rfl];rfl
 ·rw [if_neg q,decide_eq_false (λe=>q (Option.some.inj e))];rfl
theorem fT {s pt:YL}{c:Co}(hg:wL s=c)(hp:c.print=pt)(h:pt=s\/pt=[94]++s):pcV s=c/\pcE s=0:=by
 have h2:=prog_some (s:=s) (by rw [hg,hp];exact h)
 rw [hg] at h2
 exact pc_some h2
theorem fit_no {s pt:YL}{c:Co}(hg:wL s=c)(hp:c.print=pt)(h1:¬ pt=s)(h2:¬ pt=[94]++s):pcV s=⟨0,0,Ver.zero⟩/\pcE s=6:=
 pc_none (prog_none (by rw [hg,hp];exact λq=>q.elim h1 h2))
theorem cParse_any (s:YL)(W:World)(hs:s.length<=1048576)(ht:HasTab W):YC 176 #[.string (mkS s)] W (YR (.tuple #[coV (pcV s),YI (pcE s)]) W):=by
 obtain ⟨op,hop⟩:∃ x,(sgo s 8).1=x:=⟨_,rfl⟩
 obtain ⟨r,hr⟩:∃ x,(sgo s 8).2=x:=⟨_,rfl⟩
 obtain ⟨ah,hah⟩:∃ x,(zA 45 r).1=x:=⟨_,rfl⟩
 obtain ⟨tl,htl⟩:∃ x,(zA 45 r).2.1=x:=⟨_,rfl⟩
 obtain ⟨fd,hfd⟩:∃ x,(zA 45 r).2.2=x:=⟨_,rfl⟩
 obtain ⟨pl,hpl⟩:∃ x,fC 2 ah=x:=⟨_,rfl⟩
 have hrl:r.length<=s.length:=hr▸sgo_le s 8
 have hal:ah.length+tl.length<=r.length:=by rw [←hah,←htl];exact jX 45 r
 obtain ⟨hp1,hp3⟩:1<=pl.length/\pl.length<=3:=hpl▸pcsK_len 2 ah
 have htp:∀ x∈pl,x.length<=1048576:=λx hx=>by rw [←hpl] at hx;exact Nat.le_trans (pcsK_mem 2 ah x hx) Om
 have hgu:=λ{x} (hx:tg pl (pl.length-1)=x)=>guess_is hop hr hah htl hpl hx Om
 have hcs:∀ w,YC 206 #[.string (mkS s)] w (YR (.tuple #[YI op,.string (mkS r)]) w):=λw=>by have:=ccut_any s w hs;rw [hop,hr] at this;exact this
 have hct:∀ w,YC 143 #[.string (mkS r),.string ⟨#[45]⟩] w (YR (.tuple #[.string (mkS ah),.string (mkS tl),.bool fd]) w):=λw=>ret_v (by rw [hah,htl,hfd]) (jV r 45 w Om)
 have hsp:∀ w,YC 103 #[.string (mkS ah),.string ⟨#[46]⟩,YI 3] w λe w'=>∃ v' ob',e= .returned v'/\SlT v' pl ob'/\Own [] w w' ob':=λw=>by have:=splitn_any ah w Om;rw [hpl] at this;exact this
 have hnu:∀ x∈pl,∀ w,YC 156 #[.string (mkS x)] w (YR (.tuple #[YI (zK x),.bool (qM x)]) w):=λx hx w=>pB x _ rfl w (Nat.le_trans (htp x hx) (by decide))
 have hcl:∀ w,YC 31 #[.string (mkS tl)] w (YR (.string (mkS tl)) w):=λw=>pO (mkS tl) w (by rw [zQ];omega)
 have hpr:∀ (c:Co) w,c.short->YB W w->YC 207 #[coV c] w (YR (.string (mkS c.print)) w):=λc w hc hb=>cPrint_any c w hc (ht.on hb)
 have hsh:∀ a b c d e,(⟨a,b,⟨c,d,e,tl,[]⟩⟩:Co).short:=λa b c d e=>⟨by show tl.length<=_;omega,Nat.zero_le _⟩
 refine zD Tryz.func176 (zJ [] λb2=>z8 (v:= .tuple #[YI op,.string (mkS r)]) [] (λw _=>hcs w) (z8 (v:= .tuple #[.string (mkS ah),.string (mkS tl),.bool fd]) [] (λw _=>hct w) (zJ [] λb8=>k8 (R:=λv ob=>SlT v pl ob) [] (λw _=>hsp w) ?_)))
 rintro v ob hsl
 obtain ⟨A1,c1,rfl⟩:=hsl.form
 obtain ⟨g1,cur1,rfl,rfl,hc1,hm1,hz1,ht1⟩:=Sl.block hsl Om
 rw [kL] at ht1
 have hrd:∀ i x,i<pl.length->tg pl i=x->yZ YP 9 cur1 (i*1+0)=some (.string (mkS x)):=λi x hi hx=>p5 zX ht1 i 0 hi (by decide) _ (by rw [tgi_get hi,hx];kernel_rfl)
 clear hcs hct hsp ht1 hsl
 obtain ⟨p0,rfl⟩|⟨p0,p1,rfl⟩|⟨p0,p1,p2,rfl⟩:(∃ p0,pl=[p0])\/(∃ p0 p1,pl=[p0,p1])∨∃ p0 p1 p2,pl=[p0,p1,p2]:=by
  match pl,hp1,hp3 with
  | [p0],_,_=>exact .inl ⟨p0,rfl⟩
  | [p0,p1],_,_=>exact .inr (.inl ⟨p0,p1,rfl⟩)
  | [p0,p1,p2],_,_=>exact .inr (.inr ⟨p0,p1,p2,rfl⟩)
 ·refine mA 3 [] (jH 33 [] 2 cur1 (0*1+0) 9 (.string (mkS p0)) (hrd 0 _ (by simp) rfl) (z8 (v:= .tuple #[YI (zK p0),.bool (qM p0)]) [] (λw _=>hnu p0 (by simp) w) (zJ [0] λb12=>jH 51 [0] 3 cur1 (0*1+0) 9 (.string (mkS p0)) (hrd 0 _ (by simp) rfl) (x4 52 [] p0 [42] (λh3=> ?_) (λh3=> ?_)))))
  ·obtain ⟨pt,hpt⟩:∃ x,Co.print ⟨9,0,⟨zK p0,0,0,tl,[]⟩⟩=x:=⟨_,rfl⟩
   have hp:=λw hb=>hpt▸hpr ⟨9,0,⟨zK p0,0,0,tl,[]⟩⟩ w (hsh _ _ _ _ _) hb
   refine z8 (v:= .string (mkS pt)) [0,0,0,1,1,1,0,0] (λw hO=>hp w hO.below) (gA 71 [] pt s (λh4=> ?_) (λh4=>zR 75 [] [94] s (gA 76 [] pt ([94]++s) (λh5=> ?_) (λh5=> ?_))))
   ·exact z8 (v:= .string (mkS tl)) [] (λw _=>hcl w) (yD [0,0,2] 2 (coV (⟨9,0,⟨zK p0,0,0,tl,[]⟩⟩:Co)) (YI 0) λw hO=>⟨by have q:=fT (c:=⟨9,0,⟨zK p0,0,0,tl,[]⟩⟩) ((hgu (x:=p0) rfl).trans (if_pos h3)) hpt (.inl h4);rw [q.1,q.2],hO.below⟩)
   ·exact z8 (v:= .string (mkS tl)) [] (λw _=>hcl w) (yD [0,0,2] 2 (coV (⟨9,0,⟨zK p0,0,0,tl,[]⟩⟩:Co)) (YI 0) λw hO=>⟨by have q:=fT (c:=⟨9,0,⟨zK p0,0,0,tl,[]⟩⟩) ((hgu (x:=p0) rfl).trans (if_pos h3)) hpt (.inr h5);rw [q.1,q.2],hO.below⟩)
   ·exact yD [2] 2 (coV ⟨0,0,Ver.zero⟩) (YI 6) λw hO=>⟨by have q:=fit_no (c:=⟨9,0,⟨zK p0,0,0,tl,[]⟩⟩) ((hgu (x:=p0) rfl).trans (if_pos h3)) hpt h4 h5;rw [q.1,q.2],hO.below⟩
  obtain ⟨pt,hpt⟩:∃ x,Co.print ⟨op,1,⟨zK p0,0,0,tl,[]⟩⟩=x:=⟨_,rfl⟩
  have hp:=λw hb=>hpt▸hpr ⟨op,1,⟨zK p0,0,0,tl,[]⟩⟩ w (hsh _ _ _ _ _) hb
  refine z8 (v:= .string (mkS pt)) [1,1,1,0,0] (λw hO=>hp w hO.below) (gA 71 [] pt s (λh4=> ?_) (λh4=>zR 75 [] [94] s (gA 76 [] pt ([94]++s) (λh5=> ?_) (λh5=> ?_))))
  ·exact z8 (v:= .string (mkS tl)) [] (λw _=>hcl w) (yD [0,0,2] 2 (coV (⟨op,1,⟨zK p0,0,0,tl,[]⟩⟩:Co)) (YI 0) λw hO=>⟨by have q:=fT (c:=⟨op,1,⟨zK p0,0,0,tl,[]⟩⟩) ((hgu (x:=p0) rfl).trans (if_neg h3)) hpt (.inl h4);rw [q.1,q.2],hO.below⟩)
  ·exact z8 (v:= .string (mkS tl)) [] (λw _=>hcl w) (yD [0,0,2] 2 (coV (⟨op,1,⟨zK p0,0,0,tl,[]⟩⟩:Co)) (YI 0) λw hO=>⟨by have q:=fT (c:=⟨op,1,⟨zK p0,0,0,tl,[]⟩⟩) ((hgu (x:=p0) rfl).trans (if_neg h3)) hpt (.inr h5);rw [q.1,q.2],hO.below⟩)
  ·exact yD [2] 2 (coV ⟨0,0,Ver.zero⟩) (YI 6) λw hO=>⟨by have q:=fit_no (c:=⟨op,1,⟨zK p0,0,0,tl,[]⟩⟩) ((hgu (x:=p0) rfl).trans (if_neg h3)) hpt h4 h5;rw [q.1,q.2],hO.below⟩
 ·refine mA 3 [] (jH 33 [] 2 cur1 (0*1+0) 9 (.string (mkS p0)) (hrd 0 _ (by simp) rfl) (z8 (v:= .tuple #[YI (zK p0),.bool (qM p0)]) [] (λw _=>hnu p0 (by simp) w) (jH 33 [0] 2 cur1 (1*1+0) 9 (.string (mkS p1)) (hrd 1 _ (by simp) rfl) (z8 (v:= .tuple #[YI (zK p1),.bool (qM p1)]) [] (λw _=>hnu p1 (by simp) w) (zJ [0] λb12=>jH 51 [0] 3 cur1 (1*1+0) 9 (.string (mkS p1)) (hrd 1 _ (by simp) rfl) (x4 52 [] p1 [42] (λh3=> ?_) (λh3=> ?_)))))))
  ·obtain ⟨pt,hpt⟩:∃ x,Co.print ⟨9,1,⟨zK p0,zK p1,0,tl,[]⟩⟩=x:=⟨_,rfl⟩
   have hp:=λw hb=>hpt▸hpr ⟨9,1,⟨zK p0,zK p1,0,tl,[]⟩⟩ w (hsh _ _ _ _ _) hb
   refine z8 (v:= .string (mkS pt)) [0,0,0,1,1,1,0,0] (λw hO=>hp w hO.below) (gA 71 [] pt s (λh4=> ?_) (λh4=>zR 75 [] [94] s (gA 76 [] pt ([94]++s) (λh5=> ?_) (λh5=> ?_))))
   ·exact z8 (v:= .string (mkS tl)) [] (λw _=>hcl w) (yD [0,0,2] 2 (coV (⟨9,1,⟨zK p0,zK p1,0,tl,[]⟩⟩:Co)) (YI 0) λw hO=>⟨by have q:=fT (c:=⟨9,1,⟨zK p0,zK p1,0,tl,[]⟩⟩) ((hgu (x:=p1) rfl).trans (if_pos h3)) hpt (.inl h4);rw [q.1,q.2],hO.below⟩)
   ·exact z8 (v:= .string (mkS tl)) [] (λw _=>hcl w) (yD [0,0,2] 2 (coV (⟨9,1,⟨zK p0,zK p1,0,tl,[]⟩⟩:Co)) (YI 0) λw hO=>⟨by have q:=fT (c:=⟨9,1,⟨zK p0,zK p1,0,tl,[]⟩⟩) ((hgu (x:=p1) rfl).trans (if_pos h3)) hpt (.inr h5);rw [q.1,q.2],hO.below⟩)
   ·exact yD [2] 2 (coV ⟨0,0,Ver.zero⟩) (YI 6) λw hO=>⟨by have q:=fit_no (c:=⟨9,1,⟨zK p0,zK p1,0,tl,[]⟩⟩) ((hgu (x:=p1) rfl).trans (if_pos h3)) hpt h4 h5;rw [q.1,q.2],hO.below⟩
  obtain ⟨pt,hpt⟩:∃ x,Co.print ⟨op,2,⟨zK p0,zK p1,0,tl,[]⟩⟩=x:=⟨_,rfl⟩
  have hp:=λw hb=>hpt▸hpr ⟨op,2,⟨zK p0,zK p1,0,tl,[]⟩⟩ w (hsh _ _ _ _ _) hb
  refine z8 (v:= .string (mkS pt)) [1,1,1,0,0] (λw hO=>hp w hO.below) (gA 71 [] pt s (λh4=> ?_) (λh4=>zR 75 [] [94] s (gA 76 [] pt ([94]++s) (λh5=> ?_) (λh5=> ?_))))
  ·exact z8 (v:= .string (mkS tl)) [] (λw _=>hcl w) (yD [0,0,2] 2 (coV (⟨op,2,⟨zK p0,zK p1,0,tl,[]⟩⟩:Co)) (YI 0) λw hO=>⟨by have q:=fT (c:=⟨op,2,⟨zK p0,zK p1,0,tl,[]⟩⟩) ((hgu (x:=p1) rfl).trans (if_neg h3)) hpt (.inl h4);rw [q.1,q.2],hO.below⟩)
  ·exact z8 (v:= .string (mkS tl)) [] (λw _=>hcl w) (yD [0,0,2] 2 (coV (⟨op,2,⟨zK p0,zK p1,0,tl,[]⟩⟩:Co)) (YI 0) λw hO=>⟨by have q:=fT (c:=⟨op,2,⟨zK p0,zK p1,0,tl,[]⟩⟩) ((hgu (x:=p1) rfl).trans (if_neg h3)) hpt (.inr h5);rw [q.1,q.2],hO.below⟩)
  ·exact yD [2] 2 (coV ⟨0,0,Ver.zero⟩) (YI 6) λw hO=>⟨by have q:=fit_no (c:=⟨op,2,⟨zK p0,zK p1,0,tl,[]⟩⟩) ((hgu (x:=p1) rfl).trans (if_neg h3)) hpt h4 h5;rw [q.1,q.2],hO.below⟩
 ·refine mA 3 [] (jH 33 [] 2 cur1 (0*1+0) 9 (.string (mkS p0)) (hrd 0 _ (by simp) rfl) (z8 (v:= .tuple #[YI (zK p0),.bool (qM p0)]) [] (λw _=>hnu p0 (by simp) w) (jH 33 [0] 2 cur1 (1*1+0) 9 (.string (mkS p1)) (hrd 1 _ (by simp) rfl) (z8 (v:= .tuple #[YI (zK p1),.bool (qM p1)]) [] (λw _=>hnu p1 (by simp) w) (jH 33 [0] 2 cur1 (2*1+0) 9 (.string (mkS p2)) (hrd 2 _ (by simp) rfl) (z8 (v:= .tuple #[YI (zK p2),.bool (qM p2)]) [] (λw _=>hnu p2 (by simp) w) (zJ [0] λb12=>jH 51 [0] 3 cur1 (2*1+0) 9 (.string (mkS p2)) (hrd 2 _ (by simp) rfl) (x4 52 [] p2 [42] (λh3=> ?_) (λh3=> ?_)))))))))
  ·obtain ⟨pt,hpt⟩:∃ x,Co.print ⟨9,2,⟨zK p0,zK p1,zK p2,tl,[]⟩⟩=x:=⟨_,rfl⟩
   have hp:=λw hb=>hpt▸hpr ⟨9,2,⟨zK p0,zK p1,zK p2,tl,[]⟩⟩ w (hsh _ _ _ _ _) hb
   refine z8 (v:= .string (mkS pt)) [0,0,0,1,1,1,0,0] (λw hO=>hp w hO.below) (gA 71 [] pt s (λh4=> ?_) (λh4=>zR 75 [] [94] s (gA 76 [] pt ([94]++s) (λh5=> ?_) (λh5=> ?_))))
   ·exact z8 (v:= .string (mkS tl)) [] (λw _=>hcl w) (yD [0,0,2] 2 (coV (⟨9,2,⟨zK p0,zK p1,zK p2,tl,[]⟩⟩:Co)) (YI 0) λw hO=>⟨by have q:=fT (c:=⟨9,2,⟨zK p0,zK p1,zK p2,tl,[]⟩⟩) ((hgu (x:=p2) rfl).trans (if_pos h3)) hpt (.inl h4);rw [q.1,q.2],hO.below⟩)
   ·exact z8 (v:= .string (mkS tl)) [] (λw _=>hcl w) (yD [0,0,2] 2 (coV (⟨9,2,⟨zK p0,zK p1,zK p2,tl,[]⟩⟩:Co)) (YI 0) λw hO=>⟨by have q:=fT (c:=⟨9,2,⟨zK p0,zK p1,zK p2,tl,[]⟩⟩) ((hgu (x:=p2) rfl).trans (if_pos h3)) hpt (.inr h5);rw [q.1,q.2],hO.below⟩)
   ·exact yD [2] 2 (coV ⟨0,0,Ver.zero⟩) (YI 6) λw hO=>⟨by have q:=fit_no (c:=⟨9,2,⟨zK p0,zK p1,zK p2,tl,[]⟩⟩) ((hgu (x:=p2) rfl).trans (if_pos h3)) hpt h4 h5;rw [q.1,q.2],hO.below⟩
  obtain ⟨pt,hpt⟩:∃ x,Co.print ⟨op,3,⟨zK p0,zK p1,zK p2,tl,[]⟩⟩=x:=⟨_,rfl⟩
  have hp:=λw hb=>hpt▸hpr ⟨op,3,⟨zK p0,zK p1,zK p2,tl,[]⟩⟩ w (hsh _ _ _ _ _) hb
  refine z8 (v:= .string (mkS pt)) [1,1,1,0,0] (λw hO=>hp w hO.below) (gA 71 [] pt s (λh4=> ?_) (λh4=>zR 75 [] [94] s (gA 76 [] pt ([94]++s) (λh5=> ?_) (λh5=> ?_))))
  ·exact z8 (v:= .string (mkS tl)) [] (λw _=>hcl w) (yD [0,0,2] 2 (coV (⟨op,3,⟨zK p0,zK p1,zK p2,tl,[]⟩⟩:Co)) (YI 0) λw hO=>⟨by have q:=fT (c:=⟨op,3,⟨zK p0,zK p1,zK p2,tl,[]⟩⟩) ((hgu (x:=p2) rfl).trans (if_neg h3)) hpt (.inl h4);rw [q.1,q.2],hO.below⟩)
  ·exact z8 (v:= .string (mkS tl)) [] (λw _=>hcl w) (yD [0,0,2] 2 (coV (⟨op,3,⟨zK p0,zK p1,zK p2,tl,[]⟩⟩:Co)) (YI 0) λw hO=>⟨by have q:=fT (c:=⟨op,3,⟨zK p0,zK p1,zK p2,tl,[]⟩⟩) ((hgu (x:=p2) rfl).trans (if_neg h3)) hpt (.inr h5);rw [q.1,q.2],hO.below⟩)
  ·exact yD [2] 2 (coV ⟨0,0,Ver.zero⟩) (YI 6) λw hO=>⟨by have q:=fit_no (c:=⟨op,3,⟨zK p0,zK p1,zK p2,tl,[]⟩⟩) ((hgu (x:=p2) rfl).trans (if_neg h3)) hpt h4 h5;rw [q.1,q.2],hO.below⟩
end
section
theorem textR_few {xs:List Al}(h1:xs.length<=6)(h:∀ x∈xs,fewA x.l=true):fX (yX xs)=kN (yX xs):=by
 unfold fX
 cases hf:fewR (yX xs) with
 |true=>rfl
 |false=>
  cases xs with
  |nil=>rfl
  |cons x xs=>rw [few_all ⟨by simp,h1⟩ h] at hf;cases hf
theorem textR_bad {xs:List Al}{x:Al}(hm:x∈xs)(h:fewA x.l=false):fX (yX xs)=[]:=textR_nil.2 (few_one hm h)
theorem textR_big {xs:List Al}(h:6<xs.length):fX (yX xs)=[]:=textR_nil.2 (few_len Om)
theorem own_tx2 {M:List Nat}{W w:World}{x z:Blk}{A B:List Blk}(h:Own M W w ([x,z]++A++B)):Own M W w (z::A):=by
 exact (Own.sub [x] (by simpa using h:Own M W w (x::(z::A++B)))).sublist (by simp)
theorem own_tx3 {M:List Nat}{W w:World}{x y:Blk}{A B:List Blk}(h:Own M W w (x::y::(A++B))):Own M W w (x::y::(B++A)):=
 h.perm (List.Perm.cons x (List.Perm.cons y List.perm_append_comm))
theorem alts_le {l:List (List Co)}{i:Nat}(h:∀ a∈l.take i,fewA a=true):∀ t∈(l.take i).map xN,t.length<=1048576:=λt ht=>by
 obtain ⟨a,ha,rfl⟩:=List.mem_map.1 ht
 obtain ⟨h1,h2⟩:=fewA.facts (h a ha)
 unfold xN
 rw [joinB_len,List.length_map]
 have:∀ (l:List Co),(∀ c∈l,c.may=true)->sumN ((l.map Co.print).map (·.length))<=l.length*300:=by
  intro l hl
  induction l with
  |nil=>simp [sumN]
  |cons c l ih=>
   have h3:=co_len (hl c (List.mem_cons_self ..))
   have h4:=ih λd hd=>hl d (List.mem_cons_of_mem _ hd)
   rw [List.map_cons,List.map_cons,sumN,List.length_cons];omega
 have:=this a h2
 have h5:(a.length-1)*([44,32]:YL).length<=5*2:=Nat.mul_le_mul Om (by simp)
 omega
theorem gtext_any (A:Option Addr)(cap:Nat)(xs:List Al)(W:World)(hv:RgIn W W.heap.size A xs)(ht:HasLib W):YC 178 #[.agg #[.slice A xs.length cap]] W (YR (.string (mkS (fX (yX xs)))) W):=by
 have hn:=hv.n
 have hno:=λ(h:fX (yX xs)=[]) (w:World) (hb:YB W w)=>show Ending.returned (.string (mkS []))= .returned (.string (mkS (fX (yX xs))))/\YB W w from ⟨by rw [h],hb⟩
 refine zD Tryz.func178 (yK [] λb1=>zB 12 [0] ((6:Int)<(xs.length:Int)) (λh1=>z7 [] (.string (mkS [])) λw hO=>hno (textR_big Om) w hO.below) (λh1=> ?_))
 refine zM (α:=Nat×Option Addr×Nat×Nat×List Blk) (λ(i,U,n,cu,_)=>[(1,Zp b1 0),(3,.slice U n cu),(14,.slice A xs.length cap),(15,YI (xs.length:Int)),(16,YI (i:Int))]) (λ(_,_,_,_,ob)=>⟨b1, #[.slice A xs.length cap],192⟩::ob) (λ(i,U,n,cu,ob) m=>(i<=xs.length/\(∀ x∈xs.take i,fewA x.l=true)/\SlT (.slice U n cu) (((yX xs).take i).map xN) ob)/\m=xs.length-i) (0,none,0,0,[]) (xs.length-0) [0] ⟨⟨Nat.zero_le _,by simp,Sl.nil _ _⟩,rfl⟩ ?_
 rintro ⟨i,U,n,cu,ob⟩ m g kk ⟨⟨hil,hff,hT⟩,hmm⟩ nx hkk
 subst hkk
 by_cases h2:(i:Int)<(xs.length:Int)
 ·have hi:i<xs.length:=by omega
  obtain ⟨bp,off,hA,hlt,hcell⟩:=hv.top Om
  obtain ⟨x,hx⟩:∃ x,xs[i]=x:=⟨_,rfl⟩
  have hxm:x∈xs:=hx▸List.getElem_mem hi
  have hxn:=hv.m x hxm
  have hxr:(yX xs)[i]'(by rw [gO];exact hi)=x.l:=rgOf_get hi hx
  have hrow:∀ w,YB W w->(loadVar 223 ⟨bp,off+i*1,none⟩).run YP w= .ok (.slice x.A x.l.length x.cap) w:=λw hb=>wG alC_len (λj u h=>(hb.cell (p:=⟨bp,off+j,none⟩) hlt).trans (hcell j u h)) i 0 hi Om _ (by rw [hx];kernel_rfl)
  refine zB 17 [] ((i:Int)<(xs.length:Int)) (λ_=>zI 18 [] hA xs.length cap i 1 hi (zH 19 [] 223 bp (off+i*1) (.slice x.A x.l.length x.cap) (λw hO=>hrow w hO.below) (zB 22 [] ((x.l.length:Int)=0) (λh3=>z7 [] (.string (mkS [])) λw hO=>hno (textR_bad hxm (fewA_len Om)) w hO.below) (λh3=>zB 26 [] ((6:Int)<(x.l.length:Int)) (λh4=>z7 [] (.string (mkS [])) λw hO=>hno (textR_bad hxm (fewA_len Om)) w hO.below) (λh4=> ?_))))) (λh=>absurd h2 h)
  refine zM (α:=Nat×Option Addr×Nat×Nat×List Blk) (λ(k,V,np,cv,_)=>[(1,Zp b1 0),(3,.slice U n cu),(14,.slice A xs.length cap),(15,YI (xs.length:Int)),(16,YI (i:Int)),(6,.slice V np cv),(28,.slice x.A x.l.length x.cap),(29,YI (x.l.length:Int)),(30,YI (k:Int))]) (λ(_,_,_,_,oa)=>⟨b1, #[.slice A xs.length cap],192⟩::(oa++ob)) (λ(k,V,np,cv,oa) m=>(k<=x.l.length/\(∀ c∈x.l.take k,c.may=true)/\SlT (.slice V np cv) ((x.l.take k).map Co.print) oa)/\m=x.l.length-k) (0,none,0,0,[]) (x.l.length-0) [] ⟨⟨Nat.zero_le _,by simp,Sl.nil _ _⟩,rfl⟩ ?_
  rintro ⟨k,V,np,cv,oa⟩ m2 g2 kk2 ⟨⟨hkl,hcf,hP⟩,hmk⟩ nxk hkk2
  subst hkk2
  by_cases h5:(k:Int)<(x.l.length:Int)
  ·have hk:k<x.l.length:=by omega
   obtain ⟨bq,off2,hA2,hlt2,hcell2⟩:=hv.each x hxm Om
   obtain ⟨c,hc⟩:∃ c,x.l[k]=c:=⟨_,rfl⟩
   have hcm:c∈x.l:=hc▸List.getElem_mem hk
   have hcS:c.short:=hv.short x hxm c hcm
   have hco:∀ w,YB W w->(loadVar 140 ⟨bq,off2+k*7,none⟩).run YP w= .ok (coV c) w:=λw hb=>wG coC_len (λj u h=>(hb.cell (p:=⟨bq,off2+j,none⟩) hlt2).trans (hcell2 j u h)) k 0 hk Om _ (by rw [hc];kernel_rfl)
   have hpl0:((x.l.take k).map Co.print).length<=6:=by rw [List.length_map,List.length_take];omega
   refine zB 31 [] ((k:Int)<(x.l.length:Int)) (λ_=>zI 32 [] hA2 x.l.length x.cap k 7 hk (zH 33 [] 140 bq (off2+k*7) (coV c) (λw hO=>hco w hO.below) (zJ [] λb2=>z8 (k:=215) (args:= #[coV c]) (v:= .bool c.may) [0,0] (λw _=>cMay_any c w hcS) ?_))) (λh=>absurd h5 h)
   cases h6:c.may with
   |false=>exact z7 [] (.string (mkS [])) λw hO=>hno (textR_bad hxm (fewA_one hcm h6)) w hO.below
   |true=>
    refine z8 (k:=207) (args:= #[coV c]) (v:= .string (mkS c.print)) [0] (λw hO=>cPrint_any c w hcS (ht.tab.on hO.below)) (gM [] 1 9 #[.string (mkS c.print)] λb3=>wM (m:=1) (cp:=1) [] [⟨b3, #[.string (mkS c.print)],9⟩,⟨b2,(coV c).cells,140⟩,⟨b1, #[.slice A xs.length cap],192⟩] oa ob 0 (⟨b3, #[.string (mkS c.print)],9⟩::⟨b2,(coV c).cells,140⟩::⟨b1, #[.slice A xs.length cap],192⟩::(oa++ob)) (λw hO=>hO.cast (by simp)) hP Om λw1 oa2 hu1=> ?_)
    have hP2:SlT w1 (((x.l.take k).map Co.print)++[c.print]) oa2:=SlT.add hu1
    obtain ⟨V2,cv2,rfl⟩:=hP2.form
    exact x_i 42 [] ((k+1:Nat):Int) (y8 [] (⟨b1, #[.slice A xs.length cap],192⟩::(oa2++ob)) (λw hO=>hO.past 2 _) (nxk (k+1,V2,(((x.l.take k).map Co.print)++[c.print]).length,cv2,oa2) (x.l.length-(k+1)) [] Om ⟨⟨by omega,take_all hcf hk hc h6,by rw [List.take_succ_eq_append_getElem hk,hc,List.map_append];exact hP2⟩,rfl⟩ Kr Kr))
  ·have hal2:∀ c∈x.l,c.may=true:=by have q:=hcf;rwa [List.take_of_length_le Om] at q
   have hfx:fewA x.l=true:=fewA_all ⟨by omega,by omega⟩ hal2
   have hpl:=hP.caps
   rw [List.take_of_length_le (by omega:x.l.length<=k)] at hP hpl
   have hal0:(((yX xs).take i).map xN).length<=6:=by rw [List.length_map,List.length_take,gO];omega
   refine zB 31 [] ((k:Int)<(x.l.length:Int)) (λh=>absurd h h5) (λ_=>z8 (k:=94) (args:= #[.slice V np cv,.string (mkS [44,32])]) (v:= .string (mkS (xN x.l))) [] (λw hO=>by rw [hpl.1];exact sjoin_any [44,32] (x.l.map Co.print) V cv w (SlT.reads hP hpl.1.symm (hO.past 1 (oa++ob)) (λx hx=>List.mem_append_left _ hx)) (by decide) (by decide) (by rw [List.length_map];omega) (λt ht=>by obtain ⟨c,hc,rfl⟩:=List.mem_map.1 ht;exact Nat.le_trans (co_len (hal2 c hc)) (by decide)) hpl.2) (gM [] 1 9 #[.string (mkS (xN x.l))] λb2=>wM (m:=1) (cp:=1) [] [⟨b2, #[.string (mkS (xN x.l))],9⟩,⟨b1, #[.slice A xs.length cap],192⟩] ob oa 0 (⟨b2, #[.string (mkS (xN x.l))],9⟩::⟨b1, #[.slice A xs.length cap],192⟩::(oa++ob)) (λw hO=>(own_tx3 hO).cast (by simp)) hT Om λw2 ob2 hu2=> ?_))
   have hT2:SlT w2 ((((yX xs).take i).map xN)++[xN x.l]) ob2:=SlT.add hu2
   obtain ⟨U2,cu2,rfl⟩:=hT2.form
   exact x_i 48 [] ((i+1:Nat):Int) (y8 [] (⟨b1, #[.slice A xs.length cap],192⟩::ob2) (λw hO=>own_tx2 (hO.past 0 ([⟨b2, #[.string (mkS (xN x.l))],9⟩,⟨b1, #[.slice A xs.length cap],192⟩]++ob2++oa))) (nx (i+1,U2,((((yX xs).take i).map xN)++[xN x.l]).length,cu2,ob2) (xs.length-(i+1)) [] Om ⟨⟨by omega,take_all hff hi hx hfx,by rw [List.take_succ_eq_append_getElem (by rw [gO];exact hi),hxr,List.map_append];exact hT2⟩,rfl⟩ Kr Kr))
 ·have hall:∀ x∈xs,fewA x.l=true:=by have q:=hff;rwa [List.take_of_length_le Om] at q
  have htl:=hT.caps
  rw [show (yX xs).take i=yX xs from List.take_of_length_le (by rw [gO];omega)] at hT htl
  exact zB 17 [] ((i:Int)<(xs.length:Int)) (λh=>absurd h h2) (λ_=>z8 (k:=94) (args:= #[.slice U n cu,.string (mkS [32,124,124,32])]) (v:= .string (mkS (kN (yX xs)))) [] (λw hO=>by rw [htl.1];exact sjoin_any [32,124,124,32] ((yX xs).map xN) U cu w (SlT.reads hT htl.1.symm (hO.past 1 ob) (λx hx=>hx)) (by decide) (by decide) (by rw [List.length_map,gO];omega) (by have q:=alts_le (l:=yX xs) (i:=xs.length) (λa ha=>by obtain ⟨x,hx,rfl⟩:=List.mem_map.1 (List.mem_of_mem_take ha);exact hall x hx);rwa [List.take_of_length_le (by rw [gO];exact Nat.le_refl _)] at q) htl.2) (z7 [] (.string (mkS (kN (yX xs)))) λw hO=>⟨by rw [textR_few Om hall],hO.below⟩))
theorem gPrint_any (A:Option Addr)(cap:Nat)(xs:List Al)(W:World)(hv:RgIn W W.heap.size A xs)(ht:HasLib W):YC 137 #[.agg #[.slice A xs.length cap]] W (YR (.string (mkS (wB (yX xs)))) W):=by
 obtain ⟨t,et⟩:∃ t,fX (yX xs)=t:=⟨_,rfl⟩
 exact zD Tryz.func137 (yK [] λb1=>z8 (k:=178) (args:= #[.agg #[.slice A xs.length cap]]) (v:= .string (mkS t)) [0] (λw hO=>ret_v (by rw [et]) (gtext_any A cap xs w (hv.on hO.below hO.below.size) (ht.on hO.below))) (zB 8 [] ((96:Int)<(t.length:Int)) (λh1=>z7 [] (.string (mkS [])) λw hO=>⟨by rw [print_text,et,if_pos Om],hO.below⟩) (λh1=>z7 [] (.string (mkS t)) λw hO=>⟨by rw [print_text,et,if_neg Om],hO.below⟩)))
end
section
theorem rsfew_any (A:Option Addr)(cap:Nat)(xs:List Al)(W:World)(hv:RgIn W W.heap.size A xs):YC 182 #[.agg #[.slice A xs.length cap]] W (YR (.bool (fewR (yX xs))) W):=by
 have hno:=λ(h:fewR (yX xs)=false) (w:World) (hb:YB W w)=>show Ending.returned (.bool false)= .returned (.bool (fewR (yX xs)))/\YB W w from ⟨by rw [h],hb⟩
 refine zD Tryz.func182 (yK [] λb1=>zB 8 [0] ((xs.length:Int)<1) (λh=>z7 [] Z5 λw hO=>hno (few_len Om) w hO.below) (λh1=>zB 13 [0] ((6:Int)<(xs.length:Int)) (λh=>z7 [] Z5 λw hO=>hno (few_len Om) w hO.below) (λh2=> ?_)))
 refine zM (α:=Nat) (λi=>[(1,Zp b1 0),(3,YI (i:Int))]) (λ_=>[⟨b1, #[.slice A xs.length cap],192⟩]) (λi m=>(i<=xs.length∧∀ x∈xs.take i,fewA x.l=true)/\m=xs.length-i) 0 (xs.length-0) [] ⟨⟨Nat.zero_le _,by simp⟩,rfl⟩ ?_
 rintro i m g kk ⟨hrel,hmm⟩ nx hkk
 subst hkk
 have hil:=hrel.1
 by_cases h3:(i:Int)<(xs.length:Int)
 ·have hi:i<xs.length:=by omega
  obtain ⟨b,off,hA,hlt,hcell⟩:=hv.top Om
  obtain ⟨x,hx⟩:∃ x,xs[i]=x:=⟨_,rfl⟩
  have hxm:x∈xs:=hx▸List.getElem_mem hi
  have hrow:∀ w,YB W w->(loadVar 223 ⟨b,off+i*1,none⟩).run YP w= .ok (.slice x.A x.l.length x.cap) w:=λw hb=>wG alC_len (λj u h=>(hb.cell (p:=⟨b,off+j,none⟩) hlt).trans (hcell j u h)) i 0 hi Om _ (by rw [hx];kernel_rfl)
  refine zB 19 [0] ((i:Int)<(xs.length:Int)) (λ_=>zI 25 [0] hA xs.length cap i 1 hi (zH 26 [] 223 b (off+i*1) (.slice x.A x.l.length x.cap) (λw hO=>hrow w hO.below) (zB 28 [] ((x.l.length:Int)<1) (λh=>z7 [] Z5 λw hO=>hno (few_one hxm (fewA_len Om)) w hO.below) (λh4=>zI 33 [0] hA xs.length cap i 1 hi (zH 34 [] 223 b (off+i*1) (.slice x.A x.l.length x.cap) (λw hO=>hrow w hO.below) (zB 36 [] ((6:Int)<(x.l.length:Int)) (λh=>z7 [] Z5 λw hO=>hno (few_one hxm (fewA_len Om)) w hO.below) (λh5=> ?_))))))) (λh=>absurd h3 h)
  refine zM (α:=Nat) (λk=>[(1,Zp b1 0),(3,YI (i:Int)),(4,YI (k:Int))]) (λ_=>[⟨b1, #[.slice A xs.length cap],192⟩]) (λk m=>(k<=x.l.length∧∀ c∈x.l.take k,c.may=true)/\m=x.l.length-k) 0 (x.l.length-0) [] ⟨⟨Nat.zero_le _,by simp⟩,rfl⟩ ?_
  rintro k m2 g2 kk2 ⟨hrk,hmk⟩ nxk hkk2
  subst hkk2
  have hkl:=hrk.1
  refine zI 42 [0] hA xs.length cap i 1 hi (zH 43 [] 223 b (off+i*1) (.slice x.A x.l.length x.cap) (λw hO=>hrow w hO.below) (zB 45 [] ((k:Int)<(x.l.length:Int)) (λh6=> ?_) (λh6=>x_i 21 [] ((i+1:Nat):Int) (nx (i+1) (xs.length-(i+1)) [] Om ⟨⟨by omega,take_all hrel.2 hi hx (fewA_all Om (take_end hrk.2 Om))⟩,rfl⟩ Kr Kr))))
  have hk:k<x.l.length:=by omega
  obtain ⟨b2,off2,hA2,hlt2,hcell2⟩:=hv.each x hxm Om
  obtain ⟨c,hc⟩:∃ c,x.l[k]=c:=⟨_,rfl⟩
  have hcm:c∈x.l:=hc▸List.getElem_mem hk
  have hcS:c.short:=hv.short x hxm c hcm
  have hco:∀ w,YB W w->(loadVar 140 ⟨b2,off2+k*7,none⟩).run YP w= .ok (coV c) w:=λw hb=>wG coC_len (λj u h=>(hb.cell (p:=⟨b2,off2+j,none⟩) hlt2).trans (hcell2 j u h)) k 0 hk Om _ (by rw [hc];kernel_rfl)
  refine zI 51 [0] hA xs.length cap i 1 hi (zH 52 [] 223 b (off+i*1) (.slice x.A x.l.length x.cap) (λw hO=>hrow w hO.below) (zI 54 [] hA2 x.l.length x.cap k 7 hk (zH 55 [] 140 b2 (off2+k*7) (coV c) (λw hO=>hco w hO.below) (z8 (k:=133) (args:= #[coV c]) (v:= .bool c.may) [] (λw _=>rcMay_any c w hcS) ?_))))
  cases h7:c.may with
  |true=>exact x_i 47 [] ((k+1:Nat):Int) (nxk (k+1) (x.l.length-(k+1)) [] Om ⟨⟨by omega,take_all hrk.2 hk hc h7⟩,rfl⟩ Kr Kr)
  |false=>exact z7 [] (.bool false) λw hO=>hno (few_one hxm (fewA_one hcm h7)) w hO.below
 ·exact zB 19 [0] ((i:Int)<(xs.length:Int)) (λh=>absurd h h3) (λ_=>z7 [] Z4 λw hO=>⟨by rw [few_all Om (take_end hrel.2 Om)],hO.below⟩)
theorem rstext_any (A:Option Addr)(cap:Nat)(xs:List Al)(W:World)(hv:RgIn W W.heap.size A xs)(hf:fewR (yX xs)=true):YC 183 #[.agg #[.slice A xs.length cap]] W (YR (.string (mkS (kN (yX xs)))) W):=by
 have hn:=(few_mem hf).1.2
 refine zD Tryz.func183 (yK [] λb1=>zM (α:=Nat×YL) (λ(i,s)=>[(1,Zp b1 0),(3,.string (mkS s)),(4,YI (i:Int))]) (λ_=>[⟨b1, #[.slice A xs.length cap],192⟩]) (λ(i,s) m=>(i<=xs.length/\s=kN ((yX xs).take i)/\s.length<=i*3000)/\m=xs.length-i) (0,[]) (xs.length-0) [] ⟨⟨Nat.zero_le _,rfl,Nat.zero_le _⟩,rfl⟩ ?_)
 rintro ⟨i,s⟩ m g kk ⟨⟨hil,hs,hsl⟩,hmm⟩ nx hkk
 subst hkk
 by_cases h1:(i:Int)<(xs.length:Int)
 ·have hi:i<xs.length:=by omega
  obtain ⟨b,off,hA,hlt,hcell⟩:=hv.top Om
  obtain ⟨x,hx⟩:∃ x,xs[i]=x:=⟨_,rfl⟩
  have hxm:x∈xs:=hx▸List.getElem_mem hi
  have hrow:∀ w,YB W w->(loadVar 223 ⟨b,off+i*1,none⟩).run YP w= .ok (.slice x.A x.l.length x.cap) w:=λw hb=>wG alC_len (λj u h=>(hb.cell (p:=⟨b,off+j,none⟩) hlt).trans (hcell j u h)) i 0 hi Om _ (by rw [hx];kernel_rfl)
  have hxf:=(few_mem hf).2 x hxm
  have hx6:=hxf.1.2
  refine zB 10 [0] ((i:Int)<(xs.length:Int)) (λ_=> ?_) (λh=>absurd h1 h)
  refine bR 14 (α:=YL) (λp=>[(1,Zp b1 0),(3,.string (mkS p)),(4,YI (i:Int))]) (λ_=>[⟨b1, #[.slice A xs.length cap],192⟩]) (λp=>(if i=0 then [] else kN ((yX xs).take i)++[32,124,124,32])=p/\p.length<=i*3000+4) [] (λnj=>x_now 14 ((0:Int)<(i:Int)) (λh2=>zR 16 [] s [32,124,124,32] (nj (s++[32,124,124,32]) [] ⟨by rw [if_neg Om,←hs],by simp only [List.length_append,List.length_cons,List.length_nil];omega⟩ Kr)) (λh2=>nj s [] ⟨by rw [if_pos Om,hs,show i=0 by omega];rfl,by omega⟩ Kr)) (λp g2 hp=> ?_)
  have hpl:=hp.2
  refine zM (α:=Nat×YL) (λ(k,t)=>[(1,Zp b1 0),(3,.string (mkS t)),(4,YI (i:Int)),(5,YI (k:Int))]) (λ_=>[⟨b1, #[.slice A xs.length cap],192⟩]) (λ(k,t) m=>(k<=x.l.length/\t=p++xN (x.l.take k)/\t.length<=p.length+k*400)/\m=x.l.length-k) (0,p) (x.l.length-0) [] ⟨⟨Nat.zero_le _,by simp [xN,vN],by omega⟩,rfl⟩ ?_
  rintro ⟨k,t⟩ m2 g3 kk2 ⟨⟨hkl,ht,htl⟩,hmk⟩ nxk hkk2
  subst hkk2
  refine zI 21 [0] hA xs.length cap i 1 hi (zH 22 [] 223 b (off+i*1) (.slice x.A x.l.length x.cap) (λw hO=>hrow w hO.below) (zB 24 [] ((k:Int)<(x.l.length:Int)) (λh3=> ?_) (λh3=>x_i 12 [] ((i+1:Nat):Int) (nx (i+1,t) (xs.length-(i+1)) [] Om ⟨⟨by omega,by rw [ht,List.take_of_length_le (by omega:x.l.length<=k),rgText_step (by rw [gO];exact hi) (rgOf_get hi hx),hp.1],by omega⟩,rfl⟩ Kr Kr))))
  have hk:k<x.l.length:=by omega
  obtain ⟨b2,off2,hA2,hlt2,hcell2⟩:=hv.each x hxm Om
  obtain ⟨c,hc⟩:∃ c,x.l[k]=c:=⟨_,rfl⟩
  have hcm:c∈x.l:=hc▸List.getElem_mem hk
  have hcS:c.short:=hv.short x hxm c hcm
  have hco:∀ w,YB W w->(loadVar 140 ⟨b2,off2+k*7,none⟩).run YP w= .ok (coV c) w:=λw hb=>wG coC_len (λj u h=>(hb.cell (p:=⟨b2,off2+j,none⟩) hlt2).trans (hcell2 j u h)) k 0 hk Om _ (by rw [hc];kernel_rfl)
  have hcl:=co_len (hxf.2 c hcm)
  refine bR 28 (α:=YL) (λq=>[(1,Zp b1 0),(3,.string (mkS q)),(4,YI (i:Int)),(5,YI (k:Int))]) (λ_=>[⟨b1, #[.slice A xs.length cap],192⟩]) (λq=>q++c.print=p++xN (x.l.take (k+1))/\q.length<=t.length+2) [] (λnj=>x_now 28 ((0:Int)<(k:Int)) (λh4=>zR 30 [] t [44,32] (nj (t++[44,32]) [] ⟨by rw [ht,altText_step hk hc,if_neg Om];simp only [List.append_assoc],by simp⟩ Kr)) (λh4=>nj t [] ⟨by rw [ht,altText_step hk hc,if_pos Om,show k=0 by omega];simp [xN,vN],by omega⟩ Kr)) (λq g4 hq=> ?_)
  have hql:=hq.2
  exact zI 35 [0] hA xs.length cap i 1 hi (zH 36 [] 223 b (off+i*1) (.slice x.A x.l.length x.cap) (λw hO=>hrow w hO.below) (zI 38 [] hA2 x.l.length x.cap k 7 hk (zH 39 [] 140 b2 (off2+k*7) (coV c) (λw hO=>hco w hO.below) (z8 (k:=85) (args:= #[coV c]) (v:= .string (mkS c.print)) [] (λw _=>rcPrint_any c w hcS) (zR 41 [] q c.print (x_i 26 [] ((k+1:Nat):Int) (nxk (k+1,q++c.print) (x.l.length-(k+1)) [] Om ⟨⟨by omega,hq.1,by rw [List.length_append];omega⟩,rfl⟩ Kr Kr)))))))
 ·exact zB 10 [0] ((i:Int)<(xs.length:Int)) (λh=>absurd h h1) (λ_=>z7 [] (.string (mkS s)) λw hO=>⟨by rw [hs,List.take_of_length_le (by rw [gO];omega)],hO.below⟩)
theorem rsMay_any (A:Option Addr)(cap:Nat)(xs:List Al)(W:World)(hv:RgIn W W.heap.size A xs):YC 184 #[.agg #[.slice A xs.length cap]] W (YR (.bool (rgMay (yX xs))) W):=by
 refine zD Tryz.func184 (yK [] λb1=>z8 (k:=182) (args:= #[.agg #[.slice A xs.length cap]]) (v:= .bool (fewR (yX xs))) [0] (λw hO=>rsfew_any A cap xs w (hv.on hO.below hO.below.size)) ?_)
 cases h1:fewR (yX xs) with
 |false=>exact z7 [] (.bool false) λw hO=>⟨by unfold rgMay;rw [h1];rfl,hO.below⟩
 |true=>exact z8 (k:=183) (args:= #[.agg #[.slice A xs.length cap]]) (v:= .string (mkS (kN (yX xs)))) [0] (λw hO=>rstext_any A cap xs w (hv.on hO.below hO.below.size) h1) (zB 9 [] (((kN (yX xs)).length:Int)<=96) (λh2=>z7 [] (.bool true) λw hO=>⟨by unfold rgMay;rw [h1,decide_eq_true Om];rfl,hO.below⟩) (λh2=>z7 [] (.bool false) λw hO=>⟨by unfold rgMay;rw [h1,decide_eq_false Om];rfl,hO.below⟩))
theorem rsPrint_any (A:Option Addr)(cap:Nat)(xs:List Al)(W:World)(hv:RgIn W W.heap.size A xs):YC 139 #[.agg #[.slice A xs.length cap]] W (YR (.string (mkS (wB (yX xs)))) W):=by
 refine zD Tryz.func139 (yK [] λb1=>z8 (k:=184) (args:= #[.agg #[.slice A xs.length cap]]) (v:= .bool (rgMay (yX xs))) [0] (λw hO=>rsMay_any A cap xs w (hv.on hO.below hO.below.size)) ?_)
 cases h1:rgMay (yX xs) with
 |false=>exact z7 [] (.string (mkS [])) λw hO=>⟨by unfold wB;rw [h1];rfl,hO.below⟩
 |true=>exact z8 (k:=183) (args:= #[.agg #[.slice A xs.length cap]]) (v:= .string (mkS (kN (yX xs)))) [0] (λw hO=>rstext_any A cap xs w (hv.on hO.below hO.below.size) (rgMay.facts h1).1) (z7 [] (.string (mkS (kN (yX xs)))) λw hO=>⟨by unfold wB;rw [h1];rfl,hO.below⟩)
end
section
theorem bareF_len0 {u:YL}(h:u.length=0):yI u=u:=by rw [List.eq_nil_of_length_eq_zero h];rfl
theorem cons_of {u:YL}(h:0<u.length){c:UInt8}(hc:u[0]=c):u=c::u.drop 1:=by
 have:=List.drop_eq_getElem_cons h
 rw [List.drop_zero,hc] at this;exact this
theorem bareF_stop {u:YL}(h:0<u.length){c:UInt8}(hc:u[0]=c)(hn:¬ (c.toNat:Int)=32):yI u=u:=by
 rw [cons_of h hc,yI,if_neg λe:c=32=>hn ((wT (n:=32) (by decide)).2 e)]
theorem bareF_go {u:YL}(h:0<u.length){c:UInt8}(hc:u[0]=c)(hn:(c.toNat:Int)=32):yI (u.drop 1)=yI u:=by
 conv=>rhs;rw [cons_of h hc,yI,if_pos (show c=32 from (wT (n:=32) (by decide)).1 hn)]
theorem snoc_of {u:YL}(h:0<u.length){c:UInt8}(hc:u[u.length-1]'Om=c):u=u.take (u.length-1)++[c]:=by
 have:=List.take_succ_eq_append_getElem (l:=u) (i:=u.length-1) Om
 rw [hc,show u.length-1+1=u.length from by omega,List.take_length] at this;exact this
theorem rev_of {u:YL}(h:0<u.length){c:UInt8}(hc:u[u.length-1]'Om=c):u.reverse=c::(u.take (u.length-1)).reverse:=by
 conv=>lhs;rw [snoc_of h hc]
 rw [List.reverse_append];rfl
theorem rev_stop {u:YL}(h:0<u.length){c:UInt8}(hc:u[u.length-1]'Om=c)(hn:¬ (c.toNat:Int)=32):yI u.reverse=u.reverse:=by
 rw [rev_of h hc,yI,if_neg λe:c=32=>hn ((wT (n:=32) (by decide)).2 e)]
theorem rev_go {u:YL}(h:0<u.length){c:UInt8}(hc:u[u.length-1]'Om=c)(hn:(c.toNat:Int)=32):yI (u.take (u.length-1)).reverse=yI u.reverse:=by
 conv=>rhs;rw [rev_of h hc,yI,if_pos (show c=32 from (wT (n:=32) (by decide)).1 hn)]
theorem bareL_end {s u v:YL}(h1:yI s=u)(h2:yI v.reverse=yI u.reverse)(h3:yI v.reverse=v.reverse):yE s=v:=by
 unfold yE
 rw [h1,←h2,h3,List.reverse_reverse]
structure AlI (s:YL)(i f:Nat)(u:Value)(P:List YL)(ob:List Blk):Prop where
 fi:f<=i+1
 il:i<=s.length
 fl:f<=s.length
 sl:SlT u P ob
 eq:P++kB ((s.drop f).take (i-f)) (s.drop (max i f))=kB [] s
 pl:2*P.length<=f
theorem AlI.start (s:YL):AlI s 0 0 (.slice none 0 0) [] []:=⟨by omega,by omega,by omega,Sl.nil _ _,by simp,Nat.le_refl _⟩
theorem two_of {s:YL}{i:Nat}(h:i+1<s.length){c d:UInt8}(hc:s[i]'Om=c)(hd:s[i+1]=d):s.drop i=c::d::s.drop (i+2):=by
 rw [List.drop_eq_getElem_cons (show i<s.length by omega),hc,List.drop_eq_getElem_cons h,hd]
theorem AlI.on {s:YL}{i f:Nat}{u:Value}{P:List YL}{ob:List Blk}(h:AlI s i f u P ob)(hi:i+1<s.length){c d:UInt8}(hc:s[i]'Om=c)(hd:s[i+1]=d)(hn:¬ ((c.toNat:Int)=124/\(d.toNat:Int)=124/\f<=i)):AlI s (i+1) f u P ob:=by
 have hfi:=h.fi
 refine ⟨by omega,by omega,h.fl,h.sl, ?_,by have:=h.pl;omega⟩
 rw [←h.eq]
 congr 1
 by_cases hf:f<=i
 ·rw [show max (i+1) f=i+1 by omega,show max i f=i by omega,two_of hi hc hd,kB,if_neg λe:c=124/\d=124=>hn ⟨(wT (n:=124) (by decide)).2 e.1,(wT (n:=124) (by decide)).2 e.2,hf⟩]
  congr 1
  ·rw [show i+1-f=(i-f)+1 by omega,List.take_succ_eq_append_getElem (by rw [List.length_drop];omega)]
   congr 1
   rw [List.getElem_drop]
   congr 1
   rw [←hc]
   congr 1
   omega
  ·rw [List.drop_eq_getElem_cons hi,hd]
 ·rw [show i+1-f=0 by omega,show i-f=0 by omega,show max (i+1) f=f by omega,show max i f=f by omega]
theorem AlI.hit {s:YL}{i f:Nat}{u:Value}{P:List YL}{ob:List Blk}(h:AlI s i f u P ob)(hi:i+1<s.length){c d:UInt8}(hc:s[i]'Om=c)(hd:s[i+1]=d)(h1:(c.toNat:Int)=124)(h2:(d.toNat:Int)=124)(hf:f<=i){u2:Value}{ob2:List Blk}
  (hu:Sl 9 1 u2 (P.length+1) (jD P++yY ((s.drop f).take (i-f))) ob2):AlI s (i+1) (i+2) u2 (P++[(s.drop f).take (i-f)]) ob2:=by
 refine ⟨by omega,by omega,by omega,hu.to (by simp) (by simp [jD,yY]), ?_,by have:=h.pl;rw [List.length_append];simp;omega⟩
 rw [←h.eq,List.append_assoc]
 congr 1
 rw [show max i f=i by omega,two_of hi hc hd,kB,if_pos ⟨(wT (n:=124) (by decide)).1 h1,(wT (n:=124) (by decide)).1 h2⟩,show i+1-(i+2)=0 by omega,show max (i+1) (i+2)=i+2 by omega]
 rfl
theorem altsL_short {x acc:YL}(h:x.length<=1):kB acc x=[acc++x]:=by
 match x,h with
 | [],_=>simp [kB]
 | [c],_=>rfl
theorem AlI.fin {s:YL}{i f:Nat}{u:Value}{P:List YL}{ob:List Blk}(h:AlI s i f u P ob)(hi:¬ i+1<s.length):P++[s.drop f]=kB [] s:=by
 rw [←h.eq,altsL_short (by rw [List.length_drop];omega)]
 congr 2
 by_cases hf:f<=i
 ·rw [show max i f=i by omega]
  conv=>lhs;rw [←List.take_append_drop (i-f) (s.drop f)]
  rw [List.drop_drop,show f+(i-f)=i by omega]
 ·rw [show i-f=0 by omega,show max i f=f by omega];rfl
theorem rsbare_any (s:YL)(W:World)(hs:s.length<=1048576):YC 181 #[.string (mkS s)] W (YR (.string (mkS (yE s))) W):=by
 refine zD Tryz.func181 (x_loopE (α:=YL) (β:=YL) (λu=>[(0,.string (mkS u))]) (λ_=>[]) (λu m=>(yI u=yI s/\u.length<=s.length)/\m=u.length) s s.length (λu=>[(0,.string (mkS u))]) (λ_=>[]) (λu=>yI s=u/\u.length<=s.length) [] ⟨⟨rfl,Nat.le_refl _⟩,rfl⟩ ?_ ?_)
 ·rintro u m g ⟨⟨hu,hul⟩,hmm⟩ nx ne
  refine zB 5 [] ((0:Int)<(u.length:Int)) (λh1=> ?_) (λh1=>ne u [] ⟨by rw [←hu];exact bareF_len0 Om,hul⟩ Kr)
  have hu0:0<u.length:=by omega
  exact dF 8 [] u 0 hu0 u[0] rfl (zB 9 [] ((u[0].toNat:Int)=32) (λh2=>x_slo 12 [] u 1 Om Om (.string (mkS (u.drop 1))) rfl (nx (u.drop 1) (u.drop 1).length [] (by rw [List.length_drop];omega) ⟨⟨by rw [bareF_go hu0 rfl h2];exact hu,by rw [List.length_drop];omega⟩,rfl⟩ Kr Kr)) (λh2=>ne u [] ⟨by rw [←hu];exact bareF_stop hu0 rfl h2,hul⟩ Kr))
 ·rintro u g ⟨hbu,hul⟩
  refine zM (α:=YL) (λv=>[(0,.string (mkS v))]) (λ_=>[]) (λv m=>(yI v.reverse=yI u.reverse/\v.length<=u.length)/\m=v.length) u u.length [] ⟨⟨rfl,Nat.le_refl _⟩,rfl⟩ ?_
  rintro v m g2 kk ⟨⟨hv,hvl⟩,hmm⟩ nx hkk
  subst hkk
  have hE:=λ(h:yI v.reverse=v.reverse) (w:World) (hb:YB W w)=>show Ending.returned (.string (mkS v))= .returned (.string (mkS (yE s)))/\YB W w from ⟨by rw [bareL_end hbu hv h],hb⟩
  refine zB 15 [] ((0:Int)<(v.length:Int)) (λh3=> ?_) (λh3=>z7 [] (.string (mkS v)) λw hO=>hE (by rw [List.eq_nil_of_length_eq_zero (by omega:v.length=0)];rfl) w hO.below)
  have hv0:0<v.length:=by omega
  obtain ⟨cz,hcz⟩:∃ x,v[v.length-1]'Om=x:=⟨_,rfl⟩
  exact v8 20 [] (YI (IntKind.i64.wrap ((v.length:Int) -1))) (YI ((v.length-1:Nat):Int)) (by rw [IntWalk.i64_in _ Om,show (v.length:Int) -1=((v.length-1:Nat):Int) by omega]) (dF 21 [] v (v.length-1) Om cz hcz (zB 22 [] ((cz.toNat:Int)=32) (λh4=>x_i 27 [] ((v.length:Int) -1) (x_shi 28 [] v ((v.length:Int) -1) Om Om (.string (mkS (v.take (v.length-1)))) (by rw [show ((v.length:Int) -1).toNat=v.length-1 by omega]) (nx (v.take (v.length-1)) (v.take (v.length-1)).length [] (by rw [List.length_take];omega) ⟨⟨by rw [rev_go hv0 hcz h4];exact hv,by rw [List.length_take];omega⟩,rfl⟩ Kr Kr))) (λh4=>z7 [] (.string (mkS v)) λw hO=>hE (rev_stop hv0 hcz h4) w hO.below)))
theorem rsalts_any (s:YL)(W:World)(hs:s.length<=1048576):YC 179 #[.string (mkS s)] W λe w'=>∃ v' ob',e= .returned v'/\SlT v' (kB [] s) ob'/\Own [] W w' ob':=by
 refine zD Tryz.func179 (zM (α:=Nat×Nat×Value×List YL×List Blk) (λ(i,q,u,_,_)=>[(0,.string (mkS s)),(3,u),(4,YI (q:Int)),(5,YI (i:Int))]) (λ(_,_,_,_,ob)=>ob) (λ(i,q,u,P,ob) m=>AlI s i q u P ob/\m=s.length-i) (0,0,.slice none 0 0,[],[]) (s.length-0) [] ⟨AlI.start s,rfl⟩ ?_)
 rintro ⟨i,q,u,P,ob⟩ m g kk ⟨hrel,hmm⟩ nx hkk
 subst hkk
 have hfi:=hrel.fi
 have hil:=hrel.il
 have hfl:=hrel.fl
 have hpl:=hrel.pl
 by_cases h1:((i+1:Nat):Int)<(s.length:Int)
 ·have hi:i+1<s.length:=by omega
  obtain ⟨c,hc⟩:∃ x,s[i]'Om=x:=⟨_,rfl⟩
  obtain ⟨d,hd⟩:∃ x,s[i+1]=x:=⟨_,rfl⟩
  refine x_i 7 [] ((i+1:Nat):Int) (zB 10 [] (((i+1:Nat):Int)<(s.length:Int)) (λ_=>dF 15 [] s i Om c hc (zB 16 [] ((c.toNat:Int)=124) (λh2=>x_i 20 [] ((i+1:Nat):Int) (dF 21 [] s (i+1) hi d hd (zB 22 [] ((d.toNat:Int)=124) (λh3=>zB 27 [] ((q:Int)<=(i:Int)) (λh4=> ?_) (λh4=>x_i 12 [] ((i+1:Nat):Int) (nx (i+1,q,u,P,ob) (s.length-(i+1)) [] Om ⟨hrel.on hi hc hd Om,rfl⟩ Kr Kr))) (λh3=>x_i 12 [] ((i+1:Nat):Int) (nx (i+1,q,u,P,ob) (s.length-(i+1)) [] Om ⟨hrel.on hi hc hd Om,rfl⟩ Kr Kr))))) (λh2=>x_i 12 [] ((i+1:Nat):Int) (nx (i+1,q,u,P,ob) (s.length-(i+1)) [] Om ⟨hrel.on hi hc hd Om,rfl⟩ Kr Kr)))) (λh=>absurd h1 h))
  exact x_smid 33 [] s (q:Int) (i:Int) Om (.string (mkS ((s.drop q).take (i-q)))) rfl (gM [] 1 9 #[.string (mkS ((s.drop q).take (i-q)))] λb1=>wM (m:=1) (cp:=1) [] [⟨b1, #[.string (mkS ((s.drop q).take (i-q)))],9⟩] ob [] 0 (⟨b1, #[.string (mkS ((s.drop q).take (i-q)))],9⟩::ob) (λw hO=>hO.cast (by simp)) hrel.sl Om λu2 ob2 hu2=>x_i 37 [] ((i+2:Nat):Int) (x_i 12 [] ((i+1:Nat):Int) (y8 [] ob2 (λw hO=>(hO.past 1 (ob2++[])).cast (by simp)) (nx (i+1,i+2,u2,P++[(s.drop q).take (i-q)],ob2) (s.length-(i+1)) [] Om ⟨hrel.hit hi hc hd h2 h3 Om hu2,rfl⟩ Kr Kr))))
 ·exact x_i 7 [] ((i+1:Nat):Int) (zB 10 [] (((i+1:Nat):Int)<(s.length:Int)) (λh=>absurd h h1) (λ_=>x_slo 41 [] s (q:Int) Om Om (.string (mkS (s.drop q))) rfl (gM [] 1 9 #[.string (mkS (s.drop q))] λb1=>wM (m:=1) (cp:=1) [] [⟨b1, #[.string (mkS (s.drop q))],9⟩] ob [] 0 (⟨b1, #[.string (mkS (s.drop q))],9⟩::ob) (λw hO=>hO.cast (by simp)) hrel.sl Om λu2 ob2 hu2=>z7 [] u2 λw hO=>⟨u2,ob2,rfl,by rw [←hrel.fin Om];exact (show Sl 9 1 u2 (P.length+1) (jD P++yY (s.drop q)) ob2 from hu2).to (by simp) (by simp [jD,yY]),(hO.past 1 (ob2++[])).cast (by simp)⟩)))
end
section
theorem rsParse_any (s:YL)(W:World)(hs:s.length<=1048576):YC 138 #[.string (mkS s)] W λe w'=>∃ v' ob',e= .returned (.tuple #[v',YI (d5 s)])/\RgO v' ((kV s).getD []) ob'/\Own [] W w' ob':=by
 have hZ:=λ{z:Int} (h:d5 s=z/\kV s=none) (w:World) (hb:Own [] W w [])=>show ∃ v' ob',Ending.returned (.tuple #[.agg #[.slice none 0 0],YI z])= .returned (.tuple #[v',YI (d5 s)])/\RgO v' ((kV s).getD []) ob'/\Own [] W w ob' from ⟨_,[],by rw [h.1],by rw [h.2];exact RgO.nil,hb⟩
 refine zD Tryz.func138 (zJ [] λb1=>zB 14 [] ((96:Int)<(s.length:Int)) (λh1=>yD [0] 0 (.agg #[.slice none 0 0]) (YI 3) λw hO=>hZ (errG_long Om) w (n7 hO)) (λh1=>zJ [] λb2=>k8 (R:=λv' ob'=>SlT v' (kB [] s) ob') [] (λw hO=>rsalts_any s w hs) ?_))
 intro lv ol hol
 have hs6:s.length<=96:=by omega
 obtain ⟨l,hll⟩:∃ l,l=kB [] s:=⟨_,rfl⟩
 rw [←hll] at hol
 have hln:l.length<=97:=by rw [hll];have:=tJ s [];omega
 have hlm:∀ x∈l,x.length<=96:=λx hx=>by have:=altsL_le s [] x (hll▸hx);simp at this;omega
 obtain ⟨g,cur,lcap,rfl,rfl,hcur⟩:=SlT.blk hol (by rw [hll];exact altsL_ne s [])
 refine zM (α:=Nat×Option Addr×Nat×List Al×List Blk×List Blk) (λ(i,_,_,_,_,_)=>[(2,Zp b1 0),(4,Zp b2 0),(5,.slice (some ⟨g,0,none⟩) l.length lcap),(6,YI (i:Int))]) (λ(_,A,cap,xs,o1,o2)=>⟨b2, #[.slice A xs.length cap],192⟩::⟨b1, #[.slice none 0 0],192⟩::⟨g,cur,9⟩::(o1++o2)) (λ(i,A,cap,xs,o1,o2) m=>(i<=l.length/\RgA (.slice A xs.length cap) xs o1 o2/\fP parseA (l.take i)=some (yX xs))/\m=l.length-i) (0,none,0,[],[],[]) (l.length-0) [] ⟨⟨Nat.zero_le _,RgA.nil,rfl⟩,rfl⟩ ?_
 rintro ⟨i,A,cap,xs,o1,o2⟩ m gg kk ⟨⟨hil,hra,hal⟩,hmm⟩ nx hkk
 subst hkk
 by_cases h2:(i:Int)<(l.length:Int)
 ·have hi:i<l.length:=by omega
  obtain ⟨y,hy⟩:∃ y,l[i]=y:=⟨_,rfl⟩
  have hyl:y.length<=96:=hlm y (hy▸List.getElem_mem hi)
  have hxl:xs.length<=97:=by have q:=fO hal;rw [List.length_take,gO] at q;omega
  refine zB 21 [] ((i:Int)<(l.length:Int)) (λ_=>jI 26 [] (A:=some ⟨g,0,none⟩) rfl l.length lcap (i:Int) 1 (i*1) Om (jH 27 [] 2 cur (i*1) 9 (.string (mkS y)) (p5 zX hcur i 0 Om Om _ (by rw [hy];kernel_rfl)) (k8 (R:=λv' ob'=>SlT v' (zE 44 [] y) ob') [] (λw hO=>rsplit44_own y w Om) ?_))) (λh=>absurd h2 h)
  intro mv om hom
  obtain ⟨m',hml⟩:∃ m',m'=zE 44 [] y:=⟨_,rfl⟩
  rw [←hml] at hom
  have hmn:m'.length<=97:=by rw [hml];exact (t6 hyl).1
  have hmm':∀ x∈m',x.length<=96:=λx hx=>(t6 hyl).2 x (hml▸hx)
  obtain ⟨g2,cur2,mcap,rfl,rfl,hcur2⟩:=SlT.blk hom (by rw [hml];exact vB 44 y [])
  refine y8 [] (⟨g2,cur2,9⟩::⟨b2, #[.slice A xs.length cap],192⟩::⟨b1, #[.slice none 0 0],192⟩::⟨g,cur,9⟩::(o1++o2)) (λw hO=>(hO.past 0 ((⟨b2, #[.slice A xs.length cap],192⟩::⟨b1, #[.slice none 0 0],192⟩::⟨g,cur,9⟩::(o1++o2))++[⟨g2,cur2,9⟩])).perm List.perm_append_comm) (zM (α:=Nat×Option Addr×Nat×List Co×List Blk) (λ(k,B,cb,a,_)=>[(2,Zp b1 0),(4,Zp b2 0),(5,.slice (some ⟨g,0,none⟩) l.length lcap),(6,YI (i:Int)),(7,.slice B a.length cb),(8,.slice (some ⟨g2,0,none⟩) m'.length mcap),(9,YI (k:Int))]) (λ(_,_,_,_,oa)=>⟨g2,cur2,9⟩::⟨b2, #[.slice A xs.length cap],192⟩::⟨b1, #[.slice none 0 0],192⟩::⟨g,cur,9⟩::(oa++(o1++o2))) (λ(k,B,cb,a,oa) m=>(k<=m'.length/\SlCo (.slice B a.length cb) a oa/\fP parseP (m'.take k)=some a)/\m=m'.length-k) (0,none,0,[],[]) (m'.length-0) [] ⟨⟨Nat.zero_le _,Sl.nil _ _,rfl⟩,rfl⟩ ?_)
  rintro ⟨k,B,cb,a,oa⟩ m2 g3 kk2 ⟨⟨hkl,hsl,hak⟩,hmk⟩ nxk hkk2
  subst hkk2
  have hal2:a.length<=97:=by have q:=fO hak;rw [List.length_take] at q;omega
  by_cases h3:(k:Int)<(m'.length:Int)
  ·have hk:k<m'.length:=by omega
   obtain ⟨z,hz⟩:∃ z,m'[k]=z:=⟨_,rfl⟩
   have hzl:z.length<=96:=hmm' z (hz▸List.getElem_mem hk)
   have hbz:=bareL_len z
   refine zB 32 [] ((k:Int)<(m'.length:Int)) (λ_=>jI 38 [] (A:=some ⟨g2,0,none⟩) rfl m'.length mcap (k:Int) 1 (k*1) Om (jH 39 [] 0 cur2 (k*1) 9 (.string (mkS z)) (p5 zX hcur2 k 0 Om Om _ (by rw [hz];kernel_rfl)) (z8 (k:=181) (args:= #[.string (mkS z)]) (v:= .string (mkS (yE z))) [] (λw _=>rsbare_any z w Om) (z8 (k:=180) (args:= #[.string (mkS (yE z))]) (v:= .tuple #[coV (pcV (yE z)),YI (pcE (yE z))]) [] (λw _=>rcParse_any (yE z) w Om) (zJ [] λb3=>vP 45 [0] (pcE (yE z)=0) (λh4=> ?_) (λh4=>yD [3] 3 (.agg #[.slice none 0 0]) (YI 6) λw hO=>hZ (errG_none hs6 (all_fails hll hi hy hml hk hz h4)) w (n7 hO))))))) (λh=>absurd h3 h)
   refine gM [0] 1 140 (coV (pcV (yE z))).cells λb4=>wM (m:=1) (cp:=1) [] [⟨b4,(coV (pcV (yE z))).cells,140⟩,⟨b3,(coV (pcV (yE z))).cells,140⟩,⟨g2,cur2,9⟩,⟨b2, #[.slice A xs.length cap],192⟩,⟨b1, #[.slice none 0 0],192⟩,⟨g,cur,9⟩] oa (o1++o2) 0 (⟨b4,(coV (pcV (yE z))).cells,140⟩::⟨b3,(coV (pcV (yE z))).cells,140⟩::⟨g2,cur2,9⟩::⟨b2, #[.slice A xs.length cap],192⟩::⟨b1, #[.slice none 0 0],192⟩::⟨g,cur,9⟩::(oa++(o1++o2))) (λw hO=>hO.cast (by simp)) hsl Om λu2 ob2 hu2=> ?_
   have hu3:SlCo u2 (a++[pcV (yE z)]) ob2:=(show Sl 140 7 u2 (a.length+1) (a.flatMap coC++coC (pcV (yE z))) ob2 from hu2).to (by simp) (by simp)
   obtain ⟨B2,cb2,rfl⟩:=Sl.form hu3
   exact x_i 34 [] ((k+1:Nat):Int) (y8 [] (⟨g2,cur2,9⟩::⟨b2, #[.slice A xs.length cap],192⟩::⟨b1, #[.slice none 0 0],192⟩::⟨g,cur,9⟩::(ob2++(o1++o2))) (λw hO=>hO.past 2 _) (nxk (k+1,B2,cb2,a++[pcV (yE z)],ob2) (m'.length-(k+1)) [] Om ⟨⟨by omega,hu3,allO_next hk hz hak (pc_ok h4)⟩,rfl⟩ Kr Kr))
  ·refine zB 32 [] ((k:Int)<(m'.length:Int)) (λh=>absurd h h3) (λ_=>gM [1] 1 223 #[.slice B a.length cb] λb3=>wM (m:=1) (cp:=1) [] ([⟨b3, #[.slice B a.length cb],223⟩,⟨g2,cur2,9⟩,⟨b2, #[.slice A xs.length cap],192⟩,⟨b1, #[.slice none 0 0],192⟩,⟨g,cur,9⟩]++oa) o1 o2 0 (⟨b3, #[.slice B a.length cb],223⟩::⟨g2,cur2,9⟩::⟨b2, #[.slice A xs.length cap],192⟩::⟨b1, #[.slice none 0 0],192⟩::⟨g,cur,9⟩::(oa++(o1++o2))) (λw hO=>hO.cast (by simp)) hra.top Om λu2 ob2 hu2=> ?_)
   have hra2:RgA u2 (xs++[(⟨B,a,cb⟩:Al)]) ob2 (oa++o2):=hra.add hu2 hsl
   obtain ⟨A2,cap2,rfl⟩:=Sl.form hra2.top
   exact x_i 23 [2] ((i+1:Nat):Int) (y8 [] (⟨b2, #[.slice A2 (xs++[(⟨B,a,cb⟩:Al)]).length cap2],192⟩::⟨b1, #[.slice none 0 0],192⟩::⟨g,cur,9⟩::(ob2++(oa++o2))) (λw hO=>own_turn (hO.past 0 (([⟨b3, #[.slice B a.length cb],223⟩,⟨g2,cur2,9⟩,⟨b2, #[.slice A2 (xs++[(⟨B,a,cb⟩:Al)]).length cap2],192⟩,⟨b1, #[.slice none 0 0],192⟩,⟨g,cur,9⟩]++oa)++ob2++o2))) (nx (i+1,A2,cap2,xs++[(⟨B,a,cb⟩:Al)],ob2,oa++o2) (l.length-(i+1)) [] Om ⟨⟨by omega,hra2,by rw [show yX (xs++[(⟨B,a,cb⟩:Al)])=yX xs++[a] from by simp [yX]];exact allO_next hi hy hal (by have q:=hak;rw [List.take_of_length_le Om,hml] at q;exact q)⟩,rfl⟩ Kr Kr))
 ·have hall:vG s=some (yX xs):=by have q:=hal;rw [List.take_of_length_le Om,hll] at q;exact q
  have hfine:FineR (yX xs):=fine_part hs6 (λx hx=>hll▸hx) hln (by rw [hll];exact hall)
  have hin:∀ w,Own [] W w (o1++o2)->RgIn w w.heap.size A xs:=λw hO=>hra.inn rfl hO (λx hx=>List.mem_append_left _ hx) (λx hx=>List.mem_append_right _ hx) hfine
  refine zB 21 [] ((i:Int)<(l.length:Int)) (λh=>absurd h h2) (λ_=>z8 (k:=182) (args:= #[.agg #[.slice A xs.length cap]]) (v:= .bool (fewR (yX xs))) [0] (λw hO=>rsfew_any A cap xs w (hin w (hO.past 3 (o1++o2)))) ?_)
  cases h5:fewR (yX xs) with
  |false=>exact yD [1] 1 (.agg #[.slice none 0 0]) (.int .i64 6) λw hO=>hZ (errG_few hs6 hall h5) w (n7 hO)
  |true=>exact z8 (k:=183) (args:= #[.agg #[.slice A xs.length cap]]) (v:= .string (mkS (kN (yX xs)))) [0] (λw hO=>rstext_any A cap xs w (hin w (hO.past 3 (o1++o2))) h5) (zB 64 [] ((96:Int)<((kN (yX xs)).length:Int)) (λh6=>yD [1] 1 (.agg #[.slice none 0 0]) (.int .i64 3) λw hO=>hZ (errG_big hs6 hall h5 Om) w (n7 hO)) (λh6=>yD [0,1] 1 (.agg #[.slice A xs.length cap]) (.int .i64 0) λw hO=>⟨.agg #[.slice A xs.length cap],o1++o2,by rw [(errG_fine hs6 hall h5 Om).1],by rw [(errG_fine hs6 hall h5 Om).2];exact ⟨xs,_,o1,o2,rfl,rfl,rfl,hra⟩,hO.past 3 (o1++o2)⟩))
end
section
end
section
def turnL (l:List Sp)(k:Nat):List Sp:=((l.take k).map turnS).filter (·.may)
end
section
section
variable {M:List Nat}{W w:World}
end
theorem fine_get {s:YL}(h:d5 s=0):FineR ((kV s).getD []):=by
 cases hp:kV s with
 |none=>rcases err_none hp with e|e<;>rw [e] at h<;>exact absurd h (by decide)
 |some r=>exact fine_few (rgMay.facts (err_some hp).2.1).1
theorem rsParse_tup (s:YL)(W:World)(hs:s.length<=1048576):YC 138 #[.string (mkS s)] W λe w'=>∃ v' ob',e= .returned v'/\(∃ rv,v'=Value.tuple #[rv,YI (d5 s)]/\RgO rv ((kV s).getD []) ob')/\Own [] W w' ob':=
 (rsParse_any s W hs).mono λe w' ⟨v',ob',k1,k2,k3⟩=>⟨_,ob',k1,⟨v',rfl,k2⟩,k3⟩
end
section
theorem fewR_text {r:List (List Co)}(h:r≠[]){t:YL}(ht:fX r=t):(t=[]->fewR r=false)/\(¬ t=[]->fewR r=true/\kN r=t):=by
 refine ⟨λq=>textR_nil.1 (ht.trans q),λq=> ?_⟩
 cases hf:fewR r with
 |false=>exact absurd (ht.symm.trans (textR_nil.2 hf)) q
 |true=>refine ⟨rfl, ?_⟩;unfold fX at ht;rw [hf] at ht;exact ht
theorem all_ne {s:YL}{r:List (List Co)}(h:vG s=some r):r≠[]:=λe=>by
 have h2:=fO h
 rw [e] at h2
 exact altsL_ne s [] (List.eq_nil_of_length_eq_zero h2.symm)
theorem gParse_any (s:YL)(W:World)(hs:s.length<=1048576)(ht:HasLib W):YC 136 #[.string (mkS s)] W λe w'=>∃ v' ob',e= .returned (.tuple #[v',YI (d5 s)])/\RgO v' ((kV s).getD []) ob'/\Own [] W w' ob':=by
 have hsz:=zQ s
 refine Z2 (n:=62) Tryz.func136 rfl (ZO (Za (.agg #[.slice none 0 0]) (λb1=>Zv (YI 0) (ZN (kA (ZO (Zv (.string (mkS s)) (Zv (YI ((mkS s).size)) ?_))))))))
 by_cases h1:(96:Int)<(mkS s).size
 ·refine Zg h1 (ZY (ZO (Zv (.agg #[.slice none 0 0]) (Zs 0 ⟨b1, #[.slice none 0 0],192⟩ (off:=0) (.agg #[.slice none 0 0]) (Zv (YI 3) (ZN (gG ?_)))))))
  exact yH (ZD 0 ⟨b1, #[.slice none 0 0],192⟩ (off:=0) (.agg #[.slice none 0 0]) (YI 3) Tryz.results136 (λw hO=>⟨.agg #[.slice none 0 0],[],by rw [(errG_long (s:=s) Om).1],by rw [(errG_long (s:=s) Om).2];exact RgO.nil,n7 hO⟩))
 have hs6:s.length<=96:=by omega
 refine Zh h1 (ZX (ZB (ZO (Za (.agg #[.slice none 0 0]) (λb2=>ZN (kA ?_))))))
 refine ZO (Zv (.string (mkS s)) (Zr (k:=154) (args:= #[.string (mkS s),.string ⟨#[124,124]⟩]) (λv' L'=>∃ ob',L'=ob'++([⟨b2, #[.slice none 0 0],192⟩,⟨b1, #[.slice none 0 0],192⟩])/\SlT v' (kB [] s) ob') (λw hO=>(split_bars s w hs (ht.on hO.below)).mono λe w' ⟨v',ob',k1,k2,k3⟩=>⟨v',_,k1,⟨ob',rfl,k2⟩,Own.joinN hO k3⟩) (λlv L2 hv2=> ?_)))
 obtain ⟨ol,rfl,hol⟩:=hv2
 obtain ⟨l,hll⟩:∃ l,l=kB [] s:=⟨_,rfl⟩
 rw [←hll] at hol
 have hln:l.length<=97:=by rw [hll];have:=tJ s [];omega
 have hlm:∀ x∈l,x.length<=96:=λx hx=>by have:=altsL_le s [] x (hll▸hx);simp at this;omega
 obtain ⟨g,cur,lcap,rfl,rfl,hcur⟩:=SlT.blk hol (by rw [hll];exact altsL_ne s [])
 refine Zv (YI (l.length:Int)) (Zv (YI 0) (ZN (mJ (ok_cast (L':=⟨g,cur,9⟩::⟨b2, #[.slice none 0 0],192⟩::⟨b1, #[.slice none 0 0],192⟩::([]++[])) rfl (ok_loop (λL f m=>∃ (i:Nat) (A:Option Addr) (cap:Nat) (xs:List Al) (o1:List Blk) (o2:List Blk) (j:Nat->Value),(i<=l.length/\RgA (.slice A xs.length cap) xs o1 o2/\fP parseA (l.take i)=some (yX xs))/\L=⟨g,cur,9⟩::⟨b2, #[.slice A xs.length cap],192⟩::⟨b1, #[.slice none 0 0],192⟩::(o1++o2)/\f=wV j [(2,Zp b1 0),(4,Zp b2 0),(18,.slice (some ⟨g,0,none⟩) l.length lcap),(19,YI (l.length:Int)),(20,YI (i:Int))]/\m=l.length-i) (l.length-0) ⟨0,none,0,[],[],[],_,⟨Nat.zero_le _,RgA.nil,rfl⟩,rfl,ZU,rfl⟩ ?_)))))
 rintro L f m ⟨i,A,cap,xs,o1,o2,j,hrel,rfl,rfl,rfl⟩
 have hrel0:=hrel;have hra:=hrel.2.1;have hil:=hrel.1
 refine kA (kO ?_)
 by_cases h2:(i:Int)<(l.length:Int)
 ·have hi:i<l.length:=by omega
  obtain ⟨y,hy⟩:∃ y,l[i]=y:=⟨_,rfl⟩
  have hyl:y.length<=96:=hlm y (hy▸List.getElem_mem hi)
  refine Zg h2 (ZN (kA (Zt (ZB (kA (mJ (ZO (bU (Zp g (i*1)) Kr (ZV (b:=g) (off:=0) (n:=l.length) (c:=lcap) (k:= .i64) (j:=(i:Int)) (e:=9) (sz:=1)) ?_))))))))
  refine s_load 0 ⟨g,cur,9⟩ (off:=i*1) (.string (mkS y)) Kr rfl Kr Kr (p5 zX hcur i 0 Om Om _ (by rw [hy];kernel_rfl)) (Zv (.string (mkS y)) (ZR (Zv (.slice none 0 0) (ZN (kA (kA (kO ?_)))))))
  refine Zv (.string (mkS y)) (Zr (k:=154) (args:= #[.string (mkS y),.string ⟨#[44]⟩]) (λv' L'=>∃ ob',L'=ob'++(⟨g,cur,9⟩::(⟨b2, #[.slice A xs.length cap],192⟩::(⟨b1, #[.slice none 0 0],192⟩::((o1++o2)))))/\SlT v' (zE 44 [] y) ob') (λw hO=>(split_comma y w Om (ht.on hO.below)).mono λe w' ⟨v',ob',k1,k2,k3⟩=>⟨v',_,k1,⟨ob',rfl,k2⟩,Own.joinN hO k3⟩) (λmv L2 hv2=> ?_))
  obtain ⟨om,rfl,hom⟩:=hv2
  obtain ⟨m',hml⟩:∃ m',m'=zE 44 [] y:=⟨_,rfl⟩
  rw [←hml] at hom
  have hmn:m'.length<=97:=by rw [hml];exact (t6 hyl).1
  have hmm:∀ x∈m',x.length<=96:=λx hx=>(t6 hyl).2 x (hml▸hx)
  obtain ⟨g2,cur2,mcap,rfl,rfl,hcur2⟩:=SlT.blk hom (by rw [hml];exact vB 44 y [])
  refine Zv (YI (m'.length:Int)) (Zv (YI 0) (ZN (mJ (ok_cast (L':=⟨g2,cur2,9⟩::⟨g,cur,9⟩::⟨b2, #[.slice A xs.length cap],192⟩::⟨b1, #[.slice none 0 0],192⟩::([]++(o1++o2))) rfl (ok_loop (λL f m=>∃ (k:Nat) (B:Option Addr) (cb:Nat) (a:List Co) (oa:List Blk) (j:Nat->Value),(k<=m'.length/\SlCo (.slice B a.length cb) a oa/\fP parseP (m'.take k)=some a)/\L=⟨g2,cur2,9⟩::⟨g,cur,9⟩::⟨b2, #[.slice A xs.length cap],192⟩::⟨b1, #[.slice none 0 0],192⟩::(oa++(o1++o2))/\f=wV j [(2,Zp b1 0),(4,Zp b2 0),(18,.slice (some ⟨g,0,none⟩) l.length lcap),(19,YI (l.length:Int)),(20,YI (i:Int)),(7,.slice B a.length cb),(25,.slice (some ⟨g2,0,none⟩) m'.length mcap),(26,YI (m'.length:Int)),(27,YI (k:Int))]/\m=m'.length-k) (m'.length-0) ⟨0,none,0,[],[],_,⟨Nat.zero_le _,Sl.nil _ _,rfl⟩,rfl,ZU,rfl⟩ ?_)))))
  rintro L f m ⟨k,B,cb,a,oa,j,hrel,rfl,rfl,rfl⟩
  have hkl:=hrel.1
  refine kA (kO ?_)
  by_cases h3:(k:Int)<(m'.length:Int)
  ·have hk:k<m'.length:=by omega
   obtain ⟨z,hz⟩:∃ z,m'[k]=z:=⟨_,rfl⟩
   have hzl:z.length<=96:=hmm z (hz▸List.getElem_mem hk)
   have hbz:=bareL_len z
   refine Zg h3 (ZN (kA (Zt (ZB (kA (mJ (ZO (bU (Zp g2 (k*1)) Kr (ZV (b:=g2) (off:=0) (n:=m'.length) (c:=mcap) (k:= .i64) (j:=(k:Int)) (e:=9) (sz:=1)) ?_))))))))
   refine s_load 0 ⟨g2,cur2,9⟩ (off:=k*1) (.string (mkS z)) Kr rfl Kr Kr (p5 zX hcur2 k 0 Om Om _ (by rw [hz];kernel_rfl)) (Zv (.string (mkS z)) (ZR (Zv (.string (mkS z)) (Zc (k:=177) (args:= #[.string (mkS z),.string ⟨#[32]⟩]) (.string (mkS (yE z))) (λw _=>trim_any z w Om) (Zc (k:=176) (args:= #[.string (mkS (yE z))]) (.tuple #[coV (pcV (yE z)),YI (pcE (yE z))]) (λw hO=>cParse_any (yE z) w Om (ht.tab.on hO.below)) (Zv (.tuple #[coV (pcV (yE z)),YI (pcE (yE z))]) (Zv (coV (pcV (yE z))) (Zv (YI (pcE (yE z))) ?_))))))))
   refine Za (.agg #[YI 0,YI 0,YI 0,YI 0,YI 0,.string ⟨#[]⟩,.string ⟨#[]⟩]) (λb3=>Zs 0 ⟨b3, #[YI 0,YI 0,YI 0,YI 0,YI 0,.string ⟨#[]⟩,.string ⟨#[]⟩],140⟩ (off:=0) (coV (pcV (yE z))) (Zv (YI (pcE (yE z))) (ZN (kA (ZO (Zv (YI (pcE (yE z))) ?_))))))
   by_cases h4:((pcE (yE z)):Int)=0
   ·refine Zn (p:=((pcE (yE z)):Int)=0) true (decide_eq_true (h4)) (ZX (ZB (kO (Zv (.slice B a.length cb) (Zl 0 ⟨b3,(coV (pcV (yE z))).cells,140⟩ (off:=0) (coV (pcV (yE z))) (s_lit 140 #[YI ((pcV (yE z)).op),YI ((pcV (yE z)).parts),YI ((pcV (yE z)).v.maj),YI ((pcV (yE z)).v.min),YI ((pcV (yE z)).v.pat),.string (mkS (pcV (yE z)).v.pre),.string (mkS (pcV (yE z)).v.build)] Kr rfl (λ_=>Kr) (λb4=> ?_)))))))
    obtain ⟨i0,z0,e1,e2,e3,e4,e5⟩:=co_info
    have hal:a.length<=97:=by have q:=fO hrel.2.2;rw [List.length_take] at q;omega
    refine bV (L':=[⟨b4, #[YI ((pcV (yE z)).op),YI ((pcV (yE z)).parts),YI ((pcV (yE z)).v.maj),YI ((pcV (yE z)).v.min),YI ((pcV (yE z)).v.pat),.string (mkS (pcV (yE z)).v.pre),.string (mkS (pcV (yE z)).v.build)],140⟩,⟨b3,(coV (pcV (yE z))).cells,140⟩,⟨g2,cur2,9⟩,⟨g,cur,9⟩,⟨b2, #[.slice A xs.length cap],192⟩,⟨b1, #[.slice none 0 0],192⟩]++oa++(o1++o2)) (by rw [List.append_assoc];kernel_rfl) (s_append (sz:=7) Kr rfl Tryz.underlying223 e1 e2 e3 e4 Kr hrel.2.1 (a:=⟨b4,0,none⟩) (m:=1) (c:=1) (news:=coC (pcV (yE z))) Kr rfl (λw hO j u hj=> ?_) (co_cells _) (by unfold maxLen;omega) (by rw [e5];omega) (λu2 ob2 hu2=> ?_))
    ·rw [xP,cell_of_row w b4 (0+j) (coC (pcV (yE z))).toArray 140 _ (hO.held ⟨b4,(coC (pcV (yE z))).toArray,140⟩ (List.mem_append_left _ (List.mem_append_left _ (List.mem_cons_self ..))))];simpa using hj
    have hu3:SlCo u2 (a++[(pcV (yE z))]) ob2:=hu2.to (by simp) (by simp)
    obtain ⟨B2,cb2,rfl⟩:=Sl.form hu3
    exact mG (L':=⟨g2,cur2,9⟩::(⟨g,cur,9⟩::(⟨b2, #[.slice A xs.length cap],192⟩::(⟨b1, #[.slice none 0 0],192⟩::(ob2++((o1++o2))))))) (λw hO=>own_two (by simpa using hO)) (Zv (.slice B2 ((a++[(pcV (yE z))]).length) cb2) (nW (fin_block (vV (kO (Zu (k:= .i64) (((k+1:Nat):Int)) (IntWalk.i64_in _ Om) (Zv (YI ((k+1:Nat):Int)) (nW (fin_round (m':=m'.length-(k+1)) Om ⟨k+1,B2,cb2,_,ob2,_,⟨by omega,hu3,allO_next hk hz hrel.2.2 (pc_ok (by assumption))⟩,rfl,ZU,rfl⟩)))))))))
   refine Zn (p:=((pcE (yE z)):Int)=0) false (decide_eq_false (h4)) (ZY (ZO (Zv (.agg #[.slice none 0 0]) (Zs 4 ⟨b1, #[.slice none 0 0],192⟩ (off:=0) (.agg #[.slice none 0 0]) (Zv (YI 6) (ZN (gG ?_)))))))
   refine yH (qW (yH (dZ (qW (yH (qW (yH (dZ (qW (yH (ZD 4 ⟨b1, #[.slice none 0 0],192⟩ (off:=0) (.agg #[.slice none 0 0]) (YI 6) Tryz.results136 ?_)))))))))))
   exact λw hO=>⟨.agg #[.slice none 0 0],[],by rw [(errG_none hs6 (all_fails hll hi hy hml hk hz (by assumption))).1],by rw [(errG_none hs6 (all_fails hll hi hy hml hk hz (by assumption))).2];exact RgO.nil,n7 hO⟩
  refine Zh h3 (ZN (kA (Zf (ok_exit (wF (d3 (d4 (vV (kO (Zv (Zp b2 0) ?_))))))))))
  refine Zl 2 ⟨b2, #[.slice A xs.length cap],192⟩ (off:=0) (.slice A xs.length cap) (Zv (.slice B a.length cb) (s_lit 223 #[.slice B a.length cb] Kr rfl (λ_=>Kr) (λb3=> ?_)))
  obtain ⟨i0,z0,e1,e2,e3,e4,e5⟩:=al_info
  have hal:xs.length<=97:=by have q:=fO hrel0.2.2;rw [List.length_take,gO] at q;omega
  refine bV (L':=([⟨b3, #[.slice B a.length cb],223⟩,⟨g2,cur2,9⟩,⟨g,cur,9⟩,⟨b2, #[.slice A xs.length cap],192⟩,⟨b1, #[.slice none 0 0],192⟩]++oa)++o1++o2) (by rw [List.append_assoc,List.append_assoc];kernel_rfl) (s_append (sz:=1) Kr rfl Tryz.underlying190 e1 e2 e3 e4 Kr hra.top (a:=⟨b3,0,none⟩) (m:=1) (c:=1) (news:=alC (Al.mk B a cb)) Kr rfl (λw hO j u hj=> ?_) (al_cells _) (by unfold maxLen;omega) (by rw [e5];omega) (λu2 ob2 hu2=> ?_))
  ·rw [xP,cell_of_row w b3 (0+j) (alC (Al.mk B a cb)).toArray 223 _ (hO.held ⟨b3,(alC (Al.mk B a cb)).toArray,223⟩ (by simp [alC]))];simpa using hj
  have hra2:=hra.add hu2 hrel.2.1
  obtain ⟨A2,cap2,rfl⟩:=Sl.form hra2.top
  exact mG (L':=⟨g,cur,9⟩::(⟨b2, #[.slice A xs.length cap],192⟩::(⟨b1, #[.slice none 0 0],192⟩::((ob2++(oa++o2)))))) (λw hO=>own_turn hO) (Zv (Zp b2 0) (Zs 1 ⟨b2, #[.slice A xs.length cap],192⟩ (off:=0) (.slice A2 ((xs++[(Al.mk B a cb)]).length) cap2) (nW (fin_block (vV (kO (Zu (k:= .i64) (((i+1:Nat):Int)) (IntWalk.i64_in _ Om) (Zv (YI ((i+1:Nat):Int)) (nW (fin_round (m':=l.length-(i+1)) Om ⟨i+1,A2,cap2,_,ob2,(oa++o2),_,⟨by omega,hra2,by rw [show yX (xs++[Al.mk B a cb])=yX xs++[a] from by simp [yX]];exact allO_next hi hy hrel0.2.2 (by have q:=hrel.2.2;rw [List.take_of_length_le Om,hml] at q;exact q)⟩,rfl,ZU,rfl⟩))))))))))
 have hall:vG s=some (yX xs):=by have q:=hrel0.2.2;rw [List.take_of_length_le Om,hll] at q;exact q
 have hfine:FineR (yX xs):=fine_part hs6 (λx hx=>hll▸hx) hln (by rw [hll];exact hall)
 obtain ⟨t,et⟩:∃ t,fX (yX xs)=t:=⟨_,rfl⟩
 obtain ⟨htn,hty⟩:=fewR_text (all_ne hall) et
 have htz:=zQ t
 refine Zh h2 (ZN (kA (Zf (ok_exit (wF (d3 (d4 (vV (kA (kO ?_))))))))))
 refine Zl 1 ⟨b2, #[.slice A xs.length cap],192⟩ (off:=0) (.agg #[.slice A xs.length cap]) (Zc (k:=178) (args:= #[.agg #[.slice A xs.length cap]]) (.string (mkS t)) (λw hO=>ret_v (by rw [et]) (gtext_any A cap xs w (hra.inn rfl hO (λx hx=>by simp [hx]) (λx hx=>by simp [hx]) hfine) (ht.on hO.below))) (Zv (.string (mkS t)) (ZN (kA (ZO (Zv (.string (mkS t)) ?_))))))
 by_cases h5:(t:YL)=[]
 ·refine bU Z4 Kr (gN (a:=t) (b:=([])) rfl Kr Kr (decide_eq_true (h5))) (ZY (ZO (Zv (.agg #[.slice none 0 0]) (Zs 2 ⟨b1, #[.slice none 0 0],192⟩ (off:=0) (.agg #[.slice none 0 0]) (Zv (YI 6) (ZN (gG ?_)))))))
  exact yH (ZD 2 ⟨b1, #[.slice none 0 0],192⟩ (off:=0) (.agg #[.slice none 0 0]) (YI 6) Tryz.results136 (λw hO=>⟨.agg #[.slice none 0 0],[],by rw [(errG_few hs6 hall (htn (by assumption))).1],by rw [(errG_few hs6 hall (htn (by assumption))).2];exact RgO.nil,n7 hO⟩))
 obtain ⟨hfw,htx⟩:=hty h5
 refine bU Z5 Kr (gN (a:=t) (b:=([])) rfl Kr Kr (decide_eq_false (h5))) (ZX (ZB (kA (ZO (Zv (.string (mkS t)) (Zv (YI ((mkS t).size)) ?_))))))
 by_cases h6:(96:Int)<(mkS t).size
 ·refine Zg h6 (ZY (ZO (Zv (.agg #[.slice none 0 0]) (Zs 2 ⟨b1, #[.slice none 0 0],192⟩ (off:=0) (.agg #[.slice none 0 0]) (Zv (YI 3) (ZN (gG ?_)))))))
  exact yH (ZD 2 ⟨b1, #[.slice none 0 0],192⟩ (off:=0) (.agg #[.slice none 0 0]) (YI 3) Tryz.results136 (λw hO=>⟨.agg #[.slice none 0 0],[],by rw [(errG_big hs6 hall hfw (by rw [htx];omega)).1],by rw [(errG_big hs6 hall hfw (by rw [htx];omega)).2];exact RgO.nil,n7 hO⟩))
 refine Zh h6 (ZX (ZB (ZO (Zl 1 ⟨b2, #[.slice A xs.length cap],192⟩ (off:=0) (.agg #[.slice A xs.length cap]) (Zs 2 ⟨b1, #[.slice none 0 0],192⟩ (off:=0) (.agg #[.slice A xs.length cap]) (Zv (YI 0) (nW ?_)))))))
 exact vV (gG (ZD 2 ⟨b1, #[.slice A xs.length cap],192⟩ (off:=0) (.agg #[.slice A xs.length cap]) (YI 0) Tryz.results136 (λw hO=>⟨.agg #[.slice A xs.length cap],o1++o2,by rw [(errG_fine hs6 hall hfw (by rw [htx];omega)).1],by rw [(errG_fine hs6 hall hfw (by rw [htx];omega)).2];exact ⟨xs,_,o1,o2,rfl,rfl,rfl,hra⟩,Own.sub [_,_,_] hO⟩)))
end
section
set_option linter.unnecessarySimpa false
def rt (st:List (Nat×Tr)):List Int:=(st.map λp=>((p.1:Nat):Int)).reverse
theorem j8 (p:Nat×Tr)(st:List (Nat×Tr)):rt (p::st)=rt st++[(p.1:Int)]:=by unfold rt;simp
theorem jM (st:List (Nat×Tr)):(rt st).length=st.length:=by unfold rt;simp
theorem rt_take (p:Nat×Tr)(st:List (Nat×Tr)):(rt (p::st)).take st.length=rt st:=by rw [j8,←jM st];simp
theorem rt_take2 (p q:Nat×Tr)(st:List (Nat×Tr)):(rt (p::q::st)).take st.length=rt st:=by rw [j8,j8,←jM st];simp
theorem rt_last (p:Nat×Tr)(st:List (Nat×Tr))(h:st.length<(rt (p::st)).length):(rt (p::st))[st.length]=(p.1:Int):=by
 have e:=j8 p st
 have h2:(rt (p::st))[st.length]?=some (p.1:Int):=by rw [e,←jM st];simp
 rw [List.getElem?_eq_getElem h] at h2
 exact Option.some.inj h2
theorem rt_prev (p q:Nat×Tr)(st:List (Nat×Tr))(h:st.length<(rt (p::q::st)).length):(rt (p::q::st))[st.length]=(q.1:Int):=by
 have h2:(rt (p::q::st))[st.length]?=some (q.1:Int):=by rw [j8,j8,←jM st];simp
 rw [List.getElem?_eq_getElem h] at h2
 exact Option.some.inj h2
def mE (l:List Nd):Bool:=match vS 0 [] l with|some s=>decide (l=[])||decide (s.length=1)|none=>false
theorem dJ {i:Nat}{st s:List (Nat×Tr)}{n:Nd}{r:List Nd}(h:stp i st n=some s):vS i st (n::r)=vS (i+1) s r:=by rw [vS,h]
theorem kM {i:Nat}{st:List (Nat×Tr)}{n:Nd}{r:List Nd}(h:stp i st n=none):vS i st (n::r)=none:=by rw [vS,h]
theorem stp_leaf {i:Nat}{st:List (Nat×Tr)}{n:Nd}(h:xK n=true):stp i st n=some ((i,.is n.key.toNat n.text)::st):=by unfold stp;rw [if_pos h]
theorem stp_not {i:Nat}{p:Nat×Tr}{st:List (Nat×Tr)}{n:Nd}(h:xK n=false)(h1:jR (p::st) n=true):stp i (p::st) n=some ((i,.no p.2)::st):=by unfold stp;rw [if_neg (by rw [h];simp),if_pos h1]
theorem stp_bin {i:Nat}{p q:Nat×Tr}{st:List (Nat×Tr)}{n:Nd}(h:xK n=false)(h1:jR (p::q::st) n=false)(h2:isBin (p::q::st) n=true):stp i (p::q::st) n=some ((i,if n.op=3 then .both q.2 p.2 else .one q.2 p.2)::st):=by unfold stp;rw [if_neg (by rw [h];simp),if_neg (by rw [h1];simp),if_pos h2]
theorem tZ {i:Nat}{st:List (Nat×Tr)}{n:Nd}(h:xK n=false)(h1:jR st n=false)(h2:isBin st n=false):stp i st n=none:=by unfold stp;rw [if_neg (by rw [h];simp),if_neg (by rw [h1];simp),if_neg (by rw [h2];simp)]
theorem isNot_cons {st:List (Nat×Tr)}{n:Nd}(h:jR st n=true):∃ p r,st=p::r:=by cases st with|nil=>cases h|cons p r=>exact ⟨p,r,rfl⟩
theorem isBin_cons {st:List (Nat×Tr)}{n:Nd}(h:isBin st n=true):∃ p q r,st=p::q::r:=by
 match st,h with
 |p::q::r,_=>exact ⟨p,q,r,rfl⟩
theorem st_one {st:List (Nat×Tr)}(h:0<st.length):∃ p r,st=p::r:=by cases st with|nil=>cases h|cons p r=>exact ⟨p,r,rfl⟩
theorem st_two {st:List (Nat×Tr)}(h:1<st.length):∃ p q r,st=p::q::r:=by
 match st,h with
 |p::q::r,_=>exact ⟨p,q,r,rfl⟩
theorem st_none {st:List (Nat×Tr)}(h:¬ 0<st.length):st=[]:=List.eq_nil_of_length_eq_zero Om
theorem bin_short {st:List (Nat×Tr)}{n:Nd}(h:¬ 1<st.length):isBin st n=false:=by
 match st,h with
 | [],_=>rfl
 | [p],_=>rfl
 |p::q::r,h=>simp at h
theorem op_not {st:List (Nat×Tr)}{n:Nd}(h:¬ n.op=2):jR st n=false:=by cases st with|nil=>rfl|cons p r=>unfold jR;rw [decide_eq_false h];rfl
theorem op_bin {st:List (Nat×Tr)}{n:Nd}(h:¬ n.op=3)(h2:¬ n.op=4):isBin st n=false:=by
 match st with
 | []=>rfl
 | [p]=>rfl
 |p::q::r=>unfold isBin;rw [decide_eq_false h,decide_eq_false h2];rfl
theorem bare_not {st:List (Nat×Tr)}{n:Nd}(h:fN n=false):jR st n=false:=by cases st with|nil=>rfl|cons p r=>unfold jR;rw [h];simp
theorem bare_bin {st:List (Nat×Tr)}{n:Nd}(h:fN n=false):isBin st n=false:=by
 match st with
 | []=>rfl
 | [p]=>rfl
 |p::q::r=>unfold isBin;rw [h];simp
theorem r10tree_any (A:Option Addr)(cap0:Nat)(l:List Nd)(W:World)(hv:Reads nC W W.heap.size A l)(hn0:l.length<=1000)(ht:∀ n∈l,n.text.length<=1048576):YC 259 #[.slice A l.length cap0] W (YR (.bool (mE l)) W):=by
 refine zD Tryz.func259 (zM (α:=Nat×List (Nat×Tr)×Option Addr×Nat×List Blk) (λ(i,st,B,cap,oc)=>[(0,.slice A l.length cap0),(3,.slice B (rt st).length cap),(4,YI (i:Int))]) (λ(i,st,B,cap,oc)=>oc) (λ(i,st,B,cap,oc) m=>(i<=l.length/\vS 0 [] l=vS i st (l.drop i)/\SlZ (.slice B (rt st).length cap) (rt st) oc/\st.length<=i)/\m=l.length-i) (0,[],none,0,[]) (l.length-0) [] ⟨⟨Nat.zero_le _,rfl,Sl.nil _ _,Nat.le_refl _⟩,rfl⟩ ?_)
 rintro ⟨i,st,B,cap,oc⟩ m g kk ⟨⟨hi6,hrun,hsl,hstl⟩,hmm⟩ nx hkk
 subst hkk
 have hrtl:=jM st
 by_cases h1:(i:Int)<(l.length:Int)
 ·have hil:i<l.length:=by omega
  obtain ⟨bp,off,hA,hlt,hcell⟩:=hv Om
  obtain ⟨n,hn⟩:∃ n,l[i]=n:=⟨_,rfl⟩
  have hnt:=hn▸ht l[i] (List.getElem_mem hil)
  have hdr:l.drop i=n::l.drop (i+1):=by rw [←hn];exact List.drop_eq_getElem_cons hil
  refine zB 11 [] ((i:Int)<(l.length:Int)) (λ_=> ?_) (λhq=>absurd h1 hq)
  refine zI 16 [] hA l.length cap0 i 5 hil (zH 17 [] 261 bp (off+i*5) (ndV n) (λw hO=>Reads.load qU (hv.on hO.below hO.size) hA i 0 hil Om _ (by rw [hn];kernel_rfl)) (zJ [] λb1=> ?_))
  refine x_joinF (.s (.s (.s (.s (.s .z))))) (α:=Bool) (λc=>[(0,.slice A l.length cap0),(3,.slice B (rt st).length cap),(4,YI (i:Int)),(5,Zp b1 0),(6,YI ((rt st).length:Int)),(7,.bool c)]) (λ_=>⟨b1,(ndV n).cells,261⟩::oc) (λc=>c=fN n) [0] (λnj=> ?_) (λc gg hc=> ?_)
  ·exact zB 22 [0] (n.key=0) (λh2=>x4 26 [0] n.text [] (λh3=>nj true [] (by unfold fN;simp [h2,h3]) Kr) (λh3=>nj false [] (by unfold fN;simp [h2,h3]) Kr)) (λh2=>nj false [] (by unfold fN;simp [h2]) Kr)
  refine z8 (k:=271) (args:= #[ndV n]) (v:= .bool (xK n)) [0] (λw _=>r10leaf_any n w hnt) ?_
  cases h4:xK n with
  |true=>
   refine gM [] 1 3 #[YI (i:Int)] λb2=>wM (m:=1) (cp:=1) [] [⟨b2, #[YI (i:Int)],3⟩,⟨b1,(ndV n).cells,261⟩] oc [] 0 (⟨b2, #[YI (i:Int)],3⟩::⟨b1,(ndV n).cells,261⟩::oc) (λw hO=>(hO.cast (by simp))) hsl Om λu2 ob2 hu2=> ?_
   have hu2s:SlZ u2 (rt st++[(i:Int)]) ob2:=SlZ.add hu2
   obtain ⟨B2,cb2,rfl⟩:=Sl.form hu2s
   have hrl2:(rt ((i,Tr.is n.key.toNat n.text)::st)).length=(rt st++[(i:Int)]).length:=by rw [j8]
   rw [←hrl2]
   exact x_i 13 [] ((i+1:Nat):Int) (y8 [] ob2 (λw hO=>(hO.past 2 (ob2++[])).cast (by simp)) (nx (i+1,((i,Tr.is n.key.toNat n.text)::st),B2,cb2,ob2) (l.length-(i+1)) [] Om ⟨⟨by omega,by rw [hrun,hdr,dJ (stp_leaf h4)],by rw [j8];exact hu2s,by first|(rw [hst] at hstl;simp only [List.length_cons] at hstl ⊢;omega)|(simp only [List.length_cons];omega)⟩,rfl⟩ Kr Kr))
  |false=>
   refine x_joinF (.s (.s (.s (.s (.s .z))))) (α:=Bool) (λd=>[(0,.slice A l.length cap0),(3,.slice B (rt st).length cap),(4,YI (i:Int)),(5,Zp b1 0),(6,YI ((rt st).length:Int)),(7,.bool c),(31,.bool d)]) (λ_=>⟨b1,(ndV n).cells,261⟩::oc) (λd=>d=jR st n) [] (λnj=> ?_) (λd gg hd=> ?_)
   ·refine zB 34 [0] (n.op=2) (λh5=> ?_) (λh5=>nj false [] (op_not h5).symm Kr)
    cases c with
    |false=>exact nj false [] (bare_not hc.symm).symm Kr
    |true=>
     refine zB 40 [] ((0:Int)<((rt st).length:Int)) (λh7=> ?_) (λh7=>nj false [] (by rw [st_none (st:=st) (by rw [←jM];omega)];rfl) Kr)
     obtain ⟨p,r,hst⟩:=st_one (st:=st) Om
     obtain ⟨g,hg,hcap⟩:=Sl.at0 hsl Om
     have hrl:(rt st).length=r.length+1:=by rw [jM,hst];rfl
     have hlast:∀ h:r.length<(rt st).length,(rt st)[r.length]=(p.1:Int):=by subst hst;exact λh=>rt_last p r h
     have hY:=λ(b:Bool) (hb:(decide (n.a=(p.1:Int)) && decide (n.b=0))=b)=>show b=jR st n by rw [hst,←hb];unfold jR;simp [h5,←hc]
     exact x_i 47 [0] (((rt st).length:Int) -1) (jI 48 [] hg (rt st).length cap (((rt st).length:Int) -1) 1 (0+r.length*1) Om (zH 49 [] 3 g (0+r.length*1) (YI (p.1:Int)) (λw hO=>Reads.load zC_len (Sl.reads hsl rfl (hO.past 1 oc) (λx hx=>hx)) hg (r.length) 0 Om Om _ (by rw [hlast];kernel_rfl)) (zB 50 [] (n.a=(p.1:Int)) (λh8=>zB 55 [0] (n.b=0) (λh9=>nj true [] (hY _ (by simp [h8,h9])) Kr) (λh9=>nj false [] (hY _ (by simp [h9])) Kr)) (λh8=>nj false [] (hY _ (by simp [h8])) Kr))))
   cases d with
   |true=>
    obtain ⟨p,r,hst⟩:=isNot_cons hd.symm
    obtain ⟨g,hgB,hcap⟩:=Sl.at0 hsl (by rw [jM,hst];simp)
    have hrl:(rt st).length=r.length+1:=by rw [jM,hst];rfl
    have hrr:=jM r
    have hsl2:SlZ (.slice (some ⟨g,0,none⟩) (rt r).length cap) (rt r) oc:=by
     subst hst;subst hgB
     have q9:=Sl.front zC_len hsl (by rw [j8];simp) (k:=r.length) Om
     rw [rt_take] at q9
     unfold SlZ;rw [show (rt r).length=r.length from jM r] at q9 ⊢;exact q9
    refine x_i 59 [] (((rt st).length:Int) -1) (x_slhi 60 [] hgB (rt st).length cap 1 (((rt st).length:Int) -1) Om Om (.slice (some ⟨g,0,none⟩) (rt r).length cap) (by rw [show (((rt st).length:Int) -1).toNat=(rt r).length by omega]) ?_)
    refine gM [] 1 3 #[YI (i:Int)] λb2=>wM (m:=1) (cp:=1) [] [⟨b2, #[YI (i:Int)],3⟩,⟨b1,(ndV n).cells,261⟩] oc [] 0 (⟨b2, #[YI (i:Int)],3⟩::⟨b1,(ndV n).cells,261⟩::oc) (λw hO=>(hO.cast (by simp))) hsl2 Om λu2 ob2 hu2=> ?_
    have hu2s:SlZ u2 (rt r++[(i:Int)]) ob2:=SlZ.add hu2
    obtain ⟨B2,cb2,rfl⟩:=Sl.form hu2s
    have hrl2:(rt ((i,Tr.no p.2)::r)).length=(rt r++[(i:Int)]).length:=by rw [j8]
    rw [←hrl2]
    exact x_i 13 [] ((i+1:Nat):Int) (y8 [] ob2 (λw hO=>(hO.past 2 (ob2++[])).cast (by simp)) (nx (i+1,((i,Tr.no p.2)::r),B2,cb2,ob2) (l.length-(i+1)) [] Om ⟨⟨by omega,by rw [hrun,hdr,dJ (hst▸stp_not h4 (hst▸hd.symm))],by rw [j8];exact hu2s,by first|(rw [hst] at hstl;simp only [List.length_cons] at hstl ⊢;omega)|(simp only [List.length_cons];omega)⟩,rfl⟩ Kr Kr))
   |false=>
    refine x_joinF (.s (.s (.s .z))) (α:=Bool) (λd=>[(0,.slice A l.length cap0),(3,.slice B (rt st).length cap),(4,YI (i:Int)),(5,Zp b1 0),(6,YI ((rt st).length:Int)),(7,.bool c),(61,.bool d)]) (λ_=>⟨b1,(ndV n).cells,261⟩::oc) (λd=>d=isBin st n) [] (λnj=> ?_) (λd' gg hd'=> ?_)
    ·by_cases h11:n.op=3\/n.op=4
     ·cases c with
      |false=>exact zB 64 [0] (n.op=3) (λ_=>nj false [] (bare_bin hc.symm).symm Kr) (λh=>zB 68 [0] (n.op=4) (λ_=>nj false [] (bare_bin hc.symm).symm Kr) (λ_=>nj false [] (bare_bin hc.symm).symm Kr))
      |true=>
       by_cases h13:(1:Int)<((rt st).length:Int)
       ·obtain ⟨p,q,r,hst⟩:=st_two (st:=st) Om
        obtain ⟨g,hg,hcap⟩:=Sl.at0 hsl Om
        have hrl:(rt st).length=r.length+2:=by rw [jM,hst];rfl
        have hlast:∀ h:r.length+1<(rt st).length,(rt st)[r.length+1]=(p.1:Int):=by subst hst;exact λh=>rt_last p (q::r) h
        have hprev:∀ h:r.length<(rt st).length,(rt st)[r.length]=(q.1:Int):=by subst hst;exact λh=>rt_prev p q r h
        have hY:=λ(b:Bool) (hb:(decide (n.a=(q.1:Int)) && decide (n.b=(p.1:Int)))=b)=>show b=isBin st n by rw [hst,←hb];unfold isBin;rcases h11 with h|h<;>simp [h,←hc]
        by_cases h3:n.op=3
        ·exact zB 64 [0] (n.op=3) (λ_=>zB 75 [] ((1:Int)<((rt st).length:Int)) (λ_=>x_i 82 [0] (((rt st).length:Int) -2) (jI 83 [] hg (rt st).length cap (((rt st).length:Int) -2) 1 (0+r.length*1) Om (zH 84 [] 3 g (0+r.length*1) (YI (q.1:Int)) (λw hO=>Reads.load zC_len (Sl.reads hsl rfl (hO.past 1 oc) (λx hx=>hx)) hg (r.length) 0 Om Om _ (by rw [hprev];kernel_rfl)) (zB 85 [] (n.a=(q.1:Int)) (λh8=>x_i 92 [0] (((rt st).length:Int) -1) (jI 93 [] hg (rt st).length cap (((rt st).length:Int) -1) 1 (0+(r.length+1)*1) Om (zH 94 [] 3 g (0+(r.length+1)*1) (YI (p.1:Int)) (λw hO=>Reads.load zC_len (Sl.reads hsl rfl (hO.past 1 oc) (λx hx=>hx)) hg ((r.length+1)) 0 Om Om _ (by rw [hlast];kernel_rfl)) (zB 95 [] (n.b=(p.1:Int)) (λh9=>nj true [] (hY _ (by simp [h8,h9])) Kr) (λh9=>nj false [] (hY _ (by simp [h9])) Kr))))) (λh8=>nj false [] (hY _ (by simp [h8])) Kr))))) (λh=>absurd h13 h)) (λh=>absurd h3 h)
        ·exact zB 64 [0] (n.op=3) (λh=>absurd h h3) (λ_=>zB 68 [0] (n.op=4) (λ_=>zB 75 [] ((1:Int)<((rt st).length:Int)) (λ_=>x_i 82 [0] (((rt st).length:Int) -2) (jI 83 [] hg (rt st).length cap (((rt st).length:Int) -2) 1 (0+r.length*1) Om (zH 84 [] 3 g (0+r.length*1) (YI (q.1:Int)) (λw hO=>Reads.load zC_len (Sl.reads hsl rfl (hO.past 1 oc) (λx hx=>hx)) hg (r.length) 0 Om Om _ (by rw [hprev];kernel_rfl)) (zB 85 [] (n.a=(q.1:Int)) (λh8=>x_i 92 [0] (((rt st).length:Int) -1) (jI 93 [] hg (rt st).length cap (((rt st).length:Int) -1) 1 (0+(r.length+1)*1) Om (zH 94 [] 3 g (0+(r.length+1)*1) (YI (p.1:Int)) (λw hO=>Reads.load zC_len (Sl.reads hsl rfl (hO.past 1 oc) (λx hx=>hx)) hg ((r.length+1)) 0 Om Om _ (by rw [hlast];kernel_rfl)) (zB 95 [] (n.b=(p.1:Int)) (λh9=>nj true [] (hY _ (by simp [h8,h9])) Kr) (λh9=>nj false [] (hY _ (by simp [h9])) Kr))))) (λh8=>nj false [] (hY _ (by simp [h8])) Kr))))) (λh=>absurd h13 h)) (λh=>absurd (h11.resolve_left h3) h))
       ·have hN:=bin_short (n:=n) (st:=st) (by rw [←jM];omega)
        exact zB 64 [0] (n.op=3) (λ_=>zB 75 [] ((1:Int)<((rt st).length:Int)) (λh=>absurd h h13) (λ_=>nj false [] hN.symm Kr)) (λ_=>zB 68 [0] (n.op=4) (λ_=>zB 75 [] ((1:Int)<((rt st).length:Int)) (λh=>absurd h h13) (λ_=>nj false [] hN.symm Kr)) (λ_=>nj false [] hN.symm Kr))
     ·exact zB 64 [0] (n.op=3) (λh=>absurd (.inl h) h11) (λh=>zB 68 [0] (n.op=4) (λh=>absurd (.inr h) h11) (λh'=>nj false [] (op_bin h h').symm Kr))
    cases d' with
    |true=>
     obtain ⟨p,q,r,hst⟩:=isBin_cons hd'.symm
     obtain ⟨g,hgB,hcap⟩:=Sl.at0 hsl (by rw [jM,hst];simp)
     have hrl:(rt st).length=r.length+2:=by rw [jM,hst];rfl
     have hrr:=jM r
     have hsl2:SlZ (.slice (some ⟨g,0,none⟩) (rt r).length cap) (rt r) oc:=by
      subst hst;subst hgB
      have q9:=Sl.front zC_len hsl (by rw [j8];simp) (k:=r.length) Om
      rw [rt_take2] at q9
      unfold SlZ;rw [show (rt r).length=r.length from jM r] at q9 ⊢;exact q9
     refine x_i 99 [] (((rt st).length:Int) -2) (x_slhi 100 [] hgB (rt st).length cap 1 (((rt st).length:Int) -2) Om Om (.slice (some ⟨g,0,none⟩) (rt r).length cap) (by rw [show (((rt st).length:Int) -2).toNat=(rt r).length by omega]) ?_)
     refine gM [] 1 3 #[YI (i:Int)] λb2=>wM (m:=1) (cp:=1) [] [⟨b2, #[YI (i:Int)],3⟩,⟨b1,(ndV n).cells,261⟩] oc [] 0 (⟨b2, #[YI (i:Int)],3⟩::⟨b1,(ndV n).cells,261⟩::oc) (λw hO=>(hO.cast (by simp))) hsl2 Om λu2 ob2 hu2=> ?_
     have hu2s:SlZ u2 (rt r++[(i:Int)]) ob2:=SlZ.add hu2
     obtain ⟨B2,cb2,rfl⟩:=Sl.form hu2s
     have hrl2:(rt ((i,if n.op=3 then Tr.both q.2 p.2 else Tr.one q.2 p.2)::r)).length=(rt r++[(i:Int)]).length:=by rw [j8]
     rw [←hrl2]
     exact x_i 13 [] ((i+1:Nat):Int) (y8 [] ob2 (λw hO=>(hO.past 2 (ob2++[])).cast (by simp)) (nx (i+1,((i,if n.op=3 then Tr.both q.2 p.2 else Tr.one q.2 p.2)::r),B2,cb2,ob2) (l.length-(i+1)) [] Om ⟨⟨by omega,by rw [hrun,hdr,dJ (hst▸stp_bin h4 (hst▸hd.symm) (hst▸hd'.symm))],by rw [j8];exact hu2s,by first|(rw [hst] at hstl;simp only [List.length_cons] at hstl ⊢;omega)|(simp only [List.length_cons];omega)⟩,rfl⟩ Kr Kr))
    |false=>
     exact z7 [] Z5 (λw hO=>⟨by rw [show mE l=false from by unfold mE;rw [hrun,hdr,kM (tZ h4 hd.symm hd'.symm)]],(hO.past 0 (⟨b1,(ndV n).cells,261⟩::oc)).below⟩)
 ·have hil:l.drop i=[]:=List.drop_of_length_le Om
  have hY:=λ(b:Bool) (hb:(decide (l=[])||decide (st.length=1))=b) (w:World) (hO:Own [] W w oc)=>show Ending.returned (.bool b)= .returned (.bool (mE l))/\YB W w from ⟨by rw [show mE l=b from by unfold mE;rw [hrun,hil];exact hb],hO.below⟩
  exact zB 11 [] ((i:Int)<(l.length:Int)) (λhq=>absurd hq h1) (λ_=>zB 107 [] ((l.length:Int)=0) (λh=>z7 [] Z4 (λw hO=>hY _ (by rw [List.length_eq_zero_iff.1 (by omega:l.length=0)];rfl) w (hO.past 0 oc))) (λh=>zB 111 [] (((rt st).length:Int)=1) (λh'=>z7 [] Z4 (λw hO=>hY _ (by simp;omega) w (hO.past 0 oc))) (λh'=>z7 [] Z5 (λw hO=>hY _ (by simp;exact ⟨λe=>h (by rw [e];rfl),by omega⟩) w (hO.past 0 oc)))))
end
section
set_option linter.unnecessarySimpa false
theorem join_wrap (c:Bool){l:List Tok}(h:l≠[]):zG 32 (qK c l)=yP c (zG 32 l):=by
 unfold qK yP
 cases c with
 |false=>rfl
 |true=>
  show zG 32 ([x8]++(l++[xB]))=_
  rw [fK 32 [x8] _ (by simp) (by simp),fK 32 l [xB] h (by simp)]
  simp [zG,x8,xB]
theorem wrapT_ne {c:Bool}{l:List Tok}(h:l≠[]):qK c l≠[]:=by unfold qK;cases c<;>simp [h]
theorem text_is (k:Nat)(t:YL):(Tr.is k t).text=x3 k++[32,61,32]++t:=by
 unfold Tr.text;rw [Tr.tok];simp [zG,tEq]
theorem text_no_is (k:Nat)(t:YL):(Tr.no (.is k t)).text=x3 k++[32,33,61,32]++t:=by
 unfold Tr.text;rw [Tr.tok];simp [zG,tNe]
theorem text_no {x:Tr}(h:∀ k t,x≠ .is k t):(Tr.no x).text=[110,111,116,32]++yP x.isBin x.text:=by
 unfold Tr.text
 rw [Tr.tok_no h,show qY::qK x.isBin x.tok=[qY]++qK x.isBin x.tok from rfl,fK 32 _ _ (by simp) (wrapT_ne x.tok_ne),join_wrap _ x.tok_ne];simp [zG,qY]
theorem m5 (x y:Tr):(Tr.both x y).text=yP x.isOne x.text++[32,97,110,100,32]++yP y.isBin y.text:=by
 unfold Tr.text
 rw [Tr.tok,show d9::qK y.isBin y.tok=[d9]++qK y.isBin y.tok from rfl,fK 32 _ _ (wrapT_ne x.tok_ne) (by simp),fK 32 [d9] _ (by simp) (wrapT_ne y.tok_ne),join_wrap _ x.tok_ne,join_wrap _ y.tok_ne];simp [zG,d9]
theorem text_one (x y:Tr):(Tr.one x y).text=x.text++[32,111,114,32]++yP y.isOne y.text:=by
 unfold Tr.text
 rw [Tr.tok,show tOr::qK y.isOne y.tok=[tOr]++qK y.isOne y.tok from rfl,fK 32 _ _ x.tok_ne (by simp),fK 32 [tOr] _ (by simp) (wrapT_ne y.tok_ne),join_wrap _ y.tok_ne];simp [zG,tOr]
def Tr.opc:Tr->Int
 | .is _ _=>1
 | .no _=>2
 | .both _ _=>3
 | .one _ _=>4
theorem opc_14 (t:Tr):1<=t.opc/\t.opc<=4:=by cases t<;>simp [Tr.opc]
theorem bI (t:Tr):t.isOne=decide (t.opc=4):=by cases t<;>rfl
theorem nE (t:Tr):t.isBin=(decide (t.opc=4)||decide (t.opc=3)):=by cases t<;>rfl
theorem w_small:∀ t:Tr,t.ok=true->t.w<=20*t.sz
 | .is k v,h=>by
  unfold Tr.ok at h
  simp only [Bool.and_eq_true,decide_eq_true_eq] at h
  have hv:=h.2
  unfold wdL at hv
  simp only [Bool.and_eq_true,decide_eq_true_eq] at hv
  rw [w_is]
  have:(x3 k).length<=4:=by unfold x3;split<;>(try split)<;>simp
  show _<=20;omega
 | .no x,h=>by have:=w_small x h;have:=(w_no x).1;have:=x.w_le;show _<=20*(x.sz+1);omega
 | .both x y,h=>by
  unfold Tr.ok at h;rw [Bool.and_eq_true] at h
  have:=w_small x h.1;have:=w_small y h.2;have:=x.w_le;have:=y.w_le
  rw [w_both];show _<=20*(x.sz+y.sz+1);omega
 | .one x y,h=>by
  unfold Tr.ok at h;rw [Bool.and_eq_true] at h
  have:=w_small x h.1;have:=w_small y h.2;have:=x.w_le;have:=y.w_le
  rw [w_one];show _<=20*(x.sz+y.sz+1);omega
def jY (A:Option Addr)(cap:Nat)(l:List Nd)(a:Nat)(t:Tr):Prop:=∀ W:World,Reads nC W W.heap.size A l->YC 260 #[.slice A l.length cap,YI (a:Int)] W (YR (.string (mkS t.text)) W)
theorem j0 (c:Bool)(s:YL):(yP c s).length<=s.length+4:=by unfold yP;cases c<;>simp
theorem vJ {α:Type}{l:List α}{r:Nat}{x:α}(h:l[r]?=some x):∃ hr:r<l.length,l[r]=x:=List.getElem?_eq_some_iff.1 h
theorem tx_is {A:Option Addr}{cap:Nat}{l:List Nd}(hn:l.length<=1000){r:Nat}{k:Nat}{t:YL}(hk:k<3)(ht:t.length<=1000)(hr:l[r]?=some ⟨1,0,0,(k:Int),t⟩):jY A cap l r (.is k t):=λW hv=>by
 obtain ⟨hr,er⟩:=vJ hr
 obtain ⟨bp,off,hA,hlt,hcell⟩:=hv Om
 have hkl:(x3 k).length<=4:=by unfold x3;split<;>(try split)<;>simp
 exact zD Tryz.func260 (zI 11 [] hA l.length cap r 5 Om (zH 12 [] 261 bp (off+r*5) (ndV ⟨1,0,0,k,t⟩) (λw hO=>Reads.load qU (hv.on hO.below hO.size) hA r 0 hr Om _ (by rw [er];kernel_rfl)) (zJ [] λb1=>(z8 (k:=272) (args:= #[YI (k:Int)]) (v:= .string (mkS (x3 k))) [0,0,0] (λw _=>r10key_any k hk w) (zR 20 [] (x3 k) ([32,61,32]) (zR 23 [0] ((x3 k)++[32,61,32]) t (z7 [] (.string (mkS (((x3 k)++[32,61,32])++t))) (λw hO=>⟨by rw [text_is],hO.below⟩))))))))
theorem tx_no_is {A:Option Addr}{cap:Nat}{l:List Nd}(hn:l.length<=1000){r:Nat}{a k:Nat}{t:YL}(hk:k<3)(ht:t.length<=1000)(hr:l[r]?=some ⟨2,(a:Int),0,0,[]⟩)(ha:l[a]?=some ⟨1,0,0,(k:Int),t⟩):jY A cap l r (.no (.is k t)):=λW hv=>by
 obtain ⟨hr,er⟩:=vJ hr
 obtain ⟨ha,ea⟩:=vJ ha
 obtain ⟨bp,off,hA,hlt,hcell⟩:=hv Om
 have hkl:(x3 k).length<=4:=by unfold x3;split<;>(try split)<;>simp
 exact zD Tryz.func260 (zI 11 [] hA l.length cap r 5 Om (zH 12 [] 261 bp (off+r*5) (ndV ⟨2,a,0,0,[]⟩) (λw hO=>Reads.load qU (hv.on hO.below hO.size) hA r 0 hr Om _ (by rw [er];kernel_rfl)) (zJ [] λb1=>(zI 29 [0,0,0] hA l.length cap a 5 Om (zH 30 [] 261 bp (off+a*5) (ndV ⟨1,0,0,k,t⟩) (λw hO=>Reads.load qU (hv.on hO.below hO.size) hA a 0 ha Om _ (by rw [ea];kernel_rfl)) (zJ [] λb2=>(z8 (k:=272) (args:= #[YI (k:Int)]) (v:= .string (mkS (x3 k))) [0,0,0] (λw _=>r10key_any k hk w) (zR 37 [] (x3 k) ([32,33,61,32]) (zR 40 [0] ((x3 k)++[32,33,61,32]) t (z7 [] (.string (mkS (((x3 k)++[32,33,61,32])++t))) (λw hO=>⟨by rw [text_no_is],hO.below⟩)))))))))))
theorem tx_no {A:Option Addr}{cap:Nat}{l:List Nd}(hn:l.length<=1000){r:Nat}{a:Nat}{na:Nd}{x:Tr}(hne:∀ k t,x≠ .is k t)(hxl:x.text.length<=100000)(hr:l[r]?=some ⟨2,(a:Int),0,0,[]⟩)(ha:l[a]?=some na)(ha':jY A cap l a x)(hxo:na.op=x.opc)(hx1:¬ na.op=1)(hx5:1<=na.op/\na.op<=4):jY A cap l r (.no x):=λW hv=>by
 obtain ⟨hr,er⟩:=vJ hr
 obtain ⟨ha,ea⟩:=vJ ha
 obtain ⟨bp,off,hA,hlt,hcell⟩:=hv Om
 have hw1:=j0 true x.text
 have hw2:=j0 false x.text
 refine zD Tryz.func260 (zI 11 [] hA l.length cap r 5 Om (zH 12 [] 261 bp (off+r*5) (ndV ⟨2,a,0,0,[]⟩) (λw hO=>Reads.load qU (hv.on hO.below hO.size) hA r 0 hr Om _ (by rw [er];kernel_rfl)) (zJ [] λb1=>(zI 29 [0,0,0] hA l.length cap a 5 Om (zH 30 [] 261 bp (off+a*5) (ndV na) (λw hO=>Reads.load qU (hv.on hO.below hO.size) hA a 0 ha Om _ (by rw [ea];kernel_rfl)) (zJ [] λb2=>(zB 33 [0,0] ((na.op:Int)=1) (λhq=>absurd hq (hx1)) (λ_=>z8 (k:=260) (args:= #[.slice A l.length cap,YI (a:Int)]) (v:= .string (mkS x.text)) [1] (λw hO=>ha' w (hv.on hO.below hO.size)) ?_))))))))
 by_cases h1:(na.op:Int)=2
 ·refine vP 47 [0] ((na.op:Int)=2) (λ_=> ?_) (λhq=>absurd (h1) hq)
  exact z8 (k:=273) (args:= #[.string (mkS x.text),.bool false]) (v:= .string (mkS (yP false x.text))) [] (λw _=>kG x.text false w Om) (zR 49 [] ([110,111,116,32]) (yP false x.text) (z7 [] (.string (mkS ([110,111,116,32]++(yP false x.text)))) (λw hO=>⟨by rw [text_no hne,show x.isBin=false from by rw [nE];simp [←hxo];omega],hO.below⟩)))
 exact vP 47 [0] ((na.op:Int)=2) (λhq=>absurd hq (h1)) (λ_=>z8 (k:=273) (args:= #[.string (mkS x.text),.bool true]) (v:= .string (mkS (yP true x.text))) [] (λw _=>kG x.text true w Om) (zR 49 [] ([110,111,116,32]) (yP true x.text) (z7 [] (.string (mkS ([110,111,116,32]++(yP true x.text)))) (λw hO=>⟨by rw [text_no hne,show x.isBin=true from by rw [nE];simp [←hxo];omega],hO.below⟩))))
theorem tx_both {A:Option Addr}{cap:Nat}{l:List Nd}(hn:l.length<=1000){r:Nat}{a b:Nat}{na nb:Nd}{x y:Tr}(hxl:x.text.length<=100000)(hyl:y.text.length<=100000)(hr:l[r]?=some ⟨3,(a:Int),(b:Int),0,[]⟩)(ha:l[a]?=some na)(hb:l[b]?=some nb)(ha':jY A cap l a x)(hb':jY A cap l b y)(hxo:na.op=x.opc)(hyo:nb.op=y.opc):jY A cap l r (.both x y):=λW hv=>by
 obtain ⟨hr,er⟩:=vJ hr
 obtain ⟨ha,ea⟩:=vJ ha
 obtain ⟨hb,eb⟩:=vJ hb
 obtain ⟨bp,off,hA,hlt,hcell⟩:=hv Om
 have hw0:=j0 true x.text
 have hw1:=j0 false x.text
 have hw2:=j0 true y.text
 have hw3:=j0 false y.text
 refine zD Tryz.func260 (zI 11 [] hA l.length cap r 5 Om (zH 12 [] 261 bp (off+r*5) (ndV ⟨3,a,b,0,[]⟩) (λw hO=>Reads.load qU (hv.on hO.below hO.size) hA r 0 hr Om _ (by rw [er];kernel_rfl)) (zJ [] λb1=>(zI 55 [0,0,0] hA l.length cap a 5 Om (zH 57 [] 3 bp (off+a*5+0) (YI na.op) (λw hO=>Reads.load qU (hv.on hO.below hO.size) hA a 0 ha Om _ (by rw [ea];kernel_rfl)) (zI 61 [0] hA l.length cap b 5 Om (zH 63 [] 3 bp (off+b*5+0) (YI nb.op) (λw hO=>Reads.load qU (hv.on hO.below hO.size) hA b 0 hb Om _ (by rw [eb];kernel_rfl)) (z8 (k:=260) (args:= #[.slice A l.length cap,YI (a:Int)]) (v:= .string (mkS x.text)) [0] (λw hO=>ha' w (hv.on hO.below hO.size)) ?_))))))))
 by_cases h1:(na.op:Int)=4
 ·refine zB 69 [] ((na.op:Int)=4) (λ_=> ?_) (λhq=>absurd (h1) hq)
  refine z8 (k:=273) (args:= #[.string (mkS x.text),.bool true]) (v:= .string (mkS (yP true x.text))) [] (λw _=>kG x.text true w Om) (zR 71 [] (yP true x.text) ([32,97,110,100,32]) (z8 (k:=260) (args:= #[.slice A l.length cap,YI (b:Int)]) (v:= .string (mkS y.text)) [0] (λw hO=>hb' w (hv.on hO.below hO.size)) ?_))
  by_cases h2:(nb.op:Int)=4
  ·refine zB 77 [] ((nb.op:Int)=4) (λ_=> ?_) (λhq=>absurd (h2) hq)
   exact z8 (k:=273) (args:= #[.string (mkS y.text),.bool true]) (v:= .string (mkS (yP true y.text))) [] (λw _=>kG y.text true w Om) (zR 83 [] ((yP true x.text)++[32,97,110,100,32]) (yP true y.text) (z7 [] (.string (mkS (((yP true x.text)++[32,97,110,100,32])++(yP true y.text)))) (λw hO=>⟨by rw [m5,show x.isOne=true from by rw [bI,←hxo];simp;omega,show y.isBin=true from by rw [nE,←hyo];simp;omega],hO.below⟩)))
  refine zB 77 [] ((nb.op:Int)=4) (λhq=>absurd hq (h2)) (λ_=> ?_)
  by_cases h3:(nb.op:Int)=3
  ·refine zB 80 [] ((nb.op:Int)=3) (λ_=> ?_) (λhq=>absurd (h3) hq)
   exact z8 (k:=273) (args:= #[.string (mkS y.text),.bool true]) (v:= .string (mkS (yP true y.text))) [] (λw _=>kG y.text true w Om) (zR 83 [] ((yP true x.text)++[32,97,110,100,32]) (yP true y.text) (z7 [] (.string (mkS (((yP true x.text)++[32,97,110,100,32])++(yP true y.text)))) (λw hO=>⟨by rw [m5,show x.isOne=true from by rw [bI,←hxo];simp;omega,show y.isBin=true from by rw [nE,←hyo];simp;omega],hO.below⟩)))
  exact zB 80 [] ((nb.op:Int)=3) (λhq=>absurd hq (h3)) (λ_=>z8 (k:=273) (args:= #[.string (mkS y.text),.bool false]) (v:= .string (mkS (yP false y.text))) [] (λw _=>kG y.text false w Om) (zR 83 [] ((yP true x.text)++[32,97,110,100,32]) (yP false y.text) (z7 [] (.string (mkS (((yP true x.text)++[32,97,110,100,32])++(yP false y.text)))) (λw hO=>⟨by rw [m5,show x.isOne=true from by rw [bI,←hxo];simp;omega,show y.isBin=false from by rw [nE,←hyo];simp;omega],hO.below⟩))))
 refine zB 69 [] ((na.op:Int)=4) (λhq=>absurd hq (h1)) (λ_=>z8 (k:=273) (args:= #[.string (mkS x.text),.bool false]) (v:= .string (mkS (yP false x.text))) [] (λw _=>kG x.text false w Om) (zR 71 [] (yP false x.text) ([32,97,110,100,32]) (z8 (k:=260) (args:= #[.slice A l.length cap,YI (b:Int)]) (v:= .string (mkS y.text)) [0] (λw hO=>hb' w (hv.on hO.below hO.size)) ?_)))
 by_cases h4:(nb.op:Int)=4
 ·refine zB 77 [] ((nb.op:Int)=4) (λ_=> ?_) (λhq=>absurd (h4) hq)
  exact z8 (k:=273) (args:= #[.string (mkS y.text),.bool true]) (v:= .string (mkS (yP true y.text))) [] (λw _=>kG y.text true w Om) (zR 83 [] ((yP false x.text)++[32,97,110,100,32]) (yP true y.text) (z7 [] (.string (mkS (((yP false x.text)++[32,97,110,100,32])++(yP true y.text)))) (λw hO=>⟨by rw [m5,show x.isOne=false from by rw [bI,←hxo];simp;omega,show y.isBin=true from by rw [nE,←hyo];simp;omega],hO.below⟩)))
 refine zB 77 [] ((nb.op:Int)=4) (λhq=>absurd hq (h4)) (λ_=> ?_)
 by_cases h5:(nb.op:Int)=3
 ·refine zB 80 [] ((nb.op:Int)=3) (λ_=> ?_) (λhq=>absurd (h5) hq)
  exact z8 (k:=273) (args:= #[.string (mkS y.text),.bool true]) (v:= .string (mkS (yP true y.text))) [] (λw _=>kG y.text true w Om) (zR 83 [] ((yP false x.text)++[32,97,110,100,32]) (yP true y.text) (z7 [] (.string (mkS (((yP false x.text)++[32,97,110,100,32])++(yP true y.text)))) (λw hO=>⟨by rw [m5,show x.isOne=false from by rw [bI,←hxo];simp;omega,show y.isBin=true from by rw [nE,←hyo];simp;omega],hO.below⟩)))
 exact zB 80 [] ((nb.op:Int)=3) (λhq=>absurd hq (h5)) (λ_=>z8 (k:=273) (args:= #[.string (mkS y.text),.bool false]) (v:= .string (mkS (yP false y.text))) [] (λw _=>kG y.text false w Om) (zR 83 [] ((yP false x.text)++[32,97,110,100,32]) (yP false y.text) (z7 [] (.string (mkS (((yP false x.text)++[32,97,110,100,32])++(yP false y.text)))) (λw hO=>⟨by rw [m5,show x.isOne=false from by rw [bI,←hxo];simp;omega,show y.isBin=false from by rw [nE,←hyo];simp;omega],hO.below⟩))))
theorem tx_one {A:Option Addr}{cap:Nat}{l:List Nd}(hn:l.length<=1000){r:Nat}{a b:Nat}{na nb:Nd}{x y:Tr}(hxl:x.text.length<=100000)(hyl:y.text.length<=100000)(hr:l[r]?=some ⟨4,(a:Int),(b:Int),0,[]⟩)(ha:l[a]?=some na)(hb:l[b]?=some nb)(ha':jY A cap l a x)(hb':jY A cap l b y)(hxo:na.op=x.opc)(hyo:nb.op=y.opc):jY A cap l r (.one x y):=λW hv=>by
 obtain ⟨hr,er⟩:=vJ hr
 obtain ⟨ha,ea⟩:=vJ ha
 obtain ⟨hb,eb⟩:=vJ hb
 obtain ⟨bp,off,hA,hlt,hcell⟩:=hv Om
 have hw0:=j0 true x.text
 have hw1:=j0 false x.text
 have hw2:=j0 true y.text
 have hw3:=j0 false y.text
 refine zD Tryz.func260 (zI 11 [] hA l.length cap r 5 Om (zH 12 [] 261 bp (off+r*5) (ndV ⟨4,a,b,0,[]⟩) (λw hO=>Reads.load qU (hv.on hO.below hO.size) hA r 0 hr Om _ (by rw [er];kernel_rfl)) (zJ [] λb1=>(z8 (k:=260) (args:= #[.slice A l.length cap,YI (a:Int)]) (v:= .string (mkS x.text)) [0,0,0] (λw hO=>ha' w (hv.on hO.below hO.size)) (zR 88 [] x.text ([32,111,114,32]) (z8 (k:=260) (args:= #[.slice A l.length cap,YI (b:Int)]) (v:= .string (mkS y.text)) [0] (λw hO=>hb' w (hv.on hO.below hO.size)) (zI 96 [0] hA l.length cap b 5 Om (zH 98 [] 3 bp (off+b*5+0) (YI nb.op) (λw hO=>Reads.load qU (hv.on hO.below hO.size) hA b 0 hb Om _ (by rw [eb];kernel_rfl)) ?_))))))))
 by_cases h1:(nb.op:Int)=4
 ·refine zB 99 [] ((nb.op:Int)=4) (λ_=> ?_) (λhq=>absurd (h1) hq)
  exact z8 (k:=273) (args:= #[.string (mkS y.text),.bool true]) (v:= .string (mkS (yP true y.text))) [] (λw _=>kG y.text true w Om) (zR 101 [] (x.text++[32,111,114,32]) (yP true y.text) (z7 [] (.string (mkS ((x.text++[32,111,114,32])++(yP true y.text)))) (λw hO=>⟨by rw [text_one,show y.isOne=true from by rw [bI,←hyo];simp;omega],hO.below⟩)))
 exact zB 99 [] ((nb.op:Int)=4) (λhq=>absurd hq (h1)) (λ_=>z8 (k:=273) (args:= #[.string (mkS y.text),.bool false]) (v:= .string (mkS (yP false y.text))) [] (λw _=>kG y.text false w Om) (zR 101 [] (x.text++[32,111,114,32]) (yP false y.text) (z7 [] (.string (mkS ((x.text++[32,111,114,32])++(yP false y.text)))) (λw hO=>⟨by rw [text_one,show y.isOne=false from by rw [bI,←hyo];simp;omega],hO.below⟩))))
def bE (l:List Nd)(o:Nat)(t:Tr):Prop:=∀ i x,(t.enc o)[i]?=some x->l[o+i]?=some x
theorem gJ {l:List Nd}{o:Nat}{p q:List Nd}(h:∀ i x,(p++q)[i]?=some x->l[o+i]?=some x):∀ i x,p[i]?=some x->l[o+i]?=some x:=λi x hi=>h i x (by rw [List.getElem?_append_left (List.getElem?_eq_some_iff.1 hi).1];exact hi)
theorem kR {l:List Nd}{o k:Nat}{p q:List Nd}(hk:p.length=k)(h:∀ i x,(p++q)[i]?=some x->l[o+i]?=some x):∀ i x,q[i]?=some x->l[o+k+i]?=some x:=λi x hi=>by
 have:=h (k+i) x (by rw [List.getElem?_append_right Om,hk,Nat.add_sub_cancel_left];exact hi)
 rw [←Nat.add_assoc] at this;exact this
theorem root_op:∀ (t:Tr) (o:Nat),∃ n,(t.enc o)[t.sz-1]?=some n/\n.op=t.opc
 | .is k v,o=>⟨_,rfl,rfl⟩
 | .no x,o=>⟨⟨2,((o+x.sz-1:Nat):Int),0,0,[]⟩,by rw [Tr.enc,List.getElem?_append_right (by rw [Tr.enc_len];show x.sz<=x.sz+1-1;omega),Tr.enc_len];show [_][x.sz+1-1-x.sz]?=_;rw [show x.sz+1-1-x.sz=0 by omega];rfl,rfl⟩
 | .both x y,o=>⟨⟨3,((o+x.sz-1:Nat):Int),((o+x.sz+y.sz-1:Nat):Int),0,[]⟩,by rw [Tr.enc,List.getElem?_append_right (by rw [List.length_append,Tr.enc_len,Tr.enc_len];show x.sz+y.sz<=x.sz+y.sz+1-1;omega),List.length_append,Tr.enc_len,Tr.enc_len];show [_][x.sz+y.sz+1-1-(x.sz+y.sz)]?=_;rw [show x.sz+y.sz+1-1-(x.sz+y.sz)=0 by omega];rfl,rfl⟩
 | .one x y,o=>⟨⟨4,((o+x.sz-1:Nat):Int),((o+x.sz+y.sz-1:Nat):Int),0,[]⟩,by rw [Tr.enc,List.getElem?_append_right (by rw [List.length_append,Tr.enc_len,Tr.enc_len];show x.sz+y.sz<=x.sz+y.sz+1-1;omega),List.length_append,Tr.enc_len,Tr.enc_len];show [_][x.sz+y.sz+1-1-(x.sz+y.sz)]?=_;rw [show x.sz+y.sz+1-1-(x.sz+y.sz)=0 by omega];rfl,rfl⟩
theorem gI {l:List Nd}{o:Nat}{t:Tr}(h:bE l o t):∃ n,l[o+t.sz-1]?=some n/\n.op=t.opc:=by
 obtain ⟨n,h1,h2⟩:=root_op t o
 have hz:=t.sz_pos
 have:=h _ _ h1
 rw [←Nat.add_sub_assoc Om] at this
 exact ⟨n,this,h2⟩
theorem dH {t:Tr}(h:t.ok=true)(hs:t.sz<=1000):t.text.length<=100000:=by have:=w_small t h;have:=t.text_w;omega
theorem word_short {v:YL}(h:wdL v=true):v.length<=12:=by unfold wdL at h;simp only [Bool.and_eq_true,decide_eq_true_eq] at h;omega
theorem bH {A:Option Addr}{cap:Nat}{l:List Nd}(hn:l.length<=1000):∀ (t:Tr) (o:Nat),t.ok=true->bE l o t->t.sz<=1000->jY A cap l (o+t.sz-1) t
 | .is k v,o,h,hs,_=>by
  unfold Tr.ok at h
  simp only [Bool.and_eq_true,decide_eq_true_eq] at h
  exact tx_is hn h.1 (by have:=word_short h.2;omega) (hs 0 _ rfl)
 | .no x,o,h,hs,hz=>by
  have hx:x.ok=true:=h
  have hzx:x.sz+1<=1000:=hz
  have hxz:=x.sz_pos
  have hs1:bE l o x:=gJ hs
  have hr:=kR (k:=x.sz) (Tr.enc_len x o) hs 0 _ rfl
  have ih:=bH (A:=A) (cap:=cap) hn x o hx hs1 Om
  obtain ⟨na,hna,hop⟩:=gI hs1
  rw [Nat.add_zero] at hr
  have goal:jY A cap l (o+x.sz) (.no x):=by
   by_cases hi:∃ k v,x= .is k v
   ·obtain ⟨k,v,rfl⟩:=hi
    unfold Tr.ok at hx
    simp only [Bool.and_eq_true,decide_eq_true_eq] at hx
    exact tx_no_is hn hx.1 (by have:=word_short hx.2;omega) hr (hs1 0 _ rfl)
   ·refine tx_no hn (λk v q=>hi ⟨k,v,q⟩) (dH hx (by omega)) hr hna ih hop ?_ ?_
    ·rw [hop];cases x<;>first|exact absurd ⟨_,_,rfl⟩ hi|(intro q;cases q)
    ·rw [hop];exact opc_14 x
  show jY A cap l (o+(x.sz+1) -1) _
  rw [show o+(x.sz+1) -1=o+x.sz by omega];exact goal
 | .both x y,o,h,hs,hz=>by
  unfold Tr.ok at h
  rw [Bool.and_eq_true] at h
  have hzx:x.sz+y.sz+1<=1000:=hz
  have hs0:∀ i u,(x.enc o++y.enc (o+x.sz))[i]?=some u->l[o+i]?=some u:=gJ hs
  have hs1:bE l o x:=gJ hs0
  have hs2:bE l (o+x.sz) y:=kR (Tr.enc_len x o) hs0
  have hr:=kR (k:=x.sz+y.sz) (by rw [List.length_append,Tr.enc_len,Tr.enc_len]) hs 0 _ rfl
  obtain ⟨na,hna,hop⟩:=gI hs1
  obtain ⟨nb,hnb,hopb⟩:=gI hs2
  have goal:jY A cap l (o+(x.sz+y.sz)+0) (.both x y):=tx_both hn (dH h.1 Om) (dH h.2 Om) hr hna hnb (bH hn x o h.1 hs1 Om) (bH hn y (o+x.sz) h.2 hs2 Om) hop hopb
  show jY A cap l (o+(x.sz+y.sz+1) -1) _
  rw [show o+(x.sz+y.sz+1) -1=o+(x.sz+y.sz)+0 by omega];exact goal
 | .one x y,o,h,hs,hz=>by
  unfold Tr.ok at h
  rw [Bool.and_eq_true] at h
  have hzx:x.sz+y.sz+1<=1000:=hz
  have hs0:∀ i u,(x.enc o++y.enc (o+x.sz))[i]?=some u->l[o+i]?=some u:=gJ hs
  have hs1:bE l o x:=gJ hs0
  have hs2:bE l (o+x.sz) y:=kR (Tr.enc_len x o) hs0
  have hr:=kR (k:=x.sz+y.sz) (by rw [List.length_append,Tr.enc_len,Tr.enc_len]) hs 0 _ rfl
  obtain ⟨na,hna,hop⟩:=gI hs1
  obtain ⟨nb,hnb,hopb⟩:=gI hs2
  have goal:jY A cap l (o+(x.sz+y.sz)+0) (.one x y):=tx_one hn (dH h.1 Om) (dH h.2 Om) hr hna hnb (bH hn x o h.1 hs1 Om) (bH hn y (o+x.sz) h.2 hs2 Om) hop hopb
  show jY A cap l (o+(x.sz+y.sz+1) -1) _
  rw [show o+(x.sz+y.sz+1) -1=o+(x.sz+y.sz)+0 by omega];exact goal
theorem treeB_cases {l:List Nd}(h:mE l=true):l=[]∨∃ t:Tr,t.ok=true/\l=t.enc 0:=by
 unfold mE at h
 cases hr:vS 0 [] l with
 |none=>rw [hr] at h;cases h
 |some s=>
  rw [hr] at h
  simp only [Bool.or_eq_true,decide_eq_true_eq] at h
  rcases h with h|h
  ·exact .inl h
  ·match s,h,hr with
   | [p],_,hr=>
    obtain ⟨l0,hl0,hok,_,e⟩:=run_lies l [] [] [p] rfl hr
    have:l0=[]:=hl0
    subst this
    exact .inr ⟨p.2,hok,e⟩
theorem treeB_enc {t:Tr}(h:t.ok=true):mE (t.enc 0)=true:=by unfold mE;rw [pY t 0 [] h];simp
theorem stands_self (t:Tr):bE (t.enc 0) 0 t:=λi x h=>by rw [Nat.zero_add];exact h
def vR (l:List Nd):YL:=match jJ l with|some t=>t.text|none=>[]
theorem wholeL_enc {t:Tr}(h:t.ok=true):vR (t.enc 0)=t.text:=by unfold vR;rw [mD h]
theorem mayM_ref (l:List Nd):fH l=(decide (l.length<=15) && (mE l && decide ((vR l).length<=96))):=by
 cases h:mE l with
 |false=>
  cases hm:fH l with
  |false=>simp
  |true=>
   rcases tB hm with rfl|⟨t,hok,rfl,_,_⟩
   ·cases h
   ·rw [treeB_enc hok] at h;cases h
 |true=>
  rcases treeB_cases h with rfl|⟨t,hok,rfl⟩
  ·rfl
  ·rw [mayM_enc hok,wholeL_enc hok,Tr.enc_len];simp
theorem r10whole_any (A:Option Addr)(cap:Nat)(l:List Nd)(W:World)(hv:Reads nC W W.heap.size A l)(hn:l.length<=1000)(ht:mE l=true):YC 237 #[.slice A l.length cap] W (YR (.string (mkS (vR l))) W):=by
 refine zD Tryz.func237 ?_
 by_cases h1:(l.length:Int)=0
 ·have hl0:l=[]:=List.eq_nil_of_length_eq_zero Om
  refine zB 5 [] ((l.length:Int)=0) (λ_=> ?_) (λhq=>absurd (h1) hq)
  exact z7 [] (.string ⟨#[]⟩) (λw hO=>⟨by rw [show vR l=[] from by rw [hl0];rfl];rfl,hO.below⟩)
 obtain ⟨t,hok,hl⟩:=(treeB_cases ht).resolve_left (λq=>h1 (by rw [q];rfl))
 have hlen:l.length=t.sz:=by rw [hl,Tr.enc_len]
 have hpos:=t.sz_pos
 exact zB 5 [] ((l.length:Int)=0) (λhq=>absurd hq (h1)) (λ_=>x_i 9 [] ((l.length:Int) -1) (z8 (k:=260) (args:= #[.slice A l.length cap,YI ((l.length:Int) -1)]) (v:= .string (mkS t.text)) [] (λw hO=>by have q:=bH (A:=A) (cap:=cap) hn t 0 hok (hl▸stands_self t) Om w (hv.on hO.below hO.size);rw [show ((0+t.sz-1:Nat):Int)=(l.length:Int) -1 by omega] at q;exact q) (z7 [] (.string (mkS t.text)) (λw hO=>⟨by rw [show vR l=t.text from by rw [hl,wholeL_enc hok]],hO.below⟩))))
theorem r10May_any (A:Option Addr)(cap:Nat)(l:List Nd)(W:World)(hv:Reads nC W W.heap.size A l)(hn:l.length<=1000)(ht:∀ n∈l,n.text.length<=1048576):YC 236 #[.agg #[.slice A l.length cap]] W (YR (.bool (fH l)) W):=by
 have hsz:=zQ (vR l)
 refine zD Tryz.func236 (yK [] λb1=> ?_)
 by_cases h1:(l.length:Int)<=15
 ·refine zB 6 [0] ((l.length:Int)<=15) (λ_=> ?_) (λhq=>absurd (h1) hq)
  refine z8 (k:=259) (args:= #[.slice A l.length cap]) (v:= .bool (mE l)) [0] (λw hO=>r10tree_any A cap l w (hv.on hO.below hO.size) hn ht) ?_
  cases h2:mE l with
  |true=>
   refine z8 (k:=237) (args:= #[.slice A l.length cap]) (v:= .string (mkS (vR l))) [0] (λw hO=>r10whole_any A cap l w (hv.on hO.below hO.size) hn h2) ?_
   by_cases h3:((mkS (vR l)).size:Int)<=96
   ·refine zB 17 [] (((mkS (vR l)).size:Int)<=96) (λ_=> ?_) (λhq=>absurd (h3) hq)
    exact z7 [] Z4 (λw hO=>⟨by rw [mayM_ref];simp [h1,h2,h3,zQ];try omega,hO.below⟩)
   exact zB 17 [] (((mkS (vR l)).size:Int)<=96) (λhq=>absurd hq (h3)) (λ_=>z7 [] Z5 (λw hO=>⟨by rw [mayM_ref];simp [h1,h2,h3,zQ];try omega,hO.below⟩))
  |false=>
   exact z7 [] Z5 (λw hO=>⟨by rw [mayM_ref];simp [h1,h2,zQ];try omega,hO.below⟩)
 exact zB 6 [0] ((l.length:Int)<=15) (λhq=>absurd hq (h1)) (λ_=>z7 [] Z5 (λw hO=>⟨by rw [mayM_ref];simp [h1,zQ];try omega,hO.below⟩))
end
section
set_option linter.unnecessarySimpa false
def valN (e:Pf)(n:Nd)(vs:List Int):Int:=
 if n.op=1 then (if e n.key.toNat=[] then 1 else if e n.key.toNat=n.text then 2 else 0)
 else if n.op=2 then 2-vs.getD n.a.toNat 0
 else if n.op=3 then min (vs.getD n.a.toNat 0) (vs.getD n.b.toNat 0) else max (vs.getD n.a.toNat 0) (vs.getD n.b.toNat 0)
structure NdOk (n:Nd)(m:Nat):Prop where
 is:n.op=1->0<=n.key/\n.key<3
 a:n.op≠1->0<=n.a/\n.a<m
 b:n.op≠1->n.op≠2->0<=n.b/\n.b<m
end
section
set_option linter.unnecessarySimpa false
theorem Own.lentR {ob R:List Blk}{M:List Nat}{W w:World}(h:Own M W w (R++ob)):Own (ob.map Blk.b) w w ob:=Own.lend (h.sublist (List.sublist_append_right _ _))
end
section
set_option linter.unnecessarySimpa false
def VStands (e:Pf)(vs:List Int)(o:Nat)(t:Tr):Prop:=∀ i z,(vlT e t)[i]?=some z->vs[o+i]?=some z
theorem nd_dec (u v:Nd):decide (u=v)=(decide (u.op=v.op) && (decide (u.a=v.a) && (decide (u.b=v.b) && (decide (u.key=v.key) && decide (u.text=v.text))))):=by
 obtain ⟨a,b,c,d,e⟩:=u
 obtain ⟨a',b',c',d',e'⟩:=v
 simp only [Nd.mk.injEq,Bool.decide_and]
theorem eq_nd (u v:Nd)(d:Nat)(w:World):(Op.equalIn (d+1+1) 261 (ndV u) (ndV v)).run YP w= .ok (decide (u=v)) w:=by
  have h:=eq_agg (P:=YP) (d:=d+1) (t:=261) (xs:=(ndV u).cells) (ys:=(ndV v).cells) (bs:=[u.op==v.op,u.a==v.a,u.b==v.b,u.key==v.key,(mkS u.text).toList==(mkS v.text).toList]) Tryz.underlying261 Kr
    ⟨by decide,⟨YI u.op,YI v.op,λw=>⟨by kernel_rfl,by kernel_rfl,run_equalIn_int w d _ _ _ _ _ Tryz.underlying3⟩⟩,
     by decide,⟨YI u.a,YI v.a,λw=>⟨by kernel_rfl,by kernel_rfl,run_equalIn_int w d _ _ _ _ _ Tryz.underlying3⟩⟩,
     by decide,⟨YI u.b,YI v.b,λw=>⟨by kernel_rfl,by kernel_rfl,run_equalIn_int w d _ _ _ _ _ Tryz.underlying3⟩⟩,
     by decide,⟨YI u.key,YI v.key,λw=>⟨by kernel_rfl,by kernel_rfl,run_equalIn_int w d _ _ _ _ _ Tryz.underlying3⟩⟩,
     by decide,⟨.string (mkS u.text),.string (mkS v.text),λw=>⟨by kernel_rfl,by kernel_rfl,run_equalIn_string w d _ _ _ Tryz.underlying9⟩⟩,trivial⟩ w
  rw [all5,str_beq,int_beq,int_beq,int_beq,int_beq,←nd_dec] at h
  exact h
theorem guard_nd:Tryz.prog.eqGuardType Tryz.prog.depth 261=false:=by kernel_rfl
theorem p9 {ρ:Operand->Value}{o:Oper}{t':TypeId}{x y:Operand}{u v:Nd}{b:Bool}(ho:o.op= .binOp .neq 261 x y t')(hx:ρ x=ndV u)(hy:ρ y=ndV v)(hb:decide (u=v)=b)(w:World):(execOp ρ o).run YP w= .ok (.value (.bool (!b))) w:=
 run_ne_op ho hx hy guard_nd (λw=>hb▸eq_nd u v 9998 w) w
end
end Go.Proofs.YtobimfnmnkegdaaGreatDoor
