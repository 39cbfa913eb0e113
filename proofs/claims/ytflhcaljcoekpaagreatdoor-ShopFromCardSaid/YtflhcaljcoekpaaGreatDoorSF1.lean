import Derived.WalkKit
import Derived.Below
import Derived.Deep.Draws
import Derived.Sort.Grow
import Derived.Laws.AppendOwn
import Derived.ChangeSame
import Derived.ProofKit
import Derived.OpenShut
import Derived.LaidSub
import Derived.Carry
import Derived.Deep.DeepHandedRow
import Derived.Test.YtflhcaljcoekpaaGreatDoorRows
import Derived.JoinedCond
import Derived.Lib.MapLaws
import Derived.Lib.TrimUEq
import Derived.Lib.Hide
import Derived.Test.YtflhcaljcoekpaaGreatDoorProg
import Derived.Lib.ItoaNum
import Derived.Lib.ItoaMem
import Derived.Lib.CutLaws
import Derived.Deep.Quiet
import Derived.BigQuiet
import Derived.Laws.CopyRow
import Derived.Laws.Rows
import Derived.Deep.RegionHeld3
import Derived.Laws.Slices
import Derived.Laws.MakeOwn
import Derived.Lib.BufferWrite
import Derived.Lib.UnsafeStr
import Derived.Tactics
import Derived.Lib.AppendZerosOnto
import Derived.Laws.StructEq
import Derived.LoopN
import Derived.IntWalk
import Derived.Outline
import Derived.StillTailTactics
set_option maxRecDepth 1000000
set_option maxHeartbeats 8000000
set_option linter.unusedVariables false
set_option linter.unusedSimpArgs false
set_option linter.unnecessarySimpa false
namespace Go.Proofs.YtflhcaljcoekpaaGreatDoor
open Go.RowKit
abbrev YC:=Calls Tryz.prog
noncomputable abbrev YP:=Tryz.prog
theorem Kr {α:Sort _}{a b:α}(h:a=b:=by kernel_rfl):a=b:=h
theorem Om {p:Prop}(h:p:=by omega):p:=h
abbrev YI (z:Int):Value:= .int .i64 z
abbrev YL:=List UInt8
abbrev Zp (b o:Nat):Value:= .pointer (some ⟨b,o,none⟩)
abbrev Z4:Value:= .bool true
abbrev Z5:Value:= .bool false
abbrev ZE:Array Value:= #[.string ⟨#[]⟩,YI 0,YI 0,YI 0,.string ⟨#[]⟩,.string ⟨#[]⟩,.slice none 0 0,.slice none 0 0,.slice none 0 0]
abbrev ZM:Array Value:= #[.string ⟨#[]⟩,.slice none 0 0]
abbrev Z0:Array Value:= #[.slice none 0 0,.string ⟨#[]⟩,.string ⟨#[]⟩]

section
structure Below (B:Nat)(w w':World):Prop where
 os:w'.os=w.os
 tape:w'.tape=w.tape
 output:w'.output=w.output
 size:w.heap.size<=w'.heap.size
 drawn:w.drawn<=w'.drawn
 block:∀ k,k<B->w'.heap[k]?=w.heap[k]?
abbrev YR (v:Value)(W:World)(e:Ending)(w':World):Prop:=e= .returned v/\Below W.heap.size W w'
abbrev YB (W w:World):Prop:=Below W.heap.size W w
theorem Below.old {B:Nat}{w w':World}(h:Below B w w'):Go.RowKit.Below B w w':=⟨h.os,h.tape,h.output,h.size,h.block⟩
theorem Below.refl (B:Nat)(w:World):Below B w w:=⟨rfl,rfl,rfl,Nat.le_refl _,Nat.le_refl _,λ_ _=>rfl⟩
theorem Below.trans {B:Nat}{a b c:World}(h:Below B a b)(k:Below B b c):Below B a c:=
 ⟨k.os.trans h.os,k.tape.trans h.tape,k.output.trans h.output,Nat.le_trans h.size k.size,Nat.le_trans h.drawn k.drawn,λi hi=>(k.block i hi).trans (h.block i hi)⟩
theorem Below.mono {B B':Nat}{w w':World}(h:Below B w w')(hB:B'<=B):Below B' w w':=⟨h.os,h.tape,h.output,h.size,h.drawn,λk hk=>h.block k (Nat.lt_of_lt_of_le hk hB)⟩
theorem Below.drew {B:Nat}{a w:World}(h:Below B a w):Below B a w.drew:=⟨h.os,h.tape,h.output,h.size,Nat.le_succ_of_le h.drawn,h.block⟩
theorem Below.heap_alloc (w:World)(o:Obj)(k:Nat)(h:k<w.heap.size):(w.alloc o).heap[k]?=w.heap[k]?:=Go.RowKit.Below.heap_alloc w o k h
theorem Below.heap_setCell (w:World)(a:Addr)(u:Value)(k:Nat)(h:k≠a.block):(w.setCell a u).heap[k]?=w.heap[k]?:=Go.RowKit.Below.heap_setCell w a u k h
theorem Below.alloc {B:Nat}{a w:World}(h:Below B a w)(hB:B<=w.heap.size)(o:Obj):Below B a (w.alloc o):=
 h.trans ⟨rfl,rfl,rfl,by simp,Nat.le_refl _,λk hk=>Below.heap_alloc _ _ _ Om⟩
theorem Below.setCell {B:Nat}{a w:World}(h:Below B a w){p:Addr}(hp:B<=p.block)(u:Value):Below B a (w.setCell p u):=
 h.trans ⟨rfl,rfl,rfl,by simp [World.setCell],Nat.le_refl _,λk hk=>Below.heap_setCell _ _ _ _ Om⟩
theorem Below.cell {B:Nat}{w w':World}(h:Below B w w'){p:Addr}(hp:p.block<B):w'.cell? p=w.cell? p:=h.old.cell hp
theorem Below.frame {W w':World}(h:YB W w')(may:MemPlace->Prop):W.keptBut w' may:=h.old.frame may
theorem Below.asGrow {W w':World}(h:YB W w'):∃ q os',w'=Go.Sort.grow (W.drewN q) os':=by
 refine ⟨w'.drawn-W.drawn,w'.heap.extract W.heap.size w'.heap.size, ?_⟩
 have hh:w'.heap=W.heap++w'.heap.extract W.heap.size w'.heap.size:=by
  apply Array.ext_getElem?
  intro i
  by_cases hi:i<W.heap.size
  ·rw [Array.getElem?_append_left hi,h.block i hi]
  ·rw [Array.getElem?_append_right (by omega),Array.getElem?_extract]
   by_cases h2:i<w'.heap.size
   ·rw [if_pos Om];congr 1;omega
   ·rw [if_neg Om,Array.getElem?_eq_none Om]
 have hd:w'.drawn=W.drawn+(w'.drawn-W.drawn):=by have:=h.drawn;omega
 cases w' with
 |mk hp tp dr os ou=>
  have h1:=h.os;have h2:=h.tape;have h3:=h.output
  simp only at h1 h2 h3 hh hd
  subst h1 h2 h3
  show World.mk hp W.tape dr W.os W.output=World.mk (W.heap++_) W.tape (W.drawn+(dr-W.drawn)) W.os W.output
  rw [←hd]
  exact congrArg (λx=>World.mk x W.tape dr W.os W.output) hh
theorem tO {α:Type}:∀ (k:Ask α) (w:World),w.drawn<=(w.ask k).2.drawn
 | .done a,w=>Nat.le_refl _
 | .ask what range k,w=>by
  unfold World.ask
  dsimp only
  split
  ·exact tO (k 0) w
  ·exact Nat.le_trans (Nat.le_succ _) (tO (k ((Question.extern what range).cut (w.tape w.drawn (Question.extern what range)))) {w with drawn:=w.drawn+1})
theorem sys_drawn (w:World)(c:Sys):w.drawn<=(w.sys c).2.drawn:=by
 unfold World.sys
 have h:=tO (Kernel.perform c w.os) w
 split
 ·exact Nat.le_refl _
 ·rename_i r os w1 heq
  rw [heq] at h;exact h
theorem farStore_drawn {p:Program}{w w1:World}{a:Addr}{v:Value}{b:Bool}{l:List Addr}(h:w.farStore p a v b= .ok (w1,l)):w1.drawn=w.drawn:=by
 unfold World.farStore at h
 split at h
 ·split at h
  ·rename_i r hr
   obtain rfl:=Except.ok.inj h
   unfold World.viewStore at hr
   simp only [bind,Except.bind,pure,Except.pure] at hr
   repeat' (first|(cases hr;done)|(cases hr;rfl)|split at hr)
  ·cases h
 ·cases h
theorem run_drawn {α:Type}(p:Program)(s:Sem α):∀ (w:World) {a:α} {w':World},s.run p w= .ok a w'->w.drawn<=w'.drawn:=by
 induction s with
 |pure a=>intro w _ _ h;cases h;exact Nat.le_refl _
 |load m a k ih=>
  intro w a' w' h
  rw [Sem.run] at h
  split at h
  ·exact ih _ _ h
  ·split at h
   ·exact ih _ _ h
   ·cases h
 |store m a v k ih=>
  intro w a' w' h
  have h:(match w.cell? a with
   | some _ => if w.frozen? a then Result.halt (.unsupported (.unsafePointer "a write to bytes that a string shares")) w else k.run p (w.setCell a v)
   |none=>match World.farStore p w a v (m==Mode.atomic) with
    | .ok (w,_)=>k.run p w
    | .error h=>Result.halt h w)= .ok a' w':=by cases v<;>first|exact h|cases h
  split at h
  ·split at h
   ·cases h
   ·exact ih (w.setCell a v) h
  ·split at h
   ·rename_i w1 l hf
    have:=ih w1 h
    rw [farStore_drawn hf] at this;exact this
   ·cases h
 |new o k ih=>intro w a' w' h;exact ih w.heap.size {w with heap:=w.heap.push o} h
 |shape r k ih=>intro w a' w' h;exact ih _ _ h
 |freeze a n k ih=>
  intro w a' w' h
  have:=ih (w.freeze a n) h
  unfold World.freeze at this
  split at this<;>exact this
 |frozen a k ih=>intro w a' w' h;exact ih _ _ h
 |getObj r k ih=>
  intro w a' w' h
  rw [Sem.run] at h
  split at h
  ·cases h
  ·exact ih _ _ h
  ·cases h
 |setObj r o k ih=>
  intro w a' w' h
  have h : (match w.heap[r]? with | some (.cells ..) => Result.halt (.stuck "setObj: a row of cells") w | some _ => k.run p { w with heap := w.heap.setIfInBounds r o } | none => Result.halt (.stuck "setObj: no such block") w) = .ok a' w' := h
  split at h
  ·cases h
  ·exact ih {w with heap:=w.heap.setIfInBounds r o} h
  ·cases h
 |choose q k ih=>
  intro w a' w' h
  have h:(if q.forced then (k 0).run p w else (k (q.cut (w.tape w.drawn q))).run p {w with drawn:=w.drawn+1})= .ok a' w':=h
  split at h
  ·exact ih _ _ h
  ·exact Nat.le_trans (Nat.le_succ _) (ih _ {w with drawn:=w.drawn+1} h)
 |sys c k ih=>intro w a' w' h;exact Nat.le_trans (sys_drawn w c) (ih _ _ h)
 |program k ih=>intro w a' w' h;exact ih _ _ h
 |mark m k ih=>intro w a' w' h;exact ih _ h
 |halt e=>intro w a' w' h;cases h
structure GrownD (w w':World)(row:Option Nat):Prop where
 old:w.grownBy w' row
 drawn:w.drawn<=w'.drawn
theorem Below.grown {B:Nat}{a w w':World}{row:Option Nat}(h:Below B a w)(hg:GrownD w w' row)(hB:B<=w.heap.size)(hr:∀ k,row=some k->B<=k):Below B a w':=
 have h2:=h.old.grown hg.old hB hr
 ⟨h2.os,h2.tape,h2.output,h2.size,Nat.le_trans h.drawn hg.drawn,h2.block⟩
theorem xK {P:Program}(w:World){ops:Array Oper}{rest:List Oper}{o:Oper}{a:Act}{Q:Exit->Act->World->Prop}(hgd:o.guard=none)(s x:Operand)(t:TypeId)
  (ho:o.op= .call {callee:= .builtin .append,args:= #[s,x],argTypes:= #[t,t]})
  (base:Nat) (e:TypeId) (i:TypeInfo) (z:Value) (size bytes:Nat) (ht:P.underlying t=some (.slice e)) (hi:P.info? e=some i) (hz:i.zero=some z)
  (hsize:i.size=size) (hby:i.bytes=bytes) (hzs:z.cells.size=size) (hsz:0<size)
  (v:Value) (n:Nat) (xs:List Value) (hs:a.eval s=v) (hown:w.ownsRow base e size v n xs)
  (ad:Addr) (m c:Nat) (news:List Value) (hx:a.eval x= .slice (some ad) m c) (hl:news.length=m*size) (hnews:∀ j u,news[j]?=some u->w.cell? (ad.add j)=some u) (h1:∀ u∈news,u.oneCell'=true)
  (h63:n+m<=maxLen) (hbytes:(n+m)*bytes<=140737488355328) (hbase:base<=w.heap.size)
  (h:∀ v' w',w'.ownsRow base e size v' (n+m) (xs++news)->GrownD w w' v.ownBlock->(v'= .slice none 0 0↔v= .slice none 0 0/\m=0)->wpList P ops Q rest (a.put o.dst v') w'):wpList P ops Q (o::rest) a w:=by
 refine wpList_plain hgd λK hK=> ?_
 obtain ⟨v',w',hr,h2,h3,h4⟩:=run_append_own (P:=P) w base t o.type e i z size bytes ht hi hz hsize hby hzs hsz v n xs hown ad m c news hl hnews h1 h63 hbytes hbase
 have hd:=run_drawn P _ _ hr
 unfold Oper.wp execOp
 simp only [ho,resolve,invoke,builtin,Sem.run_bind,Sem.run_pure,Result.andThen_ok,List.map_toArray,List.map_cons,List.map_nil,hs,hx,hr]
 exact hK _ _ (h v' w' h2 ⟨h3,hd⟩ h4)
end
section
open Go.ChangeShapes Go.WideShapes Go.ChangeAt Go.RowKit
theorem own:ownKnob Tryz.prog.godebug=none:=by kernel_rfl
theorem m4 {H:Type}{enc:TypeId×Value->H}{P:Program}(hl:laidOutB P=true){W W':World}(hb:YB W W'):
  ∀ (ts:List TypeId),(∀ t∈ts,P.readableRec t=true/\t<P.types.size)→∀ (vs:List Value) (ds:List (DataW H)) (ps:List MemPlace),DataW.TrodAll enc P W 0 (λ_=>true) true ts vs ds ps->(∀ p∈ps,p.block<W.heap.size)→
   DataW.TrodAll enc P W' 0 (λb=>decide (b<W.heap.size)) true ts vs ds ps
 | [],_,vs,ds,ps,h,_=>by
  obtain ⟨rfl,rfl,rfl⟩:=trodAll_nil h
  exact trodAll_mk0
 |t::ts,hr,vs,ds,ps,h,hlt=>by
  obtain ⟨v,vs',d,ds',p,q,rfl,rfl,rfl,hd,hrest⟩:=trodAll_cons h
  exact ⟨p,q,Go.RowKit.Below.trod hl (hr t (by simp)).1 (hr t (by simp)).2 hd hb.old (λx hx=>hlt x (by simp [hx])),m4 hl hb ts (λt' ht'=>hr t' (by simp [ht'])) vs' ds' q hrest (λx hx=>hlt x (by simp [hx])),rfl⟩
theorem law_end {H:Type}{enc:TypeId×Value->H}{P:Program}{f:Func}{s:ChangeSpec}{W W':World}{args:Array Value}{ds gs:List (DataW H)}{before:List MemPlace}{T:TypeId}
  (hl:laidOutB P=true) (hr:∀ t∈f.params.toList,P.readableRec t=true/\t<P.types.size) (hv:s.vars=[]) (hT:f.resultTypes= #[T]) (hB:P.underlying T=some .bool)
  (hW:DataW.Whole enc P f.params.toList s.vars false W args.toList ds gs before) (hf:s.fn H (ds++gs)={results:=[.lit (.bool true)],args:=ds}) (hb:YB W W'):
  s.post enc P f false true false false W args (.bool true) W':=by
 have hlt:∀ p∈before,p.block<W.heap.size:=λp hp=>hW.lt p hp
 have hW':=hW
 obtain ⟨p,q,hA,hV,rfl,_,_⟩:=hW
 rw [hv] at hV
 obtain ⟨rfl,rfl⟩:=trodVars_none hV
 have h2:=m4 hl hb _ hr _ _ _ hA (λx hx=>hlt x (by simp [hx]))
 refine ⟨ds,[],p++[],[],p,[],hW', ?_, ?_, ?_,World.keptBut_mono (λx hx=>⟨hx,Or.inr (Or.inl (by simpa using hx))⟩) (hb.frame (·∈p++[])),λh=>by cases h⟩
 ·rw [hf,hT]
  exact trodAll_cons_mk (shut_bool hB true) trodAll_mk0
 ·rw [hf];exact h2
 ·rw [hf,hv];rfl
theorem laidOut:laidOutB YP=true:=by kernel_rfl
theorem cell_lt {W:World}{a:Addr}{v:Value}(h:W.cell? a=some v):a.block<W.heap.size:=by
 rcases Nat.lt_or_ge a.block W.heap.size with h1|h1
 ·exact h1
 ·unfold World.cell? at h
  rw [Array.getElem?_eq_none h1] at h
  simp at h
theorem strCells1:Tryz.prog.cellsOf 9=1:=by kernel_rfl
def litCells:DataW Unit->List Value
 | .lit (.int k n)=>[Value.int k n]
 | .lit (.string s)=>[Value.string ⟨s.toArray⟩]
 | .lit (.bool b)=>[Value.bool b]
 | .agg l=>l.flatMap λd=>match d with| .lit (.int k n)=>[Value.int k n]| .lit (.string s)=>[Value.string ⟨s.toArray⟩]| .lit (.bool b)=>[Value.bool b]|_=>[]
 |_=>[]
def tabCells:DataW Unit->Array Value
 | .agg l=>(l.flatMap litCells).toArray
 |_=> #[]
def layAt (h:Array Obj)(g:Nat)(d:DataW Unit):Array Obj:=h.modify g fun
 | .cells _ t frozen=> .cells (tabCells d) t frozen
 |o=>o
end
section
theorem jfLaid:laidOutB Tryz.pinned.checked.prog=true:=laidOut
theorem jfMaps:mapsRowed Tryz.pinned.checked.prog=true:=by kernel_rfl
theorem jfHeard:Tryz.pinned.checked.prog.stopsHeard=true:=by kernel_rfl
theorem jfEnter:Tryz.pinned.checked.prog.mayEnter=true:=by kernel_rfl
end
section
def kM (r:Int):Bool:=decide (97<=r/\r<=122)
def yH (r:Int):Bool:=decide (48<=r/\r<=57)
def xY:Bool->Int->YL->Bool
 |_,last,[]=>decide (last≠45)
 |first,last,c::r=>
  if kM c.toNat then xY false c.toNat r
  else if yH c.toNat then (if first then false else xY false c.toNat r)
  else if (c.toNat:Int)=45 then (if last=45 then false else xY false c.toNat r)
  else false
def jV (s:ByteArray):Bool:=decide (s.size<=16) && xY true 45 s.data.toList
theorem nameGo_let (f:Bool)(l:Int)(c:UInt8)(r:YL)(h:kM c.toNat=true):xY f l (c::r)=xY false c.toNat r:=by
 rw [xY,if_pos h]
theorem nameGo_dig (f:Bool)(l:Int)(c:UInt8)(r:YL)(h:kM c.toNat=false)(h2:yH c.toNat=true):xY f l (c::r)=if f then false else xY false c.toNat r:=by
 rw [xY,if_neg (by simp [h]),if_pos h2]
theorem nameGo_dash (f:Bool)(l:Int)(c:UInt8)(r:YL)(h:kM c.toNat=false)(h2:yH c.toNat=false)(h3:(c.toNat:Int)=45):xY f l (c::r)=if l=45 then false else xY false c.toNat r:=by
 rw [xY,if_neg (by simp [h]),if_neg (by simp [h2]),if_pos h3]
theorem nameGo_else (f:Bool)(l:Int)(c:UInt8)(r:YL)(h:kM c.toNat=false)(h2:yH c.toNat=false)(h3:¬ (c.toNat:Int)=45):xY f l (c::r)=false:=by
 rw [xY,if_neg (by simp [h]),if_neg (by simp [h2]),if_neg h3]
def kX:Int->YL->Bool
 |_,[]=>true
 |last,c::r=>(kM c.toNat||yH c.toNat||decide ((c.toNat:Int)=45)) && !(decide ((c.toNat:Int)=45) && decide (last=45)) && kX c.toNat r
def tA:Int->YL->Int
 |last,[]=>last
 |_,c::r=>tA c.toNat r
theorem n8 (p:Int)(c:UInt8)(r:YL)(h:(kM c.toNat||yH c.toNat||decide ((c.toNat:Int)=45))=true)(h2:(decide ((c.toNat:Int)=45) && decide (p=45))=false):kX p (c::r)=kX c.toNat r:=by
 rw [kX,h,h2];rfl
theorem nameRef_bad (p:Int)(c:UInt8)(r:YL)(h:(kM c.toNat||yH c.toNat||decide ((c.toNat:Int)=45))=false):kX p (c::r)=false:=by
 rw [kX,h];rfl
theorem nameRef_two (p:Int)(c:UInt8)(r:YL)(h:(c.toNat:Int)=45)(h2:p=45):kX p (c::r)=false:=by
 rw [kX];simp [h,h2]
theorem nameGo_ref (l:YL):∀ last:Int,xY false last l=(kX last l && decide (tA last l≠45)):=by
 induction l with
 |nil=>intro last;by_cases h:last=45<;>simp [xY,kX,tA,h]
 |cons c r ih=>
  intro last
  unfold xY kX tA
  rw [ih]
  by_cases h1:kM c.toNat=true
  ·have hc:¬ (c.toNat:Int)=45:=by unfold kM at h1;simp at h1;omega
   simp [h1,hc]
  ·by_cases h2:yH c.toNat=true
   ·have hc:¬ (c.toNat:Int)=45:=by unfold yH at h2;simp at h2;omega
    simp [h1,h2,hc]
   ·by_cases h3:(c.toNat:Int)=45
    ·have e1:kM 45=false:=by decide
     have e2:yH 45=false:=by decide
     by_cases h4:last=45<;>simp [h3,h4,e1,e2]
    ·simp [h1,h2,h3]
theorem kB (s:ByteArray)(k:Nat)(h:k<s.size):s.data.toList.drop k=s[k]::s.data.toList.drop (k+1):=by
 rw [List.drop_eq_getElem_cons (by simpa using h)];rfl
theorem gM (s:ByteArray)(k:Nat)(h:¬ k<s.size):s.data.toList.drop k=[]:=by
 rw [List.drop_eq_nil_iff];simp;omega
theorem lastOf_get (s:ByteArray)(h:0<s.size):tA (s[0].toNat:Int) (s.data.toList.drop 1)=(s[s.size-1].toNat:Int):=by
 have gen:∀ (n k:Nat) (hk:k<s.size),k+n+1=s.size->tA (s[k].toNat:Int) (s.data.toList.drop (k+1))=(s[s.size-1].toNat:Int):=by
  intro n
  induction n with
  |zero=>
   intro k hk e
   rw [gM s (k+1) Om]
   have:k=s.size-1:=by omega
   subst this
   rfl
  |succ n ih=>
   intro k hk e
   rw [kB s (k+1) Om]
   exact ih (k+1) Om Om
 exact gen (s.size-1) 0 h Om
theorem nameB_ref (s:ByteArray)(h:0<s.size)(h16:s.size<=16):
  jV s=(kM s[0].toNat && !(decide ((s[s.size-1].toNat:Int)=45)) && kX s[0].toNat (s.data.toList.drop 1)):=by
 unfold jV
 have e:s.data.toList=s[0]::s.data.toList.drop 1:=by have:=kB s 0 h;simpa using this
 rw [e]
 unfold xY
 rw [nameGo_ref,←e,lastOf_get s h]
 by_cases h1:kM s[0].toNat=true
 ·simp [h1,h16,Bool.and_comm]
 ·by_cases h2:yH s[0].toNat=true<;>simp [h1,h2,h16]
def kF:YL->Bool
 | []=>true
 |c::r=>(kM c.toNat||yH c.toNat||decide ((c.toNat:Int)=95)) && kF r
def wdB (r:Int):Bool:=kM r||yH r||decide (r=95)
theorem vF (c:UInt8)(r:YL)(h:wdB c.toNat=true):kF (c::r)=kF r:=by
 unfold wdB at h
 rw [kF,h];rfl
theorem mG (c:UInt8)(r:YL)(h:wdB c.toNat=false):kF (c::r)=false:=by
 unfold wdB at h
 rw [kF,h];rfl
def tR (s:ByteArray):Bool:=decide (1<=s.size/\s.size<=12) && kF s.data.toList
end
section
theorem wide_other (l:YL)(h:(Lib.decodeL l).1≠65533):Lib.runeLen ((Lib.decodeL l).1:Int)=((Lib.decodeL l).2:Int):=Lib.runeLen_decode l h
theorem wide_bad (l:YL)(hne:l≠[])(h:(Lib.decodeL l).1=65533)(hp:Lib.hasPrefix l [239,191,189]=false):(Lib.decodeL l).2=1:=by
 apply Classical.byContradiction
 intro h1
 have he:=Lib.encode_decode l hne (λhh=>h1 hh.2)
 rw [h] at he
 have e3:Lib.encodeRune ((65533:Nat):Int)=[239,191,189]:=by decide
 rw [e3] at he
 unfold Lib.hasPrefix at hp
 rw [Bool.eq_false_iff] at hp
 apply hp
 rw [List.isPrefixOf_iff_prefix,he]
 exact List.take_prefix _ _
theorem wide_err (l:YL)(hp:Lib.hasPrefix l [239,191,189]=true):(Lib.decodeL l).2=3:=by
 unfold Lib.hasPrefix at hp
 rw [List.isPrefixOf_iff_prefix] at hp
 obtain ⟨t,rfl⟩:=hp
 rw [Lib.decodeL_N]
 simp [Lib.decodeN]
def zJ (b:UInt8):YL->YL->List YL
 |acc,[]=>[acc]
 |acc,c::r=>if c=b then acc::zJ b [] r else zJ b (acc++[c]) r
def zE (b:UInt8):List YL->YL
 | []=>[]
 | [x]=>x
 |x::y::r=>x++b::zE b (y::r)
theorem splitL_ne (b:UInt8)(l:YL):∀ acc,zJ b acc l≠[]:=by
 induction l with
 |nil=>intro acc;simp [zJ]
 |cons c r ih=>intro acc;unfold zJ;split<;>simp [ih]
theorem split_len (b:UInt8)(l:YL):∀ acc,(zJ b acc l).length=(l.filter (·==b)).length+1:=by
 induction l with
 |nil=>intro acc;rfl
 |cons c r ih=>
  intro acc
  unfold zJ
  by_cases h:c=b
  ·rw [if_pos h,List.length_cons,ih,List.filter_cons,if_pos (by simp [h]),List.length_cons]
  ·rw [if_neg h,ih,List.filter_cons,if_neg (by simp [h])]
theorem split_le (b:UInt8)(l:YL):∀ acc,∀ x∈zJ b acc l,x.length<=acc.length+l.length:=by
 induction l with
 |nil=>intro acc x hx;simp [zJ] at hx;subst hx;simp
 |cons c r ih=>
  intro acc x hx
  unfold zJ at hx
  by_cases h:c=b
  ·rw [if_pos h] at hx
   rcases List.mem_cons.1 hx with rfl|hx
   ·omega
   ·have:=ih [] x hx;simp at this ⊢;omega
  ·rw [if_neg h] at hx
   have:=ih (acc++[c]) x hx
   simp at this ⊢;omega
end
section
structure Nd where
 op:Int
 a:Int
 b:Int
 key:Int
 text:YL
deriving DecidableEq
inductive Tr where
 |is (k:Nat) (t:YL)
 |no (x:Tr)
 |both (x y:Tr)
 |one (x y:Tr)
deriving DecidableEq
def Tr.sz:Tr->Nat
 | .is _ _=>1
 | .no x=>x.sz+1
 | .both x y=>x.sz+y.sz+1
 | .one x y=>x.sz+y.sz+1
def Tr.enc:Nat->Tr->List Nd
 |_,.is k t=>[⟨1,0,0,k,t⟩]
 |o,.no x=>x.enc o++[⟨2,((o+x.sz-1:Nat):Int),0,0,[]⟩]
 |o,.both x y=>x.enc o++y.enc (o+x.sz)++[⟨3,((o+x.sz-1:Nat):Int),((o+x.sz+y.sz-1:Nat):Int),0,[]⟩]
 |o,.one x y=>x.enc o++y.enc (o+x.sz)++[⟨4,((o+x.sz-1:Nat):Int),((o+x.sz+y.sz-1:Nat):Int),0,[]⟩]
def wdL (s:YL):Bool:=decide (1<=s.length/\s.length<=12) && kF s
def Tr.ok:Tr->Bool
 | .is k t=>decide (k<3) && wdL t
 | .no x=>x.ok
 | .both x y=>x.ok && y.ok
 | .one x y=>x.ok && y.ok
def Tr.isOne:Tr->Bool
 | .one _ _=>true
 |_=>false
def Tr.isBin:Tr->Bool
 | .one _ _=>true
 | .both _ _=>true
 |_=>false
abbrev Tok:=YL
def bV (k:Nat):Tok:=if k=0 then [111,115] else if k=1 then [97,114,99,104] else [97,98,105]
def tEq:Tok:=[61]
def tNe:Tok:=[33,61]
def tNot:Tok:=[110,111,116]
def tAnd:Tok:=[97,110,100]
def tOr:Tok:=[111,114]
def tOpen:Tok:=[40]
def tClose:Tok:=[41]
def wrapT (c:Bool)(l:List Tok):List Tok:=if c then tOpen::(l++[tClose]) else l
def Tr.tok:Tr->List Tok
 | .is k t=>[bV k,tEq,t]
 | .no (.is k t)=>[bV k,tNe,t]
 | .no (.no x)=>tNot::(Tr.no x).tok
 | .no (.both x y)=>tNot::wrapT true (Tr.both x y).tok
 | .no (.one x y)=>tNot::wrapT true (Tr.one x y).tok
 | .both x y=>wrapT x.isOne x.tok++tAnd::wrapT y.isBin y.tok
 | .one x y=>x.tok++tOr::wrapT y.isOne y.tok
def Tr.text (t:Tr):YL:=zE 32 t.tok
def keyN (k:Tok):Option Nat:=if k=bV 0 then some 0 else if k=bV 1 then some 1 else if k=bV 2 then some 2 else none
def atomT (k s v:Tok):Option Tr:=match keyN k with
 |none=>none
 |some n=>if wdL v then (if s=tEq then some (.is n v) else if s=tNe then some (.no (.is n v)) else none) else none
def pLoop (part:List Tok->Option (Tr×List Tok))(w:Tok)(mk:Tr->Tr->Tr):Nat->Tr->List Tok->Option (Tr×List Tok)
 |0,a,ts=>some (a,ts)
 |_+1,a,[]=>some (a,[])
 |k+1,a,c::r=>if c=w then (match part r with|none=>none|some (b,r')=>pLoop part w mk k (mk a b) r') else some (a,c::r)
def dT (part:List Tok->Option (Tr×List Tok))(w:Tok)(mk:Tr->Tr->Tr)(ts:List Tok):Option (Tr×List Tok):=match part ts with
 |none=>none
 |some (a,r)=>pLoop part w mk r.length a r
def pAtom:List Tok->Option (Tr×List Tok)
 |k::s::v::r=>match atomT k s v with|none=>none|some t=>some (t,r)
 |_=>none
def pClose:Option (Tr×List Tok)->Option (Tr×List Tok)
 |some (t,c::r)=>if c=tClose then some (t,r) else none
 |_=>none
def pNo:Option (Tr×List Tok)->Option (Tr×List Tok)
 |some (t,r)=>some (.no t,r)
 |none=>none
def pFac:Nat->List Tok->Option (Tr×List Tok)
 |0,_=>none
 |_+1,[]=>none
 |n+1,c::r=>if c=tNot then pNo (pFac n r) else if c=tOpen then pClose (dT (dT (pFac n) tAnd .both) tOr .one r) else pAtom (c::r)
def pAnd (n:Nat):List Tok->Option (Tr×List Tok):=dT (pFac n) tAnd .both
def pOr (n:Nat):List Tok->Option (Tr×List Tok):=dT (pAnd n) tOr .one
def Eats (part:List Tok->Option (Tr×List Tok)):Prop:=∀ ts t r,part ts=some (t,r)->r.length<ts.length
def AndAt (t:Tr):Prop:=∀ (n:Nat) (rest:List Tok),(t.tok++rest).length<=n->pAnd n (t.tok++rest)=pLoop (pFac n) tAnd .both rest.length t rest
def OrAt (t:Tr):Prop:=∀ (n:Nat) (rest:List Tok),(t.tok++rest).length<=n->rest.head?≠some tAnd->pOr n (t.tok++rest)=pLoop (pAnd n) tOr .one rest.length t rest
def FacAt (t:Tr):Prop:=∀ (n:Nat) (rest:List Tok),(wrapT t.isBin t.tok++rest).length<=n->pFac n (wrapT t.isBin t.tok++rest)=some (t,rest)
end
section
theorem zQ {a b:Bool}(h:a=b):Ending.returned (.bool a)= .returned (.bool b):=by rw [h]
theorem qV {k:IntKind}{a b:Int}(h:a=b):Ending.returned (.int k a)= .returned (.int k b):=by rw [h]
theorem letB_hi (n:Nat)(h:128<=n):kM n=false:=by unfold kM;simp;omega
theorem fS (n:Nat)(h:128<=n):yH n=false:=by unfold yH;simp;omega
theorem letB_hi8 (c:UInt8)(h:128<=c.toNat):kM c.toNat=false:=letB_hi _ h
theorem dZ (c:UInt8)(h:128<=c.toNat):yH c.toNat=false:=fS _ h
theorem qA {a b:Int}(h:¬ a=b):(a==b)=false:=by simpa using h
theorem nameGo_hi (f:Bool)(l:Int)(c:UInt8)(r:YL)(h:128<=c.toNat):xY f l (c::r)=false:=by
 unfold xY
 rw [letB_hi8 c h,dZ c h]
 simp;omega
theorem zV (w:World)(s:ByteArray)(pos:Nat):Below w.heap.size w (w.iter s pos):=(Below.refl _ w).alloc (Nat.le_refl _) _
theorem xG (r:Int)(b:Bool)(hb:yH r=b)(w:World):
  YC 109 #[.int .i32 r] w λe w'=>e= .returned (.bool b)/\w=w':=by
 subst hb
 unfold yH
 go_enter Tryz.func109,Tryz.ntmps109
 go_wp2
 all_goals go_ret
 all_goals exact ⟨zQ (by simp;try omega),rfl⟩
theorem qO (r:Int)(b:Bool)(hb:yH r=b)(w:World):
  YC 121 #[.int .u8 r] w λe w'=>e= .returned (.bool b)/\w=w':=by
 subst hb
 unfold yH
 go_enter Tryz.func121,Tryz.ntmps121
 go_wp2
 all_goals go_ret
 all_goals exact ⟨zQ (by simp;try omega),rfl⟩
theorem below_drewN {B:Nat}{a w:World}(h:Below B a w)(n:Nat):Below B a (w.drewN n):=⟨h.os,h.tape,h.output,h.size,Nat.le_trans h.drawn (Nat.le_add_right _ _),h.block⟩
end
section
theorem infoStr:(Tryz.prog.info? 9).map (λi=>(i.zero,i.size,i.bytes))=some (some (.string ByteArray.empty),1,16):=by kernel_rfl
def mkS (l:YL):ByteArray:=⟨l.toArray⟩
def vH (l:List YL):List Value:=l.map λx=> .string (mkS x)
theorem wX (l:List YL)(x:YL):vH (l++[x])=vH l++[.string (mkS x)]:=by unfold vH;rw [List.map_append];rfl
theorem vV (l:List YL):(vH l).length=l.length:=by unfold vH;rw [List.length_map]
theorem wA (s:ByteArray)(f k:Nat):s.extract f k=mkS ((s.data.toList.drop f).take (k-f)):=by
 unfold mkS
 apply ByteArray.ext
 apply Array.toList_inj.1
 rw [ByteArray.data_extract,Array.toList_extract,List.toList_toArray,List.extract_eq_take_drop]
theorem take_more (s:ByteArray)(f k:Nat)(hf:f<=k)(h:k<s.size):(s.data.toList.drop f).take (k+1-f)=(s.data.toList.drop f).take (k-f)++[s[k]]:=by
 rw [show k+1-f=k-f+1 from by omega,List.take_succ_eq_append_getElem (by simp;omega)]
 congr 1
 simp [show f+(k-f)=k from by omega]
 rfl
theorem split_hit (b c:UInt8)(acc r:YL)(h:c=b):zJ b acc (c::r)=acc::zJ b [] r:=by rw [zJ,if_pos h]
theorem split_miss (b c:UInt8)(acc r:YL)(h:¬ c=b):zJ b acc (c::r)=zJ b (acc++[c]) r:=by rw [zJ,if_neg h]
def g0 (s:ByteArray)(b:UInt8):List YL:=zJ b [] s.data.toList
theorem rsplit_any (s:ByteArray)(b:UInt8)(w:World)(hs:s.size<=1000000):
  YC 157 #[.string s,.int .u8 b.toNat] w λe w'=>∃ v,e= .returned v/\w'.ownsRow w.heap.size 9 1 v (g0 s b).length (vH (g0 s b))/\YB w w':=by
 obtain ⟨i0,hi,hz0,hz1,hz2⟩:=info_parts infoStr
 go_enter Tryz.func157,Tryz.ntmps157
 go_wp2
 go_loopw [5,6,7] (λv fv iv wr=>∃ (k f:Nat) (P:List YL),iv=YI k/\fv=YI f/\f<=k/\k<=s.size/\P.length<=k/\wr.ownsRow w.heap.size 9 1 v P.length (vH P)/\YB w wr/\Hid (P++zJ b ((s.data.toList.drop f).take (k-f)) (s.data.toList.drop k)=g0 s b)) (λ_ _ iv _=>s.size-(intOf iv).toNat)
 case atStart=>exact ⟨0,0,[],rfl,rfl,Nat.le_refl _,Nat.zero_le _,Nat.zero_le _,⟨rfl,Or.inl ⟨rfl,rfl⟩⟩,Below.refl _ _,rfl⟩
 case round=>
  obtain ⟨k,f,P,rfl,rfl,hfk,hk,hP,hown,hb,HR⟩:=hrel
  have hsz:=hb.size
  by_cases hp:k<s.size
  ·have HD:=Lib.hid (kB s k hp)
   by_cases hc:s[k]=b
   ·have HC:=Lib.hid hc
    have hcb:((s[k].toNat:Int)==(b.toNat:Int))=true:=by rw [hc];simp
    clear hc
    go_wp2_with (at_builtin;refine xK _ rfl _ _ 85 rfl w.heap.size 9 i0 (.string ByteArray.empty) 1 16 Tryz.underlying85 hi hz0 hz1 hz2 rfl (by decide) _ _ _ rfl (hown.alloc _) ⟨wr.heap.size,0,none⟩ 1 1 [.string (s.extract f k)] rfl rfl ?c1 ?c2 ?c3 ?c4 ?c5 ?_)
    case c1=>
     intro j u hj
     match j,hj with
     |0,hj=>simp at hj;subst hj;simp [Addr.add]
    case c2=>intro u hu;simp at hu;subst hu;rfl
    case c3=>unfold maxLen;omega
    case c4=>omega
    case c5=>simp;omega
    intro v' w2 hown' hgrow _
    go_wp2
    go_roundw
    case rel=>
     refine ⟨k+1,k+1,P++[(s.data.toList.drop f).take (k-f)],by go_num,by go_num,Nat.le_refl _,by omega,by simp;omega, ?_,(hb.alloc hsz _).grown hgrow (by simp;omega) (λk hk=>(hown.lt k hk).1), ?_⟩
     ·rw [wX,←wA,List.length_append];exact hown'
     ·show _=_
      rw [←HR.out,HD.out,split_hit _ _ _ _ HC.out,List.append_assoc,Nat.sub_self,List.take_zero];rfl
    case measure=>simp [intOf];omega
   ·have hcb:((s[k].toNat:Int)==(b.toNat:Int))=false:=qA (λe=>hc (UInt8.toNat_inj.1 Om))
    go_wp2
    go_roundw
    case rel=>exact ⟨k+1,f,P,by go_num,rfl,by omega,by omega,by omega,hown,hb,by show _=_;rw [←HR.out,HD.out,split_miss _ _ _ _ hc,take_more s f k hfk hp]⟩
    case measure=>simp [intOf];omega
  ·have hk2:k=s.size:=by omega
   have HD:=Lib.hid (gM s k hp)
   have HE:Hid (P++[(s.data.toList.drop f).take (s.size-f)]=g0 s b):=by
    show _=_
    rw [←HR.out,HD.out,hk2];rfl
   clear hk2
   go_wp2_with (at_builtin;refine xK _ rfl _ _ 85 rfl w.heap.size 9 i0 (.string ByteArray.empty) 1 16 Tryz.underlying85 hi hz0 hz1 hz2 rfl (by decide) _ _ _ rfl (hown.alloc _) ⟨wr.heap.size,0,none⟩ 1 1 [.string (s.extract f s.size)] rfl rfl ?c1 ?c2 ?c3 ?c4 ?c5 ?_)
   case c1=>
    intro j u hj
    match j,hj with
    |0,hj=>simp at hj;subst hj;simp [Addr.add]
   case c2=>intro u hu;simp at hu;subst hu;rfl
   case c3=>unfold maxLen;omega
   case c4=>omega
   case c5=>simp;omega
   intro v' w2 hown' hgrow _
   go_wp2
   go_ret
   refine ⟨v',rfl, ?_,(hb.alloc hsz _).grown hgrow (by simp;omega) (λk hk=>(hown.lt k hk).1)⟩
   rw [←HE.out,wX,←wA,List.length_append];exact hown'
end
section
theorem lt_irr:∀ a:YL,Op.bytesLess a a=false
 | []=>rfl
 |c::r=>by rw [Op.bytesLess,lt_irr r];simp
theorem lt_tra:∀ a b c:YL,Op.bytesLess a b=true->Op.bytesLess b c=true->Op.bytesLess a c=true
 |_,[],_,h,_=>by cases ‹YL›<;>simp [Op.bytesLess] at h
 | [],b::x,[],_,h=>by simp [Op.bytesLess] at h
 | [],b::x,c::y,_,_=>rfl
 |a::z,b::x,[],_,h=>by simp [Op.bytesLess] at h
 |a::z,b::x,c::y,h1,h2=>by
  rw [Op.bytesLess] at h1 h2 ⊢
  simp only [Bool.or_eq_true,Bool.and_eq_true,decide_eq_true_eq,beq_iff_eq] at h1 h2 ⊢
  rcases h1 with h1|⟨h1,h3⟩
  ·rcases h2 with h2|⟨h2,h4⟩
   ·exact .inl (UInt8.lt_trans h1 h2)
   ·exact .inl (h2▸h1)
  ·rcases h2 with h2|⟨h2,h4⟩
   ·exact .inl (h1▸h2)
   ·exact .inr ⟨h1.trans h2,lt_tra z x y h3 h4⟩
theorem lt_tri:∀ a b:YL,Op.bytesLess a b=false->a≠b->Op.bytesLess b a=true
 | [],[],_,h=>absurd rfl h
 | [],b::x,h,_=>by simp [Op.bytesLess] at h
 |a::z,[],_,_=>rfl
 |a::z,b::x,h,hn=>by
  rw [Op.bytesLess] at h ⊢
  simp only [Bool.or_eq_false_iff,Bool.and_eq_false_iff,decide_eq_false_iff_not,beq_eq_false_iff_ne,Bool.or_eq_true,Bool.and_eq_true,decide_eq_true_eq,beq_iff_eq] at h ⊢
  by_cases e:a=b
  ·subst e
   exact .inr ⟨rfl,lt_tri z x (h.2.resolve_left (λq=>q rfl)) (λq=>hn (by rw [q]))⟩
  ·exact .inl (UInt8.lt_of_le_of_ne (UInt8.not_lt.1 h.1) (λq=>e q.symm))
theorem lt_asy {a b:YL}(h:Op.bytesLess a b=true):Op.bytesLess b a=false:=by
 cases hb:Op.bytesLess b a with
 |false=>rfl
 |true=>have:=lt_tra _ _ _ h hb;rw [lt_irr] at this;cases this
def yX:List YL->Bool
 |a::b::r=>Op.bytesLess a b && yX (b::r)
 |_=>true
theorem riseT_tail {a:YL}{r:List YL}(h:yX (a::r)=true):yX r=true:=by
 cases r with
 |nil=>rfl
 |cons b r=>rw [yX,Bool.and_eq_true] at h;exact h.2
theorem rise_all:∀ {r:List YL} {a:YL},yX (a::r)=true→∀ x∈r,Op.bytesLess a x=true
 | [],a,_,x,hx=>by cases hx
 |b::r,a,h,x,hx=>by
  rw [yX,Bool.and_eq_true] at h
  rcases List.mem_cons.1 hx with rfl|hx
  ·exact h.1
  ·exact lt_tra _ _ _ h.1 (rise_all h.2 x hx)
theorem riseT_cons {a:YL}{r:List YL}(h:yX r=true)(ha:∀ x∈r,Op.bytesLess a x=true):yX (a::r)=true:=by
 cases r with
 |nil=>rfl
 |cons b r=>rw [yX,ha b (List.mem_cons_self ..),h];rfl
def yC:List YL->YL->List YL
 | [],s=>[s]
 |a::r,s=>if Op.bytesLess a s then a::yC r s else if a=s then a::r else s::a::r
theorem put_mem:∀ {l:List YL} {s x:YL},x∈yC l s↔x=s\/x∈l
 | [],s,x=>by simp [yC]
 |a::r,s,x=>by
  rw [yC]
  split
  ·rw [List.mem_cons,put_mem,List.mem_cons]
   constructor
   ·rintro (h|h|h)
    ·exact .inr (.inl h)
    ·exact .inl h
    ·exact .inr (.inr h)
   ·rintro (h|h|h)
    ·exact .inr (.inl h)
    ·exact .inl h
    ·exact .inr (.inr h)
  ·split
   ·rename_i e
    rw [e,List.mem_cons]
    constructor
    ·exact .inr
    ·rintro (h|h)
     ·exact .inl h
     ·exact h
   ·rw [List.mem_cons]
theorem put_rise:∀ {l:List YL} {s:YL},yX l=true->yX (yC l s)=true
 | [],s,_=>rfl
 |a::r,s,h=>by
  rw [yC]
  split
  ·rename_i h1
   refine riseT_cons (put_rise (riseT_tail h)) λx hx=> ?_
   rcases put_mem.1 hx with rfl|hx
   ·exact h1
   ·exact rise_all h x hx
  ·split
   ·exact h
   ·rename_i h1 h2
    have q:=lt_tri a s (by simpa using h1) h2
    refine riseT_cons h λx hx=> ?_
    rcases List.mem_cons.1 hx with rfl|hx
    ·exact q
    ·exact lt_tra _ _ _ q (rise_all h x hx)
theorem put_at:∀ {l:List YL} {s:YL} (k:Nat),(∀ x∈l.take k,Op.bytesLess x s=true)->yC l s=l.take k++yC (l.drop k) s
 |l,s,0,_=>by simp
 | [],s,k+1,_=>by simp
 |a::r,s,k+1,h=>by
  rw [List.take_succ_cons] at h ⊢
  rw [List.drop_succ_cons,yC,if_pos (h a (List.mem_cons_self ..)),put_at k (λx hx=>h x (List.mem_cons_of_mem _ hx))];rfl
structure Ft where
 name:YL
 of:List YL
def nmL (s:YL):Bool:=jV (mkS s)
def dfl:YL:=[100,101,102,97,117,108,116]
def zI (s:YL):Int×YL×YL:=
 if wdL s then (1,s,[])
 else if decide (s.head?=some 63) && wdL (s.drop 1) then (2,s.drop 1,[])
 else match zJ 47 [] s with
  | [a,b]=>if nmL a && wdL b then (3,a,b) else (0,[],[])
  |_=>(0,[],[])
def findT (l:List Ft)(n:YL):Option Nat:=l.findIdx? λf=>decide (f.name=n)
def isT (l:List Ft)(n:YL):Bool:=decide (n=dfl)||(findT l n).isSome
def gK (l:List Ft)(s:YL):Bool:=decide ((zI s).1≠0) && (decide ((zI s).1≠1)||isT l (zI s).2.1)
def x2 (l:List Ft)(of:List YL):Bool:=decide (of.length<=6) && yX of && of.all (gK l)
def qQ (l:List Ft):Bool:=decide (l.length<=8) && l.all (λf=>wdL f.name) && yX (l.map Ft.name) && l.all (λf=>x2 l f.of)
def ofT (l:List Ft)(n:YL):List YL:=match l.find? λf=>decide (f.name=n) with
 |some f=>f.of
 |none=>[]
inductive On (l:List Ft) (asked:List YL):YL->Prop
 |ask {x} (h:x∈asked):On l asked x
 |of {f s} (h:On l asked f) (hs:s∈ofT l f) (hk:(zI s).1=1):On l asked (zI s).2.1
def Has (l:List Ft)(on:List YL)(k:Int)(s:YL):Prop:=∃ f∈on,s∈ofT l f/\(zI s).1=k
def putK (k:Int)(val:YL->YL)(acc:List YL):List YL->List YL
 | []=>acc
 |s::r=>putK k val (if (zI s).1=k then yC acc (val s) else acc) r
def collK (k:Int)(val:YL->YL)(l:List Ft)(acc:List YL):List YL->List YL
 | []=>acc
 |f::r=>collK k val l (putK k val acc (ofT l f)) r
def wordOf (s:YL):YL:=(zI s).2.1
abbrev roundT (l:List Ft)(acc on:List YL):List YL:=collK 1 wordOf l acc on
def rounds (l:List Ft):Nat->List YL->List YL
 |0,on=>on
 |n+1,on=>rounds l n (roundT l on on)
def asksT (asked:List YL):List YL:=asked.foldl yC []
theorem put_len:∀ {l:List YL} {s:YL},(yC l s).length<=l.length+1
 | [],s=>Nat.le_refl _
 |a::r,s=>by
  rw [yC]
  split
  ·have:=put_len (l:=r) (s:=s);simp only [List.length_cons];omega
  ·split<;>simp
def onT (l:List Ft)(asked:List YL):List YL:=rounds l (l.length+1) (asksT asked)
def optsT (l:List Ft)(on:List YL):List YL:=collK 2 wordOf l [] on
def pullsT (l:List Ft)(on:List YL):List YL:=collK 3 id l [] on
def errF (l:List Ft)(asked:List YL):Int:=if qQ l then (if asked.all (isT l) then 0 else 11) else 1
def onF (l:List Ft)(asked:List YL):List YL:=if errF l asked=0 then onT l asked else []
def optF (l:List Ft)(asked:List YL):List YL:=if errF l asked=0 then optsT l (onT l asked) else []
def pullF (l:List Ft)(asked:List YL):List YL:=if errF l asked=0 then pullsT l (onT l asked) else []
end
section
def yO:Nat->Bool->YL->Option Nat
  |n,first,[]=>if first then none else some n
  |n,first,c::r=>
    if yH c.toNat then
      (if first=false/\n=0 then none
       else if n*10+(c.toNat-48)<=9999 then yO (n*10+(c.toNat-48)) false r else none)
    else none
def numB (s:ByteArray):Option Nat:=yO 0 true s.data.toList
def numV (s:ByteArray):Int:=((numB s).getD 0:Nat)
def pA (s:ByteArray):Bool:=(numB s).isSome
theorem jO (n:Nat)(f:Bool)(c:UInt8)(r:YL)(h:yH c.toNat=false):yO n f (c::r)=none:=by
 rw [yO,if_neg (by simp [h])]
theorem n5 (c:UInt8)(r:YL):yO 0 false (c::r)=none:=by
 rw [yO];simp
theorem fK (n:Nat)(f:Bool)(c:UInt8)(r:YL)(h3:¬ n*10+(c.toNat-48)<=9999):yO n f (c::r)=none:=by
 rw [yO,if_neg h3];simp
theorem bD (n:Nat)(f:Bool)(c:UInt8)(r:YL)(h:yH c.toNat=true)(h2:¬ (f=false/\n=0))(h3:n*10+(c.toNat-48)<=9999):
  yO n f (c::r)=yO (n*10+(c.toNat-48)) false r:=by
 rw [yO,if_pos h,if_neg h2,if_pos h3]
def y6 (l:YL):Bool:=l.all λc=>yH c.toNat
def gD (n:Nat)(l:YL):Nat:=l.foldl (λn c=>n*10+(c.toNat-48)) n
theorem foldV_le (l:YL):∀ n,n<=gD n l:=by
 induction l with
 |nil=>intro n;exact Nat.le_refl _
 |cons c r ih=>intro n;exact Nat.le_trans Om (ih (n*10+(c.toNat-48)))
theorem foldV_pow (l:YL):∀ n,n*10^l.length<=gD n l:=by
 induction l with
 |nil=>intro n;simp [gD]
 |cons c r ih=>
  intro n
  refine Nat.le_trans ?_ (ih (n*10+(c.toNat-48)))
  rw [List.length_cons,Nat.pow_succ,Nat.mul_comm (10^r.length) 10,←Nat.mul_assoc]
  exact Nat.mul_le_mul_right _ Om
theorem numGo_pos (l:YL):∀ n,1<=n->n<=9999->yO n false l=if y6 l=true/\gD n l<=9999 then some (gD n l) else none:=by
 induction l with
 |nil=>intro n h1 h2;simp [yO,y6,gD,h2]
 |cons c r ih=>
  intro n h1 h2
  by_cases hd:yH c.toNat=true
  ·by_cases h3:n*10+(c.toNat-48)<=9999
   ·rw [bD n false c r hd Om h3,ih _ Om h3]
    have e1:y6 (c::r)=y6 r:=by unfold y6;rw [List.all_cons,hd];rfl
    rw [e1];rfl
   ·rw [fK n false c r h3,if_neg]
    rintro ⟨_,h⟩
    have h4:n*10+(c.toNat-48)<=gD n (c::r):=foldV_le r _
    omega
  ·rw [jO _ _ _ _ (Bool.eq_false_iff.2 hd),if_neg]
   rintro ⟨h,_⟩
   unfold y6 at h
   rw [List.all_cons,Bool.and_eq_true] at h
   exact hd h.1
def t7 (l:YL):Option Nat:=
 if l.length<1\/l.length>9\/(l.length>1/\l.head?=some 48) then none
 else if y6 l=true/\gD 0 l<=9999 then some (gD 0 l) else none
theorem numGo_ref (l:YL):yO 0 true l=t7 l:=by
 cases l with
 |nil=>rfl
 |cons c r=>
  unfold t7
  by_cases hd:yH c.toNat=true
  ·have hc:48<=c.toNat/\c.toNat<=57:=by unfold yH at hd;simp at hd;omega
   rw [bD 0 true c r hd (by simp) Om]
   have e1:y6 (c::r)=y6 r:=by unfold y6;rw [List.all_cons,hd];rfl
   have e2:gD 0 (c::r)=gD (c.toNat-48) r:=by unfold gD;rw [List.foldl_cons];simp
   by_cases h0:c.toNat=48
   ·have hc48:c=48:=by apply UInt8.toNat_inj.1;simpa using h0
    cases r with
    |nil=>subst hc48;decide
    |cons c2 r2=>
     have e0:0*10+(c.toNat-48)=0:=by omega
     rw [e0,n5,if_pos]
     right;right
     exact ⟨by simp,by rw [hc48];rfl⟩
   ·have hne:¬ (c::r).head?=some 48:=by
     intro h
     have:c=48:=by simpa using h
     subst this
     exact h0 rfl
    have e0:0*10+(c.toNat-48)=c.toNat-48:=by omega
    rw [e0,numGo_pos r _ Om Om,e1,e2]
    by_cases h9:(c::r).length>9
    ·rw [if_pos (Or.inr (Or.inl h9)),if_neg]
     rintro ⟨_,h⟩
     have hp:=foldV_pow r (c.toNat-48)
     have h10:10^9<=10^r.length:=Nat.pow_le_pow_right Om (by rw [List.length_cons] at h9;omega)
     have h11:1*10^r.length<=(c.toNat-48)*10^r.length:=Nat.mul_le_mul_right _ Om
     omega
    ·rw [if_neg (c:=(c::r).length<1\/_)]
     rintro (h|h|h)
     ·simp at h
     ·exact h9 h
     ·exact hne h.2
  ·rw [jO _ _ _ _ (Bool.eq_false_iff.2 hd)]
   have e1:¬ (y6 (c::r)=true/\gD 0 (c::r)<=9999):=by
    rintro ⟨h,_⟩
    unfold y6 at h
    rw [List.all_cons,Bool.and_eq_true] at h
    exact hd h.1
   rw [if_neg e1]
   split<;>rfl
theorem dig_of (k:Nat)(h:k<10):(UInt8.ofNat (48+k)).toNat=48+k:=by
 rw [UInt8.toNat_ofNat'];omega
theorem pI (l r:YL)(n:Nat):gD n (l++r)=gD (gD n l) r:=by unfold gD;rw [List.foldl_append]
theorem wR (l r:YL):y6 (l++r)=(y6 l && y6 r):=by unfold y6;rw [List.all_append]
theorem digB_of (k:Nat)(h:k<10):yH (UInt8.ofNat (48+k)).toNat=true:=by
 rw [dig_of k h];unfold yH;simp;omega
theorem dec_fold (u:Nat):y6 (Lib.decDigits u)=true/\gD 0 (Lib.decDigits u)=u:=by
 induction u using Nat.strongRecOn with
 |_ u ih=>
  rw [Lib.decDigits]
  by_cases h:u<10
  ·rw [dif_pos h]
   refine ⟨by unfold y6;rw [List.all_cons,digB_of u h];rfl, ?_⟩
   show 0*10+((UInt8.ofNat (48+u)).toNat-48)=u
   rw [dig_of u h];omega
  ·rw [dif_neg h]
   obtain ⟨i1,i2⟩:=ih (u/10) Om
   refine ⟨by rw [wR,i1];unfold y6;rw [List.all_cons,digB_of _ Om];rfl, ?_⟩
   rw [pI,i2]
   show u/10*10+((UInt8.ofNat (48+u % 10)).toNat-48)=u
   rw [dig_of _ Om];omega
end
section
def jR (c:UInt8):Bool:=kM c.toNat||yH c.toNat||decide ((c.toNat:Int)=45)
def kK (t:YL):Bool:=decide (1<=t.length/\t.length<=8) && t.all jR
def yY (t:YL):Bool:= !t.isEmpty && y6 t
def gG (t:YL):Bool:=(yO 0 true t).isSome
def pcs (s:YL):List YL:=zJ 46 [] s
def qY (s:YL):Bool:=s.isEmpty||(decide ((pcs s).length<=4) && (pcs s).all kK)
def mQ (t:YL):Bool:= !yY t||gG t
def d9 (s:YL):Bool:=qY s && (s.isEmpty||(pcs s).all mQ)
def zA (b:UInt8):YL->YL×YL×Bool
 | []=>([],[],false)
 |c::r=>if c=b then ([],r,true) else ((c::(zA b r).1),(zA b r).2.1,(zA b r).2.2)
theorem tK (b:UInt8)(l:YL):Lib.cut l [b]=zA b l:=by
 induction l with
 |nil=>rfl
 |cons c r ih=>
  have hge:=Lib.index_ge r [b]
  unfold Lib.cut at ih ⊢
  unfold zA
  rw [Lib.index]
  by_cases h:c=b
  ·subst h;simp
  ·have e1:([b].isPrefixOf (c::r))=false:=by simp [List.isPrefixOf];exact λe=>h e.symm
   rw [e1,if_neg h,←ih]
   by_cases hm:Lib.index r [b]= -1
   ·rw [if_neg (by simp:¬ (false=true))];simp [hm]
   ·have e3:(if (Lib.index r [b]== -1)=true then (-1:Int) else Lib.index r [b]+1)=Lib.index r [b]+1:=if_neg (by simpa using hm)
    rw [if_neg (by simp:¬ (false=true)),e3,if_pos Om,if_pos Om]
    have e2:(Lib.index r [b]+1).toNat=(Lib.index r [b]).toNat+1:=by omega
    simp only [e2,List.take_succ_cons,List.length_cons,List.length_nil,Prod.mk.injEq,and_true,true_and]
    rw [show (Lib.index r [b]).toNat+1+(0+1)=((Lib.index r [b]).toNat+(0+1))+1 from by omega,List.drop_succ_cons]
theorem cutAt_le (b:UInt8)(l:YL):(zA b l).1.length+(zA b l).2.1.length<=l.length:=by
 induction l with
 |nil=>simp [zA]
 |cons c r ih=>unfold zA;split<;>simp<;>omega
theorem qP (b:UInt8)(l:YL):∀ acc,zJ b acc l=(acc++(zA b l).1)::(if (zA b l).2.2 then zJ b [] (zA b l).2.1 else []):=by
 induction l with
 |nil=>intro acc;simp [zJ,zA]
 |cons c r ih=>
  intro acc
  rw [show zJ b acc (c::r)=if c=b then acc::zJ b [] r else zJ b (acc++[c]) r from rfl,show zA b (c::r)=if c=b then ([],r,true) else ((c::(zA b r).1),(zA b r).2.1,(zA b r).2.2) from rfl]
  by_cases h:c=b
  ·rw [if_pos h,if_pos h];simp
  ·rw [if_neg h,if_neg h,ih];simp
theorem cutAt_back (b:UInt8)(l:YL):l=(zA b l).1++(if (zA b l).2.2 then b::(zA b l).2.1 else []):=by
 induction l with
 |nil=>simp [zA]
 |cons c r ih=>
  unfold zA
  by_cases h:c=b
  ·simp [h]
  ·rw [if_neg h];simp only [List.cons_append,←ih]
theorem cutAt_miss (b:UInt8)(x:YL)(h:b∉x):zA b x=(x,[],false):=by
 induction x with
 |nil=>simp [zA]
 |cons c r ih=>
  simp at h
  rw [zA,if_neg (λe=>h.1 e.symm),ih h.2]
def gN:Nat->YL->List YL×Bool
  |0,_=>([],false)
  |n+1,s=>
    if kK (zA 46 s).1 then
      (if (zA 46 s).2.2 then ((zA 46 s).1::(gN n (zA 46 s).2.1).1,(gN n (zA 46 s).2.1).2)
       else ([(zA 46 s).1],true))
    else ([],false)
theorem cutGo_ok (n:Nat):∀ s,(gN n s).2=(decide ((pcs s).length<=n) && (pcs s).all kK):=by
 induction n with
 |zero=>
  intro s
  have:=splitL_ne 46 s []
  have h:(pcs s).length≠0:=by unfold pcs;simpa using this
  unfold gN
  simp [Nat.le_zero_eq,List.length_eq_zero_iff] at h ⊢
  intro e;exact absurd e h
 |succ n ih=>
  intro s
  have e:=qP 46 s []
  rw [List.nil_append] at e
  unfold gN
  rw [show pcs s=_ from e]
  by_cases h:kK (zA 46 s).1=true
  ·rw [if_pos h]
   by_cases h2:(zA 46 s).2.2=true
   ·rw [if_pos h2,if_pos h2]
    show (gN n (zA 46 s).2.1).2=_
    rw [ih];unfold pcs;simp [h]
   ·rw [if_neg h2,if_neg h2]
    simp [h]
  ·rw [if_neg h];simp [h]
theorem cutGo_all (n:Nat):∀ s,(gN n s).2=true->(gN n s).1=pcs s:=by
 induction n with
 |zero=>intro s h;cases h
 |succ n ih=>
  intro s
  have e:=qP 46 s []
  rw [List.nil_append] at e
  unfold gN
  rw [show pcs s=_ from e]
  by_cases h:kK (zA 46 s).1=true
  ·rw [if_pos h]
   by_cases h2:(zA 46 s).2.2=true
   ·rw [if_pos h2,if_pos h2]
    intro h3
    show _::_=_
    rw [ih _ h3];rfl
   ·rw [if_neg h2,if_neg h2];intro _;rfl
  ·rw [if_neg h];intro h3;cases h3
theorem cutGo_len (n:Nat):∀ s,(gN n s).1.length<=n:=by
 induction n with
 |zero=>intro s;simp [gN]
 |succ n ih=>
  intro s
  unfold gN
  split
  ·split
   ·have:=ih (zA 46 s).2.1;simp;exact this
   ·simp
  ·simp
theorem cutGo_le (n:Nat):∀ s,∀ x∈(gN n s).1,kK x=true:=by
 induction n with
 |zero=>intro s x h;simp [gN] at h
 |succ n ih=>
  intro s x hx
  unfold gN at hx
  split at hx
  ·rename_i h
   split at hx
   ·rcases List.mem_cons.1 hx with rfl|hx
    ·exact h
    ·exact ih _ x hx
   ·simp at hx;rw [hx];exact h
  ·simp at hx
def tg (l:List YL)(i:Nat):YL:=(l[i]?).getD []
def lst (s:YL):List YL×Bool:=if s.isEmpty then ([],true) else gN 4 s
theorem lst_ok (s:YL):(lst s).2=qY s:=by
 unfold lst qY
 by_cases h:s.isEmpty=true
 ·rw [if_pos h,h];rfl
 ·rw [if_neg h,Bool.eq_false_iff.2 h,Bool.false_or];exact cutGo_ok 4 s
theorem lst_all (s:YL)(h:qY s=true):(lst s).1=if s.isEmpty then [] else pcs s:=by
 rw [←lst_ok] at h
 unfold lst at h ⊢
 split
 ·rfl
 ·rename_i h2;rw [if_neg h2] at h;exact cutGo_all 4 s h
theorem lst_len (s:YL):(lst s).1.length<=4:=by
 unfold lst;split
 ·simp
 ·exact cutGo_len 4 s
theorem lst_tag (s:YL):∀ x∈(lst s).1,kK x=true:=by
 unfold lst;split
 ·intro x h;cases h
 ·exact cutGo_le 4 s
theorem tagOk_len {t:YL}(h:kK t=true):1<=t.length/\t.length<=8:=by
 unfold kK at h;simp at h;exact h.1
theorem tg_len (s:YL)(i:Nat):(tg (lst s).1 i).length<=8:=by
 unfold tg
 cases h:(lst s).1[i]? with
 |none=>simp
 |some x=>exact (tagOk_len (lst_tag s x (List.mem_of_getElem? h))).2
theorem tg_all {p:YL->Bool}(hp:p []=true)(l:List YL)(h:l.length<=4):(p (tg l 0) && p (tg l 1) && p (tg l 2) && p (tg l 3))=l.all p:=by
 match l,h with
 | [],_=>simp [tg,hp]
 | [a],_=>simp [tg,hp]
 | [a,b],_=>simp [tg,hp]
 | [a,b,c],_=>simp [tg,hp,Bool.and_assoc]
 | [a,b,c,d],_=>simp [tg,Bool.and_assoc]
theorem preT_nil:mQ []=true:=by decide
theorem preOk_lst (s:YL):d9 s=((lst s).2 && (lst s).1.all mQ):=by
 rw [lst_ok]
 unfold d9
 by_cases h:qY s=true
 ·rw [h,Bool.true_and,Bool.true_and,lst_all s h]
  split
  ·rename_i h2;rw [h2];rfl
  ·rename_i h2;rw [Bool.eq_false_iff.2 h2,Bool.false_or]
 ·rw [Bool.eq_false_iff.2 h];rfl
end
section
structure Ver where
 maj:Int
 min:Int
 pat:Int
 pre:YL
 build:YL
deriving DecidableEq
def zR (n:Int):Bool:=decide (0<=n/\n<=9999)
def Ver.may (v:Ver):Bool:=zR v.maj && zR v.min && zR v.pat && d9 v.pre && qY v.build
def Ver.zero:Ver:=⟨0,0,0,[],[]⟩
def Ver.rel (a b c:Int):Ver:=⟨a,b,c,[],[]⟩
def kD (c:UInt8)(l:YL):YL:=if l.isEmpty then [] else c::l
def p9 (v:Ver):YL:=Lib.itoa v.maj++46::(Lib.itoa v.min++46::Lib.itoa v.pat)
def Ver.text (v:Ver):YL:=p9 v++kD 45 v.pre++kD 43 v.build
def Ver.print (v:Ver):YL:=if v.may then v.text else []
theorem dec_more (n d:Nat)(hn:1<=n)(hd:d<10):Lib.decDigits (n*10+d)=Lib.decDigits n++[UInt8.ofNat (48+d)]:=by
 rw [Lib.decDigits,dif_neg Om,show (n*10+d)/10=n from by omega,show (n*10+d) % 10=d from by omega]
theorem dig_byte {c:UInt8}(h:yH c.toNat=true):c.toNat-48<10/\UInt8.ofNat (48+(c.toNat-48))=c:=by
 unfold yH at h;simp at h
 refine ⟨by omega, ?_⟩
 rw [show 48+(c.toNat-48)=c.toNat from by omega];exact UInt8.ofNat_toNat
theorem numGo_tail (l:YL):∀ n m,1<=n->n<=9999->yO n false l=some m->Lib.decDigits m=Lib.decDigits n++l/\m<=9999:=by
 induction l with
 |nil=>intro n m _ h9 h;simp [yO] at h;subst h;simp [h9]
 |cons c r ih=>
  intro n m hn h9 h
  by_cases hd:yH c.toNat=true
  ·by_cases hb:n*10+(c.toNat-48)<=9999
   ·rw [bD n false c r hd Om hb] at h
    obtain ⟨h1,h2⟩:=dig_byte hd
    obtain ⟨i1,i2⟩:=ih _ m Om hb h
    rw [dec_more n _ hn h1,h2] at i1
    exact ⟨by rw [i1];simp,i2⟩
   ·rw [fK n false c r hb] at h;cases h
  ·rw [jO n false c r (Bool.eq_false_iff.2 hd)] at h;cases h
theorem numGo_back (l:YL)(n:Nat)(h:yO 0 true l=some n):l=Lib.decDigits n/\n<=9999:=by
 cases l with
 |nil=>simp [yO] at h
 |cons c r=>
  by_cases hd:yH c.toNat=true
  ·obtain ⟨h1,h2⟩:=dig_byte hd
   rw [bD 0 true c r hd (by simp) Om,show 0*10+(c.toNat-48)=c.toNat-48 from by omega] at h
   by_cases h0:c.toNat-48=0
   ·rw [h0] at h h2
    cases r with
    |nil=>simp [yO] at h;subst h;rw [←h2,Lib.decDigits,dif_pos Om];simp
    |cons c2 r2=>rw [n5] at h;cases h
   ·obtain ⟨i1,i2⟩:=numGo_tail r _ n Om Om h
    rw [Lib.decDigits_one h1,h2] at i1
    exact ⟨by rw [i1];rfl,i2⟩
  ·rw [jO 0 true c r (Bool.eq_false_iff.2 hd)] at h;cases h
theorem itoa_nat {n:Int}(h:zR n=true):Lib.itoa n=Lib.decDigits n.toNat:=by
 unfold zR at h;simp at h
 unfold Lib.itoa;rw [if_neg Om]
def yZ (l:YL):Int:=((yO 0 true l).getD 0:Nat)
def guess (s:YL):Ver:=
 let r:=(zA 43 s).1
 let q:=(zA 45 r).1
 let x:=zA 46 q
 let y:=zA 46 x.2.1
 ⟨yZ x.1,yZ y.1,yZ y.2.1,(zA 45 r).2.1,(zA 43 s).2.1⟩
def three (l:List YL):Option (Int×Int×Int):=
 match l with
 | [x,y,z]=>if gG x && gG y && gG z then some (yZ x,yZ y,yZ z) else none
 |_=>none
def parseR (s:YL):Option Ver:=
 let b:=zA 43 s
 let p:=zA 45 b.1
 match three (pcs p.1) with
 |none=>none
 |some (x,y,z)=>
  if (p.2.2 && p.2.1.isEmpty)||(b.2.2 && b.2.1.isEmpty) then none
  else if (Ver.mk x y z p.2.1 b.2.1).may then some ⟨x,y,z,p.2.1,b.2.1⟩ else none
def parseI (s:YL):Option Ver:=if (guess s).print=s then some (guess s) else none
theorem bF {v:Ver}(h:v.may=true):zR v.maj=true/\zR v.min=true/\zR v.pat=true:=by
 unfold Ver.may at h;simp only [Bool.and_eq_true] at h
 exact ⟨h.1.1.1.1,h.1.1.1.2,h.1.1.2⟩
theorem print_eq {v:Ver}(h:v.may=true):v.print=v.text:=by unfold Ver.print;rw [if_pos h]
theorem print_bad {v:Ver}(h:v.may=false):v.print=[]:=by unfold Ver.print;rw [if_neg (by simp [h])]
end
section
structure Wt where
 name:YL
 rng:YL
 fs:List YL
 bare:Bool
deriving DecidableEq
structure Nt where
 any:List Wt
 wh:YL
 opt:YL
deriving DecidableEq
structure Bt where
 name:YL
 rng:YL
 wh:YL
deriving DecidableEq
instance:DecidableEq Ft:=λa b=>
 if h:a.name=b.name/\a.of=b.of then isTrue (by cases a;cases b;cases h.1;cases h.2;rfl) else isFalse λe=>h (by rw [e];exact ⟨rfl,rfl⟩)
structure Rt where
 name:YL
 ver:Ver
 needs:List Nt
 bars:List Bt
 fts:List Ft
deriving DecidableEq
def txAny:YL:=[97,110,121,32]
def mJ:YL:=[98,97,114,101]
def dJ:YL:=[102,117,108,108]
def bR:YL:=[119,104,101,110,32]
def txPack:YL:=[112,97,99,107,97,103,101,32]
def txNeed:YL:=[110,101,101,100,10]
def txOpt:YL:=[111,112,116,105,111,110,32]
def txBar:YL:=[98,97,114,32]
def x1:YL:=[102,101,97,116,117,114,101]
def qT (l:List YL):YL:=if l=[] then [45] else zE 44 l
def vX (b:Bool):YL:=if b then mJ else dJ
def x7 (x:Wt):YL:=txAny++x.name++[32]++qT x.fs++[32]++vX x.bare++[32]++x.rng++[10]
def kR (s:YL):YL:=if s=[] then [] else bR++s++[10]
def dU (s:YL):YL:=if s=[] then [] else txOpt++s++[10]
def x8 (n:Nt):YL:=txNeed++n.any.flatMap x7++kR n.wh++dU n.opt
def qB (b:Bt):YL:=txBar++b.name++[32]++b.rng++[10]++kR b.wh
def xM (f:Ft):YL:=zE 32 (x1::f.name::f.of)++[10]
def gB (r:Rt):YL:=txPack++r.name++[32]++r.ver.print++[10]
def yT (r:Rt):YL:=gB r++r.needs.flatMap x8++r.bars.flatMap qB++r.fts.flatMap xM
theorem qF {α:Type}(f:α->YL){l:List α}{i:Nat}(hi:i<l.length):(l.take (i+1)).flatMap f=(l.take i).flatMap f++f l[i]:=by
 rw [List.take_succ_eq_append_getElem hi,List.flatMap_append];simp
theorem jK {α:Type}(f:α->YL){l:List α}(i:Nat):((l.take i).flatMap f).length<=(l.flatMap f).length:=by
 have:l.flatMap f=(l.take i).flatMap f++(l.drop i).flatMap f:=by rw [←List.flatMap_append,List.take_append_drop]
 rw [this,List.length_append];omega
theorem tF {α:Type}(f:α->YL){l:List α}{x:α}(h:x∈l):(f x).length<=(l.flatMap f).length:=by
 obtain ⟨i,hi,rfl⟩:=List.getElem_of_mem h
 have h1:=jK f (l:=l) (i+1)
 rw [qF f hi,List.length_append] at h1;omega
theorem jn_part (b:UInt8):∀ {l:List YL} {x:YL},x∈l->x.length<=(zE b l).length
 | [y],x,h=>by rw [List.mem_singleton.1 h];exact Nat.le_refl _
 |y::z::r,x,h=>by
  rw [zE,List.length_append,List.length_cons]
  rcases List.mem_cons.1 h with rfl|h
  ·omega
  ·have:=jn_part b h;omega
theorem jn_many (b:UInt8):∀ {l:List YL},l.length<=(zE b l).length+1
 | []=>Nat.zero_le _
 | [y]=>by simp
 |y::z::r=>by
  have:=jn_many b (l:=z::r)
  rw [zE]
  simp only [List.length_append,List.length_cons] at this ⊢
  omega
end
section
structure Blk where
 b:Nat
 cs:Array Value
 ty:TypeId
structure Own (M:List Nat)(W w:World)(L:List Blk):Prop where
 os:w.os=W.os
 tape:w.tape=W.tape
 output:w.output=W.output
 size:W.heap.size<=w.heap.size
 drawn:W.drawn<=w.drawn
 kept:∀ k,k<W.heap.size->k∉M->w.heap[k]?=W.heap[k]?
 held:∀ x∈L,w.heap[x.b]?=some (.cells x.cs x.ty)
 base:∀ x∈L,W.heap.size<=x.b\/x.b∈M
 apart:(L.map Blk.b).Nodup
theorem Own.below {W w:World}{L:List Blk}(h:Own [] W w L):YB W w:=⟨h.os,h.tape,h.output,h.size,h.drawn,λk hk=>h.kept k hk (by simp)⟩
theorem Own.start (M:List Nat)(W:World):Own M W W []:=⟨rfl,rfl,rfl,Nat.le_refl _,Nat.le_refl _,λ_ _ _=>rfl,by simp,by simp,by simp⟩
theorem Own.lt {M:List Nat}{W w:World}{L:List Blk}(h:Own M W w L){x:Blk}(hx:x∈L):x.b<w.heap.size:=(Array.getElem?_eq_some_iff.1 (h.held x hx)).1
theorem Own.on {M:List Nat}{W w w':World}{L:List Blk}(h:Own M W w L)(hb:YB w w'):Own M W w' L:=
 ⟨hb.os.trans h.os,hb.tape.trans h.tape,hb.output.trans h.output,Nat.le_trans h.size hb.size,Nat.le_trans h.drawn hb.drawn,λk hk hm=>(hb.block k (Nat.lt_of_lt_of_le hk h.size)).trans (h.kept k hk hm),λx hx=>(hb.block x.b (h.lt hx)).trans (h.held x hx),h.base,h.apart⟩
theorem Own.drew {M:List Nat}{W w:World}{L:List Blk}(h:Own M W w L):Own M W {w with drawn:=w.drawn+1} L:=⟨h.os,h.tape,h.output,h.size,Nat.le_succ_of_le h.drawn,h.kept,h.held,h.base,h.apart⟩
theorem Own.get {M:List Nat}{W w:World}{L:List Blk}(h:Own M W w L){i:Nat}{x:Blk}(hi:L[i]?=some x):w.heap[x.b]?=some (.cells x.cs x.ty):=h.held x (List.mem_of_getElem? hi)
theorem Own.alloc {M:List Nat}{W w:World}{L:List Blk}(h:Own M W w L)(cs:Array Value)(T:TypeId):Own M W (w.alloc (.cells cs T)) (⟨w.heap.size,cs,T⟩::L):=by
 refine ⟨h.os,h.tape,h.output,Nat.le_trans h.size (by simp),h.drawn,λk hk hm=> ?_,λx hx=> ?_,λx hx=> ?_, ?_⟩
 ·rw [Below.heap_alloc w _ k (Nat.lt_of_lt_of_le hk h.size)];exact h.kept k hk hm
 ·rcases List.mem_cons.1 hx with rfl|hx
  ·exact heap_alloc_new w _
  ·exact (Below.heap_alloc w _ x.b (h.lt hx)).trans (h.held x hx)
 ·rcases List.mem_cons.1 hx with rfl|hx
  ·exact .inl h.size
  ·exact h.base x hx
 ·rw [List.map_cons,List.nodup_cons]
  refine ⟨λhm=> ?_,h.apart⟩
  obtain ⟨y,hy,he⟩:=List.mem_map.1 hm
  have:=h.lt hy
  rw [he] at this
  exact absurd this (Nat.lt_irrefl _)
theorem map_set_b (L:List Blk)(i:Nat)(x y:Blk)(hi:L[i]?=some x)(hb:y.b=x.b):(L.set i y).map Blk.b=L.map Blk.b:=by
 rw [List.map_set,hb]
 have:(L.map Blk.b)[i]?=some x.b:=by rw [List.getElem?_map,hi];rfl
 obtain ⟨hlt,he⟩:=List.getElem?_eq_some_iff.1 this
 rw [←he,List.set_getElem_self]
theorem nodup_at {α:Type}{l:List α}(h:l.Nodup){i j:Nat}{x:α}(hi:l[i]?=some x)(hj:l[j]?=some x):i=j:=by
 obtain ⟨a,ha⟩:=List.getElem?_eq_some_iff.1 hi
 obtain ⟨b,hb⟩:=List.getElem?_eq_some_iff.1 hj
 exact (List.getElem_inj h).1 (ha.trans hb.symm)
theorem Own.put {M:List Nat}{W w:World}{L:List Blk}(h:Own M W w L){i:Nat}{x:Blk}(hi:L[i]?=some x)(cs:Array Value):Own M W (w.setRow x.b cs) (L.set i ⟨x.b,cs,x.ty⟩):=by
 have hx:=List.mem_of_getElem? hi
 have hm:=map_set_b L i x ⟨x.b,cs,x.ty⟩ hi rfl
 have hsz:(w.setRow x.b cs).heap.size=w.heap.size:=size_setRow w x.b cs
 refine ⟨h.os,h.tape,h.output,by rw [hsz];exact h.size,h.drawn,λk hk hkm=> ?_,λy hy=> ?_,λy hy=> ?_,by rw [hm];exact h.apart⟩
 ·rw [setRow_other w x.b k cs (λe=>by
   rcases h.base x hx with h1|h1
   ·omega
   ·exact hkm (e▸h1))]
  exact h.kept k hk hkm
 ·obtain ⟨j,hj⟩:=List.mem_iff_getElem?.1 hy
  rw [List.getElem?_set] at hj
  split at hj
  ·rename_i hij
   split at hj
   ·obtain rfl:=Option.some.inj hj
    exact setRow_heap w x.b x.cs cs x.ty _ (h.held x hx)
   ·cases hj
  ·rename_i hij
   have hyL:=List.mem_of_getElem? hj
   have hne:y.b≠x.b:=λe=>hij (by
    have h1:(L.map Blk.b)[i]?=some x.b:=by rw [List.getElem?_map,hi];rfl
    have h2:(L.map Blk.b)[j]?=some x.b:=by rw [List.getElem?_map,hj,←e];rfl
    exact nodup_at h.apart h1 h2)
   rw [setRow_other w x.b y.b cs hne]
   exact h.held y hyL
 ·have:y.b∈(L.set i ⟨x.b,cs,x.ty⟩).map Blk.b:=List.mem_map.2 ⟨y,hy,rfl⟩
  rw [hm] at this
  obtain ⟨z,hz,he⟩:=List.mem_map.1 this
  rw [←he];exact h.base z hz
def upd (f:Nat->Value):Option Tmp->Value->Nat->Value
 |some d,v=>λt=>bif Nat.beq t d then v else f t
 |none,_=>f
def Fr (n:Nat)(f:Nat->Value):Act:={tmps:=Array.ofFn (n:=n) λi=>f i.val,defers:=[]}
def ev (n:Nat)(f:Nat->Value):Operand->Value
 | .tmp t=>bif Nat.blt t n then f t else undef
 | .const v=>v
 | .global g=> .pointer (some ⟨g,0,none⟩)
 | .func g=> .func (.func g) #[] #[]
theorem blt_t {t n:Nat}(h:t<n):Nat.blt t n=true:=Nat.ble_eq_true_of_le h
theorem blt_f {t n:Nat}(h:¬ t<n):Nat.blt t n=false:=Bool.eq_false_iff.2 λe=>h (Nat.le_of_ble_eq_true e)
theorem g9 (n:Nat)(f:Nat->Value)(t:Nat):(Array.ofFn (n:=n) λi=>f i.val).getD t undef=bif Nat.blt t n then f t else undef:=by
 rw [Array.getD_eq_getD_getElem?,Array.getElem?_ofFn]
 by_cases h:t<n
 ·rw [dif_pos h,blt_t h];rfl
 ·rw [dif_neg h,blt_f h];rfl
theorem gU (n:Nat)(f:Nat->Value):(Fr n f).eval=ev n f:=by
 funext x
 cases x with
 |tmp t=>exact g9 n f t
 |_=>rfl
theorem jB (n:Nat)(f:Nat->Value)(d:Option Tmp)(v:Value):(Fr n f).put d v=Fr n (upd f d v):=by
  cases d with
  |none=>rfl
  |some d=>
    show ({tmps:=(Array.ofFn (n:=n) λi=>f i.val).setIfInBounds d v,defers:=[]}:Act)={tmps:=Array.ofFn (n:=n) λi=>upd f (some d) v i.val,defers:=[]}
    have key:(Array.ofFn (n:=n) λi=>f i.val).setIfInBounds d v=Array.ofFn (n:=n) λi=>upd f (some d) v i.val:=by
     apply Array.ext_getElem?
     intro i
     rw [Array.getElem?_setIfInBounds,Array.getElem?_ofFn,Array.getElem?_ofFn]
     by_cases h:i<n
     · rw [dif_pos h,dif_pos h]
       by_cases hd:d=i
       · subst hd
         simp [upd,h]
       · have:Nat.beq i d=false:=by rw [Bool.eq_false_iff];intro e;exact hd (Nat.eq_of_beq_eq_true e).symm
         rw [if_neg hd];simp [upd,this]
     · rw [dif_neg h,dif_neg h]
       by_cases hd:d=i
       · subst hd;simp [h]
       · rw [if_neg hd]
    rw [key]
def asB:Value->Option Bool
 | .bool b=>some b
 |_=>none
def yl (ops:Array Oper)(n:Nat)(f:Nat->Value)(j:Nat):Option Bool:=
 match (ops[j]?).bind (·.dst) with
 |some d=>bif Nat.blt d n then asB (f d) else none
 |none=>none
theorem Fr_yielded (ops:Array Oper)(n:Nat)(f:Nat->Value):yielded ops (Fr n f).tmps=yl ops n f:=by
 funext j
 unfold yielded yl
 cases h:(ops[j]?).bind (·.dst) with
 |none=>rfl
 |some d=>
  show (match (Array.ofFn (n:=n) λi=>f i.val)[d]? with|some (.bool b)=>some b|_=>none)=_
  rw [Array.getElem?_ofFn]
  by_cases hd:d<n
  ·rw [dif_pos hd]
   dsimp only
   rw [blt_t hd]
   cases f d<;>rfl
  ·rw [dif_neg hd]
   dsimp only
   rw [blt_f hd];rfl
def zT (ops:Array Oper)(n:Nat)(f:Nat->Value)(o:Oper):Bool:=Region.wanted o (yl ops n f)
section
variable {M:List Nat}{P:Program}{n:Nat}{ops:Array Oper}{W:World}{Q:Exit->Act->World->Prop}{rest:List Oper}{o:Oper}{L:List Blk}{f:Nat->Value}
structure Seg (M:List Nat)(P:Program)(n:Nat)(ops:Array Oper)(W:World)(Q:Exit->Act->World->Prop)(rest:List Oper)(L:List Blk)(f:Nat->Value):Prop where
 go:∀ w,Own M W w L->wpList P ops Q rest (Fr n f) w
structure Fin (M:List Nat)(n:Nat)(W:World)(Q:Exit->Act->World->Prop)(e:Exit)(L:List Blk)(f:Nat->Value):Prop where
 go:∀ w,Own M W w L->Q e (Fr n f) w
structure Ok (M:List Nat)(P:Program)(n:Nat)(W:World)(Q:Exit->Act->World->Prop)(c:Code)(L:List Blk)(f:Nat->Value):Prop where
 go:∀ w,Own M W w L->c.wp P Q (Fr n f) w
structure v7 (M:List Nat)(P:Program)(n:Nat)(ops:Array Oper)(W:World)(Qe:List Blk->(Nat->Value)->Prop)(rest:List Oper)(L:List Blk)(f:Nat->Value):Prop where
 go:wpQuiet P ops (λw=>Own M W w L) (λa=>∃ f',a=Fr n f'/\Qe L f') rest (Fr n f)
theorem jF (ops:Array Oper)(n:Nat)(f:Nat->Value)(o:Oper):Region.wanted o (yielded ops (Fr n f).tmps)=zT ops n f o:=by rw [Fr_yielded];rfl
theorem s_nil (h:Fin M n W Q .normal L f):Seg M P n ops W Q [] L f:=⟨h.go⟩
theorem s_skip (hw:zT ops n f o=false)(h:Seg M P n ops W Q rest L (upd f o.dst undef)):Seg M P n ops W Q (o::rest) L f:=⟨λw hO=>by
 have:=h.go w hO
 unfold wpList
 rw [jF,hw,if_neg Bool.false_ne_true,jB]
 exact this⟩
theorem Zk (h:Seg M P n ops W Q rest L (upd f o.dst undef))(hw:zT ops n f o=false:=by kernel_rfl):Seg M P n ops W Q (o::rest) L f:=s_skip hw h
theorem kW (hw:zT ops n f o=true)(h:∀ w,Own M W w L->o.wp P (Fr n f) w (wpList P ops Q rest) Q):Seg M P n ops W Q (o::rest) L f:=⟨λw hO=>by
 unfold wpList
 rw [jF,hw,if_pos rfl]
 exact .inl (h w hO)⟩
theorem xB {K:Act->World->Prop}{w w':World}(v:Value)(hr:(execOp (ev n f) o).run P w= .ok (.value v) w')(h:K (Fr n (upd f o.dst v)) w'):o.wp P (Fr n f) w K Q:=by
 unfold Oper.wp
 rw [gU,hr]
 show K ((Fr n f).put o.dst v) w'
 rw [jB];exact h
theorem kS (v:Value)(hw:zT ops n f o=true)(hr:∀ w,(execOp (ev n f) o).run P w= .ok (.value v) w)(h:Seg M P n ops W Q rest L (upd f o.dst v)):Seg M P n ops W Q (o::rest) L f:=
 kW hw λw hO=>xB v (hr w) (h.go w hO)
theorem Zv (v:Value)(h:Seg M P n ops W Q rest L (upd f o.dst v))(hw:zT ops n f o=true:=by kernel_rfl)(hr:∀ w,(execOp (ev n f) o).run P w= .ok (.value v) w:=by intro _;kernel_rfl):Seg M P n ops W Q (o::rest) L f:=kS v hw hr h
theorem s_read (v:Value)(hw:zT ops n f o=true)(hr:∀ w,Own M W w L->(execOp (ev n f) o).run P w= .ok (.value v) w)(h:Seg M P n ops W Q rest L (upd f o.dst v)):Seg M P n ops W Q (o::rest) L f:=
 kW hw λw hO=>xB v (hr w hO) (h.go w hO)
theorem wU {K:Act->World->Prop}{w:World}{k:FuncId}{args:Array Value}(he:(execOp (ev n f) o).run P w= .ok (.enter k args) w)
  (hc:Calls P k args w λe w'=>∃ v,e= .returned v/\K (Fr n (upd f o.dst v)) w'):o.wp P (Fr n f) w K Q:=by
 unfold Oper.wp
 rw [gU,he]
 show Calls P k args w _
 refine hc.mono λe w' ⟨v,e1,e2⟩=> ?_
 subst e1
 show K ((Fr n f).put o.dst v) w'
 rw [jB];exact e2
theorem s_call {k:FuncId}{args:Array Value}(v:Value)(hw:zT ops n f o=true)(he:∀ w,(execOp (ev n f) o).run P w= .ok (.enter k args) w)
  (hc:∀ w,Own M W w L->Calls P k args w (YR v w)) (h:Seg M P n ops W Q rest L (upd f o.dst v)):Seg M P n ops W Q (o::rest) L f:=
 kW hw λw hO=>wU (he w) ((hc w hO).mono λe w' ⟨e1,e2⟩=>⟨v,e1,h.go w' (hO.on e2)⟩)
theorem Zc {k:FuncId}{args:Array Value}(v:Value)(hc:∀ w,Own M W w L->Calls P k args w (YR v w))(h:Seg M P n ops W Q rest L (upd f o.dst v))(hw:zT ops n f o=true:=by kernel_rfl)(he:∀ w,(execOp (ev n f) o).run P w= .ok (.enter k args) w:=by intro _;kernel_rfl):Seg M P n ops W Q (o::rest) L f:=s_call v hw he hc h
theorem s_callx {k:FuncId}{args:Array Value}(R:Value->List Blk->Prop)(hw:zT ops n f o=true)(he:∀ w,(execOp (ev n f) o).run P w= .ok (.enter k args) w)
  (hc:∀ w,Own M W w L->Calls P k args w λe w'=>∃ v L',e= .returned v/\R v L'/\Own M W w' L') (h:∀ v L',R v L'->Seg M P n ops W Q rest L' (upd f o.dst v)):Seg M P n ops W Q (o::rest) L f:=
 kW hw λw hO=>wU (he w) ((hc w hO).mono λe w' ⟨v,L',e1,e2,e3⟩=>⟨v,e1,(h v L' e2).go w' e3⟩)
def aggB:TypeDesc->Bool
 | .struct _| .array _ _=>true
 |_=>false
def yQ (P:Program)(ty:TypeId)(cs:Array Value)(off:Nat):Option Value:=
 match P.underlying ty,P.info? ty with
 |some (.struct _),some i=>if off+i.size<=cs.size then some (.agg (cs.toList.drop off|>.take i.size).toArray) else none
 |some (.array _ _),some i=>if off+i.size<=cs.size then some (.agg (cs.toList.drop off|>.take i.size).toArray) else none
 |some _,some _=>cs[off]?
 |_,_=>none
theorem yI (b o j:Nat):(⟨b,o,none⟩:Addr).add j=⟨b,o+j,none⟩:=by unfold Addr.add;split<;>simp_all
theorem run_agg_at {ty:TypeId}{d:TypeDesc}{i:TypeInfo}{cs:Array Value}{w:World}{b off:Nat}{T:TypeId}(hu:P.underlying ty=some d)(hd:aggB d=true)(hi:P.info? ty=some i)
  (hg:w.heap[b]?=some (.cells cs T)) (hle:off+i.size<=cs.size):(loadVar ty ⟨b,off,none⟩).run P w= .ok (.agg (cs.toList.drop off|>.take i.size).toArray) w:=by
 have hlen:((cs.toList.drop off).take i.size).length=i.size:=by simp;omega
 have hl:=run_loadCells_list (P:=P) w ⟨b,off,none⟩ ((cs.toList.drop off).take i.size) (λj v hv=>by
  rw [yI,cell_of_row w b (off+j) cs T _ hg]
  have hj:j<i.size:=by have:=(List.getElem?_eq_some_iff.1 hv).1;rw [hlen] at this;exact this
  rw [List.getElem?_take,if_pos hj,List.getElem?_drop] at hv
  simpa using hv)
 rw [hlen] at hl
 have hagg:(isAgg ty).run P w= .ok true w:=by
  unfold isAgg
  rw [Sem.run_bind,run_underlying hu w]
  cases d<;>simp_all [aggB]
 simp [loadVar,Sem.run_bind,hagg,sizeOf,typeInfo,hi,hl]
theorem y7 {ty:TypeId}{cs:Array Value}{off:Nat}{v:Value}(h:yQ P ty cs off=some v){w:World}{b:Nat}{T:TypeId}(hg:w.heap[b]?=some (.cells cs T)):
  (loadVar ty ⟨b,off,none⟩).run P w= .ok v w:=by
 unfold yQ at h
 cases hu:P.underlying ty with
 |none=>rw [hu] at h;simp at h
 |some d=>
  cases hi:P.info? ty with
  |none=>rw [hu,hi] at h;cases d<;>simp at h
  |some i=>
   rw [hu,hi] at h
   by_cases hd:aggB d=true
   ·have h2:(if off+i.size<=cs.size then some (Value.agg (cs.toList.drop off|>.take i.size).toArray) else none)=some v:=by
     cases d<;>first|exact h|(simp [aggB] at hd)
    split at h2
    ·rename_i hle
     obtain rfl:=Option.some.inj h2
     exact run_agg_at hu hd hi hg hle
    ·cases h2
   ·have h2:cs[off]?=some v:=by cases d<;>first|exact h|(simp [aggB] at hd)
    have hagg:(isAgg ty).run P w= .ok false w:=by
     unfold isAgg
     rw [Sem.run_bind,run_underlying hu w]
     cases d<;>simp_all [aggB]
    have hc:w.cell? ⟨b,off,none⟩=some v:=(cell_of_row w b off cs T _ hg).trans h2
    simp [loadVar,Sem.run_bind,hagg,run_load,hc,Result.andThen]
theorem xD {ty:TypeId}{x:Operand}{a:Addr}{v:Value}{w:World}(ho:o.op= .load ty x)(hx:ev n f x= .pointer (some a))(hl:(loadVar ty a).run P w= .ok v w):(execOp (ev n f) o).run P w= .ok (.value v) w:=by
 unfold execOp
 simp only [ho,hx,Instr.loadAt,Instr.sureAddr,Sem.run_bind,Sem.run_pure,Result.andThen_ok,hl]
theorem s_load (i:Nat)(x:Blk){ty:TypeId}{p:Operand}{off:Nat}(v:Value)(hw:zT ops n f o=true)(ho:o.op= .load ty p)(hL:L[i]?=some x)(hp:ev n f p= .pointer (some ⟨x.b,off,none⟩))(hv:yQ P ty x.cs off=some v)
  (h:Seg M P n ops W Q rest L (upd f o.dst v)):Seg M P n ops W Q (o::rest) L f:=
 s_read v hw (λ_ hO=>xD ho hp (y7 hv (hO.get hL))) h
theorem Zl (i:Nat)(x:Blk){ty:TypeId}{p:Operand}{off:Nat}(v:Value)(h:Seg M P n ops W Q rest L (upd f o.dst v))(ho:o.op= .load ty p:=by rfl)(hw:zT ops n f o=true:=by kernel_rfl)(hL:L[i]?=some x:=by rfl)(hp:ev n f p= .pointer (some ⟨x.b,off,none⟩):=by kernel_rfl)(hv:yQ P ty x.cs off=some v:=by kernel_rfl):Seg M P n ops W Q (o::rest) L f:=s_load i x v hw ho hL hp hv h
theorem s_old {ty:TypeId}{p:Operand}{a:Addr}(v:Value)(hw:zT ops n f o=true)(ho:o.op= .load ty p)(hp:ev n f p= .pointer (some a))(hv:∀ w,Own M W w L->(loadVar ty a).run P w= .ok v w)
  (h:Seg M P n ops W Q rest L (upd f o.dst v)):Seg M P n ops W Q (o::rest) L f:=
 s_read v hw (λw hO=>xD ho hp (hv w hO)) h
theorem Zo {ty:TypeId}{p:Operand}{a:Addr}(v:Value)(hv:∀ w,Own M W w L->(loadVar ty a).run P w= .ok v w)(h:Seg M P n ops W Q rest L (upd f o.dst v))(ho:o.op= .load ty p:=by rfl)(hw:zT ops n f o=true:=by kernel_rfl)(hp:ev n f p= .pointer (some a):=by kernel_rfl):Seg M P n ops W Q (o::rest) L f:=s_old v hw ho hp hv h
theorem s_alloc {T:TypeId}{i:TypeInfo}(z:Value)(hw:zT ops n f o=true)(ho:o.op= .alloc T)(hi:P.info? T=some i)(hz:i.zero=some z)
  (h:∀ b,Seg M P n ops W Q rest (⟨b,z.cells,T⟩::L) (upd f o.dst (.pointer (some ⟨b,0,none⟩)))):Seg M P n ops W Q (o::rest) L f:=
 kW hw λw hO=>by
  refine xB (Zp w.heap.size 0) (w':=w.alloc (.cells z.cells T)) ?_ ((h w.heap.size).go _ (hO.alloc _ _))
  unfold execOp
  simp [ho,Instr.alloc,zeroValue,typeInfo,hi,hz,newVar,newRow,Sem.run_bind]
theorem s_box {T:TypeId}{x:Operand}(v:Value)(hw:zT ops n f o=true)(ho:o.op= .box T x)(hx:ev n f x=v)
  (h:∀ b,Seg M P n ops W Q rest (⟨b,v.cells,T⟩::L) (upd f o.dst (.pointer (some ⟨b,0,none⟩)))):Seg M P n ops W Q (o::rest) L f:=
 kW hw λw hO=>by
  refine xB (Zp w.heap.size 0) (w':=w.alloc (.cells v.cells T)) ?_ ((h w.heap.size).go _ (hO.alloc _ _))
  unfold execOp
  simp [ho,hx,Instr.box,newVar,newRow,Sem.run_bind]
theorem Zb {T:TypeId}{x:Operand}(v:Value)(h:∀ b,Seg M P n ops W Q rest (⟨b,v.cells,T⟩::L) (upd f o.dst (.pointer (some ⟨b,0,none⟩))))(ho:o.op= .box T x:=by rfl)(hw:zT ops n f o=true:=by kernel_rfl)(hx:ev n f x=v:=by kernel_rfl):Seg M P n ops W Q (o::rest) L f:=s_box v hw ho hx h
def yR (cs:Array Value)(off:Nat)(vs:Array Value):Array Value:=(cs.toList.take off++vs.toList++cs.toList.drop (off+vs.size)).toArray
theorem s_store (i:Nat)(x:Blk){T:TypeId}{t:TypeInfo}{p q:Operand}{off:Nat}(v:Value)(hw:zT ops n f o=true)(ho:o.op= .store T p q)(hd:o.dst=none)(hL:L[i]?=some x)
  (hp:ev n f p= .pointer (some ⟨x.b,off,none⟩)) (hq:ev n f q=v) (hi:P.info? T=some t) (hs:v.cells.size=t.size) (hle:off+t.size<=x.cs.size) (h1:∀ u∈v.cells.toList,u.oneCell'=true)
  (h:Seg M P n ops W Q rest (L.set i ⟨x.b,yR x.cs off v.cells,x.ty⟩) f):Seg M P n ops W Q (o::rest) L f:=
 kW hw λw hO=>by
  have hst:=run_storeCells_at (P:=P) x.b off x.ty v.cells.toList 0 x.cs w (hO.get hL) (by simp;omega) h1
  unfold Oper.wp
  rw [gU]
  have hr:(execOp (ev n f) o).run P w= .ok .skip (w.setRow x.b (yR x.cs off v.cells)):=by
   unfold execOp
   simp only [ho,hp,hq,Instr.storeAt,Instr.sureAddr,Sem.run_bind,Sem.run_pure,Result.andThen_ok,storeVar,sizeOf,typeInfo,hi,hs,run_program]
   simp only [ne_eq,not_true_eq_false,if_false]
   have:(storeCells ⟨x.b,off,none⟩ v.cells.toList).run P w= .ok () (w.setRow x.b (yR x.cs off v.cells)):=by
    rw [hst];unfold yR;simp
   simp [this]
  rw [hr]
  show wpList P ops Q rest ((Fr n f).put o.dst undef) _
  rw [jB,hd]
  exact h.go _ (hO.put hL _)
theorem q_nil {Qe:List Blk->(Nat->Value)->Prop}(h:Qe L f):v7 M P n ops W Qe [] L f:=⟨⟨f,rfl,h⟩⟩
theorem q_skip {Qe:List Blk->(Nat->Value)->Prop}(hw:zT ops n f o=false)(h:v7 M P n ops W Qe rest L (upd f o.dst undef)):v7 M P n ops W Qe (o::rest) L f:=by
 refine ⟨?_⟩
 replace h:=h.go
 refine BigFrame.wpQuiet_skip (by rw [jF];exact hw) ?_
 rw [jB];exact h
theorem Zj {Qe:List Blk->(Nat->Value)->Prop}(h:v7 M P n ops W Qe rest L (upd f o.dst undef))(hw:zT ops n f o=false:=by kernel_rfl):v7 M P n ops W Qe (o::rest) L f:=q_skip hw h
theorem q_read {Qe:List Blk->(Nat->Value)->Prop}(v:Value)(hw:zT ops n f o=true)(hr:∀ w,Own M W w L->(execOp (ev n f) o).run P w= .ok (.value v) w)(h:v7 M P n ops W Qe rest L (upd f o.dst v)):v7 M P n ops W Qe (o::rest) L f:=by
 refine ⟨?_⟩
 replace h:=h.go
 refine BigFrame.wpQuiet_want (by rw [jF];exact hw) λK hK=>⟨v,λw hO=> ?_,hK _ ?_⟩
 ·unfold Oper.quietAt
  rw [gU,hr w hO]
  exact ⟨rfl,rfl⟩
 ·rw [jB];exact h
theorem nW {Qe:List Blk->(Nat->Value)->Prop}(v:Value)(hw:zT ops n f o=true)(hr:∀ w,(execOp (ev n f) o).run P w= .ok (.value v) w)(h:v7 M P n ops W Qe rest L (upd f o.dst v)):v7 M P n ops W Qe (o::rest) L f:=
 q_read v hw (λw _=>hr w) h
theorem Zw {Qe:List Blk->(Nat->Value)->Prop}(v:Value)(h:v7 M P n ops W Qe rest L (upd f o.dst v))(hw:zT ops n f o=true:=by kernel_rfl)(hr:∀ w,(execOp (ev n f) o).run P w= .ok (.value v) w:=by intro _;kernel_rfl):v7 M P n ops W Qe (o::rest) L f:=nW v hw hr h
theorem q_call {Qe:List Blk->(Nat->Value)->Prop}{k:FuncId}{args:Array Value}(v:Value)(hw:zT ops n f o=true)(he:∀ w,(execOp (ev n f) o).run P w= .ok (.enter k args) w)
  (hc:∀ w,Own M W w L->Calls P k args w (YR v w)) (h:v7 M P n ops W Qe rest L (upd f o.dst v)):v7 M P n ops W Qe (o::rest) L f:=by
 refine ⟨?_⟩
 replace h:=h.go
 refine BigFrame.wpQuiet_want (by rw [jF];exact hw) λK hK=>⟨v,λw hO=> ?_,hK _ ?_⟩
 ·unfold Oper.quietAt
  rw [gU,he w]
  exact ⟨rfl,(hc w hO).mono λe w' ⟨e1,e2⟩=>⟨e1,hO.on e2⟩⟩
 ·rw [jB];exact h
theorem Zq {Qe:List Blk->(Nat->Value)->Prop}{k:FuncId}{args:Array Value}(v:Value)(hc:∀ w,Own M W w L->Calls P k args w (YR v w))(h:v7 M P n ops W Qe rest L (upd f o.dst v))(hw:zT ops n f o=true:=by kernel_rfl)(he:∀ w,(execOp (ev n f) o).run P w= .ok (.enter k args) w:=by intro _;kernel_rfl):v7 M P n ops W Qe (o::rest) L f:=q_call v hw he hc h
theorem q_load {Qe:List Blk->(Nat->Value)->Prop}(i:Nat)(x:Blk){ty:TypeId}{p:Operand}{off:Nat}(v:Value)(hw:zT ops n f o=true)(ho:o.op= .load ty p)(hL:L[i]?=some x)(hp:ev n f p= .pointer (some ⟨x.b,off,none⟩))(hv:yQ P ty x.cs off=some v)
  (h:v7 M P n ops W Qe rest L (upd f o.dst v)):v7 M P n ops W Qe (o::rest) L f:=
 q_read v hw (λ_ hO=>xD ho hp (y7 hv (hO.get hL))) h
theorem Zm {Qe:List Blk->(Nat->Value)->Prop}(i:Nat)(x:Blk){ty:TypeId}{p:Operand}{off:Nat}(v:Value)(h:v7 M P n ops W Qe rest L (upd f o.dst v))(ho:o.op= .load ty p:=by rfl)(hw:zT ops n f o=true:=by kernel_rfl)(hL:L[i]?=some x:=by kernel_rfl)(hp:ev n f p= .pointer (some ⟨x.b,off,none⟩):=by kernel_rfl)(hv:yQ P ty x.cs off=some v:=by kernel_rfl):v7 M P n ops W Qe (o::rest) L f:=q_load i x v hw ho hL hp hv h
theorem q_old {Qe:List Blk->(Nat->Value)->Prop}{ty:TypeId}{p:Operand}{a:Addr}(v:Value)(hw:zT ops n f o=true)(ho:o.op= .load ty p)(hp:ev n f p= .pointer (some a))(hv:∀ w,Own M W w L->(loadVar ty a).run P w= .ok v w)
  (h:v7 M P n ops W Qe rest L (upd f o.dst v)):v7 M P n ops W Qe (o::rest) L f:=
 q_read v hw (λw hO=>xD ho hp (hv w hO)) h
theorem qJ {x y:Code}(h:Ok M P n W (Exit.then (Code.wp P y Q) Q) x L f):Ok M P n W Q (.seq x y) L f:=⟨λw hO=>wp_seq (h.go w hO)⟩
theorem gT {id:Nat}{l:List Oper}(h:Seg M P n l.toArray W Q l L f):Ok M P n W Q (.region id l.toArray false) L f:=⟨λw hO=>wp_region_lit (h.go w hO)⟩
theorem ok_draw {id:Nat}{l:List Oper}(hm:P.follows .mixedOrders=true)(hB:Region.lexB .any l.toArray=true)(h:v7 M P n l.toArray W (Fin M n W Q .normal) l L f):Ok M P n W Q (.region id l.toArray true) L f:=⟨λw hO=>
 wp_region_quiet (C:=λw=>Own M W w L) hm hB hO.drew (by
  have e:l.toArray.toList=l:=by simp
  rw [e]
  have key:∀ (r:List Oper) (a:Act),wpQuiet P l.toArray (λw=>Own M W w L) (λa=>∃ f',a=Fr n f'/\Fin M n W Q .normal L f') r a->wpQuiet P l.toArray (λw=>Own M W w L) (λa'=>∀ w',Own M W w' L->Q .normal a' w') r a:=by
   intro r
   induction r with
   |nil=>rintro a ⟨f',rfl,h⟩;exact h.go
   |cons o r ih=>
    intro a h
    unfold wpQuiet at h ⊢
    split
    ·rename_i hw;rw [if_pos hw] at h;exact Oper.quiet_mono ih h
    ·rename_i hw;rw [if_neg hw] at h;exact ih _ h
  exact key l _ h.go)⟩
theorem ok_true {c:Operand}{x y:Code}(hc:ev n f c= .bool true)(h:Ok M P n W Q x L f):Ok M P n W Q (.cond c x y) L f:=⟨λw hO=>wp_cond_true (by rw [gU];exact hc) (h.go w hO)⟩
theorem Zt {c:Operand}{x y:Code}(h:Ok M P n W Q x L f)(hc:ev n f c= .bool true:=by kernel_rfl):Ok M P n W Q (.cond c x y) L f:=ok_true hc h
theorem ok_false {c:Operand}{x y:Code}(hc:ev n f c= .bool false)(h:Ok M P n W Q y L f):Ok M P n W Q (.cond c x y) L f:=⟨λw hO=>wp_cond_false (by rw [gU];exact hc) (h.go w hO)⟩
theorem Zf {c:Operand}{x y:Code}(h:Ok M P n W Q y L f)(hc:ev n f c= .bool false:=by kernel_rfl):Ok M P n W Q (.cond c x y) L f:=ok_false hc h
theorem dV {id:Nat}{c:Code}(h:Ok M P n W (Exit.inBlock id Q) c L f):Ok M P n W Q (.block id c) L f:=⟨λw hO=>wp_block (h.go w hO)⟩
theorem ok_exit {id:Nat}(h:Fin M n W Q (.exit id) L f):Ok M P n W Q (.exit id) L f:=⟨λw hO=>wp_exit (h.go w hO)⟩
theorem ok_skip (h:Fin M n W Q .normal L f):Ok M P n W Q .skip L f:=⟨λw hO=>wp_skip (h.go w hO)⟩
theorem qK (h:Fin M n W Q .ret L f):Ok M P n W Q .ret L f:=⟨λw hO=>wp_ret (h.go w hO)⟩
theorem jL {y:Code}(h:Ok M P n W Q y L f):Fin M n W (Exit.then (Code.wp P y Q) Q) .normal L f:=⟨h.go⟩
theorem ZN {y:Code}(h:Ok M P n W Q y L f):Seg M P n ops W (Exit.then (Code.wp P y Q) Q) [] L f:=s_nil (jL h)
theorem ZO {y:Code}{id:Nat}{l:List Oper}(h:Seg M P n l.toArray W (Exit.then (Code.wp P y Q) Q) l L f):Ok M P n W Q (.seq (.region id l.toArray false) y) L f:=qJ (gT h)
theorem ZR {y:Code}{id:Nat}{l:List Oper}(h:Seg M P n l.toArray W (Exit.then (Code.wp P y Q) Q) l L f):Seg M P n ops W (Exit.then (Code.wp P (.seq (.region id l.toArray false) y) Q) Q) [] L f:=ZN (ZO h)
theorem ZY {c:Operand}{x y:Code}(h:Ok M P n W Q x L f)(hc:ev n f c= .bool true:=by kernel_rfl):Seg M P n ops W (Exit.then (Code.wp P (.cond c x y) Q) Q) [] L f:=ZN (ok_true hc h)
theorem ZX {c:Operand}{x y:Code}(h:Ok M P n W Q y L f)(hc:ev n f c= .bool false:=by kernel_rfl):Seg M P n ops W (Exit.then (Code.wp P (.cond c x y) Q) Q) [] L f:=ZN (ok_false hc h)
theorem ZB {y:Code}(h:Ok M P n W Q y L f):Ok M P n W (Exit.then (Code.wp P y Q) Q) .skip L f:=ok_skip (jL h)
theorem vY {K:Act->World->Prop}(h:Fin M n W Q .ret L f):Fin M n W (Exit.then K Q) .ret L f:=⟨h.go⟩
theorem qZ {K:Act->World->Prop}{id:Nat}(h:Fin M n W Q (.exit id) L f):Fin M n W (Exit.then K Q) (.exit id) L f:=⟨h.go⟩
theorem tI {id:Nat}(h:Fin M n W Q .normal L f):Fin M n W (Exit.inBlock id Q) .normal L f:=⟨h.go⟩
theorem fin_block_ret {id:Nat}(h:Fin M n W Q .ret L f):Fin M n W (Exit.inBlock id Q) .ret L f:=⟨h.go⟩
theorem w9 {id:Nat}(h:Fin M n W Q .normal L f):Fin M n W (Exit.inBlock id Q) (.exit id) L f:=⟨λw hO=>by
 show if id=id then _ else _
 rw [if_pos rfl];exact h.go w hO⟩
theorem fin_block_other {id id':Nat}(hne:id'≠id)(h:Fin M n W Q (.exit id') L f):Fin M n W (Exit.inBlock id Q) (.exit id') L f:=⟨λw hO=>by
 show if id'=id then _ else _
 rw [if_neg hne];exact h.go w hO⟩
def Round (M:List Nat)(n:Nat)(W:World)(Inv:List Blk->(Nat->Value)->Nat->Prop)(m:Nat)(Q:Exit->Act->World->Prop):Exit->Act->World->Prop:=
 Exit.then (λa w=>∃ L f m',m'<m/\Inv L f m'/\Own M W w L/\a=Fr n f) Q
theorem ok_loop {c:Code}(Inv:List Blk->(Nat->Value)->Nat->Prop)(m:Nat)(h0:Inv L f m)(h:∀ L f m,Inv L f m->Ok M P n W (Round M n W Inv m Q) c L f):Ok M P n W Q (.loop c) L f:=⟨λw hO=>by
 intro b k cs
 have run:∀ (m:Nat) (L:List Blk) (f:Nat->Value) (w:World),Inv L f m->Own M W w L→∃ e a' w',Q e a' w'/\Arrives P (lone (b.at (Fr n f) (.code c:: .inLoop c::k)) cs w) b k cs e a' w':=by
  intro m
  induction m using Nat.strongRecOn with
  |_ m ih=>
   intro L f w hI hO
   obtain ⟨e,a₁,w₁,hq,harr⟩:=(h L f m hI).go w hO b (.inLoop c::k) cs
   cases e with
   |normal=>
    obtain ⟨L',f',m',hlt,hI',hO',rfl⟩:=hq
    obtain ⟨e₂,a₂,w₂,hq₂,harr₂⟩:=ih m' hlt L' f' w₁ hI' hO'
    exact ⟨e₂,a₂,w₂,hq₂,.of_steps (Steps.trans harr (.one step_inLoop)) harr₂⟩
   |exit id=>exact ⟨_,a₁,w₁,hq,.pass (x:= .inLoop c) rfl (λ_ _=> .inl (by simp)) harr⟩
   |goto l=>exact ⟨_,a₁,w₁,hq,.pass (x:= .inLoop c) rfl (λ_ _=> .inl (by simp)) harr⟩
   |ret=>exact ⟨_,a₁,w₁,hq,.pass (x:= .inLoop c) rfl (λ_ _=> .inl (by simp)) harr⟩
   |panic ch=>exact ⟨_,a₁,w₁,hq,.pass (x:= .inLoop c) rfl (λ_ _=> .inl (by simp)) harr⟩
   |outgrown=>exact ⟨_,a₁,w₁,hq,.pass (x:= .inLoop c) rfl (λ_ _=> .inl (by simp)) harr⟩
 obtain ⟨e,a',w',hq,harr⟩:=run m L f w h0 hO
 exact ⟨e,a',w',hq,.of_steps (.one step_loop) harr⟩⟩
theorem tG {Inv:List Blk->(Nat->Value)->Nat->Prop}{m m':Nat}(hlt:m'<m)(hI:Inv L f m'):Fin M n W (Round M n W Inv m Q) .normal L f:=⟨λw hO=>⟨L,f,m',hlt,hI,hO,rfl⟩⟩
theorem fin_round_ret {Inv:List Blk->(Nat->Value)->Nat->Prop}{m:Nat}(h:Fin M n W Q .ret L f):Fin M n W (Round M n W Inv m Q) .ret L f:=⟨h.go⟩
theorem w8 {Inv:List Blk->(Nat->Value)->Nat->Prop}{m id:Nat}(h:Fin M n W Q (.exit id) L f):Fin M n W (Round M n W Inv m Q) (.exit id) L f:=⟨h.go⟩
theorem wV {f:Nat->Value}{d:Nat}{v:Value}(h:f d=v):f=upd f (some d) v:=by
 funext t
 show f t=bif Nat.beq t d then v else f t
 by_cases e:t=d
 ·subst e
  have:Nat.beq t t=true:=Nat.beq_refl t
  rw [this];exact h
 ·have:Nat.beq t d=false:=by rw [Bool.eq_false_iff];intro h2;exact e (Nat.eq_of_beq_eq_true h2)
  rw [this];rfl
theorem calls_okM (M:List Nat){k:FuncId}{fn:Func}{c:Code}{args:Array Value}{R:Ending->World->Prop}(hf:P.funcs[k]?=some fn)(hb:fn.body=some c)(hn:fn.ntmps=n)(hle:Nat.ble args.size n=true)
  (h:Ok M P n W (bodyPost P fn R) c [] (λt=>args.getD t undef)):Calls P k args W R:=by
 refine calls_of_wp hf hb ?_
 have hle':args.size<=n:=Nat.le_of_ble_eq_true hle
 have e:({tmps:=args++Array.replicate (fn.ntmps-args.size) undef,defers:=[]}:Act)=Fr n (λt=>args.getD t undef):=by
  unfold Fr
  congr 1
  rw [hn]
  apply Array.ext_getElem?
  intro i
  rw [Array.getElem?_ofFn,Array.getElem?_append,Array.getElem?_replicate]
  by_cases hi:i<args.size
  ·rw [if_pos hi,dif_pos Om,Array.getElem?_eq_getElem hi]
   simp [Array.getD,hi]
  ·rw [if_neg hi]
   by_cases hin:i<n
   ·rw [if_pos Om,dif_pos hin]
    simp [Array.getD,hi]
   ·rw [if_neg Om,dif_neg hin]
 rw [e]
 exact h.go W (Own.start _ W)
theorem calls_ok {k:FuncId}{fn:Func}{c:Code}{args:Array Value}{R:Ending->World->Prop}(hf:P.funcs[k]?=some fn)(hb:fn.body=some c)(hn:fn.ntmps=n)(hle:Nat.ble args.size n=true)
  (h:Ok [] P n W (bodyPost P fn R) c [] (λt=>args.getD t undef)):Calls P k args W R:=calls_okM [] hf hb hn hle h
theorem Z2 {k:FuncId}{fn:Func}{c:Code}{args:Array Value}{R:Ending->World->Prop}(hf:P.funcs[k]?=some fn)(hb:fn.body=some c)(h:Ok [] P n W (bodyPost P fn R) c [] (λt=>args.getD t undef))(hn:fn.ntmps=n:=by kernel_rfl)(hle:Nat.ble args.size n=true:=by kernel_rfl):Calls P k args W R:=calls_ok hf hb hn hle h
theorem fin_ret {fn:Func}{R:Ending->World->Prop}{t:Tmp}(v:Value)(hres:fn.results= #[.tmp t])(hv:ev n f (.tmp t)=v)(hR:∀ w,Own M W w L->R (.returned v) w):Fin M n W (bodyPost P fn R) .ret L f:=⟨λw hO=>by
 refine bodyPost_ret (v:=v) ?_ rfl (hR w hO)
 rw [results_tmp hres]
 have:(Fr n f).tmps.getD t undef=v:=(g9 n f t).trans hv
 rw [this]⟩
theorem ZF {fn:Func}{R:Ending->World->Prop}{t:Tmp}(v:Value)(hres:fn.results= #[.tmp t])(hR:∀ w,Own M W w L->R (.returned v) w)(hv:ev n f (.tmp t)=v:=by kernel_rfl):Fin M n W (bodyPost P fn R) .ret L f:=fin_ret v hres hv hR
def resAt (P:Program)(n:Nat)(f:Nat->Value)(L:List Blk):ResultVar->Nat->Option Value
 | .tmp t,_=>some (ev n f (.tmp t))
 | .cell p ty,i=>
  match L[i]?,ev n f (.tmp p) with
  |some x,.pointer (some ⟨b,off,none⟩)=>bif Nat.beq b x.b then yQ P ty x.cs off else none
  |_,_=>none
theorem fin_cell {fn:Func}{R:Ending->World->Prop}{p:Tmp}{ty:TypeId}(i:Nat)(x:Blk){off:Nat}(v:Value)(hres:fn.results= #[.cell p ty])(hL:L[i]?=some x)(hp:ev n f (.tmp p)= .pointer (some ⟨x.b,off,none⟩))(hv:yQ P ty x.cs off=some v)
  (hR:∀ w,Own M W w L->R (.returned v) w):Fin M n W (bodyPost P fn R) .ret L f:=⟨λw hO=>by
 refine bodyPost_ret (v:=v) ?_ rfl (hR w hO)
 have e:(Fr n f).tmps.getD p undef= .pointer (some ⟨x.b,off,none⟩):=(g9 n f p).trans hp
 have hr:=y7 hv (hO.get hL)
 have e':(Fr n f).tmps[p]?.getD undef= .pointer (some ⟨x.b,off,none⟩):=by simpa using e
 simp [results,hres,e',asAddr,hr]⟩
theorem ZC {fn:Func}{R:Ending->World->Prop}{p:Tmp}{ty:TypeId}(i:Nat)(x:Blk){off:Nat}(v:Value)(hres:fn.results= #[.cell p ty])(hR:∀ w,Own M W w L->R (.returned v) w)(hL:L[i]?=some x:=by kernel_rfl)(hp:ev n f (.tmp p)= .pointer (some ⟨x.b,off,none⟩):=by kernel_rfl)(hv:yQ P ty x.cs off=some v:=by kernel_rfl):Fin M n W (bodyPost P fn R) .ret L f:=fin_cell i x v hres hL hp hv hR
theorem fin_ret2 {fn:Func}{R:Ending->World->Prop}{t u:Tmp}(v v':Value)(hres:fn.results= #[.tmp t,.tmp u])(hv:ev n f (.tmp t)=v)(hv':ev n f (.tmp u)=v')(hR:∀ w,Own M W w L->R (.returned (.tuple #[v,v'])) w):Fin M n W (bodyPost P fn R) .ret L f:=⟨λw hO=>by
 refine bodyPost_ret (v:= .tuple #[v,v']) ?_ rfl (hR w hO)
 rw [results_tmp2 hres]
 have e1:(Fr n f).tmps.getD t undef=v:=(g9 n f t).trans hv
 have e2:(Fr n f).tmps.getD u undef=v':=(g9 n f u).trans hv'
 rw [e1,e2]⟩
theorem ZG {fn:Func}{R:Ending->World->Prop}{t u:Tmp}(v v':Value)(hres:fn.results= #[.tmp t,.tmp u])(hR:∀ w,Own M W w L->R (.returned (.tuple #[v,v'])) w)(hv:ev n f (.tmp t)=v:=by kernel_rfl)(hv':ev n f (.tmp u)=v':=by kernel_rfl):Fin M n W (bodyPost P fn R) .ret L f:=fin_ret2 v v' hres hv hv' hR
theorem tH {fn:Func}{R:Ending->World->Prop}{p u:Tmp}{ty:TypeId}(i:Nat)(x:Blk){off:Nat}(v v':Value)(hres:fn.results= #[.cell p ty,.tmp u])(hL:L[i]?=some x)(hp:ev n f (.tmp p)= .pointer (some ⟨x.b,off,none⟩))(hv:yQ P ty x.cs off=some v)(hv':ev n f (.tmp u)=v')
  (hR:∀ w,Own M W w L->R (.returned (.tuple #[v,v'])) w):Fin M n W (bodyPost P fn R) .ret L f:=⟨λw hO=>by
 refine bodyPost_ret (v:= .tuple #[v,v']) ?_ rfl (hR w hO)
 have e:(Fr n f).tmps.getD p undef= .pointer (some ⟨x.b,off,none⟩):=(g9 n f p).trans hp
 have hr:=y7 hv (hO.get hL)
 have e':(Fr n f).tmps[p]?.getD undef= .pointer (some ⟨x.b,off,none⟩):=by simpa using e
 have e2:(Fr n f).tmps.getD u undef=v':=(g9 n f u).trans hv'
 have e2':(Fr n f).tmps[u]?.getD undef=v':=by simpa using e2
 simp [results,hres,e',e2',asAddr,hr]⟩
theorem ZD {fn:Func}{R:Ending->World->Prop}{p u:Tmp}{ty:TypeId}(i:Nat)(x:Blk){off:Nat}(v v':Value)(hres:fn.results= #[.cell p ty,.tmp u])(hR:∀ w,Own M W w L->R (.returned (.tuple #[v,v'])) w)(hL:L[i]?=some x:=by kernel_rfl)(hp:ev n f (.tmp p)= .pointer (some ⟨x.b,off,none⟩):=by kernel_rfl)(hv:yQ P ty x.cs off=some v:=by kernel_rfl)(hv':ev n f (.tmp u)=v':=by kernel_rfl):Fin M n W (bodyPost P fn R) .ret L f:=tH i x v v' hres hL hp hv hv' hR
end
section
variable {M:List Nat}{P:Program}{n:Nat}{ops:Array Oper}{W:World}{Q:Exit->Act->World->Prop}{rest:List Oper}{o:Oper}{L:List Blk}{f:Nat->Value}{Qe:List Blk->(Nat->Value)->Prop}
theorem s_dec {p:Prop}[Decidable p](t:Bool)(hw:zT ops n f o=true)(hr:∀ w,(execOp (ev n f) o).run P w= .ok (.value (.bool (decide p))) w)(hp:decide p=t)(h:Seg M P n ops W Q rest L (upd f o.dst (.bool t))):Seg M P n ops W Q (o::rest) L f:=kS (.bool t) hw (λw=>hp▸hr w) h
theorem Zd {p:Prop}[Decidable p](t:Bool)(hp:decide p=t)(h:Seg M P n ops W Q rest L (upd f o.dst (.bool t)))(hw:zT ops n f o=true:=by kernel_rfl)(hr:∀ w,(execOp (ev n f) o).run P w= .ok (.value (.bool (decide p))) w:=by intro _;kernel_rfl):Seg M P n ops W Q (o::rest) L f:=s_dec t hw hr hp h
theorem Zg {p:Prop}[Decidable p](hp:p)(h:Seg M P n ops W Q rest L (upd f o.dst (.bool true)))(hw:zT ops n f o=true:=by kernel_rfl)(hr:∀ w,(execOp (ev n f) o).run P w= .ok (.value (.bool (decide p))) w:=by intro _;kernel_rfl):Seg M P n ops W Q (o::rest) L f:=s_dec true hw hr (decide_eq_true hp) h
theorem Zh {p:Prop}[Decidable p](hp:¬ p)(h:Seg M P n ops W Q rest L (upd f o.dst (.bool false)))(hw:zT ops n f o=true:=by kernel_rfl)(hr:∀ w,(execOp (ev n f) o).run P w= .ok (.value (.bool (decide p))) w:=by intro _;kernel_rfl):Seg M P n ops W Q (o::rest) L f:=s_dec false hw hr (decide_eq_false hp) h
theorem s_sum {k:IntKind}(z:Int)(hw:zT ops n f o=true)(hr:∀ w,(execOp (ev n f) o).run P w= .ok (.value (.int k (k.wrap z))) w)(hz:k.wrap z=z)(h:Seg M P n ops W Q rest L (upd f o.dst (.int k z))):Seg M P n ops W Q (o::rest) L f:=kS (.int k z) hw (λw=>by rw [hr w,hz]) h
theorem Zu {k:IntKind}(z:Int)(hz:k.wrap z=z)(h:Seg M P n ops W Q rest L (upd f o.dst (.int k z)))(hw:zT ops n f o=true:=by kernel_rfl)(hr:∀ w,(execOp (ev n f) o).run P w= .ok (.value (.int k (k.wrap z))) w:=by intro _;kernel_rfl):Seg M P n ops W Q (o::rest) L f:=s_sum z hw hr hz h
theorem q_sum {k:IntKind}(z:Int)(hw:zT ops n f o=true)(hr:∀ w,(execOp (ev n f) o).run P w= .ok (.value (.int k (k.wrap z))) w)(hz:k.wrap z=z)(h:v7 M P n ops W Qe rest L (upd f o.dst (.int k z))):v7 M P n ops W Qe (o::rest) L f:=nW (.int k z) hw (λw=>by rw [hr w,hz]) h
theorem s_alloc_at {T:TypeId}(z:Value)(hw:zT ops n f o=true)(ho:o.op= .alloc T)(hi:(P.info? T).map (·.zero)=some (some z))
  (h:∀ b,Seg M P n ops W Q rest (⟨b,z.cells,T⟩::L) (upd f o.dst (.pointer (some ⟨b,0,none⟩)))):Seg M P n ops W Q (o::rest) L f:=by
 cases hq:P.info? T with
 |none=>rw [hq] at hi;cases hi
 |some i=>rw [hq] at hi;exact s_alloc z hw ho hq (Option.some.inj hi) h
theorem Za {T:TypeId}(z:Value)(h:∀ b,Seg M P n ops W Q rest (⟨b,z.cells,T⟩::L) (upd f o.dst (.pointer (some ⟨b,0,none⟩))))(ho:o.op= .alloc T:=by rfl)(hw:zT ops n f o=true:=by kernel_rfl)(hi:(P.info? T).map (·.zero)=some (some z):=by kernel_rfl):Seg M P n ops W Q (o::rest) L f:=s_alloc_at z hw ho hi h
theorem s_store_at (i:Nat)(x:Blk){T:TypeId}{p q:Operand}{off:Nat}(v:Value)(hw:zT ops n f o=true)(ho:o.op= .store T p q)(hd:o.dst=none)(hL:L[i]?=some x)
  (hp:ev n f p= .pointer (some ⟨x.b,off,none⟩)) (hq:ev n f q=v) (hi:((P.info? T).map λt=>Nat.beq v.cells.size t.size && Nat.ble (off+t.size) x.cs.size)=some true) (h1:(v.cells.toList.all λu=>u.oneCell')=true)
  (h:Seg M P n ops W Q rest (L.set i ⟨x.b,yR x.cs off v.cells,x.ty⟩) f):Seg M P n ops W Q (o::rest) L f:=by
 cases hz:P.info? T with
 |none=>rw [hz] at hi;cases hi
 |some t=>
  rw [hz] at hi
  have e:(Nat.beq v.cells.size t.size && Nat.ble (off+t.size) x.cs.size)=true:=Option.some.inj hi
  rw [Bool.and_eq_true] at e
  exact s_store i x v hw ho hd hL hp hq hz (Nat.eq_of_beq_eq_true e.1) (Nat.le_of_ble_eq_true e.2) (List.all_eq_true.1 h1) h
theorem Zs (i:Nat)(x:Blk){T:TypeId}{p q:Operand}{off:Nat}(v:Value)(h:Seg M P n ops W Q rest (L.set i ⟨x.b,yR x.cs off v.cells,x.ty⟩) f)(ho:o.op= .store T p q:=by rfl)(hd:o.dst=none:=by rfl)(hw:zT ops n f o=true:=by kernel_rfl)(hL:L[i]?=some x:=by kernel_rfl)(hp:ev n f p= .pointer (some ⟨x.b,off,none⟩):=by kernel_rfl)(hq:ev n f q=v:=by kernel_rfl)(hi:((P.info? T).map λt=>Nat.beq v.cells.size t.size && Nat.ble (off+t.size) x.cs.size)=some true:=by kernel_rfl)(h1:(v.cells.toList.all λu=>u.oneCell')=true:=by kernel_rfl):Seg M P n ops W Q (o::rest) L f:=s_store_at i x v hw ho hd hL hp hq hi h1 h
end
end
section
section
variable {M:List Nat}{P:Program}{n:Nat}{W:World}{L:List Blk}{f:Nat->Value}
theorem fin_ret3 {fn:Func}{R:Ending->World->Prop}{t u s:Tmp}(v v' v2:Value)(hres:fn.results= #[.tmp t,.tmp u,.tmp s])(hv:ev n f (.tmp t)=v)(hv':ev n f (.tmp u)=v')(hv2:ev n f (.tmp s)=v2)(hR:∀ w,Own M W w L->R (.returned (.tuple #[v,v',v2])) w):Fin M n W (bodyPost P fn R) .ret L f:=⟨λw hO=>by
 have e1:(Fr n f).tmps.getD t undef=v:=(g9 n f t).trans hv
 have e2:(Fr n f).tmps.getD u undef=v':=(g9 n f u).trans hv'
 have e3:(Fr n f).tmps.getD s undef=v2:=(g9 n f s).trans hv2
 have hr:∀ tm:Array Value,(results fn tm).run P w= .ok (.tuple #[tm.getD t undef,tm.getD u undef,tm.getD s undef]) w:=λtm=>by simp [results,hres]
 refine bodyPost_ret (v:= .tuple #[v,v',v2]) ?_ rfl (hR w hO)
 rw [hr,e1,e2,e3]⟩
end
end
section
def backB (md:Region.Mode)(l:List Oper)(i:Nat):Bool:=
 match l[i]? with
 |some o=>o.after.all λe=> !(Region.binds md e)||decide (e.on<i)
 |none=>false
def waitB (md:Region.Mode)(l:List Oper)(t i:Nat):Bool:=
 match l[t]? with
 |some o=>o.after.any λe=>Region.binds md e && e.on==i
 |none=>false
def inB (l:List Oper)(m i:Nat):Bool:=
 match l[i]? with
 |some o=>match o.guard with|some (g,_)=>decide (g<m)|none=>true
 |none=>false
def preB (md:Region.Mode)(l:List Oper)(m:Nat):Bool:=
 decide (m<=l.length) && (List.range l.length).all (λi=>backB md l i) && (List.range m).all (λi=>inB l m i && (decide (l.length<=m)||waitB md l m i)) && (List.range l.length).all λt=>decide (t<=m)||waitB md l t (t-1)
section
variable {P:Program}{md:Region.Mode}{l:List Oper}{m:Nat}
structure PreOk (md:Region.Mode)(l:List Oper)(m:Nat):Prop where
 le:m<=l.length
 back:∀ i o,l[i]?=some o→∀ e∈o.after,Region.binds md e=true->e.on<i
 inn:∀ i o g b,i<m->l[i]?=some o->o.guard=some (g,b)->g<m
 first:∀ i o,i<m->l[m]?=some o→∃ e∈o.after,Region.binds md e=true/\e.on=i
 chain:∀ t o,m<t->l[t]?=some o→∃ e∈o.after,Region.binds md e=true/\e.on=t-1
theorem waitB_spec {t i:Nat}{o:Oper}(ho:l[t]?=some o)(h:waitB md l t i=true):∃ e∈o.after,Region.binds md e=true/\e.on=i:=by
 unfold waitB at h
 rw [ho] at h
 obtain ⟨e,he,hb⟩:=Array.any_eq_true'.1 h
 simp only [Bool.and_eq_true,beq_iff_eq] at hb
 exact ⟨e,he,hb.1,hb.2⟩
theorem preB_ok (h:preB md l m=true):PreOk md l m:=by
 unfold preB at h
 simp only [Bool.and_eq_true,decide_eq_true_eq,List.all_eq_true,List.mem_range,Bool.or_eq_true] at h
 obtain ⟨⟨⟨h1,h2⟩,h3⟩,h4⟩:=h
 refine ⟨h1,λi o ho e he hb=> ?_,λi o g b hi ho hg=> ?_,λi o hi ho=> ?_,λt o ht ho=> ?_⟩
 ·have hi:=(List.getElem?_eq_some_iff.1 ho).1
  have:=h2 i hi
  unfold backB at this
  rw [ho] at this
  have:=Array.all_eq_true_iff_forall_mem.1 this e he
  rw [hb] at this
  simpa using this
 ·have:=(h3 i hi).1
  unfold inB at this
  rw [ho] at this
  dsimp only at this
  rw [hg] at this
  simpa using this
 ·have hm:=(List.getElem?_eq_some_iff.1 ho).1
  rcases (h3 i hi).2 with h|h
  ·omega
  ·exact waitB_spec ho h
 ·have hl:=(List.getElem?_eq_some_iff.1 ho).1
  rcases h4 t hl with h|h
  ·omega
  ·exact waitB_spec ho h
def Upto (n k:Nat)(listed:Array Bool):Prop:=listed.size=n∧∀ i,i<n->listed[i]?=some (decide (i<k))
theorem Upto.set {n k:Nat}{listed:Array Bool}(h:Upto n k listed):Upto n (k+1) (listed.setIfInBounds k true):=by
 refine ⟨by rw [Array.size_setIfInBounds];exact h.1,λi hi=> ?_⟩
 rw [Array.getElem?_setIfInBounds]
 by_cases e:k=i
 ·subst e
  rw [if_pos rfl,if_pos (by rw [h.1];exact hi)]
  simp
 ·rw [if_neg e,h.2 i hi]
  congr 1
  exact decide_eq_decide.2 Om
theorem pQ {a:Array Bool}{i:Nat}{b d:Bool}(h:a[i]?=some b):a.getD i d=b:=by rw [Array.getD_eq_getD_getElem?,h];rfl
theorem mO (hp:PreOk md l m){k:Nat}{listed:Array Bool}(hk:m<=k)(h:Upto l.length k listed):∀ i,i∈Region.ready md l.toArray listed↔(i=k/\k<l.length):=by
 intro i
 rw [mem_ready]
 constructor
 ·rintro ⟨h1,o,ho,h2⟩
  have ho':l[i]?=some o:=by simpa using ho
  have hi:=(List.getElem?_eq_some_iff.1 ho').1
  have hki:¬ i<k:=λhlt=>by
   rw [pQ (h.2 i hi)] at h1
   simp [hlt] at h1
  refine ⟨?_,by omega⟩
  rcases Nat.lt_or_ge k i with hlt|hge
  ·obtain ⟨e,he,hb,hon⟩:=hp.chain i o Om ho'
   have:=h2 e he hb
   rw [hon,pQ (h.2 (i-1) Om)] at this
   simp at this
   omega
  ·omega
 ·rintro ⟨rfl,hlt⟩
  refine ⟨by rw [pQ (h.2 i hlt)];simp,l[i],by simp,λe he hb=> ?_⟩
  have:=hp.back i l[i] (List.getElem?_eq_getElem hlt) e he hb
  rw [pQ (h.2 e.on Om)]
  simpa using this
theorem any_tail (hp:PreOk md l m){Q:Exit->Act->World->Prop}:∀ (d k fuel:Nat) (listed:Array Bool) (a:Act) (w:World),d=l.length-k->m<=k->k<=l.length->d<=fuel->Upto l.length k listed->wpList P l.toArray Q (l.drop k) a w->wpAny P md l.toArray Q fuel listed a w:=by
 intro d
 induction d with
 |zero=>
  intro k fuel listed a w hd hk hkl _ hu h
  have hkn:k=l.length:=by omega
  have hr:Region.ready md l.toArray listed=[]:=by
   apply List.eq_nil_iff_forall_not_mem.2
   intro i hi
   have:=(mO hp hk hu i).1 hi
   omega
  have hq:Q .normal a w:=by
   rw [hkn,List.drop_length] at h;exact h
  cases fuel with
  |zero=>exact ⟨hr,hq⟩
  |succ f=>exact ⟨λ_=>hq,λi hi=>by rw [hr] at hi;cases hi⟩
 |succ d ih=>
  intro k fuel listed a w hd hk hkl hf hu h
  have hlt:k<l.length:=by omega
  obtain ⟨f,rfl⟩:∃ f,fuel=f+1:=⟨fuel-1,by omega⟩
  refine ⟨λhr=> ?_,λi hi=> ?_⟩
  ·have:=(mO hp hk hu k).2 ⟨rfl,hlt⟩
   rw [hr] at this;cases this
  ·obtain ⟨rfl,_⟩:=(mO hp hk hu i).1 hi
   have ho:l.toArray[i]?=some l[i]:=by simp
   rw [List.drop_eq_getElem_cons hlt] at h
   have hw:wpOp P l.toArray Q i (wpList P l.toArray Q (l.drop (i+1))) a w:=by unfold wpOp;simp only [ho];exact h
   exact wpOp_mono (λa' w' h'=>ih (i+1) f _ a' w' Om Om Om Om hu.set h') hw
structure Part (n m:Nat)(listed' listed:Array Bool):Prop where
 size':listed'.size=m
 size:listed.size=n
 same:∀ i,i<m->listed[i]?=listed'[i]?
 rest:∀ t,m<=t->t<n->listed[t]?=some false
theorem Part.get {n m:Nat}{listed' listed:Array Bool}(h:Part n m listed' listed){i:Nat}(hi:i<m):∃ b,listed'[i]?=some b:=⟨_,Array.getElem?_eq_getElem (by rw [h.size'];exact hi)⟩
theorem Part.set {n m i:Nat}{listed' listed:Array Bool}(h:Part n m listed' listed)(hi:i<m):Part n m (listed'.setIfInBounds i true) (listed.setIfInBounds i true):=by
 refine ⟨by rw [Array.size_setIfInBounds];exact h.size',by rw [Array.size_setIfInBounds];exact h.size,λj hj=> ?_,λt ht htn=> ?_⟩
 ·rw [Array.getElem?_setIfInBounds,Array.getElem?_setIfInBounds]
  by_cases e:i=j
  ·subst e
   rw [if_pos rfl,if_pos rfl,h.size']
   by_cases hin:i<listed.size
   ·rw [if_pos hin,if_pos hi]
   ·have h1:=h.same i hi
    rw [Array.getElem?_eq_none Om] at h1
    obtain ⟨b,hb⟩:=h.get hi
    rw [←h1] at hb;cases hb
  ·rw [if_neg e,if_neg e];exact h.same j hj
 ·rw [Array.getElem?_setIfInBounds,if_neg Om];exact h.rest t ht htn
theorem least_false (b:Nat->Bool):∀ m,(∃ i,i<m/\b i=false)→∃ k,k<m/\b k=false∧∀ j,j<k->b j=true:=by
 intro m
 induction m with
 |zero=>rintro ⟨i,hi,_⟩;omega
 |succ m ih=>
  rintro ⟨i,hi,hb⟩
  by_cases h:∃ i,i<m/\b i=false
  ·obtain ⟨k,h1,h2,h3⟩:=ih h
   exact ⟨k,by omega,h2,h3⟩
  ·have:i=m:=by
    rcases Nat.lt_or_ge i m with h4|h4
    ·exact absurd ⟨i,h4,hb⟩ h
    ·omega
   subst this
   refine ⟨i,by omega,hb,λj hj=> ?_⟩
   cases hj2:b j with
   |true=>rfl
   |false=>exact absurd ⟨j,hj,hj2⟩ h
theorem take_at {i:Nat}(hi:i<m):(l.take m).toArray[i]?=l.toArray[i]?:=by simp [List.getElem?_take,hi]
theorem part_in (hp:PreOk md l m){listed' listed:Array Bool}(h:Part l.length m listed' listed)(hun:∃ i,i<m/\listed'.getD i true=false):∀ i∈Region.ready md l.toArray listed,i<m:=by
 intro i hi
 rw [mem_ready] at hi
 obtain ⟨h1,o,ho,h2⟩:=hi
 have ho':l[i]?=some o:=by simpa using ho
 have hil:=(List.getElem?_eq_some_iff.1 ho').1
 rcases Nat.lt_trichotomy i m with hlt|rfl|hgt
 ·exact hlt
 ·obtain ⟨j,hj,hjf⟩:=hun
  obtain ⟨e,he,hb,hon⟩:=hp.first j o hj ho'
  have h3:=h2 e he hb
  obtain ⟨b,hj'⟩:=h.get hj
  rw [hon,Array.getD_eq_getD_getElem?,h.same j hj,hj'] at h3
  rw [Array.getD_eq_getD_getElem?,hj'] at hjf
  simp at h3 hjf
  rw [h3] at hjf;cases hjf
 ·obtain ⟨e,he,hb,hon⟩:=hp.chain i o hgt ho'
  have h3:=h2 e he hb
  rw [hon,pQ (h.rest (i-1) Om Om)] at h3
  cases h3
theorem mS (hp:PreOk md l m){listed' listed:Array Bool}(h:Part l.length m listed' listed){i:Nat}(hi:i<m):i∈Region.ready md l.toArray listed↔i∈Region.ready md (l.take m).toArray listed':=by
 rw [mem_ready,mem_ready,take_at hi]
 have e1:∀ j d,j<m->listed.getD j d=listed'.getD j d:=λj d hj=>by rw [Array.getD_eq_getD_getElem?,Array.getD_eq_getD_getElem?,h.same j hj]
 rw [e1 i true hi]
 constructor
 ·rintro ⟨h1,o,ho,h2⟩
  have ho':l[i]?=some o:=by simpa using ho
  exact ⟨h1,o,ho,λe he hb=>by have:=hp.back i o ho' e he hb;rw [←e1 _ _ Om];exact h2 e he hb⟩
 ·rintro ⟨h1,o,ho,h2⟩
  have ho':l[i]?=some o:=by simpa using ho
  exact ⟨h1,o,ho,λe he hb=>by have:=hp.back i o ho' e he hb;rw [e1 _ _ Om];exact h2 e he hb⟩
theorem want_take (hp:PreOk md l m){i:Nat}(hi:i<m){o:Oper}(ho:l[i]?=some o)(tmps:Array Value):Region.wanted o (yielded (l.take m).toArray tmps)=Region.wanted o (yielded l.toArray tmps):=by
 unfold Region.wanted
 cases hg:o.guard with
 |none=>rfl
 |some x=>
  obtain ⟨g,b⟩:=x
  have:=hp.inn i o g b hi ho hg
  dsimp only
  unfold yielded
  rw [take_at this]
end
section
variable {M:List Nat}{P:Program}{n:Nat}{W:World}{Q:Exit->Act->World->Prop}{L:List Blk}{f:Nat->Value}
end
theorem run_ixarr {P:Program}{ρ:Operand->Value}{o:Oper}{t e:TypeId}{x ix:Operand}{b off off' n sz:Nat}{k:IntKind}{j:Int}(ho:o.op= .indexAddr t x ix)(hx:ρ x= .pointer (some ⟨b,off,none⟩))(hi:ρ ix= .int k j)
  (hu:P.underlying t=some (.array n e)) (hs:(P.info? e).map (·.size)=some sz) (h0:0<=j) (h1:j<n) (hoff:off+j.toNat*sz=off') (w:World):(execOp ρ o).run P w= .ok (.value (.pointer (some ⟨b,off',none⟩))) w:=by
 subst hoff
 cases he:P.info? e with
 |none=>rw [he] at hs;cases hs
 |some i=>
  rw [he] at hs
  obtain rfl:=Option.some.inj hs
  unfold execOp
  simp [ho,hx,hi,Instr.indexAt,Sem.run_bind,asIntOf,run_underlying hu,Instr.sureAddr,h0,h1,sizeOf,typeInfo,he,yI]
end
section
theorem Own.sub {M:List Nat}{W w:World}{L0:List Blk}:∀ (E:List Blk),Own M W w (E++L0)->Own M W w L0
 | [],h=>h
 |e::E,h=>Own.sub E ⟨h.os,h.tape,h.output,h.size,h.drawn,h.kept,λx hx=>h.held x (List.mem_cons_of_mem _ hx),λx hx=>h.base x (List.mem_cons_of_mem _ hx),by
   have:=h.apart
   rw [List.cons_append,List.map_cons,List.nodup_cons] at this
   exact this.2⟩
theorem Own.swap {M:List Nat}{W w:World}{x y:Blk}{L:List Blk}(h:Own M W w (x::y::L)):Own M W w (y::x::L):=
 ⟨h.os,h.tape,h.output,h.size,h.drawn,h.kept,λz hz=>h.held z (by simp only [List.mem_cons] at hz ⊢;rcases hz with h|h|h<;>simp [h]),λz hz=>h.base z (by simp only [List.mem_cons] at hz ⊢;rcases hz with h|h|h<;>simp [h]),by
  have:=h.apart
  simp only [List.map_cons,List.nodup_cons,List.mem_cons,not_or] at this ⊢
  exact ⟨⟨λe=>this.1.1 e.symm,this.2.1⟩,this.1.2,this.2.2⟩⟩
section
variable {M:List Nat}{P:Program}{n:Nat}{ops:Array Oper}{W:World}{Q:Exit->Act->World->Prop}{L0 L:List Blk}{f:Nat->Value}{fuel:Nat}{listed:Array Bool}
def PQ (Q:Exit->Act->World->Prop):Prop:=∀ c (a:Act) d v w,Q (.panic c) (a.put d v) w->Q (.panic c) a w
theorem pZ {K:Act->World->Prop}(h:PQ Q):PQ (Exit.then K Q):=λc a d v w h2=>h c a d v w h2
theorem pq_block {id:Nat}(h:PQ Q):PQ (Exit.inBlock id Q):=λc a d v w h2=>h c a d v w h2
theorem pq_round {Inv:List Blk->(Nat->Value)->Nat->Prop}{m:Nat}(h:PQ Q):PQ (Round M n W Inv m Q):=λc a d v w h2=>h c a d v w h2
theorem pq_body {fn:Func}{R:Ending->World->Prop}:PQ (bodyPost P fn R):=λc a d v w h2=>by cases d<;>exact h2
structure v8 (M:List Nat)(P:Program)(n:Nat)(ops:Array Oper)(W:World)(L0:List Blk)(Q:Exit->Act->World->Prop)(fuel:Nat)(listed:Array Bool)(L:List Blk)(f:Nat->Value):Prop where
 go:∀ w,Own M W w L->wpAnyH P .any ops Q (λw=>Own M W w L0) fuel listed (Fr n f) w
structure wK (M:List Nat)(P:Program)(n:Nat)(ops:Array Oper)(W:World)(L0:List Blk)(Q:Exit->Act->World->Prop)(fuel:Nat)(listed:Array Bool)(i:Nat)(L:List Blk)(f:Nat->Value):Prop where
 go:∀ w,Own M W w L->wpOp P ops Q i (λa' w'=>Own M W w' L0/\wpAnyH P .any ops Q (λw=>Own M W w L0) fuel (listed.setIfInBounds i true) a' w') (Fr n f) w
theorem h_done (hr:Region.ready .any ops listed=[])(h:Fin M n W Q .normal L f):v8 M P n ops W L0 Q fuel listed L f:=⟨λw hO=>wpAnyH_done hr (h.go w hO) fuel⟩
theorem ZZ (h:Fin M n W Q .normal L f)(hr:Region.ready .any ops listed=[]:=by kernel_rfl):v8 M P n ops W L0 Q fuel listed L f:=h_done hr h
theorem h_one (i:Nat)(hr:Region.ready .any ops listed=[i])(h:wK M P n ops W L0 Q fuel listed i L f):v8 M P n ops W L0 Q (fuel+1) listed L f:=⟨λw hO=>
 wpAnyH_all hr (by simp) λj hj=>by
  obtain rfl:j=i:=by simpa using hj
  exact h.go w hO⟩
theorem Zz (i:Nat)(h:wK M P n ops W L0 Q fuel listed i L f)(hr:Region.ready .any ops listed=[i]:=by kernel_rfl):v8 M P n ops W L0 Q (fuel+1) listed L f:=h_one i hr h
theorem h_two (i j:Nat)(hr:Region.ready .any ops listed=[i,j])(h:wK M P n ops W L0 Q fuel listed i L f)(h':wK M P n ops W L0 Q fuel listed j L f):v8 M P n ops W L0 Q (fuel+1) listed L f:=⟨λw hO=>
 wpAnyH_all hr (by simp) λk hk=>by
  rcases List.mem_cons.1 hk with rfl|hk
  ·exact h.go w hO
  ·obtain rfl:k=j:=by simpa using hk
   exact h'.go w hO⟩
theorem fO {i:Nat}{oi:Oper}(hi:ops[i]?=some oi)(hw:zT ops n f oi=true)(h:∀ w,Own M W w L->oi.wp P (Fr n f) w (λa' w'=>Own M W w' L0/\wpAnyH P .any ops Q (λw=>Own M W w L0) fuel (listed.setIfInBounds i true) a' w') Q):wK M P n ops W L0 Q fuel listed i L f:=⟨λw hO=>by
 unfold wpOp
 simp only [hi]
 rw [jF,hw,if_pos rfl]
 exact .inl (h w hO)⟩
end
end
section
def Sl (T:TypeId)(sz:Nat)(v:Value)(n:Nat)(xs:List Value)(ob:List Blk):Prop:=
 xs.length=n*sz/\((v= .slice none 0 0/\n=0/\ob=[])∨
  ∃ g cap cur,v= .slice (some ⟨g,0,none⟩) n cap/\ob=[⟨g,cur,T⟩]/\n<=cap/\cap<=maxLen/\cur.size=cap*sz/\cur.toList.take (n*sz)=xs)
theorem Sl.nil (T:TypeId)(sz:Nat):Sl T sz (.slice none 0 0) 0 [] []:=⟨by simp,.inl ⟨rfl,rfl,rfl⟩⟩
theorem Own.take {M:List Nat}{W w:World}{L L':List Blk}(h:Own M W w L)(hs:∀ x∈L',x∈L)(hn:(L'.map Blk.b).Nodup):Own M W w L':=
 ⟨h.os,h.tape,h.output,h.size,h.drawn,h.kept,λx hx=>h.held x (hs x hx),λx hx=>h.base x (hs x hx),hn⟩
theorem Own.move {M:List Nat}{W w:World}{E ob L0:List Blk}{x:Blk}(h:Own M W w (x::(E++ob++L0))):Own M W w (E++[x]++L0):=by
 refine h.take (λy hy=> ?_) ?_
 ·simp only [List.mem_append,List.mem_cons,List.not_mem_nil,or_false] at hy ⊢
  rcases hy with (hy|hy)|hy
  ·exact .inr (.inl (.inl hy))
  ·exact .inl hy
  ·exact .inr (.inr hy)
 ·have h1:=h.apart
  have h2:((x::(E++L0)).map Blk.b).Nodup:=by
   refine h1.sublist (List.Sublist.map _ (List.Sublist.cons_cons _ ?_))
   rw [List.append_assoc]
   exact List.Sublist.append (List.Sublist.refl E) (List.sublist_append_right ob L0)
  have hp:(E++[x]++L0).Perm (x::(E++L0)):=by
   rw [List.append_assoc];exact List.perm_middle
  exact (hp.map Blk.b).nodup_iff.2 h2
theorem bO {M:List Nat}{W w:World}{L:List Blk}(h:Own M W w L):Own M W w.drew L:=h.drew
section
variable {M:List Nat}{P:Program}{W w:World}{E ob L0:List Blk}
theorem jT {t ty T:TypeId}{i:TypeInfo}{z:Value}{sz:Nat}(ht:P.underlying t=some (.slice T))(hi:P.info? T=some i)(hz:i.zero=some z)(hsz:i.size=sz)(hzs:z.cells.size=sz)
  {v:Value} {n:Nat} {xs:List Value} (hv:Sl T sz v n xs ob) (hO:Own M W w (E++ob++L0))
  {a:Addr} {m c:Nat} {news:List Value} (hl:news.length=m*sz) (hnews:∀ j u,news[j]?=some u->w.cell? (a.add j)=some u) (h1:∀ u∈news,u.oneCell'=true)
  (h63:n+m<=maxLen) (hbytes:(n+m)*i.bytes<=140737488355328):
  ∃ v' w' ob',(Builtin.append_ #[t,t] ty #[v,.slice (some a) m c]).run P w= .ok v' w'/\Sl T sz v' (n+m) (xs++news) ob'/\Own M W w' (E++ob'++L0):=by
 subst hsz
 have hsmall:n+m<=9223372036854775807:=by simp only [maxLen] at h63;omega
 have hlen:(xs++news).length=(n+m)*i.size:=by rw [List.length_append,hv.1,hl,Nat.add_mul]
 rcases hv.2 with ⟨rfl,rfl,rfl⟩|⟨g,cap,cur,rfl,rfl,hnc,hcm,hcs,htake⟩
 ·have hx:xs=[]:=List.eq_nil_of_length_eq_zero (by simpa using hv.1)
  subst hx
  by_cases hm:m=0
  ·subst hm
   have hn:news=[]:=List.eq_nil_of_length_eq_zero (by simpa using hl)
   subst hn
   refine ⟨.slice none 0 0,w,[], ?_,Sl.nil T i.size,hO⟩
   simp [Builtin.append_,run_underlying ht,sizeOf,typeInfo,hi,Builtin.lenOf,Builtin.firstCells,loadCells,loadCellsFrom]
  ·have hr:=run_append_nil (P:=P) w t ty T i z ht hi hz a m c news hl hnews Om Om (by have hb:=hbytes;simp only [Nat.zero_add] at hb;omega)
   have hge:=grownCap_ge w m 0 T
   have hcm:=grownCap_le_maxLen w m 0 T (by simpa using h63)
   refine ⟨_,_,[⟨w.heap.size,news.toArray++Builtin.zeroCells z.cells (grownCap w m 0 T-m),T⟩],hr,⟨by simpa using hlen,.inr ⟨w.heap.size,_,_,by simp,rfl,by simpa using hge,hcm, ?_, ?_⟩⟩, ?_⟩
   ·simp only [Array.size_append,List.size_toArray,size_zeroCells,hzs,hl,←Nat.add_mul]
    congr 1
    omega
   ·simp only [Array.toList_append,Nat.zero_add,List.nil_append]
    rw [←hl]
    exact List.take_left
   ·have:=(bO hO).alloc (news.toArray++Builtin.zeroCells z.cells (grownCap w m 0 T-m)) T
    exact Own.move (ob:=[]) this
 ·by_cases hroom:n+m<=cap
  ·have hfit:n*i.size+news.length<=cur.size:=by rw [hl,hcs,←Nat.add_mul];exact Nat.mul_le_mul_right _ hroom
   have hk:(E++[Blk.mk g cur T]++L0)[E.length]?=some ⟨g,cur,T⟩:=by simp
   have hg:=hO.get hk
   have hr:=run_append_room (P:=P) w t ty T i ht hi g n cap cur hg a m c news hl hnews h1 hroom hfit
   refine ⟨_,_,[⟨g,(cur.toList.take (n*i.size)++news++cur.toList.drop (n*i.size+news.length)).toArray,T⟩],hr,⟨hlen,.inr ⟨g,cap,_,rfl,rfl,hroom,hcm, ?_, ?_⟩⟩, ?_⟩
   ·simp only [List.size_toArray,List.length_append,List.length_take,List.length_drop,Array.length_toList]
    omega
   ·rw [htake,←hlen]
    exact List.take_left
   ·have:=hO.put hk (cur.toList.take (n*i.size)++news++cur.toList.drop (n*i.size+news.length)).toArray
    have e:(E++[Blk.mk g cur T]++L0).set E.length ⟨g,(cur.toList.take (n*i.size)++news++cur.toList.drop (n*i.size+news.length)).toArray,T⟩=E++[⟨g,(cur.toList.take (n*i.size)++news++cur.toList.drop (n*i.size+news.length)).toArray,T⟩]++L0:=by simp
    rw [e] at this;exact this
  ·have hk:(E++[Blk.mk g cur T]++L0)[E.length]?=some ⟨g,cur,T⟩:=by simp
   have hg:=hO.get hk
   have holds:∀ j u,xs[j]?=some u->w.cell? ((⟨g,0,none⟩:Addr).add j)=some u:=λj u hj=>by
    rw [yI,cell_of_row w g (0+j) cur T _ hg]
    rw [←htake,List.getElem?_take] at hj
    split at hj
    ·simpa using hj
    ·cases hj
   have hr:=run_append_grow (P:=P) w t ty T i z ht hi hz ⟨g,0,none⟩ n cap xs hv.1 holds a m c news hl hnews Om Om (growslice_fits Om hbytes)
   have hge:=grownCap_ge w (n+m) cap T
   have hcm:=grownCap_le_maxLen w (n+m) cap T h63
   refine ⟨_,_,[⟨w.heap.size,xs.toArray++news.toArray++Builtin.zeroCells z.cells (grownCap w (n+m) cap T-(n+m)),T⟩],hr,⟨hlen,.inr ⟨w.heap.size,_,_,rfl,rfl,hge,hcm, ?_, ?_⟩⟩, ?_⟩
   ·simp only [Array.size_append,List.size_toArray,size_zeroCells,hzs,hv.1,hl,←Nat.add_mul]
    congr 1
    omega
   ·simp only [Array.toList_append,List.append_assoc]
    rw [←List.append_assoc,←hlen]
    exact List.take_left
   ·exact Own.move ((bO hO).alloc (xs.toArray++news.toArray++Builtin.zeroCells z.cells (grownCap w (n+m) cap T-(n+m))) T)
end
section
variable {M:List Nat}{P:Program}{n0:Nat}{ops:Array Oper}{W:World}{Q:Exit->Act->World->Prop}{rest:List Oper}{o:Oper}{E ob L0:List Blk}{f:Nat->Value}
theorem s_append {t T:TypeId}{s x:Operand}{i:TypeInfo}{z:Value}{sz:Nat}(hw:zT ops n0 f o=true)(ho:o.op= .call {callee:= .builtin .append,args:= #[s,x],argTypes:= #[t,t]})
  (ht:P.underlying t=some (.slice T)) (hi:P.info? T=some i) (hz:i.zero=some z) (hsz:i.size=sz) (hzs:z.cells.size=sz)
  {v:Value} {n:Nat} {xs:List Value} (hs:ev n0 f s=v) (hv:Sl T sz v n xs ob) {a:Addr} {m c:Nat} {news:List Value} (hx:ev n0 f x= .slice (some a) m c)
  (hl:news.length=m*sz) (hnews:∀ w,Own M W w (E++ob++L0)→∀ j u,news[j]?=some u->w.cell? (a.add j)=some u) (h1:∀ u∈news,u.oneCell'=true)
  (h63:n+m<=maxLen) (hbytes:(n+m)*i.bytes<=140737488355328)
  (h:∀ v' ob',Sl T sz v' (n+m) (xs++news) ob'->Seg M P n0 ops W Q rest (E++ob'++L0) (upd f o.dst v')):Seg M P n0 ops W Q (o::rest) (E++ob++L0) f:=
 kW hw λw hO=>by
  obtain ⟨v',w',ob',hr,h2,h3⟩:=jT (P:=P) (ty:=o.type) (c:=c) ht hi hz hsz hzs hv hO hl (hnews w hO) h1 h63 hbytes
  refine xB v' (w':=w') ?_ ((h v' ob' h2).go w' h3)
  unfold execOp
  simp only [ho,resolve,invoke,builtin,Sem.run_bind,Sem.run_pure,Result.andThen_ok,List.map_toArray,List.map_cons,List.map_nil,hs,hx,hr]
theorem s_lit {L:List Blk}{t:TypeId}{len:Nat}{parts:Array (Nat×Operand)}(T:TypeId)(cs:Array Value)(hw:zT ops n0 f o=true)(ho:o.op= .buildSlice t len parts)
  (hr:∀ w,(execOp (ev n0 f) o).run P w= .ok (.value (.slice (some ⟨w.heap.size,0,none⟩) len len)) (w.alloc (.cells cs T)))
  (h:∀ b,Seg M P n0 ops W Q rest (⟨b,cs,T⟩::L) (upd f o.dst (.slice (some ⟨b,0,none⟩) len len))):Seg M P n0 ops W Q (o::rest) L f:=
 kW hw λw hO=>xB _ (hr w) ((h w.heap.size).go _ (hO.alloc _ _))
theorem run_ixsl {ρ:Operand->Value}{t e:TypeId}{x ix:Operand}{b off off' n c sz:Nat}{k:IntKind}{j:Int}(ho:o.op= .indexAddr t x ix)(hx:ρ x= .slice (some ⟨b,off,none⟩) n c)(hi:ρ ix= .int k j)
  (hu:P.underlying t=some (.slice e)) (hs:(P.info? e).map (·.size)=some sz) (h0:0<=j) (h1:j<n) (hoff:off+j.toNat*sz=off') (w:World):(execOp ρ o).run P w= .ok (.value (.pointer (some ⟨b,off',none⟩))) w:=by
 subst hoff
 cases he:P.info? e with
 |none=>rw [he] at hs;cases hs
 |some i=>
  rw [he] at hs
  obtain rfl:=Option.some.inj hs
  unfold execOp
  simp [ho,hx,hi,Instr.indexAt,Sem.run_bind,asIntOf,run_underlying hu,Instr.sureAddr,h0,h1,sizeOf,typeInfo,he,yI]
theorem ZV {ρ:Operand->Value}{t e:TypeId}{x ix:Operand}{b off off' n c sz:Nat}{k:IntKind}{j:Int}(ho:o.op= .indexAddr t x ix:=by rfl)(hx:ρ x= .slice (some ⟨b,off,none⟩) n c:=by kernel_rfl)(hi:ρ ix= .int k j:=by kernel_rfl)(hu:P.underlying t=some (.slice e):=by kernel_rfl)(hs:(P.info? e).map (·.size)=some sz:=by kernel_rfl)(h0:0<=j:=by omega)(h1:j<n:=by omega)(hoff:off+j.toNat*sz=off':=by omega)(w:World):(execOp ρ o).run P w= .ok (.value (.pointer (some ⟨b,off',none⟩))) w:=run_ixsl ho hx hi hu hs h0 h1 hoff w
end
section
variable {α:Type}{g:α->List Value}{sz:Nat}
theorem w6 (hg:∀ x,(g x).length=sz)(l:List α):(l.flatMap g).length=l.length*sz:=by
 induction l with
 |nil=>simp
 |cons x l ih=>rw [List.flatMap_cons,List.length_append,hg,ih,List.length_cons,Nat.succ_mul,Nat.add_comm]
theorem flat_at (hg:∀ x,(g x).length=sz)(l:List α):∀ k (h:k<l.length),((l.flatMap g).drop (k*sz)).take sz=g l[k]:=by
 induction l with
 |nil=>intro k h;simp at h
 |cons x l ih=>
  intro k h
  rw [List.flatMap_cons]
  cases k with
  |zero=>
   have:=hg x
   rw [Nat.zero_mul,List.drop_zero,←this,List.take_left];rfl
  |succ k=>
   rw [Nat.succ_mul,Nat.add_comm,←List.drop_drop]
   have hd:(g x++l.flatMap g).drop sz=l.flatMap g:=by rw [←hg x];exact List.drop_left
   rw [hd]
   exact ih k (by simpa using h)
end
end
section
def nO (f:Nat->Value):List (Nat×Value)->Nat->Value
 | []=>f
 |p::r=>upd (nO f r) (some p.1) p.2
def nG (f:Nat->Value):List (Nat×Value)->Prop
 | []=>True
 |p::r=>f p.1=p.2/\nG f r
theorem vG {f:Nat->Value}:∀ (l:List (Nat×Value)),nG f l->f=nO f l
 | [],_=>rfl
 |p::r,h=>by
  have e:=vG r h.2
  have h1:nO f r p.1=p.2:=by rw [←e];exact h.1
  show f=upd (nO f r) (some p.1) p.2
  rw [←wV h1];exact e
theorem ZU {f:Nat->Value}{l:List (Nat×Value)}(h:nG f l:=by repeat (first|exact trivial|refine ⟨by kernel_rfl, ?_⟩)):f=nO f l:=vG l h
def Reads {α:Type}(g:α->List Value)(w:World)(B:Nat)(A:Option Addr)(l:List α):Prop:=
 0<l.length→∃ b off,A=some ⟨b,off,none⟩/\b<B∧∀ k u,(l.flatMap g)[k]?=some u->w.cell? ⟨b,off+k,none⟩=some u
theorem Reads.on {α:Type}{g:α->List Value}{w w':World}{B B':Nat}{A:Option Addr}{l:List α}(h:Reads g w B A l)(hb:Below B w w')(hB:B<=B'):Reads g w' B' A l:=λh0=>by
 obtain ⟨b,off,e,hlt,hc⟩:=h h0
 exact ⟨b,off,e,by omega,λk u hk=>(hb.cell (p:=⟨b,off+k,none⟩) hlt).trans (hc k u hk)⟩
theorem Sl.reads {α:Type}{g:α->List Value}{T sz n:Nat}{A:Option Addr}{cap:Nat}{l:List α}{ob:List Blk}{M:List Nat}{W w:World}{L:List Blk}(h:Sl T sz (.slice A n cap) n (l.flatMap g) ob)(hn:l.length=n)(hO:Own M W w L)(hs:∀ x∈ob,x∈L):
  Reads g w w.heap.size A l:=λh0=>by
 rcases h.2 with ⟨_,h2,_⟩|⟨b,c,cur,e,rfl,h3,h4,h5,h6⟩
 ·omega
 ·obtain ⟨rfl,_,rfl⟩:A=some ⟨b,0,none⟩/\True/\cap=c:=by
   simp only [Value.slice.injEq] at e;exact ⟨e.1,trivial,e.2.2⟩
  have hb:=hs ⟨b,cur,T⟩ (by simp)
  refine ⟨b,0,rfl,hO.lt hb,λk u hk=> ?_⟩
  rw [cell_of_row w b (0+k) cur T _ (hO.held _ hb)]
  rw [←h6,List.getElem?_take] at hk
  split at hk
  ·simpa using hk
  ·cases hk
section
variable {P:Program}
theorem old_load {ty:TypeId}{w:World}{b o:Nat}(cs:List Value)(v:Value)(h:∀ k u,cs[k]?=some u->w.cell? ⟨b,o+k,none⟩=some u)(hr:yQ P ty cs.toArray 0=some v):(loadVar ty ⟨b,o,none⟩).run P w= .ok v w:=by
 unfold yQ at hr
 cases hu:P.underlying ty with
 |none=>rw [hu] at hr;simp at hr
 |some d=>
  cases hi:P.info? ty with
  |none=>rw [hu,hi] at hr;cases d<;>simp at hr
  |some i=>
   rw [hu,hi] at hr
   by_cases hd:aggB d=true
   ·have h2:(if 0+i.size<=cs.toArray.size then some (Value.agg (cs.toArray.toList.drop 0|>.take i.size).toArray) else none)=some v:=by
     cases d<;>first|exact hr|(simp [aggB] at hd)
    split at h2
    ·rename_i hle
     obtain rfl:=Option.some.inj h2
     have hlen:(cs.take i.size).length=i.size:=by simp at hle ⊢;omega
     have hl:=run_loadCells_list (P:=P) w ⟨b,o,none⟩ (cs.take i.size) (λj u hj=>by
      rw [yI]
      rw [List.getElem?_take] at hj
      split at hj
      ·exact h j u hj
      ·cases hj)
     rw [hlen] at hl
     have hagg:(isAgg ty).run P w= .ok true w:=by
      unfold isAgg
      rw [Sem.run_bind,run_underlying hu w]
      cases d<;>simp_all [aggB]
     simp [loadVar,Sem.run_bind,hagg,sizeOf,typeInfo,hi,hl]
    ·cases h2
   ·have h2:cs.toArray[0]?=some v:=by cases d<;>first|exact hr|(simp [aggB] at hd)
    have hagg:(isAgg ty).run P w= .ok false w:=by
     unfold isAgg
     rw [Sem.run_bind,run_underlying hu w]
     cases d<;>simp_all [aggB]
    have hc:w.cell? ⟨b,o,none⟩=some v:=by simpa using h 0 v (by simpa using h2)
    simp [loadVar,Sem.run_bind,hagg,run_load,hc,Result.andThen]
theorem fR {α:Type}{g:α->List Value}{sz:Nat}(hg:∀ x,(g x).length=sz){ty:TypeId}{w:World}{b off o:Nat}{l:List α}(hc:∀ k u,(l.flatMap g)[k]?=some u->w.cell? ⟨b,off+k,none⟩=some u)(k fo:Nat)(hk:k<l.length)(ho:o=off+k*sz+fo)(v:Value)
  (hr:yQ P ty ((g l[k]).drop fo).toArray 0=some v):(loadVar ty ⟨b,o,none⟩).run P w= .ok v w:=by
 subst ho
 refine old_load ((g l[k]).drop fo) v (λj u hj=> ?_) hr
 have e:((l.flatMap g)[k*sz+(fo+j)]?)=some u:=by
  rw [List.getElem?_drop] at hj
  have:=flat_at hg l k hk
  rw [←this,List.getElem?_take] at hj
  split at hj
  ·rw [List.getElem?_drop] at hj;exact hj
  ·cases hj
 have:=hc _ u e
 rw [show off+(k*sz+(fo+j))=off+k*sz+fo+j from by omega] at this
 exact this
theorem run_ixA {ρ:Operand->Value}{o:Oper}{t e:TypeId}{x ix:Operand}{A:Option Addr}{b off off' n c sz:Nat}{k:IntKind}{j:Int}(ho:o.op= .indexAddr t x ix)(hx:ρ x= .slice A n c)(hA:A=some ⟨b,off,none⟩)(hi:ρ ix= .int k j)
  (hu:P.underlying t=some (.slice e)) (hs:(P.info? e).map (·.size)=some sz) (h0:0<=j) (h1:j<n) (hoff:off+j.toNat*sz=off') (w:World):(execOp ρ o).run P w= .ok (.value (.pointer (some ⟨b,off',none⟩))) w:=by
 subst hA
 exact run_ixsl ho hx hi hu hs h0 h1 hoff w
theorem ZA {ρ:Operand->Value}{o:Oper}{t e:TypeId}{x ix:Operand}{A:Option Addr}{b off off' n c sz:Nat}{k:IntKind}{j:Int}(hA:A=some ⟨b,off,none⟩)(ho:o.op= .indexAddr t x ix:=by rfl)(hx:ρ x= .slice A n c:=by kernel_rfl)(hi:ρ ix= .int k j:=by kernel_rfl)(hu:P.underlying t=some (.slice e):=by kernel_rfl)(hs:(P.info? e).map (·.size)=some sz:=by kernel_rfl)(h0:0<=j:=by omega)(h1:j<n:=by omega)(hoff:off+j.toNat*sz=off':=by omega)(w:World):(execOp ρ o).run P w= .ok (.value (.pointer (some ⟨b,off',none⟩))) w:=run_ixA ho hx hA hi hu hs h0 h1 hoff w
end
end
section
section
variable {M:List Nat}{P:Program}{n:Nat}{ops:Array Oper}{W:World}{Q:Exit->Act->World->Prop}{L0 L:List Blk}{f:Nat->Value}{fuel:Nat}{listed:Array Bool}{rest:List Oper}{o:Oper}
theorem s_cast {L':List Blk}(e:L=L')(h:Seg M P n ops W Q rest L' f):Seg M P n ops W Q rest L f:=by subst e;exact h
theorem ok_take {L':List Blk}{c:Code}(hs:∀ w,Own M W w L->Own M W w L')(h:Ok M P n W Q c L' f):Ok M P n W Q c L f:=⟨λw hO=>h.go w (hs w hO)⟩
theorem s_take {L':List Blk}(hs:∀ w,Own M W w L->Own M W w L')(h:Seg M P n ops W Q rest L' f):Seg M P n ops W Q rest L f:=⟨λw hO=>h.go w (hs w hO)⟩
theorem fin_take {L':List Blk}{x:Exit}(hs:∀ w,Own M W w L->Own M W w L')(h:Fin M n W Q x L' f):Fin M n W Q x L f:=⟨λw hO=>h.go w (hs w hO)⟩
theorem fP (i:Nat)(oi:Oper)(v:Value)(hi:ops[i]?=some oi)(hs:Region.noSelect ops=true)(hf:Region.free .any ops listed i=true)(hr:(Region.ready .any ops listed).contains i=true)
  (hQ:PQ Q) (hsub:∀ w,Own M W w L->Own M W w L0) (hw:zT ops n f oi=true) (hv:∀ w,Own M W w L0->(execOp (ev n f) oi).run P w= .ok (.value v) w)
  (h:v8 M P n ops W L0 Q fuel (listed.setIfInBounds i true) L (upd f oi.dst v)):v8 M P n ops W L0 Q (fuel+1) listed L f:=⟨λw hO=>by
 refine wpAnyH_take hi hs hf hr (λc a w h=>hQ c a _ _ w h) (Or.inl ⟨by rw [jF];exact hw,λw hw'=>by rw [gU];exact hv w hw'⟩) (hsub w hO) ?_
 rw [jB]
 exact h.go w hO⟩
theorem Z3 (i:Nat)(oi:Oper)(v:Value)(hi:ops[i]?=some oi)(hQ:PQ Q)(hsub:∀ w,Own M W w L->Own M W w L0)(h:v8 M P n ops W L0 Q fuel (listed.setIfInBounds i true) L (upd f oi.dst v))(hs:Region.noSelect ops=true:=by kernel_rfl)(hf:Region.free .any ops listed i=true:=by kernel_rfl)(hr:(Region.ready .any ops listed).contains i=true:=by kernel_rfl)(hw:zT ops n f oi=true:=by kernel_rfl)(hv:∀ w,Own M W w L0->(execOp (ev n f) oi).run P w= .ok (.value v) w:=by intro _ _;kernel_rfl):v8 M P n ops W L0 Q (fuel+1) listed L f:=fP i oi v hi hs hf hr hQ hsub hw hv h
theorem hl_skip (i:Nat)(oi:Oper)(hi:ops[i]?=some oi)(hs:Region.noSelect ops=true)(hf:Region.free .any ops listed i=true)(hr:(Region.ready .any ops listed).contains i=true)
  (hQ:PQ Q) (hsub:∀ w,Own M W w L->Own M W w L0) (hw:zT ops n f oi=false)
  (h:v8 M P n ops W L0 Q fuel (listed.setIfInBounds i true) L (upd f oi.dst undef)):v8 M P n ops W L0 Q (fuel+1) listed L f:=⟨λw hO=>by
 refine wpAnyH_take hi hs hf hr (λc a w h=>hQ c a _ _ w h) (Or.inr ⟨by rw [jF];exact hw,rfl⟩) (hsub w hO) ?_
 rw [jB]
 exact h.go w hO⟩
theorem hl_load (i:Nat)(oi:Oper)(k:Nat)(x:Blk){ty:TypeId}{p:Operand}{off:Nat}(v:Value)(hi:ops[i]?=some oi)(hs:Region.noSelect ops=true)(hf:Region.free .any ops listed i=true)(hr:(Region.ready .any ops listed).contains i=true)
  (hQ:PQ Q) (hsub:∀ w,Own M W w L->Own M W w L0) (hw:zT ops n f oi=true) (ho:oi.op= .load ty p) (hL:L0[k]?=some x) (hp:ev n f p= .pointer (some ⟨x.b,off,none⟩)) (hv:yQ P ty x.cs off=some v)
  (h:v8 M P n ops W L0 Q fuel (listed.setIfInBounds i true) L (upd f oi.dst v)):v8 M P n ops W L0 Q (fuel+1) listed L f:=
 fP i oi v hi hs hf hr hQ hsub hw (λ_ hO=>xD ho hp (y7 hv (hO.get hL))) h
theorem hl_old (i:Nat)(oi:Oper){ty:TypeId}{p:Operand}{a:Addr}(v:Value)(hi:ops[i]?=some oi)(hs:Region.noSelect ops=true)(hf:Region.free .any ops listed i=true)(hr:(Region.ready .any ops listed).contains i=true)
  (hQ:PQ Q) (hsub:∀ w,Own M W w L->Own M W w L0) (hw:zT ops n f oi=true) (ho:oi.op= .load ty p) (hp:ev n f p= .pointer (some a)) (hv:∀ w,Own M W w L0->(loadVar ty a).run P w= .ok v w)
  (h:v8 M P n ops W L0 Q fuel (listed.setIfInBounds i true) L (upd f oi.dst v)):v8 M P n ops W L0 Q (fuel+1) listed L f:=
 fP i oi v hi hs hf hr hQ hsub hw (λw hO=>xD ho hp (hv w hO)) h
theorem hl_step {i:Nat}(oi:Oper)(hi:ops[i]?=some oi)(hw:zT ops n f oi=true)(L':World->Value->List Blk->Prop)
  (h:∀ w,Own M W w L->oi.wp P (Fr n f) w (λa' w'=>∃ L' f',a'=Fr n f'/\Own M W w' L'/\Own M W w' L0/\v8 M P n ops W L0 Q fuel (listed.setIfInBounds i true) L' f') Q):wK M P n ops W L0 Q fuel listed i L f:=
 fO hi hw λw hO=>by
  refine Oper.wp_mono (λa' w' ⟨L',f',e,h1,h2,h3⟩=> ?_) (h w hO)
  subst e
  exact ⟨h2,h3.go w' h1⟩
theorem hl_call {i:Nat}(oi:Oper){k:FuncId}{args:Array Value}(v:Value)(hi:ops[i]?=some oi)(hw:zT ops n f oi=true)(hsub:∀ w,Own M W w L->Own M W w L0)(he:∀ w,(execOp (ev n f) oi).run P w= .ok (.enter k args) w)
  (hc:∀ w,Own M W w L->Calls P k args w (YR v w)) (h:v8 M P n ops W L0 Q fuel (listed.setIfInBounds i true) L (upd f oi.dst v)):wK M P n ops W L0 Q fuel listed i L f:=
 fO hi hw λw hO=>wU (he w) ((hc w hO).mono λe w' ⟨e1,e2⟩=>⟨v,e1,hsub w' (hO.on e2),h.go w' (hO.on e2)⟩)
theorem hl_callx {i:Nat}(oi:Oper){k:FuncId}{args:Array Value}(R:Value->List Blk->Prop)(hi:ops[i]?=some oi)(hw:zT ops n f oi=true)(he:∀ w,(execOp (ev n f) oi).run P w= .ok (.enter k args) w)
  (hc:∀ w,Own M W w L->Calls P k args w λe w'=>∃ v L',e= .returned v/\R v L'/\Own M W w' L') (hsub:∀ v L',R v L'→∀ w,Own M W w L'->Own M W w L0)
  (h:∀ v L',R v L'->v8 M P n ops W L0 Q fuel (listed.setIfInBounds i true) L' (upd f oi.dst v)):wK M P n ops W L0 Q fuel listed i L f:=
 fO hi hw λw hO=>wU (he w) ((hc w hO).mono λe w' ⟨v,L',e1,e2,e3⟩=>⟨v,e1,hsub v L' e2 w' e3,(h v L' e2).go w' e3⟩)
theorem hl_append {i0:Nat}{E ob R:List Blk}(oi:Oper){t T:TypeId}{s x:Operand}{i:TypeInfo}{z:Value}{sz:Nat}(hi0:ops[i0]?=some oi)(hw:zT ops n f oi=true)(ho:oi.op= .call {callee:= .builtin .append,args:= #[s,x],argTypes:= #[t,t]})
  (ht:P.underlying t=some (.slice T)) (hi:P.info? T=some i) (hz:i.zero=some z) (hsz:i.size=sz) (hzs:z.cells.size=sz)
  {v:Value} {m0:Nat} {xs:List Value} (hs:ev n f s=v) (hv:Sl T sz v m0 xs ob) {a:Addr} {m c:Nat} {news:List Value} (hx:ev n f x= .slice (some a) m c)
  (hl:news.length=m*sz) (hnews:∀ w,Own M W w (E++ob++R)→∀ j u,news[j]?=some u->w.cell? (a.add j)=some u) (h1:∀ u∈news,u.oneCell'=true)
  (h63:m0+m<=maxLen) (hbytes:(m0+m)*i.bytes<=140737488355328) (hsub:∀ ob' w,Own M W w (E++ob'++R)->Own M W w L0)
  (h:∀ v' ob',Sl T sz v' (m0+m) (xs++news) ob'->v8 M P n ops W L0 Q fuel (listed.setIfInBounds i0 true) (E++ob'++R) (upd f oi.dst v')):wK M P n ops W L0 Q fuel listed i0 (E++ob++R) f:=
 fO hi0 hw λw hO=>by
  obtain ⟨v',w',ob',hr,h2,h3⟩:=jT (P:=P) (ty:=oi.type) (c:=c) ht hi hz hsz hzs hv hO hl (hnews w hO) h1 h63 hbytes
  refine xB v' (w':=w') ?_ ⟨hsub ob' w' h3,(h v' ob' h2).go w' h3⟩
  unfold execOp
  simp only [ho,resolve,invoke,builtin,Sem.run_bind,Sem.run_pure,Result.andThen_ok,List.map_toArray,List.map_cons,List.map_nil,hs,hx,hr]
theorem Own.join {ob ob' R:List Blk}{w w':World}(h:Own M W w (ob++R))(hc:Own (ob.map Blk.b) w w' ob'):Own M W w' (ob'++R):=by
 have hap:=h.apart
 rw [List.map_append,List.nodup_append] at hap
 have notob:∀ x∈R,x.b∉ob.map Blk.b:=λx hx hm=>hap.2.2 x.b hm x.b (List.mem_map.2 ⟨x,hx,rfl⟩) rfl
 have ltR:∀ x∈R,x.b<w.heap.size:=λx hx=>h.lt (List.mem_append_right ob hx)
 have newob:∀ x∈ob',x.b∉R.map Blk.b:=λx hx hm=>by
  obtain ⟨y,hy,e⟩:=List.mem_map.1 hm
  rcases hc.base x hx with h1|h1
  ·have:=ltR y hy;omega
  ·exact notob y hy (e▸h1)
 refine ⟨hc.os.trans h.os,hc.tape.trans h.tape,hc.output.trans h.output,Nat.le_trans h.size hc.size,Nat.le_trans h.drawn hc.drawn,λk hk hm=> ?_,λx hx=> ?_,λx hx=> ?_, ?_⟩
 ·rw [hc.kept k (Nat.lt_of_lt_of_le hk h.size) (λhmem=>by
   obtain ⟨y,hy,e⟩:=List.mem_map.1 hmem
   rcases h.base y (List.mem_append_left R hy) with h1|h1
   ·omega
   ·exact hm (e▸h1))]
  exact h.kept k hk hm
 ·rcases List.mem_append.1 hx with hx|hx
  ·exact hc.held x hx
  ·rw [hc.kept x.b (ltR x hx) (notob x hx)]
   exact h.held x (List.mem_append_right ob hx)
 ·rcases List.mem_append.1 hx with hx|hx
  ·rcases hc.base x hx with h1|h1
   ·exact .inl (Nat.le_trans h.size h1)
   ·obtain ⟨y,hy,e⟩:=List.mem_map.1 h1
    rw [←e];exact h.base y (List.mem_append_left R hy)
  ·exact h.base x (List.mem_append_right ob hx)
 ·rw [List.map_append,List.nodup_append]
  refine ⟨hc.apart,hap.2.1,λa ha b hb e=> ?_⟩
  obtain ⟨x,hx,rfl⟩:=List.mem_map.1 ha
  exact newob x hx (e▸hb)
theorem Own.joinN {ob' R:List Blk}{w w':World}(h:Own M W w R)(hc:Own [] w w' ob'):Own M W w' (ob'++R):=Own.join (ob:=[]) h hc
end
section
variable {P:Program}{n:Nat}{W:World}{f:Nat->Value}{Q:Exit->Act->World->Prop}{M:List Nat}{ops:Array Oper}{rest:List Oper}{o:Oper}{L:List Blk}
theorem tN {k:FuncId}{fn:Func}{c:Code}{args:Array Value}{R:Ending->World->Prop}(hO:Own M W W L)(hf:P.funcs[k]?=some fn)(hb:fn.body=some c)(hn:fn.ntmps=n)(hle:Nat.ble args.size n=true)
  (h:Ok M P n W (bodyPost P fn R) c L (λt=>args.getD t undef)):Calls P k args W R:=by
 have h2:Ok M P n W (bodyPost P fn R) c [] (λt=>args.getD t undef)->Calls P k args W R:=calls_okM M hf hb hn hle
 refine calls_of_wp hf hb ?_
 have hle':args.size<=n:=Nat.le_of_ble_eq_true hle
 have e:({tmps:=args++Array.replicate (fn.ntmps-args.size) undef,defers:=[]}:Act)=Fr n (λt=>args.getD t undef):=by
  unfold Fr
  congr 1
  rw [hn]
  apply Array.ext_getElem?
  intro i
  rw [Array.getElem?_ofFn,Array.getElem?_append,Array.getElem?_replicate]
  by_cases hi:i<args.size
  ·rw [if_pos hi,dif_pos Om,Array.getElem?_eq_getElem hi]
   simp [Array.getD,hi]
  ·rw [if_neg hi]
   by_cases hin:i<n
   ·rw [if_pos Om,dif_pos hin]
    simp [Array.getD,hi]
   ·rw [if_neg Om,dif_neg hin]
 rw [e]
 exact h.go W hO
theorem Sl.block {T sz m:Nat}{A:Option Addr}{cap:Nat}{xs:List Value}{ob:List Blk}(h:Sl T sz (.slice A m cap) m xs ob)(h0:0<m):∃ g cur,A=some ⟨g,0,none⟩/\ob=[⟨g,cur,T⟩]/\m<=cap/\cap<=maxLen/\cur.size=cap*sz/\cur.toList.take (m*sz)=xs:=by
 rcases h.2 with ⟨_,h2,_⟩|⟨g,c,cur,e,e2,h3,h4,h5,h6⟩
 ·omega
 ·simp only [Value.slice.injEq] at e
  obtain ⟨rfl,_,rfl⟩:=e
  exact ⟨g,cur,rfl,e2,h3,h4,h5,h6⟩
end
section
variable {P:Program}{n:Nat}{W:World}{f:Nat->Value}{Q:Exit->Act->World->Prop}{M:List Nat}{ops:Array Oper}{rest:List Oper}{o:Oper}{L:List Blk}
theorem s_storeS (i:Nat)(x:Blk){T:TypeId}{p q:Operand}{off:Nat}(v:Value)(sz:Nat)(hw:zT ops n f o=true)(ho:o.op= .store T p q)(hd:o.dst=none)(hL:L[i]?=some x)
  (hp:ev n f p= .pointer (some ⟨x.b,off,none⟩)) (hq:ev n f q=v) (hz:(P.info? T).map (·.size)=some sz) (hs:v.cells.size=sz) (hle:off+sz<=x.cs.size) (h1:(v.cells.toList.all λu=>u.oneCell')=true)
  (h:Seg M P n ops W Q rest (L.set i ⟨x.b,yR x.cs off v.cells,x.ty⟩) f):Seg M P n ops W Q (o::rest) L f:=by
 cases ht:P.info? T with
 |none=>rw [ht] at hz;cases hz
 |some t=>
  rw [ht] at hz
  have e:t.size=sz:=Option.some.inj hz
  exact s_store i x v hw ho hd hL hp hq ht (by rw [hs,e]) (by rw [e];exact hle) (List.all_eq_true.1 h1) h
theorem store_elem {α:Type}{g:α->List Value}{sz:Nat}(hg:∀ x,(g x).length=sz){cur:Array Value}{l:List α}(ht:cur.toList.take (l.length*sz)=l.flatMap g)(k fo:Nat)(hk:k<l.length)(vs:Array Value)(y:α)(hfit:fo+vs.size<=sz)
  (hy:g y=(g l[k]).take fo++vs.toList++(g l[k]).drop (fo+vs.size)):(yR cur (k*sz+fo) vs).toList.take (l.length*sz)=(l.set k y).flatMap g/\(yR cur (k*sz+fo) vs).size=cur.size:=by
 obtain ⟨R,hR⟩:∃ R,cur.toList=l.flatMap g++R:=⟨cur.toList.drop (l.length*sz),by rw [←ht];exact (List.take_append_drop _ _).symm⟩
 have hsplit:l.flatMap g=(l.take k).flatMap g++(g l[k]++(l.drop (k+1)).flatMap g):=by
  rw [←List.flatMap_cons,←List.drop_eq_getElem_cons hk,←List.flatMap_append,List.take_append_drop]
 obtain ⟨A,hA⟩:∃ A,(l.take k).flatMap g=A:=⟨_,rfl⟩
 obtain ⟨B,hB⟩:∃ B,(l.drop (k+1)).flatMap g=B:=⟨_,rfl⟩
 obtain ⟨G,hG⟩:∃ G,g l[k]=G:=⟨_,rfl⟩
 have lA:A.length=k*sz:=by rw [←hA,w6 hg,List.length_take,Nat.min_eq_left Om]
 have lG:G.length=sz:=by rw [←hG];exact hg _
 have lB:B.length=(l.length-(k+1))*sz:=by rw [←hB,w6 hg,List.length_drop]
 have tot:k*sz+sz+(l.length-(k+1))*sz=l.length*sz:=by
  rw [←Nat.succ_mul,←Nat.add_mul];congr 1;omega
 rw [hA,hB,hG] at hsplit
 rw [hG] at hy
 have hset:(l.set k y).flatMap g=A++(g y++B):=by
  rw [List.set_eq_take_append_cons_drop,if_pos hk,List.flatMap_append,List.flatMap_cons,hA,hB]
 have hcur:cur.toList=A++(G++(B++R)):=by rw [hR,hsplit];simp only [List.append_assoc]
 have e1:cur.toList.take (k*sz+fo)=A++G.take fo:=by
  rw [hcur,←lA,List.take_length_add_append,List.take_append_of_le_length Om]
 have e2:cur.toList.drop (k*sz+fo+vs.size)=G.drop (fo+vs.size)++(B++R):=by
  rw [hcur,←lA,Nat.add_assoc,List.drop_length_add_append,List.drop_append_of_le_length Om]
 have e3:(yR cur (k*sz+fo) vs).toList=A++(g y++(B++R)):=by
  unfold yR
  rw [e1,e2,hy];simp only [List.append_assoc]
 constructor
 ·rw [e3,hset]
  have:A++(g y++(B++R))=(A++(g y++B))++R:=by simp only [List.append_assoc]
  rw [this]
  exact List.take_left' (by rw [List.length_append,List.length_append,lA,lB,hg];omega)
 ·have h1:=congrArg List.length e3
  have h2:=congrArg List.length hcur
  simp only [List.length_append,Array.length_toList,hg,lG] at h1 h2
  omega
end
end
section
section
variable {P:Program}
theorem run_slhi {ρ:Operand->Value}{o:Oper}{t e:TypeId}{x y:Operand}{b off n c sz:Nat}{k:IntKind}{j:Int}(ho:o.op= .slice t x none (some y) none)(hx:ρ x= .slice (some ⟨b,off,none⟩) n c)(hy:ρ y= .int k j)
  (hu:P.underlying t=some (.slice e)) (hs:(P.info? e).map (·.size)=some sz) (h0:0<=j) (h1:j<=c) (w:World):(execOp ρ o).run P w= .ok (.value (.slice (some ⟨b,off,none⟩) j.toNat c)) w:=by
 cases he:P.info? e with
 |none=>rw [he] at hs;cases hs
 |some i=>
  unfold execOp
  simp [ho,hx,hy,Instr.sliceAt,Instr.slice,Instr.sliceBounds,Instr.sliceBound,Sem.run_bind,asIntOf,run_underlying hu,h0,h1,sizeOf,typeInfo,he,yI]
theorem run_sllo {ρ:Operand->Value}{o:Oper}{t e:TypeId}{x y:Operand}{b off n c sz:Nat}{k:IntKind}{j:Int}(ho:o.op= .slice t x (some y) none none)(hx:ρ x= .slice (some ⟨b,off,none⟩) n c)(hy:ρ y= .int k j)
  (hu:P.underlying t=some (.slice e)) (hs:(P.info? e).map (·.size)=some sz) (h0:0<=j) (h1:j<=n) (w:World):(execOp ρ o).run P w= .ok (.value (.slice (some ⟨b,off+(if c=j.toNat then 0 else j.toNat*sz),none⟩) (n-j.toNat) (c-j.toNat))) w:=by
 cases he:P.info? e with
 |none=>rw [he] at hs;cases hs
 |some i=>
  rw [he] at hs
  obtain rfl:=Option.some.inj hs
  unfold execOp
  by_cases hc:c=j.toNat
  ·simp [ho,hx,hy,Instr.sliceAt,Instr.slice,Instr.sliceBounds,Instr.sliceBound,Sem.run_bind,asIntOf,run_underlying hu,h0,h1,sizeOf,typeInfo,he,yI,hc]
  ·simp [ho,hx,hy,Instr.sliceAt,Instr.slice,Instr.sliceBounds,Instr.sliceBound,Sem.run_bind,asIntOf,run_underlying hu,h0,h1,sizeOf,typeInfo,he,yI,hc]
end
end
section
section
variable {P:Program}{w:World}{ob:List Blk}
theorem dA {t ty T:TypeId}{i:TypeInfo}(ht:P.underlying t=some (.slice T))(hi:P.info? T=some i){sz:Nat}{v:Value}{n:Nat}{xs:List Value}(hv:Sl T sz v n xs ob)(c:Nat):
  (Builtin.append_ #[t,t] ty #[v,.slice none 0 c]).run P w= .ok v w:=by
 rcases hv.2 with ⟨rfl,rfl,rfl⟩|⟨g,cap,cur,rfl,rfl,hnc,hcm,hcs,htake⟩
 ·simp [Builtin.append_,run_underlying ht,sizeOf,typeInfo,hi,Builtin.lenOf,Builtin.firstCells]
 ·simp [Builtin.append_,run_underlying ht,sizeOf,typeInfo,hi,Builtin.lenOf,Builtin.firstCells,hnc,storeCells]
end
section
variable {M:List Nat}{P:Program}{n0:Nat}{ops:Array Oper}{W:World}{Q:Exit->Act->World->Prop}{rest:List Oper}{o:Oper}{E ob L0:List Blk}{f:Nat->Value}
end
end
section
theorem freeze_drawn (w:World)(a:Addr)(m:Nat):(w.freeze a m).drawn=w.drawn:=by unfold World.freeze;split<;>rfl
theorem Own.freeze {M:List Nat}{W w:World}{x:Blk}{L:List Blk}(h:Own M W w (x::L))(m:Nat):Own M W (w.freeze ⟨x.b,0,none⟩ m) L:=by
 have hne:∀ k,k≠x.b->(w.freeze ⟨x.b,0,none⟩ m).heap[k]?=w.heap[k]?:=λk hk=>by
  unfold World.freeze
  split
  ·rfl
  ·simp only [Array.getElem?_modify];rw [if_neg (Ne.symm hk)]
 have hsz:(w.freeze ⟨x.b,0,none⟩ m).heap.size=w.heap.size:=by unfold World.freeze;split<;>simp
 have ho:(w.freeze ⟨x.b,0,none⟩ m).os=w.os/\(w.freeze ⟨x.b,0,none⟩ m).tape=w.tape/\(w.freeze ⟨x.b,0,none⟩ m).output=w.output:=by unfold World.freeze;split<;>exact ⟨rfl,rfl,rfl⟩
 have hap:=h.apart
 rw [List.map_cons,List.nodup_cons] at hap
 refine ⟨ho.1.trans h.os,ho.2.1.trans h.tape,ho.2.2.trans h.output,by rw [hsz];exact h.size,by rw [freeze_drawn];exact h.drawn,λk hk hm=> ?_,λy hy=> ?_,λy hy=>h.base y (List.mem_cons_of_mem _ hy),hap.2⟩
 ·rw [hne k (λe=>by
   rcases h.base x List.mem_cons_self with h1|h1
   ·omega
   ·exact hm (e▸h1))]
  exact h.kept k hk hm
 ·rw [hne y.b (λe=>hap.1 (e▸List.mem_map_of_mem hy))]
  exact h.held y (List.mem_cons_of_mem _ hy)
section
variable {M:List Nat}{P:Program}{n0:Nat}{ops:Array Oper}{W:World}{Q:Exit->Act->World->Prop}{rest:List Oper}{o:Oper}{L:List Blk}{f:Nat->Value}
theorem s_make {t e:TypeId}{x y:Operand}{i:TypeInfo}{z:Value}{kl kc:IntKind}{l c:Int}(hw:zT ops n0 f o=true)(ho:o.op= .makeSlice t x y)(hx:ev n0 f x= .int kl l)(hy:ev n0 f y= .int kc c)
  (ht:P.underlying t=some (.slice e)) (hi:P.info? e=some i) (hz:i.zero=some z) (h0:0<=l) (hlc:l<=c) (hbytes:(i.bytes:Int)*c<=281474976710656) (h63:c<=9223372036854775807)
  (h:∀ b,Seg M P n0 ops W Q rest (⟨b,madeCells z.cells (c.toNat*i.size),e⟩::L) (upd f o.dst (.slice (some ⟨b,0,none⟩) l.toNat c.toNat))):Seg M P n0 ops W Q (o::rest) L f:=
 kW hw λw hO=>by
  refine xB _ (w':=w.alloc (.cells (madeCells z.cells (c.toNat*i.size)) e)) ?_ ((h w.heap.size).go _ (hO.alloc _ _))
  have hr:=run_make (P:=P) w t e i z ht hi hz kl kc l c h0 hlc hbytes h63
  unfold execOp
  simp only [ho,hx,hy,Sem.run_bind,Sem.run_pure,Result.andThen_ok,hr]
theorem s_copyS {t u e:TypeId}{x y:Operand}{b cap:Nat}{cs:Array Value}{T:TypeId}{s:ByteArray}(hw:zT ops n0 f o=true)(ho:o.op= .call {callee:= .builtin .copy,args:= #[x,y],argTypes:= #[t,u]})
  (hx:ev n0 f x= .slice (some ⟨b,0,none⟩) s.size cap) (hy:ev n0 f y= .string s) (ht:P.underlying t=some (.slice e)) (hs:(P.info? e).map (·.size)=some 1) (hc:cs.size=s.size)
  (h:Seg M P n0 ops W Q rest (⟨b,(Lib.byteCells s.data.toList).toArray,T⟩::L) (upd f o.dst (goInt s.size))):Seg M P n0 ops W Q (o::rest) (⟨b,cs,T⟩::L) f:=
 kW hw λw hO=>by
  have hr:=Lib.run_copy_row_string (P:=P) w t u o.type e b 0 s.size cap s cs T ht hs (hO.held _ List.mem_cons_self) (Nat.le_refl _) Om
  have hcs:(cs.toList.take 0++Lib.byteCells s.data.toList++cs.toList.drop (0+s.size)).toArray=(Lib.byteCells s.data.toList).toArray:=by
   rw [List.take_zero,List.nil_append,List.drop_of_length_le (by rw [Array.length_toList];omega),List.append_nil]
  rw [hcs] at hr
  refine xB _ (w':=w.setRow b (Lib.byteCells s.data.toList).toArray) ?_ (h.go _ (hO.put (i:=0) (x:=⟨b,cs,T⟩) rfl _))
  unfold execOp
  simp only [ho,resolve,invoke,builtin,Sem.run_bind,Sem.run_pure,Result.andThen_ok,List.map_toArray,List.map_cons,List.map_nil,hx,hy,hr]
theorem s_ustr {t u e:TypeId}{x y:Operand}{b:Nat}{s:ByteArray}(hw:zT ops n0 f o=true)(ho:o.op= .call {callee:= .builtin .unsafeString,args:= #[x,y],argTypes:= #[t,u]})
  (hx:ev n0 f x= .pointer (some ⟨b,0,none⟩)) (hy:ev n0 f y=YI s.size) (ht:P.underlying t=some (.pointer e)) (hc:P.cellsOf e=1) (hne:s.size≠0) (h63:s.size<=9223372036854775807)
  (h:Seg M P n0 ops W Q rest L (upd f o.dst (.string s))):Seg M P n0 ops W Q (o::rest) (⟨b,(Lib.byteCells s.data.toList).toArray,e⟩::L) f:=
 kW hw λw hO=>by
  have hg:=hO.held _ List.mem_cons_self
  have hl:s.data.toList.length=s.size:=by rw [←Lib.size_eq]
  have hr:=Lib.run_unsafeString_row (P:=P) w t u o.type e ht hc b s.size (by unfold World.shape?;simp only at hg;rw [hg];simp [Lib.byteCells_length,hl]) s.data.toList (λe=>hne (by rw [←hl,e];rfl)) Om Om
   (λj x hx=>by
    rw [yI,cell_of_row w b (0+j) _ e _ hg]
    simp [Lib.byteCells,hx])
  rw [hl] at hr
  refine xB _ (w':=w.freeze ⟨b,0,none⟩ s.size) ?_ (h.go _ (hO.freeze s.size))
  unfold execOp
  simp only [ho,resolve,invoke,builtin,Sem.run_bind,Sem.run_pure,Result.andThen_ok,List.map_toArray,List.map_cons,List.map_nil,hx,hy,hr]
end
end
section
section
variable {M:List Nat}{P:Program}{n:Nat}{W:World}{Q:Exit->Act->World->Prop}{L:List Blk}{f:Nat->Value}
def JoinQ (M:List Nat)(n:Nat)(W:World)(R:List Blk->(Nat->Value)->Prop):Exit->Act->World->Prop
 | .normal,a,w=>∃ L f,R L f/\Own M W w L/\a=Fr n f
 |_,_,_=>False
theorem pq_join {R:List Blk->(Nat->Value)->Prop}:PQ (JoinQ M n W R):=λc a d v w h=>h
theorem ok_join {c:Code}(R:List Blk->(Nat->Value)->Prop)(h1:Ok M P n W (JoinQ M n W R) c L f)(h2:∀ L f,R L f->Fin M n W Q .normal L f):Ok M P n W Q c L f:=⟨λw hO=>
 Code.wp_mono (λe a w h=>by
  cases e with
  |normal=>
   obtain ⟨L',f',hR,hO',rfl⟩:=h
   exact (h2 L' f' hR).go w hO'
  |_=>exact absurd h id) (h1.go w hO)⟩
theorem fin_join {R:List Blk->(Nat->Value)->Prop}(h:R L f):Fin M n W (JoinQ M n W R) .normal L f:=⟨λw hO=>⟨L,f,h,hO,rfl⟩⟩
end
end
section
section
variable {M:List Nat}{P:Program}{n0:Nat}{ops:Array Oper}{W:World}{Q:Exit->Act->World->Prop}{rest:List Oper}{o:Oper}{L:List Blk}{f:Nat->Value}
end
end
section
section
variable {M:List Nat}{P:Program}{n:Nat}{ops:Array Oper}{W:World}{Q:Exit->Act->World->Prop}{rest:List Oper}{o:Oper}{L:List Blk}{f:Nat->Value}{Qe:List Blk->(Nat->Value)->Prop}
end
end
section
end
section
theorem Reads.load {P:Program}{α:Type}{g:α->List Value}{sz:Nat}(hg:∀ x,(g x).length=sz){ty:TypeId}{w:World}{B b off o:Nat}{A:Option Addr}{l:List α}(h:Reads g w B A l)(hA:A=some ⟨b,off,none⟩)(k fo:Nat)(hk:k<l.length)(ho:o=off+k*sz+fo)(v:Value)
  (hr:yQ P ty ((g l[k]).drop fo).toArray 0=some v):(loadVar ty ⟨b,o,none⟩).run P w= .ok v w:=by
 subst hA
 obtain ⟨b',off',e,hlt,hcell⟩:=h Om
 obtain ⟨rfl,rfl⟩:b=b'/\off=off':=by simp at e;exact e
 exact fR hg hcell k fo hk ho v hr
end
section
theorem mk_data (t:YL):(mkS t).data.toList=t:=by unfold mkS;simp
theorem y4 (t:YL):(mkS t).size=t.length:=by unfold mkS;simp [ByteArray.size]
theorem yJ (a b:YL):mkS a++mkS b=mkS (a++b):=by
 unfold mkS;apply ByteArray.ext;simp
theorem qX (a:YL):(mkS a).size=a.length:=by unfold mkS;simp [ByteArray.size]
theorem Own.sublist {M:List Nat}{W w:World}{L L':List Blk}(h:Own M W w L)(hs:List.Sublist L' L):Own M W w L':=h.take (λx hx=>hs.subset hx) (h.apart.sublist (hs.map _))
theorem Own.lend {M:List Nat}{W w:World}{L:List Blk}(h:Own M W w L):Own (L.map Blk.b) w w L:=
 ⟨rfl,rfl,rfl,Nat.le_refl _,Nat.le_refl _,λ_ _ _=>rfl,h.held,λx hx=> .inr (List.mem_map.2 ⟨x,hx,rfl⟩),h.apart⟩
section
variable {M:List Nat}{P:Program}{n:Nat}{ops:Array Oper}{W:World}{Q:Exit->Act->World->Prop}{L0 L:List Blk}{f:Nat->Value}{fuel:Nat}{listed:Array Bool}{rest:List Oper}{o:Oper}
theorem s_callo {k:FuncId}{args:Array Value}(R:Value->List Blk->Prop)(hw:zT ops n f o=true)(he:∀ w,(execOp (ev n f) o).run P w= .ok (.enter k args) w)
  (hc:∀ w,Own M W w L->Calls P k args w λe w'=>∃ v L',e= .returned v/\R v L'/\Own M W w' L') (h:∀ v L',R v L'->Seg M P n ops W Q rest L' (upd f o.dst v)):Seg M P n ops W Q (o::rest) L f:=
 kW hw λw hO=>wU (he w) ((hc w hO).mono λe w' ⟨v,L',e1,e2,e3⟩=>⟨v,e1,(h v L' e2).go w' e3⟩)
theorem Zr {k:FuncId}{args:Array Value}(R:Value->List Blk->Prop)(hc:∀ w,Own M W w L->Calls P k args w λe w'=>∃ v L',e= .returned v/\R v L'/\Own M W w' L')(h:∀ v L',R v L'->Seg M P n ops W Q rest L' (upd f o.dst v))(hw:zT ops n f o=true:=by kernel_rfl)(he:∀ w,(execOp (ev n f) o).run P w= .ok (.enter k args) w:=by intro _;kernel_rfl):Seg M P n ops W Q (o::rest) L f:=s_callo R hw he hc h
theorem Own.perm {w:World}{L':List Blk}(h:Own M W w L)(hp:L.Perm L'):Own M W w L':=
 h.take (λx hx=>hp.mem_iff.2 hx) ((hp.map Blk.b).nodup_iff.1 h.apart)
end
def SlT (v:Value)(l:List YL)(ob:List Blk):Prop:=Sl 9 1 v l.length (vH l) ob
theorem SlT.form {v:Value}{l:List YL}{ob:List Blk}(h:SlT v l ob):∃ A cap,v= .slice A l.length cap:=by
 rcases h.2 with ⟨h1,h2,_⟩|⟨g,cap,cur,h1,_⟩
 ·exact ⟨none,0,by rw [h1,h2]⟩
 ·exact ⟨_,_,h1⟩
theorem Own.row {w w':World}{T sz n:Nat}{v:Value}{xs:List Value}(h:w'.ownsRow w.heap.size T sz v n xs)(hb:YB w w'):∃ ob,Sl T sz v n xs ob/\Own [] w w' ob:=by
 rcases h.2 with ⟨h1,h2⟩|⟨g,cap,cur,h1,h2,h3,h4,h5,h6,h7⟩
 ·exact ⟨[],⟨h.1,.inl ⟨h1,h2,rfl⟩⟩,⟨hb.os,hb.tape,hb.output,hb.size,hb.drawn,λk hk _=>hb.block k hk,by simp,by simp,by simp⟩⟩
 ·refine ⟨[⟨g,cur,T⟩],⟨h.1,.inr ⟨g,cap,cur,h1,rfl,h4,h5,h6,h7⟩⟩,⟨hb.os,hb.tape,hb.output,hb.size,hb.drawn,λk hk _=>hb.block k hk, ?_, ?_,by simp⟩⟩
  ·intro x hx
   rw [List.mem_singleton.1 hx];exact h3
  ·intro x hx
   rw [List.mem_singleton.1 hx];exact .inl h2
def y9 (x:YL):List Value:=[.string (mkS x)]
theorem zW (x:YL):(y9 x).length=1:=rfl
theorem x5:∀ (l:List YL),vH l=l.flatMap y9
 | []=>rfl
 |x::l=>by
  show Value.string (mkS x)::vH l=[Value.string (mkS x)]++l.flatMap y9
  rw [x5 l];rfl
theorem SlT.reads {A:Option Addr}{n cap:Nat}{l:List YL}{ob L:List Blk}{M:List Nat}{W w:World}(h:SlT (.slice A n cap) l ob)(hn:l.length=n)(hO:Own M W w L)(hs:∀ x∈ob,x∈L):Reads y9 w w.heap.size A l:=by
 subst hn
 unfold SlT at h
 rw [x5] at h
 exact Sl.reads h rfl hO hs
theorem slt_lit (l:List YL)(b:Nat)(cur:Array Value)(h:cur.toList=vH l)(hm:l.length<=maxLen):SlT (.slice (some ⟨b,0,none⟩) l.length l.length) l [⟨b,cur,9⟩]:=by
 have hc:cur.toList.length=l.length:=by rw [h,vV]
 refine ⟨by rw [vV];omega,.inr ⟨b,l.length,cur,rfl,rfl,Nat.le_refl _,hm,by rw [←Array.length_toList,hc];omega, ?_⟩⟩
 rw [h]
 exact List.take_of_length_le (by rw [vV];omega)
theorem Sl.to {T:TypeId}{sz:Nat}{v:Value}{n n':Nat}{xs xs':List Value}{ob:List Blk}(h:Sl T sz v n xs ob)(e:n=n')(e':xs=xs'):Sl T sz v n' xs' ob:=by subst e;subst e';exact h
theorem Sl.form {T sz n:Nat}{v:Value}{xs:List Value}{ob:List Blk}(h:Sl T sz v n xs ob):∃ A cap,v= .slice A n cap:=by
 rcases h.2 with ⟨h1,h2,_⟩|⟨g,cap,cur,h1,_⟩
 ·exact ⟨none,0,by rw [h1,h2]⟩
 ·exact ⟨_,_,h1⟩
def EqOk (P:Program)(d:Nat)(xs ys:Array Value):List Field->List Bool->Prop
 | [],[]=>True
 | f :: fs, b :: bs => f.name ≠ "_" ∧ (∃ u v, ∀ w, (part f.type xs f.offset).run P w = .ok u w ∧ (part f.type ys f.offset).run P w = .ok v w ∧ (Op.equalIn d f.type u v).run P w = .ok b w) ∧ EqOk P d xs ys fs bs
 |_,_=>False
theorem eqF {P:Program}{d:Nat}{xs ys:Array Value}:∀ (fs:List Field) (bs:List Bool),EqOk P d xs ys fs bs→∀ w,(Op.eqFields d xs ys fs).run P w= .ok (bs.all id) w
 | [],[],_,w=>rfl
 |f::fs,b::bs,h,w=>by
  obtain ⟨h1,⟨u,v,h2⟩,h3⟩:=h
  obtain ⟨e1,e2,e3⟩:=h2 w
  have ih:=eqF fs bs h3 w
  unfold Op.eqFields
  rw [if_pos h1]
  simp only [Sem.run_bind,e1,e2,e3,Result.andThen_ok]
  cases b with
  |false=>simp
  |true=>simp [ih]
 | [],_::_,h,_=>h.elim
 |_::_,[],h,_=>h.elim
theorem eq_agg {P:Program}{d:Nat}{t:TypeId}{xs ys:Array Value}{fs:List Field}{bs:List Bool}(hu:P.underlying t=some (.struct fs.toArray))(hp:P.stoodInHeld t=false)(h:EqOk P d xs ys fs bs)(w:World):
  (Op.equalIn (d+1) t (.agg xs) (.agg ys)).run P w= .ok (bs.all id) w:=by
 have hf:P.fieldsOf t=fs.toArray:=by unfold Program.fieldsOf;rw [hu]
 rw [run_equalIn_struct w d t xs ys (by rw [hf];exact hu) hp,hf]
 have:fs.toArray.toList=fs:=by simp
 rw [this]
 exact eqF fs bs h w
theorem run_eq_op {P:Program}{ρ:Operand->Value}{o:Oper}{t t':TypeId}{x y:Operand}{xs ys:Array Value}{b:Bool}(ho:o.op= .binOp .eql t x y t')(hx:ρ x= .agg xs)(hy:ρ y= .agg ys)(hm:P.eqGuardType P.depth t=false)
  (h:∀ w,(Op.equalIn 10000 t (.agg xs) (.agg ys)).run P w= .ok b w) (w:World):(execOp ρ o).run P w= .ok (.value (.bool b)) w:=by
 have h1:=run_eqGuard_agg (P:=P) w .eql t x y xs ys hm
 have h2:(binOp .eql t (.agg xs) (.agg ys)).run P w= .ok (.bool b) w:=by rw [run_eql_struct,h w];rfl
 unfold execOp
 simp only [ho,hx,hy,Sem.run_bind,h1,Result.andThen_ok,h2,Sem.run_pure]
theorem nP (a b:YL):((mkS a).toList==(mkS b).toList)=decide (a=b):=by
 rw [Lib.toList_data,Lib.toList_data,mk_data,mk_data]
 by_cases h:a=b
 ·subst h;simp
 ·rw [decide_eq_false h];simpa using h
theorem bJ {P:Program}{op:BinOp}{t:TypeId}{x y:Operand}{a b:ByteArray}(w:World):(eqGuard op t x y (.string a) (.string b)).run P w= .ok () w:=by cases op<;>simp [eqGuard]
theorem run_streql {P:Program}{ρ:Operand->Value}{o:Oper}{t t':TypeId}{x y:Operand}{a b:YL}{r:Bool}(ho:o.op= .binOp .eql t x y t')(hx:ρ x= .string (mkS a))(hy:ρ y= .string (mkS b))(h:decide (a=b)=r)(w:World):(execOp ρ o).run P w= .ok (.value (.bool r)) w:=by
 unfold execOp
 simp only [ho,hx,hy,Sem.run_bind,bJ,Result.andThen_ok,binOp_string_eql,Sem.run_pure,nP,h]
theorem pN (t:TypeId)(a b:ByteArray):binOp .neq t (.string a) (.string b)=pure (.bool (!(a.toList==b.toList))):=by simp [binOp,Op.stringOp]
theorem run_strneq {P:Program}{ρ:Operand->Value}{o:Oper}{t t':TypeId}{x y:Operand}{a b:YL}{r:Bool}(ho:o.op= .binOp .neq t x y t')(hx:ρ x= .string (mkS a))(hy:ρ y= .string (mkS b))(h:decide (a=b)=r)(w:World):(execOp ρ o).run P w= .ok (.value (.bool (!r))) w:=by
 unfold execOp
 simp only [ho,hx,hy,Sem.run_bind,bJ,Result.andThen_ok,pN,Sem.run_pure,nP,h]
theorem all5 (a b c d e:Bool):([a,b,c,d,e].all id)=(a && (b && (c && (d && e)))):=by simp
theorem int_beq (a b:Int):(a==b)=decide (a=b):=rfl
theorem Own.belowB {M:List Nat}{W w:World}{L:List Blk}{B:Nat}(h:Own M W w L)(hM:∀ k∈M,B<=k)(hB:B<=W.heap.size):Below B W w:=
 ⟨h.os,h.tape,h.output,h.size,h.drawn,λk hk=>h.kept k (Nat.lt_of_lt_of_le hk hB) λhm=>absurd (hM k hm) (Nat.not_le.2 hk)⟩
theorem Own.back {ob ob' R:List Blk}{M:List Nat}{W w w':World}(h:Own M W w (ob++R))(hc:Own (ob.map Blk.b) w w' ob'):Own M W w' (ob'++R):=Own.join h hc
end
section
section
variable {M:List Nat}{P:Program}{n:Nat}{ops:Array Oper}{W:World}{Q:Exit->Act->World->Prop}{L:List Blk}{f:Nat->Value}{rest:List Oper}{o:Oper}
def RoundW (n:Nat)(Inv:World->(Nat->Value)->Nat->Prop)(m:Nat)(Q:Exit->Act->World->Prop):Exit->Act->World->Prop:=
 Exit.then (λa w=>∃ f m',m'<m/\Inv w f m'/\a=Fr n f) Q
end
structure RdT (w:World)(v:Value)(l:List YL):Prop where
 ex:∃ A cap,v= .slice A l.length cap/\Reads y9 w w.heap.size A l/\(A=none->cap=0)
end
section
section
variable {P:Program}{md:Region.Mode}{l:List Oper}{m:Nat}
theorem upon_then {o:Oper}{a:Act}{K K':Act->World->Prop}{Q:Exit->Act->World->Prop}{r:Result Next}:o.upon P a K (Exit.then K' Q) r=o.upon P a K Q r:=by
 cases r with
 |ok x w=>cases x<;>rfl
 |halt x w=>cases x<;>rfl
theorem wpOp_take (hp:PreOk md l m){Q:Exit->Act->World->Prop}{K':Act->World->Prop}{i:Nat}(hi:i<m){K:Act->World->Prop}{a:Act}{w:World}(h:wpOp P (l.take m).toArray (Exit.then K' Q) i K a w):wpOp P l.toArray Q i K a w:=by
 unfold wpOp at h ⊢
 rw [take_at hi] at h
 cases ho:l.toArray[i]? with
 |none=>rw [ho] at h;exact h
 |some o=>
  rw [ho] at h
  have ho':l[i]?=some o:=by simpa using ho
  dsimp only at h ⊢
  rw [want_take hp hi ho'] at h
  split
  ·rename_i hw
   rw [if_pos hw] at h
   unfold Oper.wp at h ⊢
   rw [upon_then] at h
   exact h
  ·rename_i hw
   rw [if_neg hw] at h
   exact h
theorem any_comp (hp:PreOk md l m){Q:Exit->Act->World->Prop}{K':Act->World->Prop}{g:Nat}(H:∀ (fuel:Nat) (listed:Array Bool) (a:Act) (w:World),g<=fuel->Upto l.length m listed->K' a w->wpAny P md l.toArray Q fuel listed a w):
  ∀ (fuel:Nat) (listed' listed:Array Bool) (a:Act) (w:World),Part l.length m listed' listed->wpAny P md (l.take m).toArray (Exit.then K' Q) fuel listed' a w->wpAny P md l.toArray Q (fuel+g) listed a w:=by
 have full:∀ (listed' listed:Array Bool),Part l.length m listed' listed->(¬ ∃ i,i<m/\listed'.getD i true=false)->Upto l.length m listed:=by
  intro listed' listed h hno
  refine ⟨h.size,λi hi=> ?_⟩
  by_cases him:i<m
  ·rw [h.same i him,decide_eq_true him]
   obtain ⟨b,e⟩:=h.get him
   rw [e]
   cases b with
   |true=>rfl
   |false=>exact absurd ⟨i,him,by rw [Array.getD_eq_getD_getElem?,e];rfl⟩ hno
  ·rw [decide_eq_false him];exact h.rest i Om hi
 have some_ready:∀ (listed' listed:Array Bool),Part l.length m listed' listed->(∃ i,i<m/\listed'.getD i true=false)→∃ k,k<m/\k∈Region.ready md l.toArray listed:=by
  intro listed' listed h hun
  obtain ⟨k,hk,hf,hall⟩:=least_false (λi=>listed'.getD i true) m hun
  refine ⟨k,hk,(mS hp h hk).2 (mem_ready.2 ⟨hf,l[k]'(by have:=hp.le;omega), ?_,λe he hb=> ?_⟩)⟩
  ·rw [take_at hk];simp
  ·have:=hp.back k _ (List.getElem?_eq_getElem (by have:=hp.le;omega)) e he hb
   have h2:=hall e.on this
   obtain ⟨b,e2⟩:=h.get (i:=e.on) Om
   rw [Array.getD_eq_getD_getElem?,e2] at h2 ⊢
   simpa using h2
 intro fuel
 induction fuel with
 |zero=>
  intro listed' listed a w h hq
  have hno:¬ ∃ i,i<m/\listed'.getD i true=false:=λhun=>by
   obtain ⟨k,hk,hr⟩:=some_ready _ _ h hun
   have:=(mS hp h hk).1 hr
   rw [hq.1] at this;cases this
  exact H _ listed a w Om (full _ _ h hno) hq.2
 |succ f ih=>
  intro listed' listed a w h hq
  by_cases hun:∃ i,i<m/\listed'.getD i true=false
  ·rw [show f+1+g=(f+g)+1 from by omega]
   refine ⟨λhr=> ?_,λi hi=> ?_⟩
   ·obtain ⟨k,hk,hr2⟩:=some_ready _ _ h hun
    rw [hr] at hr2;cases hr2
   ·have him:=part_in hp h hun i hi
    have h1:=hq.2 i ((mS hp h him).1 hi)
    exact wpOp_mono (λa' w' hk=>ih _ _ a' w' (h.set him) hk) (wpOp_take hp him h1)
  ·have hr:Region.ready md (l.take m).toArray listed'=[]:=by
    apply List.eq_nil_iff_forall_not_mem.2
    intro i hi
    have h1:=(mem_ready.1 hi).1
    obtain ⟨_,o,ho,_⟩:=mem_ready.1 hi
    have:i<m:=by
     have:=(Array.getElem?_eq_some_iff.1 ho).1
     simp at this;omega
    exact hun ⟨i,this,h1⟩
   exact H _ listed a w Om (full _ _ h hun) (hq.1 hr)
end
section
variable {M:List Nat}{P:Program}{n:Nat}{W:World}{Q:Exit->Act->World->Prop}{L:List Blk}{f:Nat->Value}
theorem p7 {id:Nat}{l:List Oper}(m:Nat)(L0:List Blk)(hm:P.follows .mixedOrders=true)(hP:preB .any l m=true)(h:v8 M P n (l.take m).toArray W L0 (Exit.then (wpList P l.toArray Q (l.drop m)) Q) m (Array.replicate m false) L f):Ok M P n W Q (.region id l.toArray true) L f:=⟨λw hO=>by
 have hp:=preB_ok hP
 have hle:(l.take m).length=m:=by rw [List.length_take];have:=hp.le;omega
 refine wp_region_any hm ?_
 have hq:=wpAny_of_held _ _ _ _ (h.go _ hO.drew)
 have hres:=any_comp (P:=P) (md:= .any) hp (Q:=Q) (g:=l.length-m) (K':=wpList P l.toArray Q (l.drop m)) (λfuel listed a w hf hu hk=>any_tail hp (l.length-m) m fuel listed _ w rfl (Nat.le_refl _) hp.le hf hu hk) m (Array.replicate m false) (Array.replicate l.toArray.size false) (Fr n f) {w with drawn:=w.drawn+1}
  ⟨by simp,by simp,λi hi=>by
   have:=hp.le
   rw [Array.getElem?_replicate,Array.getElem?_replicate,if_pos (by simp;omega),if_pos hi],λt _ ht=>by rw [Array.getElem?_replicate,if_pos (by simpa using ht)]⟩ hq
 rw [show m+(l.length-m)=l.toArray.size from by have:=hp.le;simp;omega] at hres
 exact hres⟩
end
end
section
inductive XTop where
 |ops (a:Array Oper) (r:List Oper)
 |qps (a:Array Oper) (r:List Oper)
 |hps (a:Array Oper) (s:Array Bool) (u:Nat) (L0:List Blk)
 |hst (a:Array Oper) (s:Array Bool) (u:Nat) (L0:List Blk) (i:Nat)
 |code (c:Code)
 |fin (e:Exit)
inductive XIt where
 |code (c:Code)
 |blk (id:Nat)
 |lp (I:List Blk->(Nat->Value)->Nat->Prop) (m:Nat)
 |tl (a:Array Oper) (r:List Oper)
 |rd (c:Code) (m:Nat)
structure Xc where
 top:XTop
 k:List XIt
 L:List Blk
 f:Nat->Value
def KQ (M:List Nat)(P:Program)(n:Nat)(W:World)(Q:Exit->Act->World->Prop):List XIt->Exit->Act->World->Prop
 | []=>Q
 | .code c::k=>Exit.then (Code.wp P c (KQ M P n W Q k)) (KQ M P n W Q k)
 | .blk id::k=>Exit.inBlock id (KQ M P n W Q k)
 | .lp I m::k=>Round M n W I m (KQ M P n W Q k)
 | .tl a r::k=>Exit.then (wpList P a (KQ M P n W Q k) r) (KQ M P n W Q k)
 | .rd c m::k=>Exit.then (Code.rounds P c (KQ M P n W Q k) m) (KQ M P n W Q k)
theorem p4 {M:List Nat}{P:Program}{n:Nat}{W:World}{Q:Exit->Act->World->Prop}(h:PQ Q):∀ k:List XIt,PQ (KQ M P n W Q k)
 | []=>h
 | .code _::k=>pZ (p4 h k)
 | .blk _::k=>pq_block (p4 h k)
 | .lp _ _::k=>pq_round (p4 h k)
 | .tl _ _::k=>pZ (p4 h k)
 | .rd _ _::k=>pZ (p4 h k)
structure zB (M:List Nat)(P:Program)(n:Nat)(W:World)(Q:Exit->Act->World->Prop)(c:Xc):Prop where
 go:PQ Q->match c.top with
  | .ops a r=>Seg M P n a W (KQ M P n W Q c.k) r c.L c.f
  | .qps a r=>v7 M P n a W (Fin M n W (KQ M P n W Q c.k) .normal) r c.L c.f
  | .hps a s u L0=>(∀ w,Own M W w c.L->Own M W w L0)->v8 M P n a W L0 (KQ M P n W Q c.k) u s c.L c.f
  | .hst a s u L0 i=>(∀ w,Own M W w c.L->Own M W w L0)->wK M P n a W L0 (KQ M P n W Q c.k) u s i c.L c.f
  | .code x=>Ok M P n W (KQ M P n W Q c.k) x c.L c.f
  | .fin e=>Fin M n W (KQ M P n W Q c.k) e c.L c.f
def xPure:Op->Bool
 | .move _| .assign _| .pick _ _ _| .build _ _| .binOp _ _ _ _ _| .unOp _ _ _| .convert _ _ _| .fieldAddr _ _ _| .field _ _ _| .indexAddr _ _ _| .index _ _ _| .extract _ _| .slice _ _ _ _ _| .nilCheck _=>true
 | .call c=>match c.callee with
  | .builtin .len| .builtin .cap| .builtin .max| .builtin .min=>true
  |_=>false
 |_=>false
def xQuiet (o:Oper):Bool:=
 match o.op with
 | .load _ _=>true
 | .call c=>match c.callee with
  | .builtin .append=>false
  |_=>true
 |op=>xPure op
abbrev XR:Type:=World->Result Next
inductive XK where
 |no
 |r (g:XR)
 |ld (p:Value) (x:Option Blk) (v:Option Value)
 |st (p:Value) (x:Option Blk) (a:Option Bool) (b:Bool)
 |h (a b:Bool) (k:XK)
def xVal (P:Program)(n:Nat)(f:Nat->Value)(o:Oper):Value:=
 match (execOp (ev n f) o).run P default with
 | .ok (.value v) _=>v
 |_=>undef
def xOff:Value->Nat
 | .pointer (some a)=>a.off
 |_=>0
def gF (L:List Blk)(i:Nat):Blk:=L.getD i ⟨0, #[],0⟩
structure XS where
 go:Bool
 c:Xc
 h:List Nat
 l:XK
 r:XK
def xhd (h:List Nat):Nat:=h.headD 0
def xop (P:Program)(n:Nat)(q:Bool)(a:Array Oper)(o:Oper)(r:List Oper)(c:Xc)(h:List Nat):XS:=
 let nx (L:List Blk) (f:Nat->Value):Xc:=⟨bif q then .qps a r else .ops a r,c.k,L,f⟩
 match zT a n c.f o with
 |false=>⟨true,nx c.L (upd c.f o.dst undef),h,.no,.no⟩
 |true=>
  match o.op with
  | .load ty p=>
   let x:=gF c.L (xhd h)
   let v:=yQ P ty x.cs (xOff (ev n c.f p))
   ⟨true,nx c.L (upd c.f o.dst (v.getD undef)),h.tail,.ld (ev n c.f p) (c.L[xhd h]?) v,.ld (.pointer (some ⟨x.b,xOff (ev n c.f p),none⟩)) (some x) (some (v.getD undef))⟩
  | .store T p y=>
   match q,o.dst with
   |false,none=>
    let x:=gF c.L (xhd h)
    let v:=ev n c.f y
    ⟨true,nx (c.L.set (xhd h) ⟨x.b,yR x.cs (xOff (ev n c.f p)) v.cells,x.ty⟩) c.f,h.tail,.st (ev n c.f p) (c.L[xhd h]?) ((P.info? T).map λt=>Nat.beq v.cells.size t.size && Nat.ble (xOff (ev n c.f p)+t.size) x.cs.size) (v.cells.toList.all λu=>u.oneCell'),
     .st (.pointer (some ⟨x.b,xOff (ev n c.f p),none⟩)) (some x) (some true) true⟩
   |_,_=>⟨false,c,h,.no,.no⟩
  |op=>
   match xPure op with
   |true=>⟨true,nx c.L (upd c.f o.dst (xVal P n c.f o)),h,.r (λw=>(execOp (ev n c.f) o).run P w),.r (λw=> .ok (.value (xVal P n c.f o)) w)⟩
   |false=>⟨false,c,h,.no,.no⟩
def xTak (n:Nat)(a:Array Oper)(f:Nat->Value)(i:Nat):Bool:=
 match a[i]? with
 |none=>false
 |some o=>
  match zT a n f o with
  |false=>true
  |true=>
   match o.op with
   | .load _ _=>true
   |op=>xPure op
def xhp (P:Program)(n:Nat)(a:Array Oper)(s:Array Bool)(u:Nat)(L0:List Blk)(i:Nat)(o:Oper)(c:Xc)(h:List Nat):XS:=
 let nx (f:Nat->Value):Xc:=⟨.hps a (s.setIfInBounds i true) u L0,c.k,c.L,f⟩
 let fr:Bool:=Region.noSelect a && Region.free .any a s i && (Region.ready .any a s).contains i
 match zT a n c.f o with
 |false=>⟨true,nx (upd c.f o.dst undef),h,.h fr true .no,.h true true .no⟩
 |true=>
  match o.op with
  | .load ty p=>
   let x:=gF L0 (xhd h)
   let v:=yQ P ty x.cs (xOff (ev n c.f p))
   ⟨true,nx (upd c.f o.dst (v.getD undef)),h.tail,.h fr true (.ld (ev n c.f p) (L0[xhd h]?) v),.h true true (.ld (.pointer (some ⟨x.b,xOff (ev n c.f p),none⟩)) (some x) (some (v.getD undef)))⟩
  |op=>⟨true,nx (upd c.f o.dst (xVal P n c.f o)),h,.h fr true (.r (λw=>(execOp (ev n c.f) o).run P w)),.h true true (.r (λw=> .ok (.value (xVal P n c.f o)) w))⟩
def xhs (P:Program)(n:Nat)(a:Array Oper)(s:Array Bool)(u:Nat)(L0:List Blk)(c:Xc)(h:List Nat):XS:=
 match Region.ready .any a s with
 | []=>⟨true,{c with top:= .fin .normal},h,.no,.no⟩
 |_=>
  match u,(Region.ready .any a s).find? (xTak n a c.f) with
  |u'+1,some i=>
   match a[i]? with
   |some o=>xhp P n a s u' L0 i o c h
   |none=>⟨false,c,h,.no,.no⟩
  |_,_=>⟨false,c,h,.no,.no⟩
def xcode (P:Program)(n:Nat)(x:Code)(c:Xc):Bool×Xc:=
 match x with
 | .skip=>(true,{c with top:= .fin .normal})
 | .region _ a false=>(true,{c with top:= .ops a a.toList})
 | .region _ a true=>bif P.follows .mixedOrders && Region.lexB .any a && a.toList.all xQuiet then (true,{c with top:= .qps a a.toList}) else (false,c)
 | .seq a b=>(true,{c with top:= .code a,k:= .code b::c.k})
 | .block id b=>(true,{c with top:= .code b,k:= .blk id::c.k})
 | .exit id=>(true,{c with top:= .fin (.exit id)})
 | .ret=>(true,{c with top:= .fin .ret})
 | .cond o a b=>
  match ev n c.f o with
  | .bool true=>(true,{c with top:= .code a})
  | .bool false=>(true,{c with top:= .code b})
  |_=>(false,c)
 |_=>(false,c)
def xfin (e:Exit)(c:Xc):Bool×Xc:=
 match c.k,e with
 | .code b::k,.normal=>(true,{c with top:= .code b,k:=k})
 | .code _::k,.exit id=>(true,{c with top:= .fin (.exit id),k:=k})
 | .code _::k,.ret=>(true,{c with top:= .fin .ret,k:=k})
 | .blk _::k,.normal=>(true,{c with top:= .fin .normal,k:=k})
 | .blk id::k,.exit id'=>(true,{c with top:= .fin (bif Nat.beq id' id then .normal else .exit id'),k:=k})
 | .blk _::k,.ret=>(true,{c with top:= .fin .ret,k:=k})
 | .lp _ _::k,.exit id=>(true,{c with top:= .fin (.exit id),k:=k})
 | .lp _ _::k,.ret=>(true,{c with top:= .fin .ret,k:=k})
 | .tl a r::k,.normal=>(true,{c with top:= .ops a r,k:=k})
 | .rd b (m+1)::k,.normal=>(true,{c with top:= .code b,k:= .rd b m::k})
 | .rd _ _::k,.exit id=>(true,{c with top:= .fin (.exit id),k:=k})
 | .rd _ _::k,.ret=>(true,{c with top:= .fin .ret,k:=k})
 |_,_=>(false,c)
def jC (P:Program)(n:Nat)(c:Xc)(h:List Nat):XS:=
 match c.top with
 | .ops _ []=>⟨true,{c with top:= .fin .normal},h,.no,.no⟩
 | .ops a (o::r)=>xop P n false a o r c h
 | .qps _ []=>⟨true,{c with top:= .fin .normal},h,.no,.no⟩
 | .qps a (o::r)=>xop P n true a o r c h
 | .hps a s u L0=>xhs P n a s u L0 c h
 | .hst _ _ _ _ _=>⟨false,c,h,.no,.no⟩
 | .code x=>⟨(xcode P n x c).1,(xcode P n x c).2,h,.no,.no⟩
 | .fin e=>⟨(xfin e c).1,(xfin e c).2,h,.no,.no⟩
def xdst (n:Nat)(c:Xc):Option Tmp:=
 match c.top with
 | .ops _ (o::_)=>o.dst
 | .qps _ (o::_)=>o.dst
 | .hps a s _ _=>
  match (Region.ready .any a s).find? (xTak n a c.f) with
  |some i=>(a.getD i default).dst
  |none=>none
 |_=>none
def xisd (d:Option Tmp)(t:Nat):Bool:=match d with
 |some d=>Nat.beq d t
 |none=>false
def xhit (n t:Nat)(c:Xc):Bool:=xisd (xdst n c) t
def xlen:List XIt->Nat
 | []=>0
 |_::k=>xlen k+1
def xAt (m:Nat):Nat:=Nat.add m 90000
def xCt (d:Nat):Nat:=Nat.add d 70000
def xend (t:Nat)(c:Xc):Bool:=
 match c.top with
 | .fin .normal=>Nat.beq (xAt (xlen c.k)) t
 |_=>false
def xcnd (t:Nat)(c:Xc):Bool:=
 match c.top with
 | .code (.cond (.tmp d) _ _)=>Nat.beq d t
 |_=>false
noncomputable def xpre (n t:Nat)(c:Xc):Bool:= @Bool.rec (λ_=>Bool) false (@Bool.rec (λ_=>Bool) (@Bool.rec (λ_=>Bool) (xisd (xdst n c) (t-50000)) (xcnd (t-70000) c) (Nat.ble 70000 t)) (xend t c) (Nat.ble 90000 t)) (Nat.ble 50000 t)
inductive Fuel1 where
 |z
 |s (m:Fuel1)
def fuel5 (m:Fuel1):Fuel1:= .s (.s (.s (.s (.s m))))
def fuel25 (m:Fuel1):Fuel1:=fuel5 (fuel5 (fuel5 (fuel5 (fuel5 m))))
def fuel125 (m:Fuel1):Fuel1:=fuel25 (fuel25 (fuel25 (fuel25 (fuel25 m))))
def fuelA:Fuel1:=fuel125 (fuel125 (fuel125 .z))
inductive Fuel2 where
 |z
 |s (m:Fuel2)
def tE:Fuel1->Fuel2
 | .z=> .z
 | .s m=> .s (tE m)
def fuelB:Fuel2:=tE fuelA
noncomputable def jP (P:Program)(n t:Nat):Fuel1->List Nat->Xc->Xc
 | .z,_,c=>c
 | .s m,h,c=> @Bool.rec (λ_=>Xc) (@Bool.rec (λ_=>Xc) (jC P n c h).c (jP P n t m (jC P n c h).h (jC P n c h).c) ((jC P n c h).go && !xhit n t c)) c (xpre n t c)
noncomputable def xl (P:Program)(n t:Nat):Fuel1->List Nat->Xc->List XK
 | .z,_,_=>[]
 | .s m,h,c=> @Bool.rec (λ_=>List XK) ((jC P n c h).l:: @Bool.rec (λ_=>List XK) [] (xl P n t m (jC P n c h).h (jC P n c h).c) ((jC P n c h).go && !xhit n t c)) [] (xpre n t c)
noncomputable def xr (P:Program)(n t:Nat):Fuel2->List Nat->Xc->List XK
 | .z,_,_=>[]
 | .s m,h,c=> @Bool.rec (λ_=>List XK) ((jC P n c h).r:: @Bool.rec (λ_=>List XK) [] (xr P n t m (jC P n c h).h (jC P n c h).c) ((jC P n c h).go && !xhit n t c)) [] (xpre n t c)
section
variable {M:List Nat}{P:Program}{n:Nat}{W:World}{Q:Exit->Act->World->Prop}
theorem xop_ok {a:Array Oper}{o:Oper}{r:List Oper}{k:List XIt}{L:List Blk}{f:Nat->Value}{h:List Nat}(hk:(xop P n false a o r ⟨.ops a (o::r),k,L,f⟩ h).l=(xop P n false a o r ⟨.ops a (o::r),k,L,f⟩ h).r)
  (hg:zB M P n W Q (xop P n false a o r ⟨.ops a (o::r),k,L,f⟩ h).c):zB M P n W Q ⟨.ops a (o::r),k,L,f⟩:=by
 unfold xop at hk hg
 cases hw:zT a n f o with
 |false=>rw [hw] at hk hg;exact ⟨λhq=>s_skip hw (hg.go hq)⟩
 |true=>
  rw [hw] at hk hg
  cases ho:o.op with
  |load ty p=>
   rw [ho] at hk hg
   simp only [XK.ld.injEq] at hk
   exact ⟨λhq=>s_load (xhd h) _ _ hw ho hk.2.1 hk.1 hk.2.2 (hg.go hq)⟩
  |store T p y=>
   rw [ho] at hk hg
   cases hd:o.dst with
   |some d=>rw [hd] at hg;exact hg
   |none=>
    rw [hd] at hk hg
    simp only [XK.st.injEq] at hk
    exact ⟨λhq=>s_store_at (xhd h) _ (ev n f y) hw ho hd hk.2.1 hk.1 rfl hk.2.2.1 hk.2.2.2 (hg.go hq)⟩
  |_=>
   rw [ho] at hk hg
   dsimp only at hk hg
   split at hk
   ·rename_i hp
    rw [hp] at hg
    exact ⟨λhq=>kS _ hw (λw=>congrFun (XK.r.inj hk) w) (hg.go hq)⟩
   ·rename_i hp
    rw [hp] at hg
    exact hg
theorem xqp_ok {a:Array Oper}{o:Oper}{r:List Oper}{k:List XIt}{L:List Blk}{f:Nat->Value}{h:List Nat}(hk:(xop P n true a o r ⟨.qps a (o::r),k,L,f⟩ h).l=(xop P n true a o r ⟨.qps a (o::r),k,L,f⟩ h).r)
  (hg:zB M P n W Q (xop P n true a o r ⟨.qps a (o::r),k,L,f⟩ h).c):zB M P n W Q ⟨.qps a (o::r),k,L,f⟩:=by
 unfold xop at hk hg
 cases hw:zT a n f o with
 |false=>rw [hw] at hk hg;exact ⟨λhq=>q_skip hw (hg.go hq)⟩
 |true=>
  rw [hw] at hk hg
  cases ho:o.op with
  |load ty p=>
   rw [ho] at hk hg
   simp only [XK.ld.injEq] at hk
   exact ⟨λhq=>q_load (xhd h) _ _ hw ho hk.2.1 hk.1 hk.2.2 (hg.go hq)⟩
  |store T p y=>rw [ho] at hk hg;exact hg
  |_=>
   rw [ho] at hk hg
   dsimp only at hk hg
   split at hk
   ·rename_i hp
    rw [hp] at hg
    exact ⟨λhq=>nW _ hw (λw=>congrFun (XK.r.inj hk) w) (hg.go hq)⟩
   ·rename_i hp
    rw [hp] at hg
    exact hg
theorem ok_drawA {id:Nat}{a:Array Oper}{L:List Blk}{f:Nat->Value}{Q:Exit->Act->World->Prop}(hm:P.follows .mixedOrders=true)(hB:Region.lexB .any a=true)(h:v7 M P n a W (Fin M n W Q .normal) a.toList L f):Ok M P n W Q (.region id a true) L f:=by
 obtain ⟨l,rfl⟩:∃ l:List Oper,a=l.toArray:=⟨a.toList,by simp⟩
 exact ok_draw hm hB (by simpa using h)
theorem ok_regA {id:Nat}{a:Array Oper}{L:List Blk}{f:Nat->Value}{Q:Exit->Act->World->Prop}(h:Seg M P n a W Q a.toList L f):Ok M P n W Q (.region id a false) L f:=by
 obtain ⟨l,rfl⟩:∃ l:List Oper,a=l.toArray:=⟨a.toList,by simp⟩
 exact gT (by simpa using h)
theorem xcode_ok {x:Code}{k:List XIt}{L:List Blk}{f:Nat->Value}(hg:zB M P n W Q (xcode P n x ⟨.code x,k,L,f⟩).2):zB M P n W Q ⟨.code x,k,L,f⟩:=by
 cases x with
 |skip=>exact ⟨λhq=>ok_skip (hg.go hq)⟩
 |region id a d=>
  cases d with
  |false=>exact ⟨λhq=>ok_regA (hg.go hq)⟩
  |true=>
   unfold xcode at hg
   dsimp only at hg
   revert hg
   cases hb:(P.follows .mixedOrders && Region.lexB .any a && a.toList.all xQuiet) with
   |false=>exact λhg=>hg
   |true=>
    intro hg
    rw [Bool.and_eq_true,Bool.and_eq_true] at hb
    exact ⟨λhq=>ok_drawA hb.1.1 hb.1.2 (hg.go hq)⟩
 |seq a b=>exact ⟨λhq=>qJ (hg.go hq)⟩
 |cond o a b=>
  unfold xcode at hg
  dsimp only at hg
  split at hg
  ·rename_i e;exact ⟨λhq=>ok_true e (hg.go hq)⟩
  ·rename_i e;exact ⟨λhq=>ok_false e (hg.go hq)⟩
  ·exact hg
 |block id b=>exact ⟨λhq=>dV (hg.go hq)⟩
 |exit id=>exact ⟨λhq=>ok_exit (hg.go hq)⟩
 |ret=>exact ⟨λhq=>qK (hg.go hq)⟩
 |_=>exact hg
theorem xfin_ok {e:Exit}{k:List XIt}{L:List Blk}{f:Nat->Value}(hg:zB M P n W Q (xfin e ⟨.fin e,k,L,f⟩).2):zB M P n W Q ⟨.fin e,k,L,f⟩:=by
 cases k with
 |nil=>exact hg
 |cons i k=>
  cases i with
  |code b=>cases e with
   |normal=>exact ⟨λhq=>jL (hg.go hq)⟩
   |exit id=>exact ⟨λhq=>qZ (hg.go hq)⟩
   |ret=>exact ⟨λhq=>vY (hg.go hq)⟩
   |_=>exact hg
  |blk id=>cases e with
   |normal=>exact ⟨λhq=>tI (hg.go hq)⟩
   |exit id'=>
    cases hb:Nat.beq id' id with
    |true=>
     obtain rfl:=Nat.eq_of_beq_eq_true hb
     have hg':=hg.go
     simp only [xfin,hb,cond_true] at hg'
     exact ⟨λhq=>w9 (hg' hq)⟩
    |false=>
     have hne:id'≠id:=λe=>by rw [e,Nat.beq_refl] at hb;cases hb
     have hg':=hg.go
     simp only [xfin,hb,cond_false] at hg'
     exact ⟨λhq=>fin_block_other hne (hg' hq)⟩
   |ret=>exact ⟨λhq=>fin_block_ret (hg.go hq)⟩
   |_=>exact hg
  |lp I m=>cases e with
   |exit id=>exact ⟨λhq=>w8 (hg.go hq)⟩
   |ret=>exact ⟨λhq=>fin_round_ret (hg.go hq)⟩
   |_=>exact hg
  |tl a r=>cases e with
   |normal=>exact ⟨λhq=>⟨(hg.go hq).go⟩⟩
   |_=>exact hg
  |rd b m=>cases m with
   |zero=>cases e with
    |exit id=>exact ⟨λhq=>qZ (hg.go hq)⟩
    |ret=>exact ⟨λhq=>vY (hg.go hq)⟩
    |_=>exact hg
   |succ m=>cases e with
    |normal=>exact ⟨λhq=>⟨(hg.go hq).go⟩⟩
    |exit id=>exact ⟨λhq=>qZ (hg.go hq)⟩
    |ret=>exact ⟨λhq=>vY (hg.go hq)⟩
    |_=>exact hg
theorem xhs_ok {a:Array Oper}{s:Array Bool}{u:Nat}{L0:List Blk}{k:List XIt}{L:List Blk}{f:Nat->Value}{h:List Nat}(hk:(xhs P n a s u L0 ⟨.hps a s u L0,k,L,f⟩ h).l=(xhs P n a s u L0 ⟨.hps a s u L0,k,L,f⟩ h).r)
  (hg:zB M P n W Q (xhs P n a s u L0 ⟨.hps a s u L0,k,L,f⟩ h).c):zB M P n W Q ⟨.hps a s u L0,k,L,f⟩:=by
 unfold xhs at hk hg
 split at hk
 ·rename_i hr
  rw [hr] at hg
  exact ⟨λhq hs=>h_done hr (hg.go hq)⟩
 ·rename_i hr
  split at hg
  ·rename_i e;exact absurd e hr
  split at hk
  ·rename_i u' i hf
   rw [hf] at hg
   dsimp only at hg
   have ht:=List.find?_some hf
   unfold xTak at ht
   cases ho:a[i]? with
   |none=>rw [ho] at hg;exact hg
   |some o=>
    rw [ho] at hk hg ht
    dsimp only at hk hg ht
    unfold xhp at hk hg
    have fin3:∀ {b1 b2 b3:Bool},(b1 && b2 && b3)=true->b1=true/\b2=true/\b3=true:=λ{b1 b2 b3} h=>by cases b1<;>cases b2<;>cases b3<;>simp_all
    cases hw:zT a n f o with
    |false=>
     rw [hw] at hk hg
     simp only [XK.h.injEq] at hk
     obtain ⟨e1,e2,e3⟩:=fin3 hk.1
     exact ⟨λhq hs=>hl_skip i o ho e1 e2 e3 (p4 hq k) hs hw (hg.go hq hs)⟩
    |true=>
     rw [hw] at hk hg ht
     dsimp only at ht
     cases hop:o.op with
     |load ty p=>
      rw [hop] at hk hg
      simp only [XK.h.injEq,XK.ld.injEq] at hk
      obtain ⟨e1,e2,e3⟩:=fin3 hk.1
      exact ⟨λhq hs=>hl_load i o (xhd h) _ _ ho e1 e2 e3 (p4 hq k) hs hw hop hk.2.2.2.1 hk.2.2.1 hk.2.2.2.2 (hg.go hq hs)⟩
     |_=>
      rw [hop] at hk hg
      dsimp only at hk hg
      have e0:=XK.h.inj hk
      obtain ⟨e1,e2,e3⟩:=fin3 e0.1
      exact ⟨λhq hs=>fP i o _ ho e1 e2 e3 (p4 hq k) hs hw (λw _=>congrFun (XK.r.inj e0.2.2) w) (hg.go hq hs)⟩
  ·rename_i hno
   split at hg
   ·rename_i u' i hf;exact absurd hf (hno u' i rfl)
   ·exact hg
theorem xstep_ok {c:Xc}{h:List Nat}(hk:(jC P n c h).l=(jC P n c h).r)(hg:zB M P n W Q (jC P n c h).c):zB M P n W Q c:=by
 obtain ⟨top,k,L,f⟩:=c
 cases top with
 |ops a r=>cases r with
  |nil=>exact ⟨λhq=>s_nil (hg.go hq)⟩
  |cons o r=>exact xop_ok hk hg
 |qps a r=>cases r with
  |nil=>exact ⟨λhq=>q_nil (hg.go hq)⟩
  |cons o r=>exact xqp_ok hk hg
 |hps a s u L0=>
  change (xhs P n a s u L0 ⟨.hps a s u L0,k,L,f⟩ h).l=(xhs P n a s u L0 ⟨.hps a s u L0,k,L,f⟩ h).r at hk
  change zB M P n W Q (xhs P n a s u L0 ⟨.hps a s u L0,k,L,f⟩ h).c at hg
  exact xhs_ok hk hg
 |hst a s u L0 i=>exact hg
 |code x=>exact xcode_ok hg
 |fin e=>exact xfin_ok hg
theorem xrun_ok {t:Nat}:∀ (m:Fuel1) (h:List Nat) (c:Xc),xl P n t m h c=xr P n t (tE m) h c->zB M P n W Q (jP P n t m h c)->zB M P n W Q c
 | .z,_,_,_,hg=>hg
 | .s m,h,c,hk,hg=>by
  unfold xl tE xr at hk
  unfold jP at hg
  cases hp:xpre n t c with
  |true=>simp only [hp] at hg;exact hg
  |false=>
   simp only [hp] at hk hg
   cases hb:(jC P n c h).go && !xhit n t c with
   |true=>
    simp only [hb] at hk hg
    have h2:=List.cons.inj hk
    exact xstep_ok h2.1 (xrun_ok m _ _ h2.2 hg)
   |false=>
    simp only [hb] at hk hg
    exact xstep_ok (List.cons.inj hk).1 hg
end
end
section
abbrev nS:Nat:=40000
noncomputable def xgo (P:Program)(n t:Nat)(h:List Nat)(c:Xc):Xc:=jP P n t fuelA h c
noncomputable def xgl (P:Program)(n t:Nat)(h:List Nat)(c:Xc):List XK:=xl P n t fuelA h c
noncomputable def xgr (P:Program)(n t:Nat)(h:List Nat)(c:Xc):List XK:=xr P n t fuelB h c
theorem zM {M:List Nat}{P:Program}{n t:Nat}{W:World}{Q:Exit->Act->World->Prop}(h:List Nat)(c:Xc)(hk:xgl P n t h c=xgr P n t h c)(hg:zB M P n W Q (xgo P n t h c)):zB M P n W Q c:=xrun_ok fuelA h c hk hg
def xA (c:Xc):Array Oper:=match c.top with
 | .ops a _=>a
 | .qps a _=>a
 | .hps a _ _ _=>a
 | .hst a _ _ _ _=>a
 |_=> #[]
def xL (c:Xc):List Oper:=match c.top with
 | .ops _ r=>r
 | .qps _ r=>r
 |_=>[]
def xO (c:Xc):Oper:=match c.top with
 | .hst a _ _ _ i=>a.getD i default
 |_=>(xL c).headD default
def xT (c:Xc):List Oper:=(xL c).tail
def xC (c:Xc):Code:=match c.top with
 | .code x=>x
 |_=> .skip
def nK (c:Xc):Code:=match xC c with
 | .loop b=>b
 |_=> .skip
def xTy (o:Oper):TypeId:=match o.op with
 | .alloc T=>T
 | .box T _=>T
 |_=>0
def xZ (P:Program)(o:Oper):Value:=((P.info? (xTy o)).bind (·.zero)).getD undef
def xX (n:Nat)(f:Nat->Value)(o:Oper):Value:=match o.op with
 | .box _ x=>ev n f x
 |_=>undef
def xBx (o:Oper):Operand:=match o.op with
 | .box _ x=>x
 |_=> .tmp 0
def Xc.st (c:Xc)(t:Nat)(v:Value):Xc:={c with f:=upd c.f (some t) v}
def Xc.put (c:Xc)(v:Value):Xc:=match c.top with
 | .ops a (o::r)=>⟨.ops a r,c.k,c.L,upd c.f o.dst v⟩
 | .qps a (o::r)=>⟨.qps a r,c.k,c.L,upd c.f o.dst v⟩
 | .hst a s u L0 i=>⟨.hps a (s.setIfInBounds i true) u L0,c.k,c.L,upd c.f (a.getD i default).dst v⟩
 |_=>c
def xEnt (P:Program)(n:Nat)(c:Xc):XR:=match c.top with
 | .ops a (o::_)=>bif zT a n c.f o then (λw=>(execOp (ev n c.f) o).run P w) else λw=> .ok .skip w
 | .qps a (o::_)=>bif zT a n c.f o then (λw=>(execOp (ev n c.f) o).run P w) else λw=> .ok .skip w
 | .hst a _ _ _ i=>bif zT a n c.f (a.getD i default) then (λw=>(execOp (ev n c.f) (a.getD i default)).run P w) else λw=> .ok .skip w
 |_=>λw=> .ok .skip w
def xNew (c:Xc)(x:Blk):Xc:=⟨.ops (xA c) (xT c),c.k,x::c.L,upd c.f (xO c).dst (.pointer (some ⟨x.b,0,none⟩))⟩
def xQ (c:Xc):Bool:=match c.top with
 | .qps _ _=>true
 | .hps _ _ _ _=>true
 | .hst _ _ _ _ _=>true
 |_=>false
def xAdd (c:Xc)(ob:List Blk):Xc:={c with L:=c.L++ob}
section
variable {M:List Nat}{P:Program}{n:Nat}{W:World}{Q:Exit->Act->World->Prop}{c:Xc}
theorem tJ {k:FuncId}{args:Array Value}(h:(λw:World=>(Result.ok Next.skip w))=λw=> .ok (.enter k args) w):False:=by
 have:=congrFun h default
 simp at this
theorem no_ent {P:Program}{n:Nat}{f:Nat->Value}{k:FuncId}{args:Array Value}(h:(λw:World=>(execOp (ev n f) (default:Oper)).run P w)=λw=> .ok (.enter k args) w):False:=by
 have:=congrFun h default
 unfold execOp at this
 simp [default,instInhabitedOper.default,instInhabitedOp.default] at this
theorem xput_call {k:FuncId}{args:Array Value}{v:Value}(hc:∀ w,Own M W w c.L->Calls P k args w (YR v w))(hg:zB M P n W Q (c.put v))
  (he:xEnt P n c=λw=> .ok (.enter k args) w):zB M P n W Q c:=by
 obtain ⟨top,kk,L,f⟩:=c
 unfold xEnt at he
 unfold Xc.put at hg
 dsimp only at he hg hc
 cases top with
 |ops a r=>cases r with
  |nil=>exact (tJ he).elim
  |cons o r=>
   dsimp only at he hg
   cases hw:zT a n f o with
   |false=>rw [hw] at he;exact (tJ he).elim
   |true=>rw [hw] at he;exact ⟨λhq=>s_call v hw (λw=>congrFun he w) hc (hg.go hq)⟩
 |qps a r=>cases r with
  |nil=>exact (tJ he).elim
  |cons o r=>
   dsimp only at he hg
   cases hw:zT a n f o with
   |false=>rw [hw] at he;exact (tJ he).elim
   |true=>rw [hw] at he;exact ⟨λhq=>q_call v hw (λw=>congrFun he w) hc (hg.go hq)⟩
 |hst a s u L0 i=>
  dsimp only at he hg
  cases hw:zT a n f (a.getD i default) with
  |false=>rw [hw] at he;exact (tJ he).elim
  |true=>
   rw [hw] at he
   cases ha:a[i]? with
   |none=>
    have hd:a.getD i default=default:=by rw [Array.getD_eq_getD_getElem?,ha];rfl
    rw [hd] at he
    exact (no_ent (P:=P) (n:=n) he).elim
   |some o=>
    have hd:a.getD i default=o:=by rw [Array.getD_eq_getD_getElem?,ha];rfl
    rw [hd] at he hg hw
    exact ⟨λhq hs=>hl_call o v ha hw hs (λw=>congrFun he w) hc (hg.go hq hs)⟩
 |_=>exact (tJ he).elim
theorem z6 {k:FuncId}{args:Array Value}{v:Value}(h:List Nat)(hc:∀ w,Own M W w (xgo P n nS h c).L->Calls P k args w (YR v w))(hg:zB M P n W Q ((xgo P n nS h c).put v))
  (hkt:(xgl P n nS h c,xEnt P n (xgo P n nS h c))=(xgr P n nS h c,(λw=> .ok (.enter k args) w)):=by kernel_rfl):zB M P n W Q c:=by
 obtain ⟨hk,he⟩:=Prod.mk.inj hkt
 exact zM h c hk (xput_call hc hg he)
theorem xH {k:FuncId}{args:Array Value}{R:Value->List Blk->Prop}(h:List Nat)(hc:∀ w,Own M W w (xgo P n nS h c).L->Calls P k args w λe w'=>∃ v ob,e= .returned v/\R v ob/\Own [] w w' ob)
  (hg:∀ v ob,R v ob->zB M P n W Q (xAdd ((xgo P n nS h c).put v) ob)) (hkt:(xgl P n nS h c,((xgo P n nS h c).top,zT (xA (xgo P n nS h c)) n (xgo P n nS h c).f (xO (xgo P n nS h c))))=(xgr P n nS h c,(.ops (xA (xgo P n nS h c)) (xO (xgo P n nS h c)::xT (xgo P n nS h c)),true)):=by kernel_rfl)
  (he:xEnt P n (xgo P n nS h c)=(λw=> .ok (.enter k args) w):=by kernel_rfl):zB M P n W Q c:=by
 obtain ⟨hk,ht⟩:=Prod.mk.inj hkt
 refine zM h c hk ?_
 generalize xgo P n nS h c=d at hc hg ht he ⊢
 obtain ⟨top,kk,L,f⟩:=d
 generalize hA:xA ⟨top,kk,L,f⟩=a at ht
 generalize hO:xO ⟨top,kk,L,f⟩=o at ht
 generalize hT:xT ⟨top,kk,L,f⟩=r at ht
 simp only [Prod.mk.injEq] at ht
 obtain ⟨rfl,hw⟩:=ht
 have hg':∀ v ob,R v ob->zB M P n W Q ⟨.ops a r,kk,L++ob,upd f o.dst v⟩:=hg
 simp only [xEnt,hw,cond_true] at he
 refine ⟨λhq=>s_callx (λv L'=>∃ ob,L'=L++ob/\R v ob) hw (λw=>congrFun he w) (λw hO=>((hc w hO).mono λe w' ⟨v,ob,e1,e2,e3⟩=>⟨v,L++ob,e1,⟨ob,rfl,e2⟩,(Own.joinN hO e3).perm List.perm_append_comm⟩)) ?_⟩
 rintro v L' ⟨ob,rfl,hR⟩
 exact (hg' v ob hR).go hq
def xW0 (n:Nat)(c:Xc):Bool:=match c.top with
 | .ops a (o::_)=>zT a n c.f o
 | .hst a _ _ _ i=>zT a n c.f (a.getD i default) && decide (i<a.size)
 |_=>false
theorem jE {k:FuncId}{args:Array Value}{R:Value->Prop}(h:List Nat)(hc:∀ w,Own M W w (xgo P n nS h c).L->Calls P k args w λe w'=>∃ v,e= .returned v/\R v/\YB w w')(hg:∀ v,R v->zB M P n W Q ((xgo P n nS h c).put v))
  (hkt:(xgl P n nS h c,xW0 n (xgo P n nS h c),xEnt P n (xgo P n nS h c))=(xgr P n nS h c,true,λw=> .ok (.enter k args) w):=by kernel_rfl):zB M P n W Q c:=by
 simp only [Prod.mk.injEq] at hkt
 obtain ⟨hk,e1,e2⟩:=hkt
 refine zM h c hk ?_
 generalize xgo P n nS h c=d at*
 obtain ⟨top,kk,L,f⟩:=d
 unfold xW0 at e1
 unfold xEnt at e2
 cases top with
 |ops a r=>cases r with
  |nil=>cases e1
  |cons o r=>
   dsimp only at e1 e2
   rw [e1] at e2
   have hg':∀ v,R v->zB M P n W Q ⟨.ops a r,kk,L,upd f o.dst v⟩:=hg
   refine ⟨λhq=>s_callx (λv L'=>L'=L/\R v) e1 (λw=>congrFun e2 w) (λw hO=>(hc w hO).mono λe w' ⟨v,q1,q2,q3⟩=>⟨v,L,q1,⟨rfl,q2⟩,hO.on q3⟩) ?_⟩
   rintro v L' ⟨rfl,hR⟩
   exact (hg' v hR).go hq
 |hst a s u L0 i=>
  dsimp only at e1 e2
  rw [Bool.and_eq_true] at e1
  obtain ⟨hw,hi⟩:=e1
  have hi':i<a.size:=of_decide_eq_true hi
  rw [hw] at e2
  have hd:a[i]?=some (a.getD i default):=by rw [Array.getElem?_eq_getElem hi'];simp [Array.getD,hi']
  have hg':∀ v,R v->zB M P n W Q ⟨.hps a (s.setIfInBounds i true) u L0,kk,L,upd f (a.getD i default).dst v⟩:=hg
  refine ⟨λhq hs=>hl_callx (a.getD i default) (λv L'=>L'=L/\R v) hd hw (λw=>congrFun e2 w) (λw hO=>(hc w hO).mono λe w' ⟨v,q1,q2,q3⟩=>⟨v,L,q1,⟨rfl,q2⟩,hO.on q3⟩) (λv L' ⟨e,_⟩ w hO=>by subst e;exact hs w hO) ?_⟩
  rintro v L' ⟨rfl,hR⟩
  exact (hg' v hR).go hq hs
 |_=>cases e1
theorem d8 (t:Nat)(h:List Nat)(v:Value)(hv:(xgo P n t h c).f t=v)(hg:zB M P n W Q ((xgo P n t h c).st t v))(hk:xgl P n t h c=xgr P n t h c:=by kernel_rfl):zB M P n W Q c:=by
 refine zM h c hk ?_
 unfold Xc.st at hg
 rw [←wV hv] at hg
 exact hg
theorem zD (t:Nat)(h:List Nat)(p:Prop)[Decidable p](h1:p->zB M P n W Q ((xgo P n t h c).st t (.bool true)))(h2:¬ p->zB M P n W Q ((xgo P n t h c).st t (.bool false)))
  (hkt:(xgl P n t h c,(xgo P n t h c).f t)=(xgr P n t h c,.bool (decide p)):=by kernel_rfl):zB M P n W Q c:=by
 obtain ⟨hk,hv⟩:=Prod.mk.inj hkt
 by_cases hp:p
 ·exact d8 t h _ (hv.trans (by rw [decide_eq_true hp])) (h1 hp) hk
 ·exact d8 t h _ (hv.trans (by rw [decide_eq_false hp])) (h2 hp) hk
theorem kT (t:Nat)(h:List Nat)(p:Prop)[Decidable p](h1:p->zB M P n W Q ((xgo P n t h c).st t (.bool false)))(h2:¬ p->zB M P n W Q ((xgo P n t h c).st t (.bool true)))
  (hkt:(xgl P n t h c,(xgo P n t h c).f t)=(xgr P n t h c,.bool (!decide p)):=by kernel_rfl):zB M P n W Q c:=by
 obtain ⟨hk,hv⟩:=Prod.mk.inj hkt
 by_cases hp:p
 ·exact d8 t h _ (hv.trans (by rw [decide_eq_true hp];rfl)) (h1 hp) hk
 ·exact d8 t h _ (hv.trans (by rw [decide_eq_false hp];rfl)) (h2 hp) hk
theorem x_bb (t:Nat)(h:List Nat)(b:Bool)(h1:b=true->zB M P n W Q ((xgo P n t h c).st t (.bool true)))(h2:b=false->zB M P n W Q ((xgo P n t h c).st t (.bool false)))
  (hkt:(xgl P n t h c,(xgo P n t h c).f t)=(xgr P n t h c,.bool b):=by kernel_rfl):zB M P n W Q c:=by
 obtain ⟨hk,hv⟩:=Prod.mk.inj hkt
 cases b with
 |true=>exact d8 t h _ hv (h1 rfl) hk
 |false=>exact d8 t h _ hv (h2 rfl) hk
theorem x_sum {k:IntKind}(t:Nat)(h:List Nat)(z:Int)(hz:k.wrap z=z)(hg:zB M P n W Q ((xgo P n t h c).st t (.int k z)))
  (hkt:(xgl P n t h c,(xgo P n t h c).f t)=(xgr P n t h c,.int k (k.wrap z)):=by kernel_rfl):zB M P n W Q c:=by
 obtain ⟨hk,hv⟩:=Prod.mk.inj hkt
 exact d8 t h _ (hv.trans (by rw [hz])) hg hk
theorem zP (h:List Nat)(L':List Blk)(hs:∀ w,Own M W w (xgo P n nS h c).L->Own M W w L')(hg:zB M P n W Q {xgo P n nS h c with L:=L'})(hk:xgl P n nS h c=xgr P n nS h c:=by kernel_rfl)(hqq:xQ (xgo P n nS h c)=false:=by kernel_rfl):zB M P n W Q c:=by
 refine zM h c hk ?_
 generalize xgo P n nS h c=d at hs hg hqq ⊢
 obtain ⟨top,kk,L,f⟩:=d
 cases top with
 |ops a r=>exact ⟨λhq=>s_take hs (hg.go hq)⟩
 |code x=>exact ⟨λhq=>ok_take hs (hg.go hq)⟩
 |fin e=>exact ⟨λhq=>fin_take hs (hg.go hq)⟩
 |_=>cases hqq
theorem zS (h:List Nat)(hg:∀ b,zB M P n W Q (xNew (xgo P n nS h c) ⟨b,(xZ P (xO (xgo P n nS h c))).cells,xTy (xO (xgo P n nS h c))⟩))(hkt:(xgl P n nS h c,((xgo P n nS h c).top,zT (xA (xgo P n nS h c)) n (xgo P n nS h c).f (xO (xgo P n nS h c)),(xO (xgo P n nS h c)).op,(P.info? (xTy (xO (xgo P n nS h c)))).map (·.zero)))=(xgr P n nS h c,(.ops (xA (xgo P n nS h c)) (xO (xgo P n nS h c)::xT (xgo P n nS h c)),true,.alloc (xTy (xO (xgo P n nS h c))),some (some (xZ P (xO (xgo P n nS h c)))))):=by kernel_rfl):zB M P n W Q c:=by
 obtain ⟨hk,ht⟩:=Prod.mk.inj hkt
 refine zM h c hk ?_
 generalize xgo P n nS h c=d at hg ht ⊢
 simp only [Prod.mk.injEq] at ht
 obtain ⟨e1,e2,e3,e4⟩:=ht
 have key:=λhq=>s_alloc_at (M:=M) (W:=W) (Q:=KQ M P n W Q d.k) (rest:=xT d) (L:=d.L) _ e2 e3 e4 λb=>(hg b).go hq
 have:d=⟨.ops (xA d) (xO d::xT d),d.k,d.L,d.f⟩:=by rw [←e1]
 rw [this]
 exact ⟨key⟩
theorem zZ (h:List Nat)(hg:∀ b,zB M P n W Q (xNew (xgo P n nS h c) ⟨b,(xX n (xgo P n nS h c).f (xO (xgo P n nS h c))).cells,xTy (xO (xgo P n nS h c))⟩))
  (hkt:(xgl P n nS h c,(xgo P n nS h c).top,zT (xA (xgo P n nS h c)) n (xgo P n nS h c).f (xO (xgo P n nS h c)),(xO (xgo P n nS h c)).op)
   =(xgr P n nS h c,.ops (xA (xgo P n nS h c)) (xO (xgo P n nS h c)::xT (xgo P n nS h c)),true,.box (xTy (xO (xgo P n nS h c))) (xBx (xO (xgo P n nS h c)))):=by kernel_rfl):zB M P n W Q c:=by
 simp only [Prod.mk.injEq] at hkt
 obtain ⟨hk,e1,e2,e3⟩:=hkt
 refine zM h c hk ?_
 generalize xgo P n nS h c=d at*
 have hx:xX n d.f (xO d)=ev n d.f (xBx (xO d)):=by unfold xX;rw [e3]
 rw [hx] at hg
 have key:=λhq=>s_box (M:=M) (W:=W) (Q:=KQ M P n W Q d.k) (rest:=xT d) (L:=d.L) (ev n d.f (xBx (xO d))) e2 e3 rfl λb=>(hg b).go hq
 have:d=⟨.ops (xA d) (xO d::xT d),d.k,d.L,d.f⟩:=by rw [←e1]
 rw [this]
 exact ⟨key⟩
def xDr (c:Xc):Array Oper:=match xC c with
 | .region _ a true=>a
 |_=> #[]
def xId (c:Xc):Nat:=match xC c with
 | .region i _ _=>i
 |_=>0
theorem vE (m:Nat)(h:List Nat)(hg:zB M P n W Q ⟨.hps ((xDr (xgo P n nS h c)).toList.take m).toArray (Array.replicate m false) m (xgo P n nS h c).L,.tl (xDr (xgo P n nS h c)) ((xDr (xgo P n nS h c)).toList.drop m)::(xgo P n nS h c).k,(xgo P n nS h c).L,(xgo P n nS h c).f⟩)
  (hkt:(xgl P n nS h c,(xgo P n nS h c).top,P.follows .mixedOrders,preB .any (xDr (xgo P n nS h c)).toList m)=(xgr P n nS h c,.code (.region (xId (xgo P n nS h c)) (xDr (xgo P n nS h c)) true),true,true):=by kernel_rfl):zB M P n W Q c:=by
 simp only [Prod.mk.injEq] at hkt
 obtain ⟨hk,e1,e2,e3⟩:=hkt
 refine zM h c hk ?_
 generalize xgo P n nS h c=d at hg e1 e3 ⊢
 generalize xDr d=a at hg e1 e3
 obtain ⟨l,rfl⟩:∃ l:List Oper,a=l.toArray:=⟨a.toList,by simp⟩
 have:d=⟨.code (.region (xId d) l.toArray true),d.k,d.L,d.f⟩:=by rw [←e1]
 rw [this]
 have hg':zB M P n W Q ⟨.hps (l.take m).toArray (Array.replicate m false) m d.L,.tl l.toArray (l.drop m)::d.k,d.L,d.f⟩:=by simpa using hg
 exact ⟨λhq=>p7 m d.L e2 (by simpa using e3) (hg'.go hq λ_ h=>h)⟩
theorem gQ (m:Nat)(h:List Nat)(L0:List Blk)(hs:∀ w,Own M W w (xgo P n nS h c).L->Own M W w L0)(hg:zB M P n W Q ⟨.hps ((xDr (xgo P n nS h c)).toList.take m).toArray (Array.replicate m false) m L0,.tl (xDr (xgo P n nS h c)) ((xDr (xgo P n nS h c)).toList.drop m)::(xgo P n nS h c).k,(xgo P n nS h c).L,(xgo P n nS h c).f⟩)
  (hkt:(xgl P n nS h c,(xgo P n nS h c).top,P.follows .mixedOrders,preB .any (xDr (xgo P n nS h c)).toList m)=(xgr P n nS h c,.code (.region (xId (xgo P n nS h c)) (xDr (xgo P n nS h c)) true),true,true):=by kernel_rfl):zB M P n W Q c:=by
 simp only [Prod.mk.injEq] at hkt
 obtain ⟨hk,e1,e2,e3⟩:=hkt
 refine zM h c hk ?_
 generalize xgo P n nS h c=d at hs hg e1 e3 ⊢
 generalize xDr d=a at hg e1 e3
 obtain ⟨l,rfl⟩:∃ l:List Oper,a=l.toArray:=⟨a.toList,by simp⟩
 have:d=⟨.code (.region (xId d) l.toArray true),d.k,d.L,d.f⟩:=by rw [←e1]
 rw [this]
 have hg':zB M P n W Q ⟨.hps (l.take m).toArray (Array.replicate m false) m L0,.tl l.toArray (l.drop m)::d.k,d.L,d.f⟩:=by simpa using hg
 exact ⟨λhq=>p7 m L0 e2 (by simpa using e3) (hg'.go hq hs)⟩
def xS (c:Xc):Array Bool:=match c.top with
 | .hps _ s _ _=>s
 |_=> #[]
def xU (c:Xc):Nat:=match c.top with
 | .hps _ _ u _=>u.pred
 |_=>0
def xL0 (c:Xc):List Blk:=match c.top with
 | .hps _ _ _ l=>l
 |_=>[]
def xHs (c:Xc)(i:Nat):Xc:={c with top:= .hst (xA c) (xS c) (xU c) (xL0 c) i}
theorem zY (h:List Nat)(i:Nat)(hg:zB M P n W Q (xHs (xgo P n nS h c) i))
  (hkt:(xgl P n nS h c,(xgo P n nS h c).top,Region.ready .any (xA (xgo P n nS h c)) (xS (xgo P n nS h c)))=(xgr P n nS h c,.hps (xA (xgo P n nS h c)) (xS (xgo P n nS h c)) (xU (xgo P n nS h c)+1) (xL0 (xgo P n nS h c)),[i]):=by kernel_rfl):zB M P n W Q c:=by
 simp only [Prod.mk.injEq] at hkt
 obtain ⟨hk,e1,e2⟩:=hkt
 refine zM h c hk ?_
 generalize xgo P n nS h c=d at hg e1 e2 ⊢
 have:d=⟨.hps (xA d) (xS d) (xU d+1) (xL0 d),d.k,d.L,d.f⟩:=by rw [←e1]
 rw [this]
 exact ⟨λhq hs=>h_one i e2 (hg.go hq hs)⟩
theorem x_h2 (h:List Nat)(i j:Nat)(hg:zB M P n W Q (xHs (xgo P n nS h c) i))(hg':zB M P n W Q (xHs (xgo P n nS h c) j))
  (hkt:(xgl P n nS h c,(xgo P n nS h c).top,Region.ready .any (xA (xgo P n nS h c)) (xS (xgo P n nS h c)))=(xgr P n nS h c,.hps (xA (xgo P n nS h c)) (xS (xgo P n nS h c)) (xU (xgo P n nS h c)+1) (xL0 (xgo P n nS h c)),[i,j]):=by kernel_rfl):zB M P n W Q c:=by
 simp only [Prod.mk.injEq] at hkt
 obtain ⟨hk,e1,e2⟩:=hkt
 refine zM h c hk ?_
 generalize xgo P n nS h c=d at hg hg' e1 e2 ⊢
 have:d=⟨.hps (xA d) (xS d) (xU d+1) (xL0 d),d.k,d.L,d.f⟩:=by rw [←e1]
 rw [this]
 exact ⟨λhq hs=>h_two i j e2 (hg.go hq hs) (hg'.go hq hs)⟩
def hS (c:Xc):Array Bool:=match c.top with
 | .hst _ s _ _ _=>s
 |_=> #[]
def hU (c:Xc):Nat:=match c.top with
 | .hst _ _ u _ _=>u
 |_=>0
def hL (c:Xc):List Blk:=match c.top with
 | .hst _ _ _ l _=>l
 |_=>[]
def hI (c:Xc):Nat:=match c.top with
 | .hst _ _ _ _ i=>i
 |_=>0
def hNew (c:Xc)(x:Blk)(v:Value):Xc:=⟨.hps (xA c) ((hS c).setIfInBounds (hI c) true) (hU c) (hL c),c.k,x::c.L,upd c.f (xO c).dst v⟩
theorem Own.left {L ob:List Blk}{w:World}(h:Own M W w (L++ob)):Own M W w L:=Own.sub ob (h.perm List.perm_append_comm)
theorem nH (hg:∀ b,zB M P n W Q (hNew c ⟨b,(xZ P (xO c)).cells,xTy (xO c)⟩ (.pointer (some ⟨b,0,none⟩))))
  (hkt:(c.top,(xA c)[hI c]?,zT (xA c) n c.f (xO c),(xO c).op,(P.info? (xTy (xO c))).map (·.zero))=(.hst (xA c) (hS c) (hU c) (hL c) (hI c),some (xO c),true,.alloc (xTy (xO c)),some (some (xZ P (xO c)))):=by kernel_rfl):zB M P n W Q c:=by
 simp only [Prod.mk.injEq] at hkt
 obtain ⟨e1,e2,e3,e4,e5⟩:=hkt
 have:c=⟨.hst (xA c) (hS c) (hU c) (hL c) (hI c),c.k,c.L,c.f⟩:=by rw [←e1]
 rw [this]
 refine ⟨λhq hs=>hl_step (xO c) e2 e3 (λ_ _ _=>True) λw hO=> ?_⟩
 cases hi:P.info? (xTy (xO c)) with
 |none=>rw [hi] at e5;cases e5
 |some i=>
  rw [hi] at e5
  have hz:i.zero=some (xZ P (xO c)):=Option.some.inj e5
  refine xB (Zp w.heap.size 0) (w':=w.alloc (.cells (xZ P (xO c)).cells (xTy (xO c)))) ?_ ⟨_,_,rfl,hO.alloc _ _,hs _ (Own.sub [_] (hO.alloc _ _)),(hg w.heap.size).go hq λw hO=>hs w (Own.sub [_] hO)⟩
  unfold execOp
  simp [e4,Instr.alloc,zeroValue,typeInfo,hi,hz,newVar,newRow,Sem.run_bind]
theorem k7 (len:Nat)(T:TypeId)(cs:Array Value)(hg:∀ b,zB M P n W Q (hNew c ⟨b,cs,T⟩ (.slice (some ⟨b,0,none⟩) len len)))
  (hkt:(c.top,(xA c)[hI c]?,zT (xA c) n c.f (xO c),λw=>(execOp (ev n c.f) (xO c)).run P w)=(.hst (xA c) (hS c) (hU c) (hL c) (hI c),some (xO c),true,λw=> .ok (.value (.slice (some ⟨w.heap.size,0,none⟩) len len)) (w.alloc (.cells cs T))):=by kernel_rfl):zB M P n W Q c:=by
 simp only [Prod.mk.injEq] at hkt
 obtain ⟨e1,e2,e3,e4⟩:=hkt
 have:c=⟨.hst (xA c) (hS c) (hU c) (hL c) (hI c),c.k,c.L,c.f⟩:=by rw [←e1]
 rw [this]
 exact ⟨λhq hs=>hl_step (xO c) e2 e3 (λ_ _ _=>True) λw hO=>xB _ (congrFun e4 w) ⟨_,_,rfl,hO.alloc _ _,hs _ (Own.sub [_] (hO.alloc _ _)),(hg w.heap.size).go hq λw hO=>hs w (Own.sub [_] hO)⟩⟩
theorem gX (h:List Nat)(len:Nat)(T:TypeId)(cs:Array Value)(hg:∀ b,zB M P n W Q ⟨.ops (xA (xgo P n nS h c)) (xT (xgo P n nS h c)),(xgo P n nS h c).k,⟨b,cs,T⟩::(xgo P n nS h c).L,upd (xgo P n nS h c).f (xO (xgo P n nS h c)).dst (.slice (some ⟨b,0,none⟩) len len)⟩)
  (hkt:(xgl P n nS h c,(xgo P n nS h c).top,zT (xA (xgo P n nS h c)) n (xgo P n nS h c).f (xO (xgo P n nS h c)),λw=>(execOp (ev n (xgo P n nS h c).f) (xO (xgo P n nS h c))).run P w)
   =(xgr P n nS h c,.ops (xA (xgo P n nS h c)) (xO (xgo P n nS h c)::xT (xgo P n nS h c)),true,λw=> .ok (.value (.slice (some ⟨w.heap.size,0,none⟩) len len)) (w.alloc (.cells cs T))):=by kernel_rfl):zB M P n W Q c:=by
 simp only [Prod.mk.injEq] at hkt
 obtain ⟨hk,e1,e3,e4⟩:=hkt
 refine zM h c hk ?_
 generalize xgo P n nS h c=d at*
 have:d=⟨.ops (xA d) (xO d::xT d),d.k,d.L,d.f⟩:=by rw [←e1]
 rw [this]
 exact ⟨λhq=>kW e3 λw hO=>xB _ (congrFun e4 w) (((hg w.heap.size).go hq).go _ (hO.alloc _ _))⟩
theorem gI {k:FuncId}{args:Array Value}{R:Value->List Blk->Prop}(hc:∀ w,Own M W w c.L->Calls P k args w λe w'=>∃ v ob,e= .returned v/\R v ob/\Own [] w w' ob)
  (hg:∀ v ob,R v ob->zB M P n W Q (xAdd (c.put v) ob))
  (hkt:(c.top,(xA c)[hI c]?,zT (xA c) n c.f (xO c),λw=>(execOp (ev n c.f) (xO c)).run P w)=(.hst (xA c) (hS c) (hU c) (hL c) (hI c),some (xO c),true,λw=> .ok (.enter k args) w):=by kernel_rfl):zB M P n W Q c:=by
 simp only [Prod.mk.injEq] at hkt
 obtain ⟨e1,e2,e3,e4⟩:=hkt
 have hc':c=⟨.hst (xA c) (hS c) (hU c) (hL c) (hI c),c.k,c.L,c.f⟩:=by rw [←e1]
 have hg':∀ v ob,R v ob->zB M P n W Q ⟨.hps (xA c) ((hS c).setIfInBounds (hI c) true) (hU c) (hL c),c.k,c.L++ob,upd c.f (xO c).dst v⟩:=λv ob h=>by
  have hp:xAdd (c.put v) ob=⟨.hps (xA c) ((hS c).setIfInBounds (hI c) true) (hU c) (hL c),c.k,c.L++ob,upd c.f (xO c).dst v⟩:=by
   have ho:xO c=(xA c).getD (hI c) default:=by unfold xO;rw [e1]
   unfold Xc.put
   rw [e1,ho]
   rfl
  rw [←hp];exact hg v ob h
 rw [hc']
 refine ⟨λhq hs=>hl_callx (xO c) (λv L'=>∃ ob,L'=c.L++ob/\R v ob) e2 e3 (λw=>congrFun e4 w) (λw hO=>((hc w hO).mono λe w' ⟨v,ob,q1,q2,q3⟩=>⟨v,c.L++ob,q1,⟨ob,rfl,q2⟩,(Own.joinN hO q3).perm List.perm_append_comm⟩)) (λv L' ⟨ob,e,_⟩ w hO=>by subst e;exact hs w hO.left) ?_⟩
 rintro v L' ⟨ob,rfl,hR⟩
 exact (hg' v ob hR).go hq λw hO=>hs w hO.left
def xV (f:Nat->Value)(l:List (Nat×Value)):List Value:=l.map λp=>f p.1
theorem vS {f:Nat->Value}:∀ {l:List (Nat×Value)},xV f l=l.map Prod.snd->nG f l
 | [],_=>trivial
 |p::r,h=>⟨(List.cons.inj h).1,vS (List.cons.inj h).2⟩
def xJ {α:Type}(lv:α->List (Nat×Value))(Lf:α->List Blk)(rel:α->Prop):List Blk->(Nat->Value)->Prop:=λL f=>∃ x,rel x/\L=Lf x/\nG f (lv x)
def Nj (M:List Nat)(P:Program)(n:Nat)(W:World){α:Type}(lv:α->List (Nat×Value))(Lf:α->List Blk)(rel:α->Prop):Prop:=
 ∀ (x':α) (h:List Nat) {c':Xc},rel x'->(xgl P n nS h c',(xgo P n nS h c').top,(xgo P n nS h c').k,(xgo P n nS h c').L,xV (xgo P n nS h c').f (lv x'))=(xgr P n nS h c',.fin .normal,[],Lf x',(lv x').map Prod.snd)->zB M P n W (JoinQ M n W (xJ lv Lf rel)) c'
theorem x_join {α:Type}(lv:α->List (Nat×Value))(Lf:α->List Blk)(rel:α->Prop)(h:List Nat)(h1:Nj M P n W lv Lf rel->zB M P n W (JoinQ M n W (xJ lv Lf rel)) ⟨.code (xC (xgo P n nS h c)),[],(xgo P n nS h c).L,(xgo P n nS h c).f⟩)
  (h2:∀ x g,rel x->zB M P n W Q ⟨.fin .normal,(xgo P n nS h c).k,Lf x,nO g (lv x)⟩) (hkt:(xgl P n nS h c,(xgo P n nS h c).top)=(xgr P n nS h c,.code (xC (xgo P n nS h c))):=by kernel_rfl):zB M P n W Q c:=by
 obtain ⟨hk,e1⟩:=Prod.mk.inj hkt
 refine zM h c hk ?_
 generalize xgo P n nS h c=d at*
 have:d=⟨.code (xC d),d.k,d.L,d.f⟩:=by rw [←e1]
 rw [this]
 refine ⟨λhq=>ok_join (xJ lv Lf rel) ((h1 λx' h c' hr hkt'=> ?_).go pq_join) λL f ⟨x,hr,hL,hA⟩=> ?_⟩
 ·simp only [Prod.mk.injEq] at hkt'
  obtain ⟨hk',f1,f2,f3,f4⟩:=hkt'
  refine zM h c' hk' ?_
  generalize xgo P n nS h c'=d' at*
  have:d'=⟨.fin .normal,[],d'.L,d'.f⟩:=by rw [←f1,←f2]
  rw [this]
  exact ⟨λ_=>fin_join ⟨x',hr,f3,vS f4⟩⟩
 ·subst hL
  rw [vG _ hA]
  exact (h2 x f hr).go hq
theorem wE {α:Type}(d0:Nat)(lv:α->List (Nat×Value))(Lf:α->List Blk)(rel:α->Prop)(h:List Nat)(h1:Nj M P n W lv Lf rel->zB M P n W (JoinQ M n W (xJ lv Lf rel)) ⟨.code (xC (xgo P n (xCt d0) h c)),[],(xgo P n (xCt d0) h c).L,(xgo P n (xCt d0) h c).f⟩)
  (h2:∀ x g,rel x->zB M P n W Q ⟨.fin .normal,(xgo P n (xCt d0) h c).k,Lf x,nO g (lv x)⟩) (hkt:(xgl P n (xCt d0) h c,(xgo P n (xCt d0) h c).top)=(xgr P n (xCt d0) h c,.code (xC (xgo P n (xCt d0) h c))):=by kernel_rfl):zB M P n W Q c:=by
 obtain ⟨hk,e1⟩:=Prod.mk.inj hkt
 refine zM h c hk ?_
 generalize xgo P n (xCt d0) h c=d at*
 have:d=⟨.code (xC d),d.k,d.L,d.f⟩:=by rw [←e1]
 rw [this]
 refine ⟨λhq=>ok_join (xJ lv Lf rel) ((h1 λx' h c' hr hkt'=> ?_).go pq_join) λL f ⟨x,hr,hL,hA⟩=> ?_⟩
 ·simp only [Prod.mk.injEq] at hkt'
  obtain ⟨hk',f1,f2,f3,f4⟩:=hkt'
  refine zM h c' hk' ?_
  generalize xgo P n nS h c'=d' at*
  have:d'=⟨.fin .normal,[],d'.L,d'.f⟩:=by rw [←f1,←f2]
  rw [this]
  exact ⟨λ_=>fin_join ⟨x',hr,f3,vS f4⟩⟩
 ·subst hL
  rw [vG _ hA]
  exact (h2 x f hr).go hq
theorem fY (t:Nat)(p:Prop)[Decidable p](h1:p->zB M P n W Q (c.st t (.bool true)))(h2:¬ p->zB M P n W Q (c.st t (.bool false)))(hv:c.f t= .bool (decide p):=by kernel_rfl):zB M P n W Q c:=by
 by_cases hp:p
 ·have h:=h1 hp
  unfold Xc.st at h
  rw [←wV (hv.trans (by rw [decide_eq_true hp]))] at h
  exact h
 ·have h:=h2 hp
  unfold Xc.st at h
  rw [←wV (hv.trans (by rw [decide_eq_false hp]))] at h
  exact h
def xI {α:Type}(lv:α->List (Nat×Value))(Lf:α->List Blk)(rel:α->Nat->Prop):List Blk->(Nat->Value)->Nat->Prop:=λL f m=>∃ x,rel x m/\L=Lf x/\nG f (lv x)
def Nx (M:List Nat)(P:Program)(n:Nat)(W:World)(Q:Exit->Act->World->Prop){α:Type}(lv:α->List (Nat×Value))(Lf:α->List Blk)(rel:α->Nat->Prop)(kk:List XIt)(k:Nat):Prop:=
 ∀ (x':α) (k':Nat) (h:List Nat) {c':Xc},k'<k->rel x' k'->xgl P n nS h c'=xgr P n nS h c'->((xgo P n nS h c').top,(xgo P n nS h c').k,(xgo P n nS h c').L,xV (xgo P n nS h c').f (lv x'))=(.fin .normal,kk,Lf x',(lv x').map Prod.snd)->zB M P n W Q c'
theorem zO {α:Type}(lv:α->List (Nat×Value))(Lf:α->List Blk)(rel:α->Nat->Prop)(x0:α)(m0:Nat)(h:List Nat)(h0:rel x0 m0)
  (hg:∀ x k g kk,rel x k->Nx M P n W Q lv Lf rel (kk::(xgo P n nS h c).k) k->kk= .lp (xI lv Lf rel) k->zB M P n W Q ⟨.code (nK (xgo P n nS h c)),.lp (xI lv Lf rel) k::(xgo P n nS h c).k,Lf x,nO g (lv x)⟩)
  (hkt:(xgl P n nS h c,((xgo P n nS h c).top,(xgo P n nS h c).L,xV (xgo P n nS h c).f (lv x0)))=(xgr P n nS h c,(.code (.loop (nK (xgo P n nS h c))),Lf x0,(lv x0).map Prod.snd)):=by kernel_rfl):zB M P n W Q c:=by
 obtain ⟨hk,ht⟩:=Prod.mk.inj hkt
 refine zM h c hk ?_
 generalize xgo P n nS h c=d at hg ht ⊢
 simp only [Prod.mk.injEq] at ht
 obtain ⟨e1,e2,e3⟩:=ht
 have:d=⟨.code (.loop (nK d)),d.k,d.L,d.f⟩:=by rw [←e1]
 rw [this]
 refine ⟨λhq=>ok_loop (xI lv Lf rel) m0 ⟨x0,h0,e2,vS e3⟩ λL f k ⟨x,hr,hL,hA⟩=> ?_⟩
 subst hL
 rw [vG _ hA]
 refine (hg x k f _ hr (λx' k' h c' hlt hr' hk' ht'=>zM h c' hk' ?_) rfl).go hq
 generalize xgo P n nS h c'=d' at ht' ⊢
 simp only [Prod.mk.injEq] at ht'
 obtain ⟨f1,f2,f3,f4⟩:=ht'
 have:d'=⟨.fin .normal,.lp (xI lv Lf rel) k::d.k,d'.L,d'.f⟩:=by rw [←f1,←f2]
 rw [this]
 exact ⟨λ_=>tG hlt ⟨x',hr',f3,vS f4⟩⟩
theorem fin_at {kk:List XIt}{L':List Blk}{lv:List (Nat×Value)}{d:Xc}(hg:∀ g,zB M P n W Q ⟨.fin .normal,kk,L',nO g lv⟩)(e1:d.top= .fin .normal)(e2:d.k=kk)(e3:d.L=L')(e4:xV d.f lv=lv.map Prod.snd):zB M P n W Q d:=by
 have hgo:=hg d.f
 rw [←vG _ (vS e4)] at hgo
 have:d=⟨.fin .normal,kk,L',d.f⟩:=by rw [←e1,←e2,←e3]
 rw [this]
 exact hgo
def Nex (M:List Nat)(P:Program)(n:Nat)(W:World)(Q:Exit->Act->World->Prop){β:Type}(lv:β->List (Nat×Value))(Lf:β->List Blk)(rel:β->Prop)(kk:List XIt):Prop:=
 ∀ (y:β) (h:List Nat) {c':Xc},rel y->(xgl P n (xAt (xlen kk)) h c',(xgo P n (xAt (xlen kk)) h c').top,(xgo P n (xAt (xlen kk)) h c').k,(xgo P n (xAt (xlen kk)) h c').L,xV (xgo P n (xAt (xlen kk)) h c').f (lv y))=(xgr P n (xAt (xlen kk)) h c',.fin .normal,kk,Lf y,(lv y).map Prod.snd)->zB M P n W Q c'
theorem x_loopE {α β:Type}(lv:α->List (Nat×Value))(Lf:α->List Blk)(rel:α->Nat->Prop)(x0:α)(m0:Nat)(lvE:β->List (Nat×Value))(LfE:β->List Blk)(relE:β->Prop)(h:List Nat)(h0:rel x0 m0)
  (hg:∀ x k g,rel x k->Nx M P n W Q lv Lf rel (.lp (xI lv Lf rel) k::(xgo P n nS h c).k) k->Nex M P n W Q lvE LfE relE (xgo P n nS h c).k.tail->zB M P n W Q ⟨.code (nK (xgo P n nS h c)),.lp (xI lv Lf rel) k::(xgo P n nS h c).k,Lf x,nO g (lv x)⟩)
  (he:∀ y g,relE y->zB M P n W Q ⟨.fin .normal,(xgo P n nS h c).k.tail,LfE y,nO g (lvE y)⟩)
  (hkt:(xgl P n nS h c,(xgo P n nS h c).top,(xgo P n nS h c).L,xV (xgo P n nS h c).f (lv x0))=(xgr P n nS h c,.code (.loop (nK (xgo P n nS h c))),Lf x0,(lv x0).map Prod.snd):=by kernel_rfl):zB M P n W Q c:=by
 refine zO lv Lf rel x0 m0 h h0 (λx k g kk hr nx hkk=> ?_) hkt
 subst hkk
 refine hg x k g hr nx λy h' c' hy hkt'=> ?_
 simp only [Prod.mk.injEq] at hkt'
 obtain ⟨hk,e1,e2,e3,e4⟩:=hkt'
 exact zM h' c' hk (fin_at (λg=>he y g hy) e1 e2 e3 e4)
theorem jQ (m:Nat)(h:List Nat)(hg:zB M P n W Q ⟨.code (nK (xgo P n nS h c)),.rd (nK (xgo P n nS h c)) m::(xgo P n nS h c).k,(xgo P n nS h c).L,(xgo P n nS h c).f⟩)
  (hkt:(xgl P n nS h c,(xgo P n nS h c).top)=(xgr P n nS h c,.code (.loop (nK (xgo P n nS h c)))):=by kernel_rfl):zB M P n W Q c:=by
 obtain ⟨hk,e1⟩:=Prod.mk.inj hkt
 refine zM h c hk ?_
 generalize xgo P n nS h c=d at*
 have:d=⟨.code (.loop (nK d)),d.k,d.L,d.f⟩:=by rw [←e1]
 rw [this]
 exact ⟨λhq=>⟨λw hO=>wp_loop_rounds (m+1) ((hg.go hq).go w hO)⟩⟩
theorem z8 {k:FuncId}{fn:Func}{args:Array Value}{R:Ending->World->Prop}(hf:P.funcs[k]?=some fn)(hg:zB [] P fn.ntmps W (bodyPost P fn R) ⟨.code (fn.body.getD .skip),[],[],λt=>args.getD t undef⟩)
  (hb:fn.body.isSome=true:=by kernel_rfl) (hle:Nat.ble args.size fn.ntmps=true:=by kernel_rfl):Calls P k args W R:=by
 cases hb':fn.body with
 |none=>rw [hb'] at hb;cases hb
 |some b=>rw [hb'] at hg;exact calls_ok hf hb' rfl hle (hg.go pq_body)
def xRt (fn:Func)(i:Nat):Tmp:=match fn.results[i]? with
 |some (.tmp t)=>t
 |some (.cell t _)=>t
 |_=>0
def xRy (fn:Func)(i:Nat):TypeId:=match fn.results[i]? with
 |some (.cell _ y)=>y
 |_=>0
theorem z7 {fn:Func}{R:Ending->World->Prop}(h:List Nat)(v:Value)(hR:∀ w,Own M W w (xgo P n nS h c).L->R (.returned v) w)(hkt:(xgl P n nS h c,((xgo P n nS h c).top,(xgo P n nS h c).k,fn.results,ev n (xgo P n nS h c).f (.tmp (xRt fn 0))))=(xgr P n nS h c,(.fin .ret,[], #[.tmp (xRt fn 0)],v)):=by kernel_rfl):zB M P n W (bodyPost P fn R) c:=by
 obtain ⟨hk,ht⟩:=Prod.mk.inj hkt
 refine zM h c hk ?_
 generalize xgo P n nS h c=d at hR ht ⊢
 obtain ⟨top,kk,L,f⟩:=d
 simp only [Prod.mk.injEq] at ht
 obtain ⟨rfl,rfl,e3,e4⟩:=ht
 exact ⟨λ_=>fin_ret v e3 e4 hR⟩
theorem zU {fn:Func}{R:Ending->World->Prop}(h:List Nat)(v v':Value)(hR:∀ w,Own M W w (xgo P n nS h c).L->R (.returned (.tuple #[v,v'])) w)(hkt:(xgl P n nS h c,((xgo P n nS h c).top,(xgo P n nS h c).k,fn.results,ev n (xgo P n nS h c).f (.tmp (xRt fn 0)),ev n (xgo P n nS h c).f (.tmp (xRt fn 1))))=(xgr P n nS h c,(.fin .ret,[], #[.tmp (xRt fn 0),.tmp (xRt fn 1)],v,v')):=by kernel_rfl):zB M P n W (bodyPost P fn R) c:=by
 obtain ⟨hk,ht⟩:=Prod.mk.inj hkt
 refine zM h c hk ?_
 generalize xgo P n nS h c=d at hR ht ⊢
 obtain ⟨top,kk,L,f⟩:=d
 simp only [Prod.mk.injEq] at ht
 obtain ⟨rfl,rfl,e3,e4,e5⟩:=ht
 exact ⟨λ_=>fin_ret2 v v' e3 e4 e5 hR⟩
theorem j7 {fn:Func}{R:Ending->World->Prop}(h:List Nat)(i:Nat)(v:Value)(hR:∀ w,Own M W w (xgo P n nS h c).L->R (.returned v) w)(hkt:(xgl P n nS h c,((xgo P n nS h c).top,(xgo P n nS h c).k,fn.results,(xgo P n nS h c).L[i]?,ev n (xgo P n nS h c).f (.tmp (xRt fn 0)),yQ P (xRy fn 0) (gF (xgo P n nS h c).L i).cs 0))=(xgr P n nS h c,(.fin .ret,[], #[.cell (xRt fn 0) (xRy fn 0)],some (gF (xgo P n nS h c).L i),.pointer (some ⟨(gF (xgo P n nS h c).L i).b,0,none⟩),some v)):=by kernel_rfl):zB M P n W (bodyPost P fn R) c:=by
 obtain ⟨hk,ht⟩:=Prod.mk.inj hkt
 refine zM h c hk ?_
 generalize xgo P n nS h c=d at hR ht ⊢
 obtain ⟨top,kk,L,f⟩:=d
 simp only [Prod.mk.injEq] at ht
 obtain ⟨rfl,rfl,e3,e4,e5,e6⟩:=ht
 exact ⟨λ_=>fin_cell i _ v e3 e4 e5 e6 hR⟩
end
end
section
section
variable {M:List Nat}{P:Program}{n:Nat}{ops:Array Oper}{W:World}{L0:List Blk}{Q:Exit->Act->World->Prop}{fuel:Nat}{listed:Array Bool}{L:List Blk}{f:Nat->Value}
end
end
section
theorem mk_drop (s:YL)(j:Nat):(mkS s).extract j (mkS s).size=mkS (s.drop j):=by
 rw [wA,mk_data,y4]
 congr 1
 exact List.take_of_length_le (by rw [List.length_drop];omega)
theorem run_strlo {P:Program}{ρ:Operand->Value}{o:Oper}{t:TypeId}{x y:Operand}{s:YL}{k:IntKind}{j:Int}(ho:o.op= .slice t x (some y) none none)(hx:ρ x= .string (mkS s))(hy:ρ y= .int k j)
  (hu:P.underlying t=some .string) (h0:0<=j) (h1:j<=s.length) (w:World):(execOp ρ o).run P w= .ok (.value (.string (mkS (s.drop j.toNat)))) w:=by
 unfold execOp
 have h2:j<=((mkS s).size:Int):=by rw [y4];exact h1
 simp [ho,hx,hy,Instr.sliceAt,Instr.slice,Instr.sliceBounds,Instr.sliceBound,Sem.run_bind,asIntOf,run_underlying hu,h0,h2,mk_drop]
theorem mk_get (s:YL)(k:Nat)(h:k<s.length):(mkS s)[k]?=some s[k]:=by
 have h2:k<(mkS s).size:=by rw [y4];exact h
 rw [getElem?_pos (mkS s) k h2]
 congr 1
theorem run_stridx {P:Program}{ρ:Operand->Value}{o:Oper}{t:TypeId}{x y:Operand}{s:YL}{k:IntKind}{j:Int}(ho:o.op= .index t x y)(hx:ρ x= .string (mkS s))(hy:ρ y= .int k j)
  (hu:P.underlying t=some .string) (h0:0<=j) (h1:j.toNat<s.length) (w:World):(execOp ρ o).run P w= .ok (.value (.int .u8 (s[j.toNat].toNat:Int))) w:=by
 unfold execOp
 have e:=mk_get s j.toNat h1
 simp [ho,hx,hy,Instr.index,Sem.run_bind,asIntOf,run_underlying hu,h0,e]
theorem run_slhm {P:Program}{ρ:Operand->Value}{o:Oper}{t e:TypeId}{x z y:Operand}{b n c sz:Nat}{k q:IntKind}{j m:Int}(ho:o.op= .slice t x none (some z) (some y))(hx:ρ x= .slice (some ⟨b,0,none⟩) n c)(hz:ρ z= .int k j)(hy:ρ y= .int q m)
  (hu:P.underlying t=some (.slice e)) (hs:(P.info? e).map (·.size)=some sz) (h0:0<=j) (h1:j<=m) (h2:m<=c) (w:World):(execOp ρ o).run P w= .ok (.value (.slice (some ⟨b,0,none⟩) j.toNat m.toNat)) w:=by
 cases he:P.info? e with
 |none=>rw [he] at hs;cases hs
 |some i=>
  rw [he] at hs
  obtain rfl:=Option.some.inj hs
  have h3:0<=m:=Int.le_trans h0 h1
  unfold execOp
  simp [ho,hx,hz,hy,Instr.sliceAt,Instr.slice,Instr.sliceBounds,Instr.sliceBound,Sem.run_bind,asIntOf,run_underlying hu,h0,h1,h2,h3,sizeOf,typeInfo,he,yI]
  try (first|omega|(rw [if_pos Om];simp [yI]))
theorem bS {P:Program}{ρ:Operand->Value}{o:Oper}{t t':TypeId}{x y:Operand}{a b:YL}(ho:o.op= .binOp .add t x y t')(hx:ρ x= .string (mkS a))(hy:ρ y= .string (mkS b))(hb:a.length+b.length<=4000000000)(w:World):(execOp ρ o).run P w= .ok (.value (.string (mkS (a++b)))) w:=by
 unfold execOp
 have h1:¬ (9223372036854775807:Int)<((mkS a).size:Int)+((mkS b).size:Int):=by rw [y4,y4];omega
 simp [ho,hx,hy,Sem.run_bind,eqGuard,binOp,Op.stringOp,yJ,h1]
section
variable {M:List Nat}{P:Program}{n0:Nat}{ops:Array Oper}{W:World}{Q:Exit->Act->World->Prop}{rest:List Oper}{o:Oper}{L:List Blk}{f:Nat->Value}
theorem s_appendF {t T:TypeId}{s x:Operand}{i:TypeInfo}{z:Value}{sz:Nat}(hw:zT ops n0 f o=true)(ho:o.op= .call {callee:= .builtin .append,args:= #[s,x],argTypes:= #[t,t]})
  (ht:P.underlying t=some (.slice T)) (hi:P.info? T=some i) (hz:i.zero=some z) (hsz:i.size=sz) (hzs:z.cells.size=sz)
  {b:Addr} {n cap:Nat} {xs:List Value} (hs:ev n0 f s= .slice (some b) n cap) (hxl:xs.length=n*sz) (hxs:∀ w,Own M W w L→∀ j u,xs[j]?=some u->w.cell? (b.add j)=some u)
  {a:Addr} {m c:Nat} {news:List Value} (hx:ev n0 f x= .slice (some a) m c) (hl:news.length=m*sz) (hnews:∀ w,Own M W w L→∀ j u,news[j]?=some u->w.cell? (a.add j)=some u)
  (hroom:cap<n+m) (h63:n+m<=maxLen) (hbytes:(n+m)*i.bytes<=140737488355328)
  (h:∀ v' ob',Sl T sz v' (n+m) (xs++news) ob'->Seg M P n0 ops W Q rest (ob'++L) (upd f o.dst v')):Seg M P n0 ops W Q (o::rest) L f:=
 kW hw λw hO=>by
  subst hsz
  have hsmall:n+m<=9223372036854775807:=by simp only [maxLen] at h63;omega
  have hlen:(xs++news).length=(n+m)*i.size:=by rw [List.length_append,hxl,hl,Nat.add_mul]
  have hr:=run_append_grow (P:=P) w t o.type T i z ht hi hz b n cap xs hxl (hxs w hO) a m c news hl (hnews w hO) Om Om (growslice_fits Om hbytes)
  have hge:=grownCap_ge w (n+m) cap T
  have hcm:=grownCap_le_maxLen w (n+m) cap T h63
  refine xB _ (w':=_) ?_ ((h _ [⟨w.heap.size,xs.toArray++news.toArray++Builtin.zeroCells z.cells (grownCap w (n+m) cap T-(n+m)),T⟩] ⟨hlen,.inr ⟨w.heap.size,grownCap w (n+m) cap T,_,rfl,rfl,hge,hcm, ?_, ?_⟩⟩).go _ ((bO hO).alloc (xs.toArray++news.toArray++Builtin.zeroCells z.cells (grownCap w (n+m) cap T-(n+m))) T))
  ·unfold execOp
   simp only [ho,resolve,invoke,builtin,Sem.run_bind,Sem.run_pure,Result.andThen_ok,List.map_toArray,List.map_cons,List.map_nil,hs,hx,hr]
  ·simp only [Array.size_append,List.size_toArray,size_zeroCells,hzs,hxl,hl,←Nat.add_mul]
   congr 1
   omega
  ·simp only [Array.toList_append,List.append_assoc]
   rw [←List.append_assoc,←hlen]
   exact List.take_left
end
section
variable {M:List Nat}{P:Program}{n:Nat}{ops:Array Oper}{W:World}{L0:List Blk}{Q:Exit->Act->World->Prop}{fuel:Nat}{listed:Array Bool}{f:Nat->Value}
end
end
section
section
variable {M:List Nat}{P:Program}{n:Nat}{ops:Array Oper}{W:World}{L0:List Blk}{Q:Exit->Act->World->Prop}{fuel:Nat}{listed:Array Bool}{f:Nat->Value}
end
end
section
end
section
section
variable {M:List Nat}{P:Program}{n:Nat}{ops:Array Oper}{W:World}{L0:List Blk}{Q:Exit->Act->World->Prop}{fuel:Nat}{listed:Array Bool}{f:Nat->Value}
theorem own_cnt {L L':List Blk}{w:World}(D:List Blk)(h:Own M W w L)(e:∀ p:Blk->Bool,L.countP p=(D++L').countP p):Own M W w L':=by
 classical
 refine Own.sub D (h.perm ?_)
 rw [List.perm_iff_count]
 intro a
 exact e λx=>x==a
end
end
section
structure Fv where
 name:YL
 A:Option Addr
 of:List YL
 cap:Nat
def fvC (x:Fv):List Value:=[.string (mkS x.name),.slice x.A x.of.length x.cap]
theorem qE (x:Fv):(fvC x).length=2:=rfl
def fvV (x:Fv):Value:= .agg #[.string (mkS x.name),.slice x.A x.of.length x.cap]
def Fv.ft (x:Fv):Ft:=⟨x.name,x.of⟩
def y5 (xs:List Fv):List Ft:=xs.map Fv.ft
theorem q9 (xs:List Fv):(y5 xs).length=xs.length:=List.length_map ..
theorem bK (xs:List Fv)(k:Nat):y5 (xs.take k)=(y5 xs).take k:=by unfold y5;rw [List.map_take]
theorem ftOf_get {xs:List Fv}{i:Nat}(hi:i<xs.length){x:Fv}(h:xs[i]=x):(y5 xs)[i]'(by rw [q9];exact hi)=x.ft:=by
 unfold y5;rw [List.getElem_map,h]
structure FtIn (w:World)(B:Nat)(A:Option Addr)(xs:List Fv):Prop where
 top:Reads fvC w B A xs
 each:∀ x∈xs,Reads y9 w B x.A x.of
 n:xs.length<=5000
 m:∀ x∈xs,x.of.length<=5000
 name:∀ x∈xs,x.name.length<=1000000
 text:∀ x∈xs,∀ s∈x.of,s.length<=1000000
theorem FtIn.on {w w':World}{B B':Nat}{A:Option Addr}{xs:List Fv}(h:FtIn w B A xs)(hb:Below B w w')(hB:B<=B'):FtIn w' B' A xs:=⟨h.top.on hb hB,λx hx=>(h.each x hx).on hb hB,h.n,h.m,h.name,h.text⟩
def vD (l:List Ft)(n:YL):Int:=match findT l n with
 |some i=>(i:Int)
 |none=> -1
theorem findI_at {l:List Ft}{n:YL}{i:Nat}(hi:i<l.length)(h:l[i].name=n)(h0:∀ f∈l.take i,¬ f.name=n):findT l n=some i:=by
 unfold findT
 rw [List.findIdx?_eq_some_iff_getElem]
 refine ⟨hi,decide_eq_true h,λj hj=> ?_⟩
 simpa using h0 l[j] (List.mem_take_iff_getElem.2 ⟨j,by omega,rfl⟩)
theorem findI_none {l:List Ft}{n:YL}(h0:∀ f∈l,¬ f.name=n):findT l n=none:=by
 unfold findT
 rw [List.findIdx?_eq_none_iff]
 exact λx hx=>decide_eq_false (h0 x hx)
theorem bM {l:List Ft}{n:YL}:isT l n=(decide (n=dfl)||decide (0<=vD l n)):=by
 unfold isT vD
 cases findT l n<;>simp
theorem run_strlss {P:Program}{ρ:Operand->Value}{o:Oper}{t t':TypeId}{x y:Operand}{a b:YL}{r:Bool}(ho:o.op= .binOp .lss t x y t')(hx:ρ x= .string (mkS a))(hy:ρ y= .string (mkS b))(h:Op.bytesLess a b=r)(w:World):(execOp ρ o).run P w= .ok (.value (.bool r)) w:=by
 have e:binOp .lss t (.string (mkS a)) (.string (mkS b))=pure (.bool (Op.bytesLess a b)):=by
  have:binOp .lss t (.string (mkS a)) (.string (mkS b))=pure (.bool (Op.bytesLess (mkS a).toList (mkS b).toList)):=by simp [binOp,Op.stringOp]
  rw [this,Lib.toList_data,Lib.toList_data,mk_data,mk_data]
 unfold execOp
 simp only [ho,hx,hy,Sem.run_bind,bJ,Result.andThen_ok,e,Sem.run_pure,h]
theorem run_strgeq {P:Program}{ρ:Operand->Value}{o:Oper}{t t':TypeId}{x y:Operand}{a b:YL}{r:Bool}(ho:o.op= .binOp .geq t x y t')(hx:ρ x= .string (mkS a))(hy:ρ y= .string (mkS b))(h:Op.bytesLess a b=r)(w:World):(execOp ρ o).run P w= .ok (.value (.bool (!r))) w:=by
 have e:binOp .geq t (.string (mkS a)) (.string (mkS b))=pure (.bool (!Op.bytesLess a b)):=by
  have:binOp .geq t (.string (mkS a)) (.string (mkS b))=pure (.bool (!Op.bytesLess (mkS a).toList (mkS b).toList)):=by simp [binOp,Op.stringOp]
  rw [this,Lib.toList_data,Lib.toList_data,mk_data,mk_data]
 unfold execOp
 simp only [ho,hx,hy,Sem.run_bind,bJ,Result.andThen_ok,e,Sem.run_pure,h]
end
section
def plc (v n:Int):Int:=if v.tmod n<0 then v.tmod n+n else v.tmod n
theorem tmod_in (v n:Int)(hn:0<n): -n<v.tmod n/\v.tmod n<n:=by
 rcases Int.lt_or_le v 0 with h|h
 ·have h3:=Int.tmod_lt_of_pos (-v) hn
  have h4:=Int.tmod_nonneg n (show 0<= -v by omega)
  rw [Int.neg_tmod] at h3 h4;omega
 ·have h3:=Int.tmod_lt_of_pos v hn
  have h4:=Int.tmod_nonneg n h
  omega
theorem plc_in (v n:Int)(hn:0<n):0<=plc v n/\plc v n<n:=by
 obtain ⟨h1,h2⟩:=tmod_in v n hn
 unfold plc
 split<;>omega
theorem bB (v n:Int)(w:World)(hn:0<n)(hn2:n<=1000000):
  YC 18 #[YI v,YI n] w λe w'=>e= .returned (YI (plc v n))/\w=w':=by
 obtain ⟨h1,h2⟩:=tmod_in v n hn
 have HP:Hid (plc v n=if v.tmod n<0 then v.tmod n+n else v.tmod n):=rfl
 have hn0:(n==0)=false:=by simp;omega
 have hw:IntKind.i64.wrap (v.tmod n)=v.tmod n:=IntWalk.i64_in _ Om
 obtain ⟨m,hm⟩:∃ m,v.tmod n=m:=⟨_,rfl⟩
 rw [hm] at h1 h2 HP hw
 by_cases h0:m<0
 ·have hs:0<=m+n:=by omega
  have hs2:m+n<=1000000:=by omega
  go_enter Tryz.func18,Tryz.ntmps18
  go_wp2
  go_ret
  exact ⟨qV (by rw [HP.out,if_pos h0]),rfl⟩
 ·go_enter Tryz.func18,Tryz.ntmps18
  go_wp2
  go_ret
  exact ⟨qV (by rw [HP.out,if_neg Om]),rfl⟩
end
section
def ReadsI (w:World)(B:Nat)(v:Value)(l:List Int):Prop:=
 ∃ A cap,v= .slice A l.length cap/\(0<l.length→∃ ad:Addr,A=some ad/\ad.block<B∧∀ j (h:j<l.length),w.cell? (ad.add j)=some (YI l[j]))
theorem add_block (a:Addr)(n:Nat):(a.add n).block=a.block:=by unfold Addr.add;split<;>rfl
theorem ReadsI.below {w w':World}{B:Nat}{v:Value}{l:List Int}(h:ReadsI w B v l)(hb:Below B w w'):ReadsI w' B v l:=by
 obtain ⟨A,cap,hv,hc⟩:=h
 exact ⟨A,cap,hv,λhpos=>by
  obtain ⟨ad,hA,hlt,hcc⟩:=hc hpos
  exact ⟨ad,hA,hlt,λj hj=>(hb.cell (by rw [add_block];exact hlt)).trans (hcc j hj)⟩⟩
theorem ReadsI.more {w:World}{B B':Nat}{v:Value}{l:List Int}(h:ReadsI w B v l)(hB:B<=B'):ReadsI w B' v l:=by
 obtain ⟨A,cap,hv,hc⟩:=h
 exact ⟨A,cap,hv,λhpos=>by
  obtain ⟨ad,hA,hlt,hcc⟩:=hc hpos
  exact ⟨ad,hA,Nat.lt_of_lt_of_le hlt hB,hcc⟩⟩
def atL (l:List Int)(i:Nat):Int:=(l[i]?).getD 0
theorem at_any (v:Value)(l:List Int)(i:Nat)(w:World)(hv:ReadsI w w.heap.size v l)(hl:l.length<=9223372036854775807)(hi:i<=1000000):
  YC 81 #[v,YI i] w λe w'=>e= .returned (YI (atL l i))/\w=w':=by
 obtain ⟨A,cap,rfl,hc⟩:=hv
 by_cases h:i<l.length
 ·obtain ⟨ad,rfl,hlt,hcc⟩:=hc Om
  have hcell:=hcc i h
  have hi1:(i:Int)<l.length:=by omega
  have hi2:¬ (l.length:Int)<=i:=by omega
  have HA:Hid (atL l i=l[i]):=by show _=_;unfold atL;rw [List.getElem?_eq_getElem h];rfl
  clear hc hcc
  go_enter Tryz.func81,Tryz.ntmps81
  go_wp2
  go_ret
  exact ⟨qV HA.out.symm,rfl⟩
 ·have hi1:(l.length:Int)<=i:=by omega
  have HA:Hid (atL l i=0):=by show _=_;unfold atL;rw [List.getElem?_eq_none Om];rfl
  clear hc
  go_enter Tryz.func81,Tryz.ntmps81
  go_wp2
  go_ret
  exact ⟨qV HA.out.symm,rfl⟩
def i64in (n:Int):Prop:= -9223372036854775808<=n/\n<=9223372036854775807
theorem from_any (v:Value)(l:List Int)(i:Nat)(n:Int)(w:World)(hv:ReadsI w w.heap.size v l)(hl:l.length<=9223372036854775807)(hi:i<=1000000)(hn:0<n)(hn2:n<=1000000):
  YC 43 #[v,YI i,YI n] w λe w'=>e= .returned (YI (plc (atL l i) n))/\w=w':=by
 have cA:=at_any v l i w hv hl hi
 obtain ⟨A,cap,rfl,hc⟩:=hv
 clear hc
 go_enter Tryz.func43,Tryz.ntmps43
 go_wp2_with fail
 refine cA.mono ?_
 rintro e w1 ⟨rfl,rfl⟩
 go_wp2_with fail
 refine (bB _ n _ hn hn2).mono ?_
 rintro e w1 ⟨rfl,rfl⟩
 go_wp2
 go_ret
 exact ⟨rfl,rfl⟩
theorem x3 {W:World}{v:Value}{l:List Int}(hv:ReadsI W W.heap.size v l)(hl:l.length<=9223372036854775807)(i:Nat)(n:Int)(hi:i<=1000000)(hn:0<n)(hn2:n<=1000000){k:Int}(hk:plc (atL l i) n=k):
  ∀ w,YB W w->YC 43 #[v,YI i,YI n] w (YR (YI k) w):=λw hb=>by
 have h:=from_any v l i n w ((hv.below hb).more hb.size) hl hi hn hn2
 rw [hk] at h
 exact h.mono λ_ _ ⟨e1,e2⟩=>⟨e1,e2▸Below.refl _ _⟩
theorem yG (v:Int)(n:Nat)(hn:0<n):∃ k:Nat,plc v n=(k:Int)/\k<n:=by
 have h:=plc_in v n Om
 exact ⟨(plc v n).toNat,(Int.toNat_of_nonneg h.1).symm,by omega⟩
end
section
set_option linter.unnecessarySimpa false
theorem wY {P:Program}{ρ:Operand->Value}{o:Oper}{t e:TypeId}{x y:Operand}{n k:Nat}{vals:Array Value}(g:Nat->YL)(hk:k<n)(ho:o.op= .index t x y)(hx:ρ x= .agg vals)(hy:ρ y=YI (k:Int))
  (hu:P.underlying t=some (.array n e)) (hp:∀ i,i<n→∀ w,(part e vals i).run P w= .ok (.string (mkS (g i))) w) (hs:(P.info? e).map (·.size)=some 1) (w:World):(execOp ρ o).run P w= .ok (.value (.string (mkS (g k)))) w:=by
 cases he:P.info? e with
 |none=>rw [he] at hs;cases hs
 |some i=>
  rw [he] at hs
  have hs1:i.size=1:=Option.some.inj hs
  unfold execOp
  have h2:=hp k hk
  have hkn:¬ n<=k:=by omega
  simp [ho,hx,hy,Instr.index,Sem.run_bind,asIntOf,run_underlying hu,sizeOf,typeInfo,he,hs1,h2,hk,hkn]
def kQ (k:Nat):YL:=if k=0 then [120] else if k=1 then [121] else if k=2 then [122] else [119,95,49]
theorem wordT_ok (k:Nat):wdL (kQ k)=true:=by
 unfold kQ
 split
 ·decide
 ·split
  ·decide
  ·split<;>decide
def y0 (k:Nat):YL:=if k=0 then [97,112,112] else if k=1 then [98] else if k=2 then [99] else if k=3 then [100] else [101,45,50]
theorem pB (k:Nat):nmL (y0 k)=true:=by
 unfold y0
 split
 ·kernel_rfl
 ·split
  ·kernel_rfl
  ·split
   ·kernel_rfl
   ·split<;>kernel_rfl
theorem wordT_part:∀ (i:Nat),i<4→∀ w,(part 9 #[.string ⟨#[120]⟩,.string ⟨#[121]⟩,.string ⟨#[122]⟩,.string ⟨#[119,95,49]⟩] i).run YP w= .ok (.string (mkS (kQ i))) w
 |0,_,w=>by kernel_rfl
 |1,_,w=>by kernel_rfl
 |2,_,w=>by kernel_rfl
 |3,_,w=>by kernel_rfl
theorem wordT_any (z:Int):∃ k,k<4∧∀ W:World,YC 97 #[YI z] W (YR (.string (mkS (kQ k))) W):=by
 obtain ⟨k,hkz,hk⟩:=yG z 4 (by decide)
 refine ⟨k,hk,λW=> ?_⟩
 refine Z2 (n:=7) Tryz.func97 rfl (ZO (Zv (.string ⟨#[]⟩) (ZR (Zv (.agg #[.string ⟨#[120]⟩,.string ⟨#[121]⟩,.string ⟨#[122]⟩,.string ⟨#[119,95,49]⟩]) (Zv (YI z) (Zc (k:=18) (args:= #[YI z,YI 4]) (YI (k:Int)) (λw _=>(bB z 4 w (by decide) (by decide)).mono λ_ _ ⟨e1,e2⟩=>⟨by rw [e1,show plc z 4=(k:Int) from hkz],e2▸Below.refl _ _⟩) (kS (.string (mkS (kQ k))) Kr (wY kQ hk rfl Kr Kr Tryz.underlying146 (λi hi w=>wordT_part i hi w) Kr) ?_)))))))
 exact Zv (.string (mkS (kQ k))) (ZN (qK (ZF (.string (mkS (kQ k))) Tryz.results97 (λw hO=>⟨rfl,hO.below⟩))))
theorem nameT_part:∀ (i:Nat),i<5→∀ w,(part 9 #[.string ⟨#[97,112,112]⟩,.string ⟨#[98]⟩,.string ⟨#[99]⟩,.string ⟨#[100]⟩,.string ⟨#[101,45,50]⟩] i).run YP w= .ok (.string (mkS (y0 i))) w
 |0,_,w=>by kernel_rfl
 |1,_,w=>by kernel_rfl
 |2,_,w=>by kernel_rfl
 |3,_,w=>by kernel_rfl
 |4,_,w=>by kernel_rfl
theorem nameT_any (z:Int):∃ k,k<5∧∀ W:World,YC 31 #[YI z] W (YR (.string (mkS (y0 k))) W):=by
 obtain ⟨k,hkz,hk⟩:=yG z 5 (by decide)
 refine ⟨k,hk,λW=> ?_⟩
 refine Z2 (n:=7) Tryz.func31 rfl (ZO (Zv (.string ⟨#[]⟩) (ZR (Zv (.agg #[.string ⟨#[97,112,112]⟩,.string ⟨#[98]⟩,.string ⟨#[99]⟩,.string ⟨#[100]⟩,.string ⟨#[101,45,50]⟩]) (Zv (YI z) (Zc (k:=18) (args:= #[YI z,YI 5]) (YI (k:Int)) (λw _=>(bB z 5 w (by decide) (by decide)).mono λ_ _ ⟨e1,e2⟩=>⟨by rw [e1,show plc z 5=(k:Int) from hkz],e2▸Below.refl _ _⟩) (kS (.string (mkS (y0 k))) Kr (wY y0 hk rfl Kr Kr Tryz.underlying111 (λi hi w=>nameT_part i hi w) Kr) ?_)))))))
 exact Zv (.string (mkS (y0 k))) (ZN (qK (ZF (.string (mkS (y0 k))) Tryz.results31 (λw hO=>⟨rfl,hO.below⟩))))
end
end Go.Proofs.YtflhcaljcoekpaaGreatDoor
