import Derived.WalkKit
import Derived.Below
import Derived.Deep.Draws
import Derived.Sort.Grow
import Derived.Laws.AppendOwn
import Derived.ChangeSame
import Derived.ProofKit
import Derived.OpenShut
import Derived.LaidSub
import Derived.Carry
import Derived.Deep.DeepHandedRow
import Derived.Test.YtobimfnmnkegdaaGreatDoorRows
import Derived.JoinedCond
import Derived.Lib.MapLaws
import Derived.Lib.TrimUEq
import Derived.Lib.Hide
import Derived.Test.YtobimfnmnkegdaaGreatDoorProg
import Derived.Lib.ItoaNum
import Derived.Lib.ItoaMem
import Derived.Lib.CutLaws
import Derived.Deep.Quiet
import Derived.BigQuiet
import Derived.Laws.CopyRow
import Derived.Laws.Rows
import Derived.Deep.RegionHeld3
import Derived.Laws.Slices
import Derived.Laws.MakeOwn
import Derived.Lib.BufferWrite
import Derived.Lib.UnsafeStr
import Derived.Tactics
import Derived.Lib.AppendZerosOnto
import Derived.Laws.StructEq
import Derived.Shelf.Strings.Builder1
import Derived.Shelf.Strings.Builder2
import Derived.Shelf.Strings.OnBuilder
import Derived.Shelf.Strings.Trim
import Derived.Shelf.Small.Utf8
import Derived.Shelf.Small.Strs
import Derived.Shelf.Small.Wraps
import Derived.Shelf.Strings.BuilderF
import Derived.Shelf.Strings.BuilderK
import Derived.Shelf.Strings.Builder2Cap
import Derived.Shelf.Strconv.Itoa0
import Derived.Shelf.Strconv.Itoa1
import Derived.Shelf.LaysM
import Derived.Shelf.Strconv.Itoa2
import Derived.Shelf.Strconv.Itoa3
import Derived.Shelf.Strconv.Clone
import Derived.Shelf.Strings.Search1
import Derived.Shelf.Strings.Search2
import Derived.Shelf.Strings.Search3
import Derived.Shelf.Strings.Cut
import Derived.Shelf.Strings.Count
import Derived.Shelf.Strings.Shaped
import Derived.Shelf.Strings.Prefix
import Derived.Shelf.Strings.Split
import Derived.Shelf.Strings.SplitShaped
import Derived.Shelf.Unicode.Decode
import Derived.Shelf.Strings.Runes
import Derived.Shelf.Strings.RuneCount
import Derived.Shelf.Strings.AsciiSet
import Derived.Shelf.Strings.Explode
import Derived.Shelf.Unicode.DecodeSlow
import Derived.Shelf.Strings.BuilderCap
import Derived.Ground.SlgfProg
import Derived.Shelf.SlicesQ.IndexFunc
import Derived.Shelf.RegionOpenPlain
import Derived.IntWalk
import Derived.Lib.Strings
import Derived.Outline
import Derived.Deep.LoopGhost
set_option maxRecDepth 1000000
set_option maxHeartbeats 8000000
set_option linter.unusedVariables false
set_option linter.unusedSimpArgs false
set_option linter.unnecessarySimpa false
namespace Go.Proofs.YtobimfnmnkegdaaGreatDoor
open Go.RowKit
abbrev YC:=Calls Tryz.prog
noncomputable abbrev YP:=Tryz.prog
theorem Kr {α:Sort _}{a b:α}(h:a=b:=by kernel_rfl):a=b:=h
theorem Om {p:Prop}(h:p:=by omega):p:=h
abbrev YI (z:Int):Value:= .int .i64 z
abbrev YL:=List UInt8
abbrev Zp (b o:Nat):Value:= .pointer (some ⟨b,o,none⟩)
abbrev Z4:Value:= .bool true
abbrev Z5:Value:= .bool false
abbrev ZE:Array Value:= #[.string ⟨#[]⟩,YI 0,YI 0,YI 0,.string ⟨#[]⟩,.string ⟨#[]⟩,.slice none 0 0,.slice none 0 0,.slice none 0 0,.slice none 0 0,.slice none 0 0]
abbrev ZM:Array Value:= #[YI 2,YI 4,YI 6,YI 1,YI 3,YI 5,YI 7,YI 8]

section
structure Below (B:Nat)(w w':World):Prop where
 os:w'.os=w.os
 tape:w'.tape=w.tape
 output:w'.output=w.output
 size:w.heap.size<=w'.heap.size
 drawn:w.drawn<=w'.drawn
 block:∀ k,k<B->w'.heap[k]?=w.heap[k]?
abbrev YR (v:Value)(W:World)(e:Ending)(w':World):Prop:=e= .returned v/\Below W.heap.size W w'
abbrev YB (W w:World):Prop:=Below W.heap.size W w
theorem Below.old {B:Nat}{w w':World}(h:Below B w w'):Go.RowKit.Below B w w':=⟨h.os,h.tape,h.output,h.size,h.block⟩
theorem Below.refl (B:Nat)(w:World):Below B w w:=⟨rfl,rfl,rfl,Nat.le_refl _,Nat.le_refl _,λ_ _=>rfl⟩
theorem Below.trans {B:Nat}{a b c:World}(h:Below B a b)(k:Below B b c):Below B a c:=
 ⟨k.os.trans h.os,k.tape.trans h.tape,k.output.trans h.output,Nat.le_trans h.size k.size,Nat.le_trans h.drawn k.drawn,λi hi=>(k.block i hi).trans (h.block i hi)⟩
theorem Below.mono {B B':Nat}{w w':World}(h:Below B w w')(hB:B'<=B):Below B' w w':=⟨h.os,h.tape,h.output,h.size,h.drawn,λk hk=>h.block k (Nat.lt_of_lt_of_le hk hB)⟩
theorem Below.drew {B:Nat}{a w:World}(h:Below B a w):Below B a w.drew:=⟨h.os,h.tape,h.output,h.size,Nat.le_succ_of_le h.drawn,h.block⟩
theorem Below.heap_alloc (w:World)(o:Obj)(k:Nat)(h:k<w.heap.size):(w.alloc o).heap[k]?=w.heap[k]?:=Go.RowKit.Below.heap_alloc w o k h
theorem Below.heap_setCell (w:World)(a:Addr)(u:Value)(k:Nat)(h:k≠a.block):(w.setCell a u).heap[k]?=w.heap[k]?:=Go.RowKit.Below.heap_setCell w a u k h
theorem Below.alloc {B:Nat}{a w:World}(h:Below B a w)(hB:B<=w.heap.size)(o:Obj):Below B a (w.alloc o):=
 h.trans ⟨rfl,rfl,rfl,by simp,Nat.le_refl _,λk hk=>Below.heap_alloc _ _ _ Om⟩
theorem Below.setCell {B:Nat}{a w:World}(h:Below B a w){p:Addr}(hp:B<=p.block)(u:Value):Below B a (w.setCell p u):=
 h.trans ⟨rfl,rfl,rfl,by simp [World.setCell],Nat.le_refl _,λk hk=>Below.heap_setCell _ _ _ _ Om⟩
theorem Below.cell {B:Nat}{w w':World}(h:Below B w w'){p:Addr}(hp:p.block<B):w'.cell? p=w.cell? p:=h.old.cell hp
theorem Below.frame {W w':World}(h:YB W w')(may:MemPlace->Prop):W.keptBut w' may:=h.old.frame may
theorem ask_drawn {α:Type}:∀ (k:Ask α) (w:World),w.drawn<=(w.ask k).2.drawn
 | .done a,w=>Nat.le_refl _
 | .ask what range k,w=>by
  unfold World.ask
  dsimp only
  split
  ·exact ask_drawn (k 0) w
  ·exact Nat.le_trans (Nat.le_succ _) (ask_drawn (k ((Question.extern what range).cut (w.tape w.drawn (Question.extern what range)))) {w with drawn:=w.drawn+1})
theorem sys_drawn (w:World)(c:Sys):w.drawn<=(w.sys c).2.drawn:=by
 unfold World.sys
 have h:=ask_drawn (Kernel.perform c w.os) w
 split
 ·exact Nat.le_refl _
 ·rename_i r os w1 heq
  rw [heq] at h;exact h
theorem farStore_drawn {p:Program}{w w1:World}{a:Addr}{v:Value}{b:Bool}{l:List Addr}(h:w.farStore p a v b= .ok (w1,l)):w1.drawn=w.drawn:=by
 unfold World.farStore at h
 split at h
 ·split at h
  ·rename_i r hr
   obtain rfl:=Except.ok.inj h
   unfold World.viewStore at hr
   simp only [bind,Except.bind,pure,Except.pure] at hr
   repeat' (first|(cases hr;done)|(cases hr;rfl)|split at hr)
  ·cases h
 ·cases h
theorem run_drawn {α:Type}(p:Program)(s:Sem α):∀ (w:World) {a:α} {w':World},s.run p w= .ok a w'->w.drawn<=w'.drawn:=by
 induction s with
 |pure a=>intro w _ _ h;cases h;exact Nat.le_refl _
 |load m a k ih=>
  intro w a' w' h
  rw [Sem.run] at h
  split at h
  ·exact ih _ _ h
  ·split at h
   ·exact ih _ _ h
   ·cases h
 |store m a v k ih=>
  intro w a' w' h
  have h:(match w.cell? a with
   | some _ => if w.frozen? a then Result.halt (.unsupported (.unsafePointer "a write to bytes that a string shares")) w else k.run p (w.setCell a v)
   |none=>match World.farStore p w a v (m==Mode.atomic) with
    | .ok (w,_)=>k.run p w
    | .error h=>Result.halt h w)= .ok a' w':=by cases v<;>first|exact h|cases h
  split at h
  ·split at h
   ·cases h
   ·exact ih (w.setCell a v) h
  ·split at h
   ·rename_i w1 l hf
    have:=ih w1 h
    rw [farStore_drawn hf] at this;exact this
   ·cases h
 |new o k ih=>intro w a' w' h;exact ih w.heap.size {w with heap:=w.heap.push o} h
 |shape r k ih=>intro w a' w' h;exact ih _ _ h
 |freeze a n k ih=>
  intro w a' w' h
  have:=ih (w.freeze a n) h
  unfold World.freeze at this
  split at this<;>exact this
 |frozen a k ih=>intro w a' w' h;exact ih _ _ h
 |getObj r k ih=>
  intro w a' w' h
  rw [Sem.run] at h
  split at h
  ·cases h
  ·exact ih _ _ h
  ·cases h
 |setObj r o k ih=>
  intro w a' w' h
  have h : (match w.heap[r]? with | some (.cells ..) => Result.halt (.stuck "setObj: a row of cells") w | some _ => k.run p { w with heap := w.heap.setIfInBounds r o } | none => Result.halt (.stuck "setObj: no such block") w) = .ok a' w' := h
  split at h
  ·cases h
  ·exact ih {w with heap:=w.heap.setIfInBounds r o} h
  ·cases h
 |choose q k ih=>
  intro w a' w' h
  have h:(if q.forced then (k 0).run p w else (k (q.cut (w.tape w.drawn q))).run p {w with drawn:=w.drawn+1})= .ok a' w':=h
  split at h
  ·exact ih _ _ h
  ·exact Nat.le_trans (Nat.le_succ _) (ih _ {w with drawn:=w.drawn+1} h)
 |sys c k ih=>intro w a' w' h;exact Nat.le_trans (sys_drawn w c) (ih _ _ h)
 |program k ih=>intro w a' w' h;exact ih _ _ h
 |mark m k ih=>intro w a' w' h;exact ih _ h
 |halt e=>intro w a' w' h;cases h
structure GrownD (w w':World)(row:Option Nat):Prop where
 old:w.grownBy w' row
 drawn:w.drawn<=w'.drawn
theorem Below.grown {B:Nat}{a w w':World}{row:Option Nat}(h:Below B a w)(hg:GrownD w w' row)(hB:B<=w.heap.size)(hr:∀ k,row=some k->B<=k):Below B a w':=
 have h2:=h.old.grown hg.old hB hr
 ⟨h2.os,h2.tape,h2.output,h2.size,Nat.le_trans h.drawn hg.drawn,h2.block⟩
theorem kY {P:Program}(w:World){ops:Array Oper}{rest:List Oper}{o:Oper}{a:Act}{Q:Exit->Act->World->Prop}(hgd:o.guard=none)(s x:Operand)(t:TypeId)
  (ho:o.op= .call {callee:= .builtin .append,args:= #[s,x],argTypes:= #[t,t]})
  (base:Nat) (e:TypeId) (i:TypeInfo) (z:Value) (size bytes:Nat) (ht:P.underlying t=some (.slice e)) (hi:P.info? e=some i) (hz:i.zero=some z)
  (hsize:i.size=size) (hby:i.bytes=bytes) (hzs:z.cells.size=size) (hsz:0<size)
  (v:Value) (n:Nat) (xs:List Value) (hs:a.eval s=v) (hown:w.ownsRow base e size v n xs)
  (ad:Addr) (m c:Nat) (news:List Value) (hx:a.eval x= .slice (some ad) m c) (hl:news.length=m*size) (hnews:∀ j u,news[j]?=some u->w.cell? (ad.add j)=some u) (h1:∀ u∈news,u.oneCell'=true)
  (h63:n+m<=maxLen) (hbytes:(n+m)*bytes<=140737488355328) (hbase:base<=w.heap.size)
  (h:∀ v' w',w'.ownsRow base e size v' (n+m) (xs++news)->GrownD w w' v.ownBlock->(v'= .slice none 0 0↔v= .slice none 0 0/\m=0)->wpList P ops Q rest (a.put o.dst v') w'):wpList P ops Q (o::rest) a w:=by
 refine wpList_plain hgd λK hK=> ?_
 obtain ⟨v',w',hr,h2,h3,h4⟩:=run_append_own (P:=P) w base t o.type e i z size bytes ht hi hz hsize hby hzs hsz v n xs hown ad m c news hl hnews h1 h63 hbytes hbase
 have hd:=run_drawn P _ _ hr
 unfold Oper.wp execOp
 simp only [ho,resolve,invoke,builtin,Sem.run_bind,Sem.run_pure,Result.andThen_ok,List.map_toArray,List.map_cons,List.map_nil,hs,hx,hr]
 exact hK _ _ (h v' w' h2 ⟨h3,hd⟩ h4)
end
section
open Go.ChangeShapes Go.WideShapes Go.ChangeAt Go.RowKit
theorem own:ownKnob Tryz.prog.godebug=none:=by kernel_rfl
theorem trodAll_stays {H:Type}{enc:TypeId×Value->H}{P:Program}(hl:laidOutB P=true){W W':World}(hb:YB W W'):
  ∀ (ts:List TypeId),(∀ t∈ts,P.readableRec t=true/\t<P.types.size)→∀ (vs:List Value) (ds:List (DataW H)) (ps:List MemPlace),DataW.TrodAll enc P W 0 (λ_=>true) true ts vs ds ps->(∀ p∈ps,p.block<W.heap.size)→
   DataW.TrodAll enc P W' 0 (λb=>decide (b<W.heap.size)) true ts vs ds ps
 | [],_,vs,ds,ps,h,_=>by
  obtain ⟨rfl,rfl,rfl⟩:=trodAll_nil h
  exact trodAll_mk0
 |t::ts,hr,vs,ds,ps,h,hlt=>by
  obtain ⟨v,vs',d,ds',p,q,rfl,rfl,rfl,hd,hrest⟩:=trodAll_cons h
  exact ⟨p,q,Go.RowKit.Below.trod hl (hr t (by simp)).1 (hr t (by simp)).2 hd hb.old (λx hx=>hlt x (by simp [hx])),trodAll_stays hl hb ts (λt' ht'=>hr t' (by simp [ht'])) vs' ds' q hrest (λx hx=>hlt x (by simp [hx])),rfl⟩
theorem law_end {H:Type}{enc:TypeId×Value->H}{P:Program}{f:Func}{s:ChangeSpec}{W W':World}{args:Array Value}{ds gs:List (DataW H)}{before:List MemPlace}{T:TypeId}
  (hl:laidOutB P=true) (hr:∀ t∈f.params.toList,P.readableRec t=true/\t<P.types.size) (hv:s.vars=[]) (hT:f.resultTypes= #[T]) (hB:P.underlying T=some .bool)
  (hW:DataW.Whole enc P f.params.toList s.vars false W args.toList ds gs before) (hf:s.fn H (ds++gs)={results:=[.lit (.bool true)],args:=ds}) (hb:YB W W'):
  s.post enc P f false true false false W args (.bool true) W':=by
 have hlt:∀ p∈before,p.block<W.heap.size:=λp hp=>hW.lt p hp
 have hW':=hW
 obtain ⟨p,q,hA,hV,rfl,_,_⟩:=hW
 rw [hv] at hV
 obtain ⟨rfl,rfl⟩:=trodVars_none hV
 have h2:=trodAll_stays hl hb _ hr _ _ _ hA (λx hx=>hlt x (by simp [hx]))
 refine ⟨ds,[],p++[],[],p,[],hW', ?_, ?_, ?_,World.keptBut_mono (λx hx=>⟨hx,Or.inr (Or.inl (by simpa using hx))⟩) (hb.frame (·∈p++[])),λh=>by cases h⟩
 ·rw [hf,hT]
  exact trodAll_cons_mk (shut_bool hB true) trodAll_mk0
 ·rw [hf];exact h2
 ·rw [hf,hv];rfl
theorem laidOut:laidOutB YP=true:=by kernel_rfl
theorem cell_lt {W:World}{a:Addr}{v:Value}(h:W.cell? a=some v):a.block<W.heap.size:=by
 rcases Nat.lt_or_ge a.block W.heap.size with h1|h1
 ·exact h1
 ·unfold World.cell? at h
  rw [Array.getElem?_eq_none h1] at h
  simp at h
theorem strCells1:Tryz.prog.cellsOf 9=1:=by kernel_rfl
def litCells:DataW Unit->List Value
 | .lit (.int k n)=>[Value.int k n]
 | .lit (.string s)=>[Value.string ⟨s.toArray⟩]
 | .lit (.bool b)=>[Value.bool b]
 | .agg l=>l.flatMap λd=>match d with| .lit (.int k n)=>[Value.int k n]| .lit (.string s)=>[Value.string ⟨s.toArray⟩]| .lit (.bool b)=>[Value.bool b]|_=>[]
 |_=>[]
def tabCells:DataW Unit->Array Value
 | .agg l=>(l.flatMap litCells).toArray
 |_=> #[]
def layAt (h:Array Obj)(g:Nat)(d:DataW Unit):Array Obj:=h.modify g fun
 | .cells _ t frozen=> .cells (tabCells d) t frozen
 |o=>o
end
section
theorem jfLaid:laidOutB Tryz.pinned.checked.prog=true:=laidOut
theorem jfMaps:mapsRowed Tryz.pinned.checked.prog=true:=by kernel_rfl
theorem jfHeard:Tryz.pinned.checked.prog.stopsHeard=true:=by kernel_rfl
theorem jfEnter:Tryz.pinned.checked.prog.mayEnter=true:=by kernel_rfl
end
section
def qV (r:Int):Bool:=decide (97<=r/\r<=122)
def yL (r:Int):Bool:=decide (48<=r/\r<=57)
def g7:Bool->Int->YL->Bool
 |_,last,[]=>decide (last≠45)
 |first,last,c::r=>
  if qV c.toNat then g7 false c.toNat r
  else if yL c.toNat then (if first then false else g7 false c.toNat r)
  else if (c.toNat:Int)=45 then (if last=45 then false else g7 false c.toNat r)
  else false
def mM (s:ByteArray):Bool:=decide (s.size<=16) && g7 true 45 s.data.toList
theorem nameGo_let (f:Bool)(l:Int)(c:UInt8)(r:YL)(h:qV c.toNat=true):g7 f l (c::r)=g7 false c.toNat r:=by
 rw [g7,if_pos h]
theorem nameGo_dig (f:Bool)(l:Int)(c:UInt8)(r:YL)(h:qV c.toNat=false)(h2:yL c.toNat=true):g7 f l (c::r)=if f then false else g7 false c.toNat r:=by
 rw [g7,if_neg (by simp [h]),if_pos h2]
theorem nameGo_dash (f:Bool)(l:Int)(c:UInt8)(r:YL)(h:qV c.toNat=false)(h2:yL c.toNat=false)(h3:(c.toNat:Int)=45):g7 f l (c::r)=if l=45 then false else g7 false c.toNat r:=by
 rw [g7,if_neg (by simp [h]),if_neg (by simp [h2]),if_pos h3]
theorem nameGo_else (f:Bool)(l:Int)(c:UInt8)(r:YL)(h:qV c.toNat=false)(h2:yL c.toNat=false)(h3:¬ (c.toNat:Int)=45):g7 f l (c::r)=false:=by
 rw [g7,if_neg (by simp [h]),if_neg (by simp [h2]),if_neg h3]
def vU:Int->YL->Bool
 |_,[]=>true
 |last,c::r=>(qV c.toNat||yL c.toNat||decide ((c.toNat:Int)=45)) && !(decide ((c.toNat:Int)=45) && decide (last=45)) && vU c.toNat r
def lastOf:Int->YL->Int
 |last,[]=>last
 |_,c::r=>lastOf c.toNat r
theorem nameRef_ok (p:Int)(c:UInt8)(r:YL)(h:(qV c.toNat||yL c.toNat||decide ((c.toNat:Int)=45))=true)(h2:(decide ((c.toNat:Int)=45) && decide (p=45))=false):vU p (c::r)=vU c.toNat r:=by
 rw [vU,h,h2];rfl
theorem nameRef_bad (p:Int)(c:UInt8)(r:YL)(h:(qV c.toNat||yL c.toNat||decide ((c.toNat:Int)=45))=false):vU p (c::r)=false:=by
 rw [vU,h];rfl
theorem nameRef_two (p:Int)(c:UInt8)(r:YL)(h:(c.toNat:Int)=45)(h2:p=45):vU p (c::r)=false:=by
 rw [vU];simp [h,h2]
theorem nameGo_ref (l:YL):∀ last:Int,g7 false last l=(vU last l && decide (lastOf last l≠45)):=by
 induction l with
 |nil=>intro last;by_cases h:last=45<;>simp [g7,vU,lastOf,h]
 |cons c r ih=>
  intro last
  unfold g7 vU lastOf
  rw [ih]
  by_cases h1:qV c.toNat=true
  ·have hc:¬ (c.toNat:Int)=45:=by unfold qV at h1;simp at h1;omega
   simp [h1,hc]
  ·by_cases h2:yL c.toNat=true
   ·have hc:¬ (c.toNat:Int)=45:=by unfold yL at h2;simp at h2;omega
    simp [h1,h2,hc]
   ·by_cases h3:(c.toNat:Int)=45
    ·have e1:qV 45=false:=by decide
     have e2:yL 45=false:=by decide
     by_cases h4:last=45<;>simp [h3,h4,e1,e2]
    ·simp [h1,h2,h3]
theorem qI (s:ByteArray)(k:Nat)(h:k<s.size):s.data.toList.drop k=s[k]::s.data.toList.drop (k+1):=by
 rw [List.drop_eq_getElem_cons (by simpa using h)];rfl
theorem wP (s:ByteArray)(k:Nat)(h:¬ k<s.size):s.data.toList.drop k=[]:=by
 rw [List.drop_eq_nil_iff];simp;omega
theorem lastOf_get (s:ByteArray)(h:0<s.size):lastOf (s[0].toNat:Int) (s.data.toList.drop 1)=(s[s.size-1].toNat:Int):=by
 have gen:∀ (n k:Nat) (hk:k<s.size),k+n+1=s.size->lastOf (s[k].toNat:Int) (s.data.toList.drop (k+1))=(s[s.size-1].toNat:Int):=by
  intro n
  induction n with
  |zero=>
   intro k hk e
   rw [wP s (k+1) Om]
   have:k=s.size-1:=by omega
   subst this
   rfl
  |succ n ih=>
   intro k hk e
   rw [qI s (k+1) Om]
   exact ih (k+1) Om Om
 exact gen (s.size-1) 0 h Om
theorem nameB_ref (s:ByteArray)(h:0<s.size)(h16:s.size<=16):
  mM s=(qV s[0].toNat && !(decide ((s[s.size-1].toNat:Int)=45)) && vU s[0].toNat (s.data.toList.drop 1)):=by
 unfold mM
 have e:s.data.toList=s[0]::s.data.toList.drop 1:=by have:=qI s 0 h;simpa using this
 rw [e]
 unfold g7
 rw [nameGo_ref,←e,lastOf_get s h]
 by_cases h1:qV s[0].toNat=true
 ·simp [h1,h16,Bool.and_comm]
 ·by_cases h2:yL s[0].toNat=true<;>simp [h1,h2,h16]
def qA:YL->Bool
 | []=>true
 |c::r=>(qV c.toNat||yL c.toNat||decide ((c.toNat:Int)=95)) && qA r
def wdB (r:Int):Bool:=qV r||yL r||decide (r=95)
theorem dG (c:UInt8)(r:YL)(h:wdB c.toNat=true):qA (c::r)=qA r:=by
 unfold wdB at h
 rw [qA,h];rfl
theorem wordGo_bad (c:UInt8)(r:YL)(h:wdB c.toNat=false):qA (c::r)=false:=by
 unfold wdB at h
 rw [qA,h];rfl
def wordB (s:ByteArray):Bool:=decide (1<=s.size/\s.size<=12) && qA s.data.toList
end
section
theorem wide_other (l:YL)(h:(Lib.decodeL l).1≠65533):Lib.runeLen ((Lib.decodeL l).1:Int)=((Lib.decodeL l).2:Int):=Lib.runeLen_decode l h
theorem wide_bad (l:YL)(hne:l≠[])(h:(Lib.decodeL l).1=65533)(hp:Lib.hasPrefix l [239,191,189]=false):(Lib.decodeL l).2=1:=by
 apply Classical.byContradiction
 intro h1
 have he:=Lib.encode_decode l hne (λhh=>h1 hh.2)
 rw [h] at he
 have e3:Lib.encodeRune ((65533:Nat):Int)=[239,191,189]:=by decide
 rw [e3] at he
 unfold Lib.hasPrefix at hp
 rw [Bool.eq_false_iff] at hp
 apply hp
 rw [List.isPrefixOf_iff_prefix,he]
 exact List.take_prefix _ _
theorem wide_err (l:YL)(hp:Lib.hasPrefix l [239,191,189]=true):(Lib.decodeL l).2=3:=by
 unfold Lib.hasPrefix at hp
 rw [List.isPrefixOf_iff_prefix] at hp
 obtain ⟨t,rfl⟩:=hp
 rw [Lib.decodeL_N]
 simp [Lib.decodeN]
def zE (b:UInt8):YL->YL->List YL
 |acc,[]=>[acc]
 |acc,c::r=>if c=b then acc::zE b [] r else zE b (acc++[c]) r
def zG (b:UInt8):List YL->YL
 | []=>[]
 | [x]=>x
 |x::y::r=>x++b::zG b (y::r)
theorem vB (b:UInt8)(l:YL):∀ acc,zE b acc l≠[]:=by
 induction l with
 |nil=>intro acc;simp [zE]
 |cons c r ih=>intro acc;unfold zE;split<;>simp [ih]
theorem join_split (b:UInt8)(l:YL):∀ acc,zG b (zE b acc l)=acc++l:=by
 induction l with
 |nil=>intro acc;simp [zE,zG]
 |cons c r ih=>
  intro acc
  unfold zE
  by_cases h:c=b
  ·rw [if_pos h]
   have hne:=vB b r []
   cases hs:zE b [] r with
   |nil=>exact absurd hs hne
   |cons y t=>
    rw [zG,←hs,ih [],h];rfl
  ·rw [if_neg h,ih,List.append_assoc];rfl
theorem split_len (b:UInt8)(l:YL):∀ acc,(zE b acc l).length=(l.filter (·==b)).length+1:=by
 induction l with
 |nil=>intro acc;rfl
 |cons c r ih=>
  intro acc
  unfold zE
  by_cases h:c=b
  ·rw [if_pos h,List.length_cons,ih,List.filter_cons,if_pos (by simp [h]),List.length_cons]
  ·rw [if_neg h,ih,List.filter_cons,if_neg (by simp [h])]
theorem split_free (b:UInt8)(l:YL):∀ acc,b∉acc→∀ x∈zE b acc l,b∉x:=by
 induction l with
 |nil=>intro acc ha x hx;simp [zE] at hx;subst hx;exact ha
 |cons c r ih=>
  intro acc ha x hx
  unfold zE at hx
  by_cases h:c=b
  ·rw [if_pos h] at hx
   rcases List.mem_cons.1 hx with rfl|hx
   ·exact ha
   ·exact ih [] (by simp) x hx
  ·rw [if_neg h] at hx
   exact ih (acc++[c]) (by simp [ha];exact λe=>h e.symm) x hx
theorem nV (b:UInt8)(l:YL):∀ acc,∀ x∈zE b acc l,x.length<=acc.length+l.length:=by
 induction l with
 |nil=>intro acc x hx;simp [zE] at hx;subst hx;simp
 |cons c r ih=>
  intro acc x hx
  unfold zE at hx
  by_cases h:c=b
  ·rw [if_pos h] at hx
   rcases List.mem_cons.1 hx with rfl|hx
   ·omega
   ·have:=ih [] x hx;simp at this ⊢;omega
  ·rw [if_neg h] at hx
   have:=ih (acc++[c]) x hx
   simp at this ⊢;omega
end
section
structure Nd where
 op:Int
 a:Int
 b:Int
 key:Int
 text:YL
deriving DecidableEq
inductive Tr where
 |is (k:Nat) (t:YL)
 |no (x:Tr)
 |both (x y:Tr)
 |one (x y:Tr)
deriving DecidableEq
def Tr.sz:Tr->Nat
 | .is _ _=>1
 | .no x=>x.sz+1
 | .both x y=>x.sz+y.sz+1
 | .one x y=>x.sz+y.sz+1
theorem Tr.sz_pos:∀ t:Tr,0<t.sz
 | .is _ _=>Nat.one_pos
 | .no x=>Nat.succ_pos _
 | .both x y=>Nat.succ_pos _
 | .one x y=>Nat.succ_pos _
def Tr.enc:Nat->Tr->List Nd
 |_,.is k t=>[⟨1,0,0,k,t⟩]
 |o,.no x=>x.enc o++[⟨2,((o+x.sz-1:Nat):Int),0,0,[]⟩]
 |o,.both x y=>x.enc o++y.enc (o+x.sz)++[⟨3,((o+x.sz-1:Nat):Int),((o+x.sz+y.sz-1:Nat):Int),0,[]⟩]
 |o,.one x y=>x.enc o++y.enc (o+x.sz)++[⟨4,((o+x.sz-1:Nat):Int),((o+x.sz+y.sz-1:Nat):Int),0,[]⟩]
theorem Tr.enc_len:∀ (t:Tr) (o:Nat),(t.enc o).length=t.sz
 | .is _ _,_=>rfl
 | .no x,o=>by rw [enc,List.length_append,enc_len x o];rfl
 | .both x y,o=>by rw [enc,List.length_append,List.length_append,enc_len x o,enc_len y _];rfl
 | .one x y,o=>by rw [enc,List.length_append,List.length_append,enc_len x o,enc_len y _];rfl
def wdL (s:YL):Bool:=decide (1<=s.length/\s.length<=12) && qA s
def Tr.ok:Tr->Bool
 | .is k t=>decide (k<3) && wdL t
 | .no x=>x.ok
 | .both x y=>x.ok && y.ok
 | .one x y=>x.ok && y.ok
def Tr.isOne:Tr->Bool
 | .one _ _=>true
 |_=>false
def Tr.isBin:Tr->Bool
 | .one _ _=>true
 | .both _ _=>true
 |_=>false
abbrev Tok:=YL
def x3 (k:Nat):Tok:=if k=0 then [111,115] else if k=1 then [97,114,99,104] else [97,98,105]
def tEq:Tok:=[61]
def tNe:Tok:=[33,61]
def qY:Tok:=[110,111,116]
def d9:Tok:=[97,110,100]
def tOr:Tok:=[111,114]
def x8:Tok:=[40]
def xB:Tok:=[41]
def qK (c:Bool)(l:List Tok):List Tok:=if c then x8::(l++[xB]) else l
def Tr.tok:Tr->List Tok
 | .is k t=>[x3 k,tEq,t]
 | .no (.is k t)=>[x3 k,tNe,t]
 | .no (.no x)=>qY::(Tr.no x).tok
 | .no (.both x y)=>qY::qK true (Tr.both x y).tok
 | .no (.one x y)=>qY::qK true (Tr.one x y).tok
 | .both x y=>qK x.isOne x.tok++d9::qK y.isBin y.tok
 | .one x y=>x.tok++tOr::qK y.isOne y.tok
def Tr.text (t:Tr):YL:=zG 32 t.tok
theorem Tr.tok_no {x:Tr}(h:∀ k t,x≠ .is k t):(Tr.no x).tok=qY::qK x.isBin x.tok:=by
 cases x with
 |is k t=>exact absurd rfl (h k t)
 |no x=>rfl
 |both x y=>rfl
 |one x y=>rfl
theorem Tr.tok_ne:∀ t:Tr,t.tok≠[]
 | .is k t=>by rw [tok];simp
 | .no (.is k t)=>by rw [tok];simp
 | .no (.no x)=>by rw [tok];simp
 | .no (.both x y)=>by rw [tok];simp
 | .no (.one x y)=>by rw [tok];simp
 | .both x y=>by rw [tok];simp
 | .one x y=>by rw [tok];simp
def keyN (k:Tok):Option Nat:=if k=x3 0 then some 0 else if k=x3 1 then some 1 else if k=x3 2 then some 2 else none
def bN (k s v:Tok):Option Tr:=match keyN k with
 |none=>none
 |some n=>if wdL v then (if s=tEq then some (.is n v) else if s=tNe then some (.no (.is n v)) else none) else none
def wH (part:List Tok->Option (Tr×List Tok))(w:Tok)(mk:Tr->Tr->Tr):Nat->Tr->List Tok->Option (Tr×List Tok)
 |0,a,ts=>some (a,ts)
 |_+1,a,[]=>some (a,[])
 |k+1,a,c::r=>if c=w then (match part r with|none=>none|some (b,r')=>wH part w mk k (mk a b) r') else some (a,c::r)
def gQ (part:List Tok->Option (Tr×List Tok))(w:Tok)(mk:Tr->Tr->Tr)(ts:List Tok):Option (Tr×List Tok):=match part ts with
 |none=>none
 |some (a,r)=>wH part w mk r.length a r
def vX:List Tok->Option (Tr×List Tok)
 |k::s::v::r=>match bN k s v with|none=>none|some t=>some (t,r)
 |_=>none
def nH:Option (Tr×List Tok)->Option (Tr×List Tok)
 |some (t,c::r)=>if c=xB then some (t,r) else none
 |_=>none
def pNo:Option (Tr×List Tok)->Option (Tr×List Tok)
 |some (t,r)=>some (.no t,r)
 |none=>none
def vH:Nat->List Tok->Option (Tr×List Tok)
 |0,_=>none
 |_+1,[]=>none
 |n+1,c::r=>if c=qY then pNo (vH n r) else if c=x8 then nH (gQ (gQ (vH n) d9 .both) tOr .one r) else vX (c::r)
def pAnd (n:Nat):List Tok->Option (Tr×List Tok):=gQ (vH n) d9 .both
def pOr (n:Nat):List Tok->Option (Tr×List Tok):=gQ (pAnd n) tOr .one
theorem p8 (n:Nat)(r:List Tok):vH (n+1) (x8::r)=nH (pOr n r):=rfl
theorem pFac_not (n:Nat)(r:List Tok):vH (n+1) (qY::r)=pNo (vH n r):=rfl
def Eats (part:List Tok->Option (Tr×List Tok)):Prop:=∀ ts t r,part ts=some (t,r)->r.length<ts.length
theorem pLoop_eats {part:List Tok->Option (Tr×List Tok)}(hp:Eats part)(w:Tok)(mk:Tr->Tr->Tr):∀ (k:Nat) (a:Tr) (ts:List Tok) (t:Tr) (r:List Tok),wH part w mk k a ts=some (t,r)->r.length<=ts.length
 |0,a,ts,t,r,h=>by simp only [wH,Option.some.injEq,Prod.mk.injEq] at h;rw [h.2];exact Nat.le_refl _
 |k+1,a,[],t,r,h=>by simp only [wH,Option.some.injEq,Prod.mk.injEq] at h;rw [h.2];exact Nat.le_refl _
 |k+1,a,c::q,t,r,h=>by
  rw [wH] at h
  split at h
  ·cases hq:part q with
   |none=>rw [hq] at h;cases h
   |some x=>
    obtain ⟨b,r'⟩:=x
    rw [hq] at h
    have h1:=hp _ _ _ hq
    have h2:=pLoop_eats hp w mk k (mk a b) r' t r h
    simp only [List.length_cons];omega
  ·simp only [Option.some.injEq,Prod.mk.injEq] at h;rw [←h.2];exact Nat.le_refl _
theorem pChain_eats {part:List Tok->Option (Tr×List Tok)}(hp:Eats part)(w:Tok)(mk:Tr->Tr->Tr):Eats (gQ part w mk):=λts t r h=>by
 unfold gQ at h
 cases hq:part ts with
 |none=>rw [hq] at h;cases h
 |some x=>
  obtain ⟨a,r'⟩:=x
  rw [hq] at h
  have h1:=hp _ _ _ hq
  have h2:=pLoop_eats hp w mk _ _ _ _ _ h
  omega
theorem pFac_eats:∀ n,Eats (vH n)
 |0=>λts t r h=>by cases h
 |n+1=>λts t r h=>by
  have ih:=pFac_eats n
  cases ts with
  |nil=>cases h
  |cons c q=>
   rw [vH] at h
   split at h
   ·cases hq:vH n q with
    |none=>rw [hq] at h;cases h
    |some x=>
     obtain ⟨a,r'⟩:=x
     rw [hq] at h
     simp only [pNo,Option.some.injEq,Prod.mk.injEq] at h
     have h1:=ih _ _ _ hq
     rw [←h.2,List.length_cons];omega
   ·split at h
    ·cases hq:gQ (gQ (vH n) d9 .both) tOr .one q with
     |none=>rw [hq] at h;cases h
     |some x=>
      obtain ⟨a,r'⟩:=x
      rw [hq] at h
      have h1:=pChain_eats (pChain_eats ih _ _) _ _ _ _ _ hq
      cases r' with
      |nil=>cases h
      |cons d r2=>
       rw [nH] at h
       split at h
       ·simp only [Option.some.injEq,Prod.mk.injEq] at h
        rw [←h.2,List.length_cons];simp only [List.length_cons] at h1;omega
       ·cases h
    ·match q,h with
     |s::v::q,h=>
      rw [vX] at h
      cases ha:bN c s v with
      |none=>rw [ha] at h;cases h
      |some x=>rw [ha] at h;simp only [Option.some.injEq,Prod.mk.injEq] at h;rw [←h.2];simp only [List.length_cons];omega
     | [],h=>cases h
     | [s],h=>cases h
theorem pAnd_eats (n:Nat):Eats (pAnd n):=pChain_eats (pFac_eats n) _ _
theorem pLoop_fuel {part:List Tok->Option (Tr×List Tok)}(hp:Eats part)(w:Tok)(mk:Tr->Tr->Tr):∀ (k:Nat) (a:Tr) (ts:List Tok) (m:Nat),ts.length<=k->ts.length<=m->wH part w mk k a ts=wH part w mk m a ts
 |0,a,ts,m,h,h2=>by
  obtain rfl:=List.eq_nil_of_length_eq_zero (Nat.le_zero.1 h)
  cases m<;>rfl
 |k+1,a,[],m,h,h2=>by cases m<;>rfl
 |k+1,a,c::q,0,h,h2=>by simp at h2
 |k+1,a,c::q,m+1,h,h2=>by
  rw [wH,wH]
  split
  ·cases hq:part q with
   |none=>rfl
   |some x=>
    obtain ⟨b,r'⟩:=x
    have h1:=hp _ _ _ hq
    simp only [List.length_cons] at h h2
    exact pLoop_fuel hp w mk k (mk a b) r' m Om Om
  ·rfl
theorem pLoop_stop (part:List Tok->Option (Tr×List Tok))(w:Tok)(mk:Tr->Tr->Tr)(k:Nat)(a:Tr)(ts:List Tok)(h:ts.head?≠some w):wH part w mk k a ts=some (a,ts):=by
 cases k with
 |zero=>rfl
 |succ k=>
  cases ts with
  |nil=>rfl
  |cons c r=>rw [wH,if_neg (λe=>h (by rw [e];rfl))]
def AndAt (t:Tr):Prop:=∀ (n:Nat) (rest:List Tok),(t.tok++rest).length<=n->pAnd n (t.tok++rest)=wH (vH n) d9 .both rest.length t rest
def OrAt (t:Tr):Prop:=∀ (n:Nat) (rest:List Tok),(t.tok++rest).length<=n->rest.head?≠some d9->pOr n (t.tok++rest)=wH (pAnd n) tOr .one rest.length t rest
def FacAt (t:Tr):Prop:=∀ (n:Nat) (rest:List Tok),(qK t.isBin t.tok++rest).length<=n->vH n (qK t.isBin t.tok++rest)=some (t,rest)
end
section
theorem yB {a b:Bool}(h:a=b):Ending.returned (.bool a)= .returned (.bool b):=by rw [h]
theorem ret_int {k:IntKind}{a b:Int}(h:a=b):Ending.returned (.int k a)= .returned (.int k b):=by rw [h]
theorem letB_hi (n:Nat)(h:128<=n):qV n=false:=by unfold qV;simp;omega
theorem digB_hi (n:Nat)(h:128<=n):yL n=false:=by unfold yL;simp;omega
theorem letB_hi8 (c:UInt8)(h:128<=c.toNat):qV c.toNat=false:=letB_hi _ h
theorem digB_hi8 (c:UInt8)(h:128<=c.toNat):yL c.toNat=false:=digB_hi _ h
theorem wR {a b:Int}(h:¬ a=b):(a==b)=false:=by simpa using h
theorem nameGo_hi (f:Bool)(l:Int)(c:UInt8)(r:YL)(h:128<=c.toNat):g7 f l (c::r)=false:=by
 unfold g7
 rw [letB_hi8 c h,digB_hi8 c h]
 simp;omega
theorem yC (w:World)(s:ByteArray)(pos:Nat):Below w.heap.size w (w.iter s pos):=(Below.refl _ w).alloc (Nat.le_refl _) _
theorem kX (r:Int)(b:Bool)(hb:yL r=b)(w:World):
  YC 110 #[.int .i32 r] w λe w'=>e= .returned (.bool b)/\w=w':=by
 subst hb
 unfold yL
 go_enter Tryz.func110,Tryz.ntmps110
 go_wp2
 all_goals go_ret
 all_goals exact ⟨yB (by simp;try omega),rfl⟩
theorem bG (r:Int)(b:Bool)(hb:yL r=b)(w:World):
  YC 125 #[.int .u8 r] w λe w'=>e= .returned (.bool b)/\w=w':=by
 subst hb
 unfold yL
 go_enter Tryz.func125,Tryz.ntmps125
 go_wp2
 all_goals go_ret
 all_goals exact ⟨yB (by simp;try omega),rfl⟩
theorem below_drewN {B:Nat}{a w:World}(h:Below B a w)(n:Nat):Below B a (w.drewN n):=⟨h.os,h.tape,h.output,h.size,Nat.le_trans h.drawn (Nat.le_add_right _ _),h.block⟩
end
section
theorem infoStr:(Tryz.prog.info? 9).map (λi=>(i.zero,i.size,i.bytes))=some (some (.string ByteArray.empty),1,16):=by kernel_rfl
def mkS (l:YL):ByteArray:=⟨l.toArray⟩
def jD (l:List YL):List Value:=l.map λx=> .string (mkS x)
theorem nU (l:List YL)(x:YL):jD (l++[x])=jD l++[.string (mkS x)]:=by unfold jD;rw [List.map_append];rfl
theorem bF (l:List YL):(jD l).length=l.length:=by unfold jD;rw [List.length_map]
theorem bB (s:ByteArray)(f k:Nat):s.extract f k=mkS ((s.data.toList.drop f).take (k-f)):=by
 unfold mkS
 apply ByteArray.ext
 apply Array.toList_inj.1
 rw [ByteArray.data_extract,Array.toList_extract,List.toList_toArray,List.extract_eq_take_drop]
theorem take_more (s:ByteArray)(f k:Nat)(hf:f<=k)(h:k<s.size):(s.data.toList.drop f).take (k+1-f)=(s.data.toList.drop f).take (k-f)++[s[k]]:=by
 rw [show k+1-f=k-f+1 from by omega,List.take_succ_eq_append_getElem (by simp;omega)]
 congr 1
 simp [show f+(k-f)=k from by omega]
 rfl
theorem split_hit (b c:UInt8)(acc r:YL)(h:c=b):zE b acc (c::r)=acc::zE b [] r:=by rw [zE,if_pos h]
theorem split_miss (b c:UInt8)(acc r:YL)(h:¬ c=b):zE b acc (c::r)=zE b (acc++[c]) r:=by rw [zE,if_neg h]
def vE (s:ByteArray)(b:UInt8):List YL:=zE b [] s.data.toList
theorem rsplit_any (s:ByteArray)(b:UInt8)(w:World)(hs:s.size<=1048576):
  YC 69 #[.string s,.int .u8 b.toNat] w λe w'=>∃ v,e= .returned v/\w'.ownsRow w.heap.size 9 1 v (vE s b).length (jD (vE s b))/\YB w w':=by
 obtain ⟨i0,hi,hz0,hz1,hz2⟩:=info_parts infoStr
 go_enter Tryz.func69,Tryz.ntmps69
 go_wp2
 go_loopw [5,6,7] (λv fv iv wr=>∃ (k f:Nat) (P:List YL),iv=YI k/\fv=YI f/\f<=k/\k<=s.size/\P.length<=k/\wr.ownsRow w.heap.size 9 1 v P.length (jD P)/\YB w wr/\Hid (P++zE b ((s.data.toList.drop f).take (k-f)) (s.data.toList.drop k)=vE s b)) (λ_ _ iv _=>s.size-(intOf iv).toNat)
 case atStart=>exact ⟨0,0,[],rfl,rfl,Nat.le_refl _,Nat.zero_le _,Nat.zero_le _,⟨rfl,Or.inl ⟨rfl,rfl⟩⟩,Below.refl _ _,rfl⟩
 case round=>
  obtain ⟨k,f,P,rfl,rfl,hfk,hk,hP,hown,hb,HR⟩:=hrel
  have hsz:=hb.size
  by_cases hp:k<s.size
  ·have HD:=Lib.hid (qI s k hp)
   by_cases hc:s[k]=b
   ·have HC:=Lib.hid hc
    have hcb:((s[k].toNat:Int)==(b.toNat:Int))=true:=by rw [hc];simp
    clear hc
    go_wp2_with (at_builtin;refine kY _ rfl _ _ 66 rfl w.heap.size 9 i0 (.string ByteArray.empty) 1 16 Tryz.underlying66 hi hz0 hz1 hz2 rfl (by decide) _ _ _ rfl (hown.alloc _) ⟨wr.heap.size,0,none⟩ 1 1 [.string (s.extract f k)] rfl rfl ?c1 ?c2 ?c3 ?c4 ?c5 ?_)
    case c1=>
     intro j u hj
     match j,hj with
     |0,hj=>simp at hj;subst hj;simp [Addr.add]
    case c2=>intro u hu;simp at hu;subst hu;rfl
    case c3=>unfold maxLen;omega
    case c4=>omega
    case c5=>simp;omega
    intro v' w2 hown' hgrow _
    go_wp2
    go_roundw
    case rel=>
     refine ⟨k+1,k+1,P++[(s.data.toList.drop f).take (k-f)],by go_num,by go_num,Nat.le_refl _,by omega,by simp;omega, ?_,(hb.alloc hsz _).grown hgrow (by simp;omega) (λk hk=>(hown.lt k hk).1), ?_⟩
     ·rw [nU,←bB,List.length_append];exact hown'
     ·show _=_
      rw [←HR.out,HD.out,split_hit _ _ _ _ HC.out,List.append_assoc,Nat.sub_self,List.take_zero];rfl
    case measure=>simp [intOf];omega
   ·have hcb:((s[k].toNat:Int)==(b.toNat:Int))=false:=wR (λe=>hc (UInt8.toNat_inj.1 Om))
    go_wp2
    go_roundw
    case rel=>exact ⟨k+1,f,P,by go_num,rfl,by omega,by omega,by omega,hown,hb,by show _=_;rw [←HR.out,HD.out,split_miss _ _ _ _ hc,take_more s f k hfk hp]⟩
    case measure=>simp [intOf];omega
  ·have hk2:k=s.size:=by omega
   have HD:=Lib.hid (wP s k hp)
   have HE:Hid (P++[(s.data.toList.drop f).take (s.size-f)]=vE s b):=by
    show _=_
    rw [←HR.out,HD.out,hk2];rfl
   clear hk2
   go_wp2_with (at_builtin;refine kY _ rfl _ _ 66 rfl w.heap.size 9 i0 (.string ByteArray.empty) 1 16 Tryz.underlying66 hi hz0 hz1 hz2 rfl (by decide) _ _ _ rfl (hown.alloc _) ⟨wr.heap.size,0,none⟩ 1 1 [.string (s.extract f s.size)] rfl rfl ?c1 ?c2 ?c3 ?c4 ?c5 ?_)
   case c1=>
    intro j u hj
    match j,hj with
    |0,hj=>simp at hj;subst hj;simp [Addr.add]
   case c2=>intro u hu;simp at hu;subst hu;rfl
   case c3=>unfold maxLen;omega
   case c4=>omega
   case c5=>simp;omega
   intro v' w2 hown' hgrow _
   go_wp2
   go_ret
   refine ⟨v',rfl, ?_,(hb.alloc hsz _).grown hgrow (by simp;omega) (λk hk=>(hown.lt k hk).1)⟩
   rw [←HE.out,nU,←bB,List.length_append];exact hown'
end
section
theorem lt_irr:∀ a:YL,Op.bytesLess a a=false
 | []=>rfl
 |c::r=>by rw [Op.bytesLess,lt_irr r];simp
theorem lt_tra:∀ a b c:YL,Op.bytesLess a b=true->Op.bytesLess b c=true->Op.bytesLess a c=true
 |_,[],_,h,_=>by cases ‹YL›<;>simp [Op.bytesLess] at h
 | [],b::x,[],_,h=>by simp [Op.bytesLess] at h
 | [],b::x,c::y,_,_=>rfl
 |a::z,b::x,[],_,h=>by simp [Op.bytesLess] at h
 |a::z,b::x,c::y,h1,h2=>by
  rw [Op.bytesLess] at h1 h2 ⊢
  simp only [Bool.or_eq_true,Bool.and_eq_true,decide_eq_true_eq,beq_iff_eq] at h1 h2 ⊢
  rcases h1 with h1|⟨h1,h3⟩
  ·rcases h2 with h2|⟨h2,h4⟩
   ·exact .inl (UInt8.lt_trans h1 h2)
   ·exact .inl (h2▸h1)
  ·rcases h2 with h2|⟨h2,h4⟩
   ·exact .inl (h1▸h2)
   ·exact .inr ⟨h1.trans h2,lt_tra z x y h3 h4⟩
theorem lt_tri:∀ a b:YL,Op.bytesLess a b=false->a≠b->Op.bytesLess b a=true
 | [],[],_,h=>absurd rfl h
 | [],b::x,h,_=>by simp [Op.bytesLess] at h
 |a::z,[],_,_=>rfl
 |a::z,b::x,h,hn=>by
  rw [Op.bytesLess] at h ⊢
  simp only [Bool.or_eq_false_iff,Bool.and_eq_false_iff,decide_eq_false_iff_not,beq_eq_false_iff_ne,Bool.or_eq_true,Bool.and_eq_true,decide_eq_true_eq,beq_iff_eq] at h ⊢
  by_cases e:a=b
  ·subst e
   exact .inr ⟨rfl,lt_tri z x (h.2.resolve_left (λq=>q rfl)) (λq=>hn (by rw [q]))⟩
  ·exact .inl (UInt8.lt_of_le_of_ne (UInt8.not_lt.1 h.1) (λq=>e q.symm))
theorem lt_asy {a b:YL}(h:Op.bytesLess a b=true):Op.bytesLess b a=false:=by
 cases hb:Op.bytesLess b a with
 |false=>rfl
 |true=>have:=lt_tra _ _ _ h hb;rw [lt_irr] at this;cases this
def qX:List YL->Bool
 |a::b::r=>Op.bytesLess a b && qX (b::r)
 |_=>true
def putT:List YL->YL->List YL
 | [],s=>[s]
 |a::r,s=>if Op.bytesLess a s then a::putT r s else if a=s then a::r else s::a::r
structure Ft where
 name:YL
 of:List YL
def nmL (s:YL):Bool:=mM (mkS s)
def dfl:YL:=[100,101,102,97,117,108,116]
def zO (s:YL):Int×YL×YL:=
 if wdL s then (1,s,[])
 else if decide (s.head?=some 63) && wdL (s.drop 1) then (2,s.drop 1,[])
 else match zE 47 [] s with
  | [a,b]=>if nmL a && wdL b then (3,a,b) else (0,[],[])
  |_=>(0,[],[])
def findT (l:List Ft)(n:YL):Option Nat:=l.findIdx? λf=>decide (f.name=n)
def isT (l:List Ft)(n:YL):Bool:=decide (n=dfl)||(findT l n).isSome
def wK (l:List Ft)(s:YL):Bool:=decide ((zO s).1≠0) && (decide ((zO s).1≠1)||isT l (zO s).2.1)
def kP (l:List Ft)(of:List YL):Bool:=decide (of.length<=6) && qX of && of.all (wK l)
def dP (l:List Ft):Bool:=decide (l.length<=8) && l.all (λf=>wdL f.name) && qX (l.map Ft.name) && l.all (λf=>kP l f.of)
def ofT (l:List Ft)(n:YL):List YL:=match l.find? λf=>decide (f.name=n) with
 |some f=>f.of
 |none=>[]
inductive On (l:List Ft) (asked:List YL):YL->Prop
 |ask {x} (h:x∈asked):On l asked x
 |of {f s} (h:On l asked f) (hs:s∈ofT l f) (hk:(zO s).1=1):On l asked (zO s).2.1
def Has (l:List Ft)(on:List YL)(k:Int)(s:YL):Prop:=∃ f∈on,s∈ofT l f/\(zO s).1=k
def putK (k:Int)(val:YL->YL)(acc:List YL):List YL->List YL
 | []=>acc
 |s::r=>putK k val (if (zO s).1=k then putT acc (val s) else acc) r
def collK (k:Int)(val:YL->YL)(l:List Ft)(acc:List YL):List YL->List YL
 | []=>acc
 |f::r=>collK k val l (putK k val acc (ofT l f)) r
def wordOf (s:YL):YL:=(zO s).2.1
abbrev roundT (l:List Ft)(acc on:List YL):List YL:=collK 1 wordOf l acc on
def rounds (l:List Ft):Nat->List YL->List YL
 |0,on=>on
 |n+1,on=>rounds l n (roundT l on on)
def asksT (asked:List YL):List YL:=asked.foldl putT []
def onT (l:List Ft)(asked:List YL):List YL:=rounds l (l.length+1) (asksT asked)
def optsT (l:List Ft)(on:List YL):List YL:=collK 2 wordOf l [] on
def pullsT (l:List Ft)(on:List YL):List YL:=collK 3 id l [] on
def errF (l:List Ft)(asked:List YL):Int:=if dP l then (if asked.all (isT l) then 0 else 11) else 1
def onF (l:List Ft)(asked:List YL):List YL:=if errF l asked=0 then onT l asked else []
def optF (l:List Ft)(asked:List YL):List YL:=if errF l asked=0 then optsT l (onT l asked) else []
def pullF (l:List Ft)(asked:List YL):List YL:=if errF l asked=0 then pullsT l (onT l asked) else []
end
section
def x5:Nat->Bool->YL->Option Nat
  |n,first,[]=>if first then none else some n
  |n,first,c::r=>
    if yL c.toNat then
      (if first=false/\n=0 then none
       else if n*10+(c.toNat-48)<=9999 then x5 (n*10+(c.toNat-48)) false r else none)
    else none
def numB (s:ByteArray):Option Nat:=x5 0 true s.data.toList
def numV (s:ByteArray):Int:=((numB s).getD 0:Nat)
def numOk (s:ByteArray):Bool:=(numB s).isSome
theorem m6 (n:Nat)(f:Bool)(c:UInt8)(r:YL)(h:yL c.toNat=false):x5 n f (c::r)=none:=by
 rw [x5,if_neg (by simp [h])]
theorem numGo_zero (c:UInt8)(r:YL):x5 0 false (c::r)=none:=by
 rw [x5];simp
theorem numGo_big (n:Nat)(f:Bool)(c:UInt8)(r:YL)(h3:¬ n*10+(c.toNat-48)<=9999):x5 n f (c::r)=none:=by
 rw [x5,if_neg h3];simp
theorem mL (n:Nat)(f:Bool)(c:UInt8)(r:YL)(h:yL c.toNat=true)(h2:¬ (f=false/\n=0))(h3:n*10+(c.toNat-48)<=9999):
  x5 n f (c::r)=x5 (n*10+(c.toNat-48)) false r:=by
 rw [x5,if_pos h,if_neg h2,if_pos h3]
def yM (l:YL):Bool:=l.all λc=>yL c.toNat
def vZ (n:Nat)(l:YL):Nat:=l.foldl (λn c=>n*10+(c.toNat-48)) n
theorem foldV_le (l:YL):∀ n,n<=vZ n l:=by
 induction l with
 |nil=>intro n;exact Nat.le_refl _
 |cons c r ih=>intro n;exact Nat.le_trans Om (ih (n*10+(c.toNat-48)))
theorem foldV_pow (l:YL):∀ n,n*10^l.length<=vZ n l:=by
 induction l with
 |nil=>intro n;simp [vZ]
 |cons c r ih=>
  intro n
  refine Nat.le_trans ?_ (ih (n*10+(c.toNat-48)))
  rw [List.length_cons,Nat.pow_succ,Nat.mul_comm (10^r.length) 10,←Nat.mul_assoc]
  exact Nat.mul_le_mul_right _ Om
theorem numGo_pos (l:YL):∀ n,1<=n->n<=9999->x5 n false l=if yM l=true/\vZ n l<=9999 then some (vZ n l) else none:=by
 induction l with
 |nil=>intro n h1 h2;simp [x5,yM,vZ,h2]
 |cons c r ih=>
  intro n h1 h2
  by_cases hd:yL c.toNat=true
  ·by_cases h3:n*10+(c.toNat-48)<=9999
   ·rw [mL n false c r hd Om h3,ih _ Om h3]
    have e1:yM (c::r)=yM r:=by unfold yM;rw [List.all_cons,hd];rfl
    rw [e1];rfl
   ·rw [numGo_big n false c r h3,if_neg]
    rintro ⟨_,h⟩
    have h4:n*10+(c.toNat-48)<=vZ n (c::r):=foldV_le r _
    omega
  ·rw [m6 _ _ _ _ (Bool.eq_false_iff.2 hd),if_neg]
   rintro ⟨h,_⟩
   unfold yM at h
   rw [List.all_cons,Bool.and_eq_true] at h
   exact hd h.1
def numRef (l:YL):Option Nat:=
 if l.length<1\/l.length>9\/(l.length>1/\l.head?=some 48) then none
 else if yM l=true/\vZ 0 l<=9999 then some (vZ 0 l) else none
theorem numGo_ref (l:YL):x5 0 true l=numRef l:=by
 cases l with
 |nil=>rfl
 |cons c r=>
  unfold numRef
  by_cases hd:yL c.toNat=true
  ·have hc:48<=c.toNat/\c.toNat<=57:=by unfold yL at hd;simp at hd;omega
   rw [mL 0 true c r hd (by simp) Om]
   have e1:yM (c::r)=yM r:=by unfold yM;rw [List.all_cons,hd];rfl
   have e2:vZ 0 (c::r)=vZ (c.toNat-48) r:=by unfold vZ;rw [List.foldl_cons];simp
   by_cases h0:c.toNat=48
   ·have hc48:c=48:=by apply UInt8.toNat_inj.1;simpa using h0
    cases r with
    |nil=>subst hc48;decide
    |cons c2 r2=>
     have e0:0*10+(c.toNat-48)=0:=by omega
     rw [e0,numGo_zero,if_pos]
     right;right
     exact ⟨by simp,by rw [hc48];rfl⟩
   ·have hne:¬ (c::r).head?=some 48:=by
     intro h
     have:c=48:=by simpa using h
     subst this
     exact h0 rfl
    have e0:0*10+(c.toNat-48)=c.toNat-48:=by omega
    rw [e0,numGo_pos r _ Om Om,e1,e2]
    by_cases h9:(c::r).length>9
    ·rw [if_pos (Or.inr (Or.inl h9)),if_neg]
     rintro ⟨_,h⟩
     have hp:=foldV_pow r (c.toNat-48)
     have h10:10^9<=10^r.length:=Nat.pow_le_pow_right Om (by rw [List.length_cons] at h9;omega)
     have h11:1*10^r.length<=(c.toNat-48)*10^r.length:=Nat.mul_le_mul_right _ Om
     omega
    ·rw [if_neg (c:=(c::r).length<1\/_)]
     rintro (h|h|h)
     ·simp at h
     ·exact h9 h
     ·exact hne h.2
  ·rw [m6 _ _ _ _ (Bool.eq_false_iff.2 hd)]
   have e1:¬ (yM (c::r)=true/\vZ 0 (c::r)<=9999):=by
    rintro ⟨h,_⟩
    unfold yM at h
    rw [List.all_cons,Bool.and_eq_true] at h
    exact hd h.1
   rw [if_neg e1]
   split<;>rfl
theorem dig_of (k:Nat)(h:k<10):(UInt8.ofNat (48+k)).toNat=48+k:=by
 rw [UInt8.toNat_ofNat'];omega
theorem foldV_append (l r:YL)(n:Nat):vZ n (l++r)=vZ (vZ n l) r:=by unfold vZ;rw [List.foldl_append]
theorem nL (l r:YL):yM (l++r)=(yM l && yM r):=by unfold yM;rw [List.all_append]
theorem digB_of (k:Nat)(h:k<10):yL (UInt8.ofNat (48+k)).toNat=true:=by
 rw [dig_of k h];unfold yL;simp;omega
theorem dec_fold (u:Nat):yM (Lib.decDigits u)=true/\vZ 0 (Lib.decDigits u)=u:=by
 induction u using Nat.strongRecOn with
 |_ u ih=>
  rw [Lib.decDigits]
  by_cases h:u<10
  ·rw [dif_pos h]
   refine ⟨by unfold yM;rw [List.all_cons,digB_of u h];rfl, ?_⟩
   show 0*10+((UInt8.ofNat (48+u)).toNat-48)=u
   rw [dig_of u h];omega
  ·rw [dif_neg h]
   obtain ⟨i1,i2⟩:=ih (u/10) Om
   refine ⟨by rw [nL,i1];unfold yM;rw [List.all_cons,digB_of _ Om];rfl, ?_⟩
   rw [foldV_append,i2]
   show u/10*10+((UInt8.ofNat (48+u % 10)).toNat-48)=u
   rw [dig_of _ Om];omega
theorem dec_head (u:Nat)(h:1<=u):∃ (d:Nat) (r:YL),1<=d/\d<10/\Lib.decDigits u=UInt8.ofNat (48+d)::r:=by
 induction u using Nat.strongRecOn with
 |_ u ih=>
  rw [Lib.decDigits]
  by_cases h10:u<10
  ·rw [dif_pos h10];exact ⟨u,[],h,h10,rfl⟩
  ·rw [dif_neg h10]
   obtain ⟨d,r,h1,h2,e⟩:=ih (u/10) Om Om
   exact ⟨d,r++[UInt8.ofNat (48+u % 10)],h1,h2,by rw [e];rfl⟩
theorem num_dec (u:Nat):x5 0 true (Lib.decDigits u)=if u<=9999 then some u else none:=by
 by_cases h0:u=0
 ·subst h0
  rw [Lib.decDigits,dif_pos Om];decide
 ·obtain ⟨hA,hF⟩:=dec_fold u
  obtain ⟨d,r,h1,h2,e⟩:=dec_head u Om
  rw [e] at hA hF ⊢
  have hd:=digB_of d h2
  rw [mL 0 true _ r hd (by simp) (by rw [dig_of d h2];omega)]
  have e1:yM r=true:=by unfold yM at hA ⊢;rw [List.all_cons,Bool.and_eq_true] at hA;exact hA.2
  have e2:vZ (0*10+((UInt8.ofNat (48+d)).toNat-48)) r=u:=hF
  rw [numGo_pos r _ (by rw [dig_of d h2];omega) (by rw [dig_of d h2];omega),e1,e2]
  simp
end
section
def mF (c:UInt8):Bool:=qV c.toNat||yL c.toNat||decide ((c.toNat:Int)=45)
def kZ (t:YL):Bool:=decide (1<=t.length/\t.length<=8) && t.all mF
def vY (t:YL):Bool:= !t.isEmpty && yM t
def qM (t:YL):Bool:=(x5 0 true t).isSome
def pcs (s:YL):List YL:=zE 46 [] s
def jQ (s:YL):Bool:=s.isEmpty||(decide ((pcs s).length<=4) && (pcs s).all kZ)
def preT (t:YL):Bool:= !vY t||qM t
def preOk (s:YL):Bool:=jQ s && (s.isEmpty||(pcs s).all preT)
def zA (b:UInt8):YL->YL×YL×Bool
 | []=>([],[],false)
 |c::r=>if c=b then ([],r,true) else ((c::(zA b r).1),(zA b r).2.1,(zA b r).2.2)
theorem cutAt_cut (b:UInt8)(l:YL):Lib.cut l [b]=zA b l:=by
 induction l with
 |nil=>rfl
 |cons c r ih=>
  have hge:=Lib.index_ge r [b]
  unfold Lib.cut at ih ⊢
  unfold zA
  rw [Lib.index]
  by_cases h:c=b
  ·subst h;simp
  ·have e1:([b].isPrefixOf (c::r))=false:=by simp [List.isPrefixOf];exact λe=>h e.symm
   rw [e1,if_neg h,←ih]
   by_cases hm:Lib.index r [b]= -1
   ·rw [if_neg (by simp:¬ (false=true))];simp [hm]
   ·have e3:(if (Lib.index r [b]== -1)=true then (-1:Int) else Lib.index r [b]+1)=Lib.index r [b]+1:=if_neg (by simpa using hm)
    rw [if_neg (by simp:¬ (false=true)),e3,if_pos Om,if_pos Om]
    have e2:(Lib.index r [b]+1).toNat=(Lib.index r [b]).toNat+1:=by omega
    simp only [e2,List.take_succ_cons,List.length_cons,List.length_nil,Prod.mk.injEq,and_true,true_and]
    rw [show (Lib.index r [b]).toNat+1+(0+1)=((Lib.index r [b]).toNat+(0+1))+1 from by omega,List.drop_succ_cons]
theorem jX (b:UInt8)(l:YL):(zA b l).1.length+(zA b l).2.1.length<=l.length:=by
 induction l with
 |nil=>simp [zA]
 |cons c r ih=>unfold zA;split<;>simp<;>omega
theorem xG (b:UInt8)(l:YL):∀ acc,zE b acc l=(acc++(zA b l).1)::(if (zA b l).2.2 then zE b [] (zA b l).2.1 else []):=by
 induction l with
 |nil=>intro acc;simp [zE,zA]
 |cons c r ih=>
  intro acc
  rw [show zE b acc (c::r)=if c=b then acc::zE b [] r else zE b (acc++[c]) r from rfl,show zA b (c::r)=if c=b then ([],r,true) else ((c::(zA b r).1),(zA b r).2.1,(zA b r).2.2) from rfl]
  by_cases h:c=b
  ·rw [if_pos h,if_pos h];simp
  ·rw [if_neg h,if_neg h,ih];simp
theorem mQ (b:UInt8)(l:YL):l=(zA b l).1++(if (zA b l).2.2 then b::(zA b l).2.1 else []):=by
 induction l with
 |nil=>simp [zA]
 |cons c r ih=>
  unfold zA
  by_cases h:c=b
  ·simp [h]
  ·rw [if_neg h];simp only [List.cons_append,←ih]
theorem cutAt_none (b:UInt8)(l:YL):(zA b l).2.2=false->(zA b l).2.1=[]:=by
 induction l with
 |nil=>simp [zA]
 |cons c r ih=>unfold zA;split<;>simp;exact ih
theorem bM (b:UInt8)(x y:YL)(h:b∉x):zA b (x++b::y)=(x,y,true):=by
 induction x with
 |nil=>simp [zA]
 |cons c r ih=>
  simp at h
  rw [List.cons_append,zA,if_neg (λe=>h.1 e.symm),ih h.2]
theorem jW (b:UInt8)(x:YL)(h:b∉x):zA b x=(x,[],false):=by
 induction x with
 |nil=>simp [zA]
 |cons c r ih=>
  simp at h
  rw [zA,if_neg (λe=>h.1 e.symm),ih h.2]
def gU:Nat->YL->List YL×Bool
  |0,_=>([],false)
  |n+1,s=>
    if kZ (zA 46 s).1 then
      (if (zA 46 s).2.2 then ((zA 46 s).1::(gU n (zA 46 s).2.1).1,(gU n (zA 46 s).2.1).2)
       else ([(zA 46 s).1],true))
    else ([],false)
theorem cutGo_ok (n:Nat):∀ s,(gU n s).2=(decide ((pcs s).length<=n) && (pcs s).all kZ):=by
 induction n with
 |zero=>
  intro s
  have:=vB 46 s []
  have h:(pcs s).length≠0:=by unfold pcs;simpa using this
  unfold gU
  simp [Nat.le_zero_eq,List.length_eq_zero_iff] at h ⊢
  intro e;exact absurd e h
 |succ n ih=>
  intro s
  have e:=xG 46 s []
  rw [List.nil_append] at e
  unfold gU
  rw [show pcs s=_ from e]
  by_cases h:kZ (zA 46 s).1=true
  ·rw [if_pos h]
   by_cases h2:(zA 46 s).2.2=true
   ·rw [if_pos h2,if_pos h2]
    show (gU n (zA 46 s).2.1).2=_
    rw [ih];unfold pcs;simp [h]
   ·rw [if_neg h2,if_neg h2]
    simp [h]
  ·rw [if_neg h];simp [h]
theorem cutGo_all (n:Nat):∀ s,(gU n s).2=true->(gU n s).1=pcs s:=by
 induction n with
 |zero=>intro s h;cases h
 |succ n ih=>
  intro s
  have e:=xG 46 s []
  rw [List.nil_append] at e
  unfold gU
  rw [show pcs s=_ from e]
  by_cases h:kZ (zA 46 s).1=true
  ·rw [if_pos h]
   by_cases h2:(zA 46 s).2.2=true
   ·rw [if_pos h2,if_pos h2]
    intro h3
    show _::_=_
    rw [ih _ h3];rfl
   ·rw [if_neg h2,if_neg h2];intro _;rfl
  ·rw [if_neg h];intro h3;cases h3
theorem cutGo_len (n:Nat):∀ s,(gU n s).1.length<=n:=by
 induction n with
 |zero=>intro s;simp [gU]
 |succ n ih=>
  intro s
  unfold gU
  split
  ·split
   ·have:=ih (zA 46 s).2.1;simp;exact this
   ·simp
  ·simp
theorem cutGo_le (n:Nat):∀ s,∀ x∈(gU n s).1,kZ x=true:=by
 induction n with
 |zero=>intro s x h;simp [gU] at h
 |succ n ih=>
  intro s x hx
  unfold gU at hx
  split at hx
  ·rename_i h
   split at hx
   ·rcases List.mem_cons.1 hx with rfl|hx
    ·exact h
    ·exact ih _ x hx
   ·simp at hx;rw [hx];exact h
  ·simp at hx
def tg (l:List YL)(i:Nat):YL:=(l[i]?).getD []
def lst (s:YL):List YL×Bool:=if s.isEmpty then ([],true) else gU 4 s
theorem lst_ok (s:YL):(lst s).2=jQ s:=by
 unfold lst jQ
 by_cases h:s.isEmpty=true
 ·rw [if_pos h,h];rfl
 ·rw [if_neg h,Bool.eq_false_iff.2 h,Bool.false_or];exact cutGo_ok 4 s
theorem lst_all (s:YL)(h:jQ s=true):(lst s).1=if s.isEmpty then [] else pcs s:=by
 rw [←lst_ok] at h
 unfold lst at h ⊢
 split
 ·rfl
 ·rename_i h2;rw [if_neg h2] at h;exact cutGo_all 4 s h
theorem lst_len (s:YL):(lst s).1.length<=4:=by
 unfold lst;split
 ·simp
 ·exact cutGo_len 4 s
theorem lst_tag (s:YL):∀ x∈(lst s).1,kZ x=true:=by
 unfold lst;split
 ·intro x h;cases h
 ·exact cutGo_le 4 s
theorem tagOk_len {t:YL}(h:kZ t=true):1<=t.length/\t.length<=8:=by
 unfold kZ at h;simp at h;exact h.1
theorem tg_len (s:YL)(i:Nat):(tg (lst s).1 i).length<=8:=by
 unfold tg
 cases h:(lst s).1[i]? with
 |none=>simp
 |some x=>exact (tagOk_len (lst_tag s x (List.mem_of_getElem? h))).2
theorem tg_all {p:YL->Bool}(hp:p []=true)(l:List YL)(h:l.length<=4):(p (tg l 0) && p (tg l 1) && p (tg l 2) && p (tg l 3))=l.all p:=by
 match l,h with
 | [],_=>simp [tg,hp]
 | [a],_=>simp [tg,hp]
 | [a,b],_=>simp [tg,hp]
 | [a,b,c],_=>simp [tg,hp,Bool.and_assoc]
 | [a,b,c,d],_=>simp [tg,Bool.and_assoc]
theorem preT_nil:preT []=true:=by decide
theorem preOk_lst (s:YL):preOk s=((lst s).2 && (lst s).1.all preT):=by
 rw [lst_ok]
 unfold preOk
 by_cases h:jQ s=true
 ·rw [h,Bool.true_and,Bool.true_and,lst_all s h]
  split
  ·rename_i h2;rw [h2];rfl
  ·rename_i h2;rw [Bool.eq_false_iff.2 h2,Bool.false_or]
 ·rw [Bool.eq_false_iff.2 h];rfl
end
section
structure Ver where
 maj:Int
 min:Int
 pat:Int
 pre:YL
 build:YL
deriving DecidableEq
def zT (n:Int):Bool:=decide (0<=n/\n<=9999)
def Ver.may (v:Ver):Bool:=zT v.maj && zT v.min && zT v.pat && preOk v.pre && jQ v.build
def Ver.zero:Ver:=⟨0,0,0,[],[]⟩
def Ver.rel (a b c:Int):Ver:=⟨a,b,c,[],[]⟩
def xH (c:UInt8)(l:YL):YL:=if l.isEmpty then [] else c::l
def bX (v:Ver):YL:=Lib.itoa v.maj++46::(Lib.itoa v.min++46::Lib.itoa v.pat)
def Ver.text (v:Ver):YL:=bX v++xH 45 v.pre++xH 43 v.build
def Ver.print (v:Ver):YL:=if v.may then v.text else []
theorem dec_more (n d:Nat)(hn:1<=n)(hd:d<10):Lib.decDigits (n*10+d)=Lib.decDigits n++[UInt8.ofNat (48+d)]:=by
 rw [Lib.decDigits,dif_neg Om,show (n*10+d)/10=n from by omega,show (n*10+d) % 10=d from by omega]
theorem dig_byte {c:UInt8}(h:yL c.toNat=true):c.toNat-48<10/\UInt8.ofNat (48+(c.toNat-48))=c:=by
 unfold yL at h;simp at h
 refine ⟨by omega, ?_⟩
 rw [show 48+(c.toNat-48)=c.toNat from by omega];exact UInt8.ofNat_toNat
theorem numGo_tail (l:YL):∀ n m,1<=n->n<=9999->x5 n false l=some m->Lib.decDigits m=Lib.decDigits n++l/\m<=9999:=by
 induction l with
 |nil=>intro n m _ h9 h;simp [x5] at h;subst h;simp [h9]
 |cons c r ih=>
  intro n m hn h9 h
  by_cases hd:yL c.toNat=true
  ·by_cases hb:n*10+(c.toNat-48)<=9999
   ·rw [mL n false c r hd Om hb] at h
    obtain ⟨h1,h2⟩:=dig_byte hd
    obtain ⟨i1,i2⟩:=ih _ m Om hb h
    rw [dec_more n _ hn h1,h2] at i1
    exact ⟨by rw [i1];simp,i2⟩
   ·rw [numGo_big n false c r hb] at h;cases h
  ·rw [m6 n false c r (Bool.eq_false_iff.2 hd)] at h;cases h
theorem numGo_back (l:YL)(n:Nat)(h:x5 0 true l=some n):l=Lib.decDigits n/\n<=9999:=by
 cases l with
 |nil=>simp [x5] at h
 |cons c r=>
  by_cases hd:yL c.toNat=true
  ·obtain ⟨h1,h2⟩:=dig_byte hd
   rw [mL 0 true c r hd (by simp) Om,show 0*10+(c.toNat-48)=c.toNat-48 from by omega] at h
   by_cases h0:c.toNat-48=0
   ·rw [h0] at h h2
    cases r with
    |nil=>simp [x5] at h;subst h;rw [←h2,Lib.decDigits,dif_pos Om];simp
    |cons c2 r2=>rw [numGo_zero] at h;cases h
   ·obtain ⟨i1,i2⟩:=numGo_tail r _ n Om Om h
    rw [Lib.decDigits_one h1,h2] at i1
    exact ⟨by rw [i1];rfl,i2⟩
  ·rw [m6 0 true c r (Bool.eq_false_iff.2 hd)] at h;cases h
theorem dig_mem (u:Nat):∀ x∈Lib.decDigits u,yL x.toNat=true:=by
 have h:=(dec_fold u).1
 unfold yM at h
 exact List.all_eq_true.1 h
theorem itoa_nat {n:Int}(h:zT n=true):Lib.itoa n=Lib.decDigits n.toNat:=by
 unfold zT at h;simp at h
 unfold Lib.itoa;rw [if_neg Om]
theorem num_itoa {n:Int}(h:zT n=true):x5 0 true (Lib.itoa n)=some n.toNat:=by
 rw [itoa_nat h,num_dec,if_pos]
 unfold zT at h;simp at h;omega
theorem d6 {n:Int}(h:zT n=true)(b:UInt8)(hb:yL b.toNat=false):b∉Lib.itoa n:=by
 rw [itoa_nat h]
 intro hm
 have:=dig_mem _ _ hm
 rw [this] at hb;cases hb
theorem splitL_acc (b:UInt8)(l:YL):∀ acc,∀ c∈acc,∃ x∈zE b acc l,c∈x:=by
 induction l with
 |nil=>intro acc c h;exact ⟨acc,by simp [zE],h⟩
 |cons d r ih=>
  intro acc c hc
  rw [show zE b acc (d::r)=if d=b then acc::zE b [] r else zE b (acc++[d]) r from rfl]
  by_cases h:d=b
  ·rw [if_pos h];exact ⟨acc,by simp,hc⟩
  ·rw [if_neg h];exact ih _ c (by simp [hc])
theorem splitL_mem (b:UInt8)(l:YL):∀ acc,∀ c∈l,c=b∨∃ x∈zE b acc l,c∈x:=by
 induction l with
 |nil=>intro acc c h;cases h
 |cons d r ih=>
  intro acc c hc
  rw [show zE b acc (d::r)=if d=b then acc::zE b [] r else zE b (acc++[d]) r from rfl]
  by_cases h:d=b
  ·rw [if_pos h]
   rcases List.mem_cons.1 hc with rfl|hc
   ·exact .inl h
   ·rcases ih [] c hc with e|⟨x,hx,hcx⟩
    ·exact .inl e
    ·exact .inr ⟨x,List.mem_cons_of_mem _ hx,hcx⟩
  ·rw [if_neg h]
   rcases List.mem_cons.1 hc with rfl|hc
   ·exact .inr (splitL_acc b r (acc++[c]) c (by simp))
   ·exact ih _ c hc
theorem listOk_free (s:YL)(h:jQ s=true):(43:UInt8)∉s:=by
 intro hm
 unfold jQ at h
 rcases splitL_mem 46 s [] 43 hm with e|⟨x,hx,hc⟩
 ·revert e;decide
 ·have hne:s.isEmpty=false:=by cases s with
   |nil=>cases hm
   |cons _ _=>rfl
  rw [hne,Bool.false_or,Bool.and_eq_true] at h
  have:=List.all_eq_true.1 h.2 x hx
  unfold kZ at this
  rw [Bool.and_eq_true] at this
  have:=List.all_eq_true.1 this.2 _ hc
  revert this;decide
def zK (l:YL):Int:=((x5 0 true l).getD 0:Nat)
def pG (s:YL):Ver:=
 let r:=(zA 43 s).1
 let q:=(zA 45 r).1
 let x:=zA 46 q
 let y:=zA 46 x.2.1
 ⟨zK x.1,zK y.1,zK y.2.1,(zA 45 r).2.1,(zA 43 s).2.1⟩
def three (l:List YL):Option (Int×Int×Int):=
 match l with
 | [x,y,z]=>if qM x && qM y && qM z then some (zK x,zK y,zK z) else none
 |_=>none
def parseR (s:YL):Option Ver:=
 let b:=zA 43 s
 let p:=zA 45 b.1
 match three (pcs p.1) with
 |none=>none
 |some (x,y,z)=>
  if (p.2.2 && p.2.1.isEmpty)||(b.2.2 && b.2.1.isEmpty) then none
  else if (Ver.mk x y z p.2.1 b.2.1).may then some ⟨x,y,z,p.2.1,b.2.1⟩ else none
def parseI (s:YL):Option Ver:=if (pG s).print=s then some (pG s) else none
theorem numsL_free {v:Ver}(h:v.may=true)(b:UInt8)(hb:yL b.toNat=false)(h46:b≠46):b∉bX v:=by
 unfold Ver.may at h;simp only [Bool.and_eq_true] at h
 obtain ⟨⟨⟨⟨h1,h2⟩,h3⟩,_⟩,_⟩:=h
 unfold bX
 simp only [List.mem_append,List.mem_cons,not_or]
 exact ⟨d6 h1 b hb,h46,d6 h2 b hb,h46,d6 h3 b hb⟩
theorem cut_tail (c:UInt8)(x y:YL)(h:c∉x):zA c (x++xH c y)=(x,y, !y.isEmpty):=by
 unfold xH
 cases y with
 |nil=>simp [jW c x h]
 |cons a r=>simp [bM c x (a::r) h]
theorem cut_text {v:Ver}(h:v.may=true):zA 43 v.text=(bX v++xH 45 v.pre,v.build, !v.build.isEmpty)/\zA 45 (bX v++xH 45 v.pre)=(bX v,v.pre, !v.pre.isEmpty):=by
 have hp:(43:UInt8)∉v.pre:=by
  unfold Ver.may preOk at h;simp only [Bool.and_eq_true] at h
  exact listOk_free _ h.1.2.1
 refine ⟨?_,cut_tail _ _ _ (numsL_free h 45 (by decide) (by decide))⟩
 unfold Ver.text
 refine cut_tail _ _ _ ?_
 simp only [List.mem_append,not_or]
 refine ⟨numsL_free h 43 (by decide) (by decide), ?_⟩
 unfold xH
 split
 ·simp
 ·simp;exact hp
theorem vI {n:Int}(h:zT n=true):zK (Lib.itoa n)=n:=by
 unfold zK;rw [num_itoa h]
 unfold zT at h;simp at h
 show ((n.toNat:Nat):Int)=n;omega
theorem qN {v:Ver}(h:v.may=true):zT v.maj=true/\zT v.min=true/\zT v.pat=true:=by
 unfold Ver.may at h;simp only [Bool.and_eq_true] at h
 exact ⟨h.1.1.1.1,h.1.1.1.2,h.1.1.2⟩
theorem guess_text {v:Ver}(h:v.may=true):pG v.text=v:=by
 obtain ⟨c1,c2⟩:=cut_text h
 obtain ⟨h1,h2,h3⟩:=qN h
 unfold pG
 simp only [c1,c2]
 unfold bX
 rw [bM 46 _ _ (d6 h1 46 (by decide))]
 dsimp only
 rw [bM 46 _ _ (d6 h2 46 (by decide))]
 dsimp only
 rw [vI h1,vI h2,vI h3]
theorem pcs_nums {v:Ver}(h:v.may=true):pcs (bX v)=[Lib.itoa v.maj,Lib.itoa v.min,Lib.itoa v.pat]:=by
 obtain ⟨h1,h2,h3⟩:=qN h
 unfold pcs bX
 rw [xG,bM 46 _ _ (d6 h1 46 (by decide))]
 simp only [List.nil_append,if_true]
 rw [xG,bM 46 _ _ (d6 h2 46 (by decide))]
 simp only [List.nil_append,if_true]
 rw [xG,jW 46 _ (d6 h3 46 (by decide))]
 simp
theorem numI_itoa {n:Int}(h:zT n=true):qM (Lib.itoa n)=true:=by unfold qM;rw [num_itoa h];rfl
theorem parseR_text {v:Ver}(h:v.may=true):parseR v.text=some v:=by
 obtain ⟨c1,c2⟩:=cut_text h
 obtain ⟨h1,h2,h3⟩:=qN h
 unfold parseR
 simp only [c1,c2,pcs_nums h]
 unfold three
 simp only [numI_itoa h1,numI_itoa h2,numI_itoa h3,vI h1,vI h2,vI h3,Bool.and_true,if_true]
 rw [if_neg (by cases v.pre<;>cases v.build<;>simp),if_pos h]
theorem numI_back {x:YL}(h:qM x=true):zT (zK x)=true/\Lib.itoa (zK x)=x:=by
 unfold qM at h
 obtain ⟨n,hn⟩:=Option.isSome_iff_exists.1 h
 obtain ⟨e,h9⟩:=numGo_back x n hn
 have hd:zK x=(n:Nat):=by unfold zK;rw [hn];rfl
 rw [hd]
 have hk:zT (n:Nat)=true:=by unfold zT;simp;omega
 refine ⟨hk, ?_⟩
 rw [itoa_nat hk,e];rfl
theorem cut_back (c:UInt8)(s:YL)(h:((zA c s).2.2 && (zA c s).2.1.isEmpty)=false):s=(zA c s).1++xH c (zA c s).2.1:=by
 have h1:=mQ c s
 have h2:=cutAt_none c s
 unfold xH
 cases hf:(zA c s).2.2 with
 |true=>rw [hf] at h h1;rw [Bool.true_and] at h;rw [h,if_neg (by simp)];rw [if_pos rfl] at h1;exact h1
 |false=>rw [hf] at h1;rw [h2 hf];simpa using h1
theorem parseR_back {s:YL}{v:Ver}(h:parseR s=some v):v.may=true/\v.text=s:=by
 unfold parseR at h
 dsimp only at h
 split at h
 ·cases h
 ·rename_i x y z h3
  split at h
  ·cases h
  ·rename_i hne
   split at h
   ·rename_i hm
    cases h
    refine ⟨hm, ?_⟩
    simp only [Bool.or_eq_true,not_or,Bool.not_eq_true] at hne
    unfold Ver.text
    have e1:=cut_back 43 s hne.2
    have e2:=cut_back 45 _ hne.1
    rw [show (Ver.mk x y z (zA 45 (zA 43 s).1).2.1 (zA 43 s).2.1).build=(zA 43 s).2.1 from rfl,show (Ver.mk x y z (zA 45 (zA 43 s).1).2.1 (zA 43 s).2.1).pre=(zA 45 (zA 43 s).1).2.1 from rfl]
    suffices hn:bX (Ver.mk x y z (zA 45 (zA 43 s).1).2.1 (zA 43 s).2.1)=(zA 45 (zA 43 s).1).1 by
     rw [hn,←e2,←e1]
    have hj:=join_split 46 (zA 45 (zA 43 s).1).1 []
    unfold pcs at h3
    unfold three at h3
    split at h3
    ·rename_i a b c hp
     rw [hp] at hj
     split at h3
     ·rename_i hI
      simp only [Bool.and_eq_true] at hI
      cases h3
      unfold bX
      rw [(numI_back hI.1.1).2,(numI_back hI.1.2).2,(numI_back hI.2).2]
      simpa [zG] using hj
     ·cases h3
    ·cases h3
   ·cases h
theorem print_eq {v:Ver}(h:v.may=true):v.print=v.text:=by unfold Ver.print;rw [if_pos h]
theorem print_bad {v:Ver}(h:v.may=false):v.print=[]:=by unfold Ver.print;rw [if_neg (by simp [h])]
theorem parse_eq (s:YL):parseI s=parseR s:=by
 unfold parseI
 by_cases h:(pG s).print=s
 ·rw [if_pos h]
  by_cases hm:(pG s).may=true
  ·rw [print_eq hm] at h
   have:=parseR_text hm
   rw [h] at this;exact this.symm
  ·rw [print_bad (Bool.eq_false_iff.2 hm)] at h
   subst h
   exact absurd (by decide) hm
 ·rw [if_neg h]
  cases hr:parseR s with
  |none=>rfl
  |some v=>
   obtain ⟨hm,ht⟩:=parseR_back hr
   subst ht
   rw [guess_text hm,print_eq hm] at h
   exact absurd rfl h
end
section
structure Wt where
 name:YL
 rng:YL
 fs:List YL
 bare:Bool
deriving DecidableEq
structure Nt where
 any:List Wt
 wh:YL
 opt:YL
deriving DecidableEq
structure Bt where
 name:YL
 rng:YL
 wh:YL
deriving DecidableEq
instance:DecidableEq Ft:=λa b=>
 if h:a.name=b.name/\a.of=b.of then isTrue (by cases a;cases b;cases h.1;cases h.2;rfl) else isFalse λe=>h (by rw [e];exact ⟨rfl,rfl⟩)
structure Rt where
 name:YL
 ver:Ver
 needs:List Nt
 bars:List Bt
 fts:List Ft
deriving DecidableEq
def txAny:YL:=[97,110,121,32]
def j6:YL:=[98,97,114,101]
def fS:YL:=[102,117,108,108]
def pT:YL:=[119,104,101,110,32]
def txPack:YL:=[112,97,99,107,97,103,101,32]
def txNeed:YL:=[110,101,101,100,10]
def txOpt:YL:=[111,112,116,105,111,110,32]
def txBar:YL:=[98,97,114,32]
def x6:YL:=[102,101,97,116,117,114,101]
def bS (l:List YL):YL:=if l=[] then [45] else zG 44 l
def fJ (b:Bool):YL:=if b then j6 else fS
def kQ (x:Wt):YL:=txAny++x.name++[32]++bS x.fs++[32]++fJ x.bare++[32]++x.rng++[10]
def vM (s:YL):YL:=if s=[] then [] else pT++s++[10]
def optnT (s:YL):YL:=if s=[] then [] else txOpt++s++[10]
def kW (n:Nt):YL:=txNeed++n.any.flatMap kQ++vM n.wh++optnT n.opt
def bC (b:Bt):YL:=txBar++b.name++[32]++b.rng++[10]++vM b.wh
def gK (f:Ft):YL:=zG 32 (x6::f.name::f.of)++[10]
def jB (r:Rt):YL:=txPack++r.name++[32]++r.ver.print++[10]
def kS (r:Rt):YL:=jB r++r.needs.flatMap kW++r.bars.flatMap bC++r.fts.flatMap gK
theorem v7 {α:Type}(f:α->YL){l:List α}{i:Nat}(hi:i<l.length):(l.take (i+1)).flatMap f=(l.take i).flatMap f++f l[i]:=by
 rw [List.take_succ_eq_append_getElem hi,List.flatMap_append];simp
theorem fZ {α:Type}(f:α->YL){l:List α}(i:Nat):((l.take i).flatMap f).length<=(l.flatMap f).length:=by
 have:l.flatMap f=(l.take i).flatMap f++(l.drop i).flatMap f:=by rw [←List.flatMap_append,List.take_append_drop]
 rw [this,List.length_append];omega
theorem fm_one {α:Type}(f:α->YL){l:List α}{x:α}(h:x∈l):(f x).length<=(l.flatMap f).length:=by
 obtain ⟨i,hi,rfl⟩:=List.getElem_of_mem h
 have h1:=fZ f (l:=l) (i+1)
 rw [v7 f hi,List.length_append] at h1;omega
theorem jn_part (b:UInt8):∀ {l:List YL} {x:YL},x∈l->x.length<=(zG b l).length
 | [y],x,h=>by rw [List.mem_singleton.1 h];exact Nat.le_refl _
 |y::z::r,x,h=>by
  rw [zG,List.length_append,List.length_cons]
  rcases List.mem_cons.1 h with rfl|h
  ·omega
  ·have:=jn_part b h;omega
theorem jn_many (b:UInt8):∀ {l:List YL},l.length<=(zG b l).length+1
 | []=>Nat.zero_le _
 | [y]=>by simp
 |y::z::r=>by
  have:=jn_many b (l:=z::r)
  rw [zG]
  simp only [List.length_append,List.length_cons] at this ⊢
  omega
end
section
structure Blk where
 b:Nat
 cs:Array Value
 ty:TypeId
structure Own (M:List Nat)(W w:World)(L:List Blk):Prop where
 os:w.os=W.os
 tape:w.tape=W.tape
 output:w.output=W.output
 size:W.heap.size<=w.heap.size
 drawn:W.drawn<=w.drawn
 kept:∀ k,k<W.heap.size->k∉M->w.heap[k]?=W.heap[k]?
 held:∀ x∈L,w.heap[x.b]?=some (.cells x.cs x.ty)
 base:∀ x∈L,W.heap.size<=x.b\/x.b∈M
 apart:(L.map Blk.b).Nodup
theorem Own.below {W w:World}{L:List Blk}(h:Own [] W w L):YB W w:=⟨h.os,h.tape,h.output,h.size,h.drawn,λk hk=>h.kept k hk (by simp)⟩
theorem Own.start (M:List Nat)(W:World):Own M W W []:=⟨rfl,rfl,rfl,Nat.le_refl _,Nat.le_refl _,λ_ _ _=>rfl,by simp,by simp,by simp⟩
theorem Own.lt {M:List Nat}{W w:World}{L:List Blk}(h:Own M W w L){x:Blk}(hx:x∈L):x.b<w.heap.size:=(Array.getElem?_eq_some_iff.1 (h.held x hx)).1
theorem Own.on {M:List Nat}{W w w':World}{L:List Blk}(h:Own M W w L)(hb:YB w w'):Own M W w' L:=
 ⟨hb.os.trans h.os,hb.tape.trans h.tape,hb.output.trans h.output,Nat.le_trans h.size hb.size,Nat.le_trans h.drawn hb.drawn,λk hk hm=>(hb.block k (Nat.lt_of_lt_of_le hk h.size)).trans (h.kept k hk hm),λx hx=>(hb.block x.b (h.lt hx)).trans (h.held x hx),h.base,h.apart⟩
theorem Own.drew {M:List Nat}{W w:World}{L:List Blk}(h:Own M W w L):Own M W {w with drawn:=w.drawn+1} L:=⟨h.os,h.tape,h.output,h.size,Nat.le_succ_of_le h.drawn,h.kept,h.held,h.base,h.apart⟩
theorem Own.get {M:List Nat}{W w:World}{L:List Blk}(h:Own M W w L){i:Nat}{x:Blk}(hi:L[i]?=some x):w.heap[x.b]?=some (.cells x.cs x.ty):=h.held x (List.mem_of_getElem? hi)
theorem Own.alloc {M:List Nat}{W w:World}{L:List Blk}(h:Own M W w L)(cs:Array Value)(T:TypeId):Own M W (w.alloc (.cells cs T)) (⟨w.heap.size,cs,T⟩::L):=by
 refine ⟨h.os,h.tape,h.output,Nat.le_trans h.size (by simp),h.drawn,λk hk hm=> ?_,λx hx=> ?_,λx hx=> ?_, ?_⟩
 ·rw [Below.heap_alloc w _ k (Nat.lt_of_lt_of_le hk h.size)];exact h.kept k hk hm
 ·rcases List.mem_cons.1 hx with rfl|hx
  ·exact heap_alloc_new w _
  ·exact (Below.heap_alloc w _ x.b (h.lt hx)).trans (h.held x hx)
 ·rcases List.mem_cons.1 hx with rfl|hx
  ·exact .inl h.size
  ·exact h.base x hx
 ·rw [List.map_cons,List.nodup_cons]
  refine ⟨λhm=> ?_,h.apart⟩
  obtain ⟨y,hy,he⟩:=List.mem_map.1 hm
  have:=h.lt hy
  rw [he] at this
  exact absurd this (Nat.lt_irrefl _)
theorem map_set_b (L:List Blk)(i:Nat)(x y:Blk)(hi:L[i]?=some x)(hb:y.b=x.b):(L.set i y).map Blk.b=L.map Blk.b:=by
 rw [List.map_set,hb]
 have:(L.map Blk.b)[i]?=some x.b:=by rw [List.getElem?_map,hi];rfl
 obtain ⟨hlt,he⟩:=List.getElem?_eq_some_iff.1 this
 rw [←he,List.set_getElem_self]
theorem nodup_at {α:Type}{l:List α}(h:l.Nodup){i j:Nat}{x:α}(hi:l[i]?=some x)(hj:l[j]?=some x):i=j:=by
 obtain ⟨a,ha⟩:=List.getElem?_eq_some_iff.1 hi
 obtain ⟨b,hb⟩:=List.getElem?_eq_some_iff.1 hj
 exact (List.getElem_inj h).1 (ha.trans hb.symm)
theorem Own.put {M:List Nat}{W w:World}{L:List Blk}(h:Own M W w L){i:Nat}{x:Blk}(hi:L[i]?=some x)(cs:Array Value):Own M W (w.setRow x.b cs) (L.set i ⟨x.b,cs,x.ty⟩):=by
 have hx:=List.mem_of_getElem? hi
 have hm:=map_set_b L i x ⟨x.b,cs,x.ty⟩ hi rfl
 have hsz:(w.setRow x.b cs).heap.size=w.heap.size:=size_setRow w x.b cs
 refine ⟨h.os,h.tape,h.output,by rw [hsz];exact h.size,h.drawn,λk hk hkm=> ?_,λy hy=> ?_,λy hy=> ?_,by rw [hm];exact h.apart⟩
 ·rw [setRow_other w x.b k cs (λe=>by
   rcases h.base x hx with h1|h1
   ·omega
   ·exact hkm (e▸h1))]
  exact h.kept k hk hkm
 ·obtain ⟨j,hj⟩:=List.mem_iff_getElem?.1 hy
  rw [List.getElem?_set] at hj
  split at hj
  ·rename_i hij
   split at hj
   ·obtain rfl:=Option.some.inj hj
    exact setRow_heap w x.b x.cs cs x.ty _ (h.held x hx)
   ·cases hj
  ·rename_i hij
   have hyL:=List.mem_of_getElem? hj
   have hne:y.b≠x.b:=λe=>hij (by
    have h1:(L.map Blk.b)[i]?=some x.b:=by rw [List.getElem?_map,hi];rfl
    have h2:(L.map Blk.b)[j]?=some x.b:=by rw [List.getElem?_map,hj,←e];rfl
    exact nodup_at h.apart h1 h2)
   rw [setRow_other w x.b y.b cs hne]
   exact h.held y hyL
 ·have:y.b∈(L.set i ⟨x.b,cs,x.ty⟩).map Blk.b:=List.mem_map.2 ⟨y,hy,rfl⟩
  rw [hm] at this
  obtain ⟨z,hz,he⟩:=List.mem_map.1 this
  rw [←he];exact h.base z hz
def upd (f:Nat->Value):Option Tmp->Value->Nat->Value
 |some d,v=>λt=>bif Nat.beq t d then v else f t
 |none,_=>f
def Fr (n:Nat)(f:Nat->Value):Act:={tmps:=Array.ofFn (n:=n) λi=>f i.val,defers:=[]}
def ev (n:Nat)(f:Nat->Value):Operand->Value
 | .tmp t=>bif Nat.blt t n then f t else undef
 | .const v=>v
 | .global g=> .pointer (some ⟨g,0,none⟩)
 | .func g=> .func (.func g) #[] #[]
theorem blt_t {t n:Nat}(h:t<n):Nat.blt t n=true:=Nat.ble_eq_true_of_le h
theorem blt_f {t n:Nat}(h:¬ t<n):Nat.blt t n=false:=Bool.eq_false_iff.2 λe=>h (Nat.le_of_ble_eq_true e)
theorem g0 (n:Nat)(f:Nat->Value)(t:Nat):(Array.ofFn (n:=n) λi=>f i.val).getD t undef=bif Nat.blt t n then f t else undef:=by
 rw [Array.getD_eq_getD_getElem?,Array.getElem?_ofFn]
 by_cases h:t<n
 ·rw [dif_pos h,blt_t h];rfl
 ·rw [dif_neg h,blt_f h];rfl
theorem kU (n:Nat)(f:Nat->Value):(Fr n f).eval=ev n f:=by
 funext x
 cases x with
 |tmp t=>exact g0 n f t
 |_=>rfl
theorem vW (n:Nat)(f:Nat->Value)(d:Option Tmp)(v:Value):(Fr n f).put d v=Fr n (upd f d v):=by
  cases d with
  |none=>rfl
  |some d=>
    show ({tmps:=(Array.ofFn (n:=n) λi=>f i.val).setIfInBounds d v,defers:=[]}:Act)={tmps:=Array.ofFn (n:=n) λi=>upd f (some d) v i.val,defers:=[]}
    have key:(Array.ofFn (n:=n) λi=>f i.val).setIfInBounds d v=Array.ofFn (n:=n) λi=>upd f (some d) v i.val:=by
     apply Array.ext_getElem?
     intro i
     rw [Array.getElem?_setIfInBounds,Array.getElem?_ofFn,Array.getElem?_ofFn]
     by_cases h:i<n
     · rw [dif_pos h,dif_pos h]
       by_cases hd:d=i
       · subst hd
         simp [upd,h]
       · have:Nat.beq i d=false:=by rw [Bool.eq_false_iff];intro e;exact hd (Nat.eq_of_beq_eq_true e).symm
         rw [if_neg hd];simp [upd,this]
     · rw [dif_neg h,dif_neg h]
       by_cases hd:d=i
       · subst hd;simp [h]
       · rw [if_neg hd]
    rw [key]
def asB:Value->Option Bool
 | .bool b=>some b
 |_=>none
def yl (ops:Array Oper)(n:Nat)(f:Nat->Value)(j:Nat):Option Bool:=
 match (ops[j]?).bind (·.dst) with
 |some d=>bif Nat.blt d n then asB (f d) else none
 |none=>none
theorem Fr_yielded (ops:Array Oper)(n:Nat)(f:Nat->Value):yielded ops (Fr n f).tmps=yl ops n f:=by
 funext j
 unfold yielded yl
 cases h:(ops[j]?).bind (·.dst) with
 |none=>rfl
 |some d=>
  show (match (Array.ofFn (n:=n) λi=>f i.val)[d]? with|some (.bool b)=>some b|_=>none)=_
  rw [Array.getElem?_ofFn]
  by_cases hd:d<n
  ·rw [dif_pos hd]
   dsimp only
   rw [blt_t hd]
   cases f d<;>rfl
  ·rw [dif_neg hd]
   dsimp only
   rw [blt_f hd];rfl
def zU (ops:Array Oper)(n:Nat)(f:Nat->Value)(o:Oper):Bool:=Region.wanted o (yl ops n f)
section
variable {M:List Nat}{P:Program}{n:Nat}{ops:Array Oper}{W:World}{Q:Exit->Act->World->Prop}{rest:List Oper}{o:Oper}{L:List Blk}{f:Nat->Value}
structure Seg (M:List Nat)(P:Program)(n:Nat)(ops:Array Oper)(W:World)(Q:Exit->Act->World->Prop)(rest:List Oper)(L:List Blk)(f:Nat->Value):Prop where
 go:∀ w,Own M W w L->wpList P ops Q rest (Fr n f) w
structure Fin (M:List Nat)(n:Nat)(W:World)(Q:Exit->Act->World->Prop)(e:Exit)(L:List Blk)(f:Nat->Value):Prop where
 go:∀ w,Own M W w L->Q e (Fr n f) w
structure Ok (M:List Nat)(P:Program)(n:Nat)(W:World)(Q:Exit->Act->World->Prop)(c:Code)(L:List Blk)(f:Nat->Value):Prop where
 go:∀ w,Own M W w L->c.wp P Q (Fr n f) w
structure mW (M:List Nat)(P:Program)(n:Nat)(ops:Array Oper)(W:World)(Qe:List Blk->(Nat->Value)->Prop)(rest:List Oper)(L:List Blk)(f:Nat->Value):Prop where
 go:wpQuiet P ops (λw=>Own M W w L) (λa=>∃ f',a=Fr n f'/\Qe L f') rest (Fr n f)
theorem qZ (ops:Array Oper)(n:Nat)(f:Nat->Value)(o:Oper):Region.wanted o (yielded ops (Fr n f).tmps)=zU ops n f o:=by rw [Fr_yielded];rfl
theorem nW (h:Fin M n W Q .normal L f):Seg M P n ops W Q [] L f:=⟨h.go⟩
theorem s_skip (hw:zU ops n f o=false)(h:Seg M P n ops W Q rest L (upd f o.dst undef)):Seg M P n ops W Q (o::rest) L f:=⟨λw hO=>by
 have:=h.go w hO
 unfold wpList
 rw [qZ,hw,if_neg Bool.false_ne_true,vW]
 exact this⟩
theorem Zk (h:Seg M P n ops W Q rest L (upd f o.dst undef))(hw:zU ops n f o=false:=by kernel_rfl):Seg M P n ops W Q (o::rest) L f:=s_skip hw h
theorem vC (hw:zU ops n f o=true)(h:∀ w,Own M W w L->o.wp P (Fr n f) w (wpList P ops Q rest) Q):Seg M P n ops W Q (o::rest) L f:=⟨λw hO=>by
 unfold wpList
 rw [qZ,hw,if_pos rfl]
 exact .inl (h w hO)⟩
theorem vA {K:Act->World->Prop}{w w':World}(v:Value)(hr:(execOp (ev n f) o).run P w= .ok (.value v) w')(h:K (Fr n (upd f o.dst v)) w'):o.wp P (Fr n f) w K Q:=by
 unfold Oper.wp
 rw [kU,hr]
 show K ((Fr n f).put o.dst v) w'
 rw [vW];exact h
theorem bU (v:Value)(hw:zU ops n f o=true)(hr:∀ w,(execOp (ev n f) o).run P w= .ok (.value v) w)(h:Seg M P n ops W Q rest L (upd f o.dst v)):Seg M P n ops W Q (o::rest) L f:=
 vC hw λw hO=>vA v (hr w) (h.go w hO)
theorem Zv (v:Value)(h:Seg M P n ops W Q rest L (upd f o.dst v))(hw:zU ops n f o=true:=by kernel_rfl)(hr:∀ w,(execOp (ev n f) o).run P w= .ok (.value v) w:=by intro _;kernel_rfl):Seg M P n ops W Q (o::rest) L f:=bU v hw hr h
theorem s_read (v:Value)(hw:zU ops n f o=true)(hr:∀ w,Own M W w L->(execOp (ev n f) o).run P w= .ok (.value v) w)(h:Seg M P n ops W Q rest L (upd f o.dst v)):Seg M P n ops W Q (o::rest) L f:=
 vC hw λw hO=>vA v (hr w hO) (h.go w hO)
theorem nO {K:Act->World->Prop}{w:World}{k:FuncId}{args:Array Value}(he:(execOp (ev n f) o).run P w= .ok (.enter k args) w)
  (hc:Calls P k args w λe w'=>∃ v,e= .returned v/\K (Fr n (upd f o.dst v)) w'):o.wp P (Fr n f) w K Q:=by
 unfold Oper.wp
 rw [kU,he]
 show Calls P k args w _
 refine hc.mono λe w' ⟨v,e1,e2⟩=> ?_
 subst e1
 show K ((Fr n f).put o.dst v) w'
 rw [vW];exact e2
theorem s_call {k:FuncId}{args:Array Value}(v:Value)(hw:zU ops n f o=true)(he:∀ w,(execOp (ev n f) o).run P w= .ok (.enter k args) w)
  (hc:∀ w,Own M W w L->Calls P k args w (YR v w)) (h:Seg M P n ops W Q rest L (upd f o.dst v)):Seg M P n ops W Q (o::rest) L f:=
 vC hw λw hO=>nO (he w) ((hc w hO).mono λe w' ⟨e1,e2⟩=>⟨v,e1,h.go w' (hO.on e2)⟩)
theorem Zc {k:FuncId}{args:Array Value}(v:Value)(hc:∀ w,Own M W w L->Calls P k args w (YR v w))(h:Seg M P n ops W Q rest L (upd f o.dst v))(hw:zU ops n f o=true:=by kernel_rfl)(he:∀ w,(execOp (ev n f) o).run P w= .ok (.enter k args) w:=by intro _;kernel_rfl):Seg M P n ops W Q (o::rest) L f:=s_call v hw he hc h
theorem s_callx {k:FuncId}{args:Array Value}(R:Value->List Blk->Prop)(hw:zU ops n f o=true)(he:∀ w,(execOp (ev n f) o).run P w= .ok (.enter k args) w)
  (hc:∀ w,Own M W w L->Calls P k args w λe w'=>∃ v L',e= .returned v/\R v L'/\Own M W w' L') (h:∀ v L',R v L'->Seg M P n ops W Q rest L' (upd f o.dst v)):Seg M P n ops W Q (o::rest) L f:=
 vC hw λw hO=>nO (he w) ((hc w hO).mono λe w' ⟨v,L',e1,e2,e3⟩=>⟨v,e1,(h v L' e2).go w' e3⟩)
def aggB:TypeDesc->Bool
 | .struct _| .array _ _=>true
 |_=>false
def yZ (P:Program)(ty:TypeId)(cs:Array Value)(off:Nat):Option Value:=
 match P.underlying ty,P.info? ty with
 |some (.struct _),some i=>if off+i.size<=cs.size then some (.agg (cs.toList.drop off|>.take i.size).toArray) else none
 |some (.array _ _),some i=>if off+i.size<=cs.size then some (.agg (cs.toList.drop off|>.take i.size).toArray) else none
 |some _,some _=>cs[off]?
 |_,_=>none
theorem xP (b o j:Nat):(⟨b,o,none⟩:Addr).add j=⟨b,o+j,none⟩:=by unfold Addr.add;split<;>simp_all
theorem run_agg_at {ty:TypeId}{d:TypeDesc}{i:TypeInfo}{cs:Array Value}{w:World}{b off:Nat}{T:TypeId}(hu:P.underlying ty=some d)(hd:aggB d=true)(hi:P.info? ty=some i)
  (hg:w.heap[b]?=some (.cells cs T)) (hle:off+i.size<=cs.size):(loadVar ty ⟨b,off,none⟩).run P w= .ok (.agg (cs.toList.drop off|>.take i.size).toArray) w:=by
 have hlen:((cs.toList.drop off).take i.size).length=i.size:=by simp;omega
 have hl:=run_loadCells_list (P:=P) w ⟨b,off,none⟩ ((cs.toList.drop off).take i.size) (λj v hv=>by
  rw [xP,cell_of_row w b (off+j) cs T _ hg]
  have hj:j<i.size:=by have:=(List.getElem?_eq_some_iff.1 hv).1;rw [hlen] at this;exact this
  rw [List.getElem?_take,if_pos hj,List.getElem?_drop] at hv
  simpa using hv)
 rw [hlen] at hl
 have hagg:(isAgg ty).run P w= .ok true w:=by
  unfold isAgg
  rw [Sem.run_bind,run_underlying hu w]
  cases d<;>simp_all [aggB]
 simp [loadVar,Sem.run_bind,hagg,sizeOf,typeInfo,hi,hl]
theorem yU {ty:TypeId}{cs:Array Value}{off:Nat}{v:Value}(h:yZ P ty cs off=some v){w:World}{b:Nat}{T:TypeId}(hg:w.heap[b]?=some (.cells cs T)):
  (loadVar ty ⟨b,off,none⟩).run P w= .ok v w:=by
 unfold yZ at h
 cases hu:P.underlying ty with
 |none=>rw [hu] at h;simp at h
 |some d=>
  cases hi:P.info? ty with
  |none=>rw [hu,hi] at h;cases d<;>simp at h
  |some i=>
   rw [hu,hi] at h
   by_cases hd:aggB d=true
   ·have h2:(if off+i.size<=cs.size then some (Value.agg (cs.toList.drop off|>.take i.size).toArray) else none)=some v:=by
     cases d<;>first|exact h|(simp [aggB] at hd)
    split at h2
    ·rename_i hle
     obtain rfl:=Option.some.inj h2
     exact run_agg_at hu hd hi hg hle
    ·cases h2
   ·have h2:cs[off]?=some v:=by cases d<;>first|exact h|(simp [aggB] at hd)
    have hagg:(isAgg ty).run P w= .ok false w:=by
     unfold isAgg
     rw [Sem.run_bind,run_underlying hu w]
     cases d<;>simp_all [aggB]
    have hc:w.cell? ⟨b,off,none⟩=some v:=(cell_of_row w b off cs T _ hg).trans h2
    simp [loadVar,Sem.run_bind,hagg,run_load,hc,Result.andThen]
theorem qL {ty:TypeId}{x:Operand}{a:Addr}{v:Value}{w:World}(ho:o.op= .load ty x)(hx:ev n f x= .pointer (some a))(hl:(loadVar ty a).run P w= .ok v w):(execOp (ev n f) o).run P w= .ok (.value v) w:=by
 unfold execOp
 simp only [ho,hx,Instr.loadAt,Instr.sureAddr,Sem.run_bind,Sem.run_pure,Result.andThen_ok,hl]
theorem s_load (i:Nat)(x:Blk){ty:TypeId}{p:Operand}{off:Nat}(v:Value)(hw:zU ops n f o=true)(ho:o.op= .load ty p)(hL:L[i]?=some x)(hp:ev n f p= .pointer (some ⟨x.b,off,none⟩))(hv:yZ P ty x.cs off=some v)
  (h:Seg M P n ops W Q rest L (upd f o.dst v)):Seg M P n ops W Q (o::rest) L f:=
 s_read v hw (λ_ hO=>qL ho hp (yU hv (hO.get hL))) h
theorem Zl (i:Nat)(x:Blk){ty:TypeId}{p:Operand}{off:Nat}(v:Value)(h:Seg M P n ops W Q rest L (upd f o.dst v))(ho:o.op= .load ty p:=by rfl)(hw:zU ops n f o=true:=by kernel_rfl)(hL:L[i]?=some x:=by rfl)(hp:ev n f p= .pointer (some ⟨x.b,off,none⟩):=by kernel_rfl)(hv:yZ P ty x.cs off=some v:=by kernel_rfl):Seg M P n ops W Q (o::rest) L f:=s_load i x v hw ho hL hp hv h
theorem s_old {ty:TypeId}{p:Operand}{a:Addr}(v:Value)(hw:zU ops n f o=true)(ho:o.op= .load ty p)(hp:ev n f p= .pointer (some a))(hv:∀ w,Own M W w L->(loadVar ty a).run P w= .ok v w)
  (h:Seg M P n ops W Q rest L (upd f o.dst v)):Seg M P n ops W Q (o::rest) L f:=
 s_read v hw (λw hO=>qL ho hp (hv w hO)) h
theorem Zo {ty:TypeId}{p:Operand}{a:Addr}(v:Value)(hv:∀ w,Own M W w L->(loadVar ty a).run P w= .ok v w)(h:Seg M P n ops W Q rest L (upd f o.dst v))(ho:o.op= .load ty p:=by rfl)(hw:zU ops n f o=true:=by kernel_rfl)(hp:ev n f p= .pointer (some a):=by kernel_rfl):Seg M P n ops W Q (o::rest) L f:=s_old v hw ho hp hv h
theorem s_alloc {T:TypeId}{i:TypeInfo}(z:Value)(hw:zU ops n f o=true)(ho:o.op= .alloc T)(hi:P.info? T=some i)(hz:i.zero=some z)
  (h:∀ b,Seg M P n ops W Q rest (⟨b,z.cells,T⟩::L) (upd f o.dst (.pointer (some ⟨b,0,none⟩)))):Seg M P n ops W Q (o::rest) L f:=
 vC hw λw hO=>by
  refine vA (Zp w.heap.size 0) (w':=w.alloc (.cells z.cells T)) ?_ ((h w.heap.size).go _ (hO.alloc _ _))
  unfold execOp
  simp [ho,Instr.alloc,zeroValue,typeInfo,hi,hz,newVar,newRow,Sem.run_bind]
theorem s_box {T:TypeId}{x:Operand}(v:Value)(hw:zU ops n f o=true)(ho:o.op= .box T x)(hx:ev n f x=v)
  (h:∀ b,Seg M P n ops W Q rest (⟨b,v.cells,T⟩::L) (upd f o.dst (.pointer (some ⟨b,0,none⟩)))):Seg M P n ops W Q (o::rest) L f:=
 vC hw λw hO=>by
  refine vA (Zp w.heap.size 0) (w':=w.alloc (.cells v.cells T)) ?_ ((h w.heap.size).go _ (hO.alloc _ _))
  unfold execOp
  simp [ho,hx,Instr.box,newVar,newRow,Sem.run_bind]
theorem Zb {T:TypeId}{x:Operand}(v:Value)(h:∀ b,Seg M P n ops W Q rest (⟨b,v.cells,T⟩::L) (upd f o.dst (.pointer (some ⟨b,0,none⟩))))(ho:o.op= .box T x:=by rfl)(hw:zU ops n f o=true:=by kernel_rfl)(hx:ev n f x=v:=by kernel_rfl):Seg M P n ops W Q (o::rest) L f:=s_box v hw ho hx h
def zW (cs:Array Value)(off:Nat)(vs:Array Value):Array Value:=(cs.toList.take off++vs.toList++cs.toList.drop (off+vs.size)).toArray
theorem s_store (i:Nat)(x:Blk){T:TypeId}{t:TypeInfo}{p q:Operand}{off:Nat}(v:Value)(hw:zU ops n f o=true)(ho:o.op= .store T p q)(hd:o.dst=none)(hL:L[i]?=some x)
  (hp:ev n f p= .pointer (some ⟨x.b,off,none⟩)) (hq:ev n f q=v) (hi:P.info? T=some t) (hs:v.cells.size=t.size) (hle:off+t.size<=x.cs.size) (h1:∀ u∈v.cells.toList,u.oneCell'=true)
  (h:Seg M P n ops W Q rest (L.set i ⟨x.b,zW x.cs off v.cells,x.ty⟩) f):Seg M P n ops W Q (o::rest) L f:=
 vC hw λw hO=>by
  have hst:=run_storeCells_at (P:=P) x.b off x.ty v.cells.toList 0 x.cs w (hO.get hL) (by simp;omega) h1
  unfold Oper.wp
  rw [kU]
  have hr:(execOp (ev n f) o).run P w= .ok .skip (w.setRow x.b (zW x.cs off v.cells)):=by
   unfold execOp
   simp only [ho,hp,hq,Instr.storeAt,Instr.sureAddr,Sem.run_bind,Sem.run_pure,Result.andThen_ok,storeVar,sizeOf,typeInfo,hi,hs,run_program]
   simp only [ne_eq,not_true_eq_false,if_false]
   have:(storeCells ⟨x.b,off,none⟩ v.cells.toList).run P w= .ok () (w.setRow x.b (zW x.cs off v.cells)):=by
    rw [hst];unfold zW;simp
   simp [this]
  rw [hr]
  show wpList P ops Q rest ((Fr n f).put o.dst undef) _
  rw [vW,hd]
  exact h.go _ (hO.put hL _)
theorem q_nil {Qe:List Blk->(Nat->Value)->Prop}(h:Qe L f):mW M P n ops W Qe [] L f:=⟨⟨f,rfl,h⟩⟩
theorem q_skip {Qe:List Blk->(Nat->Value)->Prop}(hw:zU ops n f o=false)(h:mW M P n ops W Qe rest L (upd f o.dst undef)):mW M P n ops W Qe (o::rest) L f:=by
 refine ⟨?_⟩
 replace h:=h.go
 refine BigFrame.wpQuiet_skip (by rw [qZ];exact hw) ?_
 rw [vW];exact h
theorem Zj {Qe:List Blk->(Nat->Value)->Prop}(h:mW M P n ops W Qe rest L (upd f o.dst undef))(hw:zU ops n f o=false:=by kernel_rfl):mW M P n ops W Qe (o::rest) L f:=q_skip hw h
theorem q_read {Qe:List Blk->(Nat->Value)->Prop}(v:Value)(hw:zU ops n f o=true)(hr:∀ w,Own M W w L->(execOp (ev n f) o).run P w= .ok (.value v) w)(h:mW M P n ops W Qe rest L (upd f o.dst v)):mW M P n ops W Qe (o::rest) L f:=by
 refine ⟨?_⟩
 replace h:=h.go
 refine BigFrame.wpQuiet_want (by rw [qZ];exact hw) λK hK=>⟨v,λw hO=> ?_,hK _ ?_⟩
 ·unfold Oper.quietAt
  rw [kU,hr w hO]
  exact ⟨rfl,rfl⟩
 ·rw [vW];exact h
theorem q_val {Qe:List Blk->(Nat->Value)->Prop}(v:Value)(hw:zU ops n f o=true)(hr:∀ w,(execOp (ev n f) o).run P w= .ok (.value v) w)(h:mW M P n ops W Qe rest L (upd f o.dst v)):mW M P n ops W Qe (o::rest) L f:=
 q_read v hw (λw _=>hr w) h
theorem Zw {Qe:List Blk->(Nat->Value)->Prop}(v:Value)(h:mW M P n ops W Qe rest L (upd f o.dst v))(hw:zU ops n f o=true:=by kernel_rfl)(hr:∀ w,(execOp (ev n f) o).run P w= .ok (.value v) w:=by intro _;kernel_rfl):mW M P n ops W Qe (o::rest) L f:=q_val v hw hr h
theorem q_call {Qe:List Blk->(Nat->Value)->Prop}{k:FuncId}{args:Array Value}(v:Value)(hw:zU ops n f o=true)(he:∀ w,(execOp (ev n f) o).run P w= .ok (.enter k args) w)
  (hc:∀ w,Own M W w L->Calls P k args w (YR v w)) (h:mW M P n ops W Qe rest L (upd f o.dst v)):mW M P n ops W Qe (o::rest) L f:=by
 refine ⟨?_⟩
 replace h:=h.go
 refine BigFrame.wpQuiet_want (by rw [qZ];exact hw) λK hK=>⟨v,λw hO=> ?_,hK _ ?_⟩
 ·unfold Oper.quietAt
  rw [kU,he w]
  exact ⟨rfl,(hc w hO).mono λe w' ⟨e1,e2⟩=>⟨e1,hO.on e2⟩⟩
 ·rw [vW];exact h
theorem Zq {Qe:List Blk->(Nat->Value)->Prop}{k:FuncId}{args:Array Value}(v:Value)(hc:∀ w,Own M W w L->Calls P k args w (YR v w))(h:mW M P n ops W Qe rest L (upd f o.dst v))(hw:zU ops n f o=true:=by kernel_rfl)(he:∀ w,(execOp (ev n f) o).run P w= .ok (.enter k args) w:=by intro _;kernel_rfl):mW M P n ops W Qe (o::rest) L f:=q_call v hw he hc h
theorem q_load {Qe:List Blk->(Nat->Value)->Prop}(i:Nat)(x:Blk){ty:TypeId}{p:Operand}{off:Nat}(v:Value)(hw:zU ops n f o=true)(ho:o.op= .load ty p)(hL:L[i]?=some x)(hp:ev n f p= .pointer (some ⟨x.b,off,none⟩))(hv:yZ P ty x.cs off=some v)
  (h:mW M P n ops W Qe rest L (upd f o.dst v)):mW M P n ops W Qe (o::rest) L f:=
 q_read v hw (λ_ hO=>qL ho hp (yU hv (hO.get hL))) h
theorem Zm {Qe:List Blk->(Nat->Value)->Prop}(i:Nat)(x:Blk){ty:TypeId}{p:Operand}{off:Nat}(v:Value)(h:mW M P n ops W Qe rest L (upd f o.dst v))(ho:o.op= .load ty p:=by rfl)(hw:zU ops n f o=true:=by kernel_rfl)(hL:L[i]?=some x:=by kernel_rfl)(hp:ev n f p= .pointer (some ⟨x.b,off,none⟩):=by kernel_rfl)(hv:yZ P ty x.cs off=some v:=by kernel_rfl):mW M P n ops W Qe (o::rest) L f:=q_load i x v hw ho hL hp hv h
theorem kA {x y:Code}(h:Ok M P n W (Exit.then (Code.wp P y Q) Q) x L f):Ok M P n W Q (.seq x y) L f:=⟨λw hO=>wp_seq (h.go w hO)⟩
theorem kO {id:Nat}{l:List Oper}(h:Seg M P n l.toArray W Q l L f):Ok M P n W Q (.region id l.toArray false) L f:=⟨λw hO=>wp_region_lit (h.go w hO)⟩
theorem ok_draw {id:Nat}{l:List Oper}(hm:P.follows .mixedOrders=true)(hB:Region.lexB .any l.toArray=true)(h:mW M P n l.toArray W (Fin M n W Q .normal) l L f):Ok M P n W Q (.region id l.toArray true) L f:=⟨λw hO=>
 wp_region_quiet (C:=λw=>Own M W w L) hm hB hO.drew (by
  have e:l.toArray.toList=l:=by simp
  rw [e]
  have key:∀ (r:List Oper) (a:Act),wpQuiet P l.toArray (λw=>Own M W w L) (λa=>∃ f',a=Fr n f'/\Fin M n W Q .normal L f') r a->wpQuiet P l.toArray (λw=>Own M W w L) (λa'=>∀ w',Own M W w' L->Q .normal a' w') r a:=by
   intro r
   induction r with
   |nil=>rintro a ⟨f',rfl,h⟩;exact h.go
   |cons o r ih=>
    intro a h
    unfold wpQuiet at h ⊢
    split
    ·rename_i hw;rw [if_pos hw] at h;exact Oper.quiet_mono ih h
    ·rename_i hw;rw [if_neg hw] at h;exact ih _ h
  exact key l _ h.go)⟩
theorem ok_true {c:Operand}{x y:Code}(hc:ev n f c= .bool true)(h:Ok M P n W Q x L f):Ok M P n W Q (.cond c x y) L f:=⟨λw hO=>wp_cond_true (by rw [kU];exact hc) (h.go w hO)⟩
theorem Zt {c:Operand}{x y:Code}(h:Ok M P n W Q x L f)(hc:ev n f c= .bool true:=by kernel_rfl):Ok M P n W Q (.cond c x y) L f:=ok_true hc h
theorem ok_false {c:Operand}{x y:Code}(hc:ev n f c= .bool false)(h:Ok M P n W Q y L f):Ok M P n W Q (.cond c x y) L f:=⟨λw hO=>wp_cond_false (by rw [kU];exact hc) (h.go w hO)⟩
theorem Zf {c:Operand}{x y:Code}(h:Ok M P n W Q y L f)(hc:ev n f c= .bool false:=by kernel_rfl):Ok M P n W Q (.cond c x y) L f:=ok_false hc h
theorem mJ {id:Nat}{c:Code}(h:Ok M P n W (Exit.inBlock id Q) c L f):Ok M P n W Q (.block id c) L f:=⟨λw hO=>wp_block (h.go w hO)⟩
theorem ok_exit {id:Nat}(h:Fin M n W Q (.exit id) L f):Ok M P n W Q (.exit id) L f:=⟨λw hO=>wp_exit (h.go w hO)⟩
theorem ok_skip (h:Fin M n W Q .normal L f):Ok M P n W Q .skip L f:=⟨λw hO=>wp_skip (h.go w hO)⟩
theorem gG (h:Fin M n W Q .ret L f):Ok M P n W Q .ret L f:=⟨λw hO=>wp_ret (h.go w hO)⟩
theorem vV {y:Code}(h:Ok M P n W Q y L f):Fin M n W (Exit.then (Code.wp P y Q) Q) .normal L f:=⟨h.go⟩
theorem ZN {y:Code}(h:Ok M P n W Q y L f):Seg M P n ops W (Exit.then (Code.wp P y Q) Q) [] L f:=nW (vV h)
theorem ZO {y:Code}{id:Nat}{l:List Oper}(h:Seg M P n l.toArray W (Exit.then (Code.wp P y Q) Q) l L f):Ok M P n W Q (.seq (.region id l.toArray false) y) L f:=kA (kO h)
theorem ZR {y:Code}{id:Nat}{l:List Oper}(h:Seg M P n l.toArray W (Exit.then (Code.wp P y Q) Q) l L f):Seg M P n ops W (Exit.then (Code.wp P (.seq (.region id l.toArray false) y) Q) Q) [] L f:=ZN (ZO h)
theorem ZY {c:Operand}{x y:Code}(h:Ok M P n W Q x L f)(hc:ev n f c= .bool true:=by kernel_rfl):Seg M P n ops W (Exit.then (Code.wp P (.cond c x y) Q) Q) [] L f:=ZN (ok_true hc h)
theorem ZX {c:Operand}{x y:Code}(h:Ok M P n W Q y L f)(hc:ev n f c= .bool false:=by kernel_rfl):Seg M P n ops W (Exit.then (Code.wp P (.cond c x y) Q) Q) [] L f:=ZN (ok_false hc h)
theorem ZB {y:Code}(h:Ok M P n W Q y L f):Ok M P n W (Exit.then (Code.wp P y Q) Q) .skip L f:=ok_skip (vV h)
theorem yH {K:Act->World->Prop}(h:Fin M n W Q .ret L f):Fin M n W (Exit.then K Q) .ret L f:=⟨h.go⟩
theorem wF {K:Act->World->Prop}{id:Nat}(h:Fin M n W Q (.exit id) L f):Fin M n W (Exit.then K Q) (.exit id) L f:=⟨h.go⟩
theorem fin_block {id:Nat}(h:Fin M n W Q .normal L f):Fin M n W (Exit.inBlock id Q) .normal L f:=⟨h.go⟩
theorem qW {id:Nat}(h:Fin M n W Q .ret L f):Fin M n W (Exit.inBlock id Q) .ret L f:=⟨h.go⟩
theorem d4 {id:Nat}(h:Fin M n W Q .normal L f):Fin M n W (Exit.inBlock id Q) (.exit id) L f:=⟨λw hO=>by
 show if id=id then _ else _
 rw [if_pos rfl];exact h.go w hO⟩
theorem fin_block_other {id id':Nat}(hne:id'≠id)(h:Fin M n W Q (.exit id') L f):Fin M n W (Exit.inBlock id Q) (.exit id') L f:=⟨λw hO=>by
 show if id'=id then _ else _
 rw [if_neg hne];exact h.go w hO⟩
def Round (M:List Nat)(n:Nat)(W:World)(Inv:List Blk->(Nat->Value)->Nat->Prop)(m:Nat)(Q:Exit->Act->World->Prop):Exit->Act->World->Prop:=
 Exit.then (λa w=>∃ L f m',m'<m/\Inv L f m'/\Own M W w L/\a=Fr n f) Q
theorem ok_loop {c:Code}(Inv:List Blk->(Nat->Value)->Nat->Prop)(m:Nat)(h0:Inv L f m)(h:∀ L f m,Inv L f m->Ok M P n W (Round M n W Inv m Q) c L f):Ok M P n W Q (.loop c) L f:=⟨λw hO=>by
 intro b k cs
 have run:∀ (m:Nat) (L:List Blk) (f:Nat->Value) (w:World),Inv L f m->Own M W w L→∃ e a' w',Q e a' w'/\Arrives P (lone (b.at (Fr n f) (.code c:: .inLoop c::k)) cs w) b k cs e a' w':=by
  intro m
  induction m using Nat.strongRecOn with
  |_ m ih=>
   intro L f w hI hO
   obtain ⟨e,a₁,w₁,hq,harr⟩:=(h L f m hI).go w hO b (.inLoop c::k) cs
   cases e with
   |normal=>
    obtain ⟨L',f',m',hlt,hI',hO',rfl⟩:=hq
    obtain ⟨e₂,a₂,w₂,hq₂,harr₂⟩:=ih m' hlt L' f' w₁ hI' hO'
    exact ⟨e₂,a₂,w₂,hq₂,.of_steps (Steps.trans harr (.one step_inLoop)) harr₂⟩
   |exit id=>exact ⟨_,a₁,w₁,hq,.pass (x:= .inLoop c) rfl (λ_ _=> .inl (by simp)) harr⟩
   |goto l=>exact ⟨_,a₁,w₁,hq,.pass (x:= .inLoop c) rfl (λ_ _=> .inl (by simp)) harr⟩
   |ret=>exact ⟨_,a₁,w₁,hq,.pass (x:= .inLoop c) rfl (λ_ _=> .inl (by simp)) harr⟩
   |panic ch=>exact ⟨_,a₁,w₁,hq,.pass (x:= .inLoop c) rfl (λ_ _=> .inl (by simp)) harr⟩
   |outgrown=>exact ⟨_,a₁,w₁,hq,.pass (x:= .inLoop c) rfl (λ_ _=> .inl (by simp)) harr⟩
 obtain ⟨e,a',w',hq,harr⟩:=run m L f w h0 hO
 exact ⟨e,a',w',hq,.of_steps (.one step_loop) harr⟩⟩
theorem fin_round {Inv:List Blk->(Nat->Value)->Nat->Prop}{m m':Nat}(hlt:m'<m)(hI:Inv L f m'):Fin M n W (Round M n W Inv m Q) .normal L f:=⟨λw hO=>⟨L,f,m',hlt,hI,hO,rfl⟩⟩
theorem dZ {Inv:List Blk->(Nat->Value)->Nat->Prop}{m:Nat}(h:Fin M n W Q .ret L f):Fin M n W (Round M n W Inv m Q) .ret L f:=⟨h.go⟩
theorem d3 {Inv:List Blk->(Nat->Value)->Nat->Prop}{m id:Nat}(h:Fin M n W Q (.exit id) L f):Fin M n W (Round M n W Inv m Q) (.exit id) L f:=⟨h.go⟩
theorem nR {f:Nat->Value}{d:Nat}{v:Value}(h:f d=v):f=upd f (some d) v:=by
 funext t
 show f t=bif Nat.beq t d then v else f t
 by_cases e:t=d
 ·subst e
  have:Nat.beq t t=true:=Nat.beq_refl t
  rw [this];exact h
 ·have:Nat.beq t d=false:=by rw [Bool.eq_false_iff];intro h2;exact e (Nat.eq_of_beq_eq_true h2)
  rw [this];rfl
theorem calls_okM (M:List Nat){k:FuncId}{fn:Func}{c:Code}{args:Array Value}{R:Ending->World->Prop}(hf:P.funcs[k]?=some fn)(hb:fn.body=some c)(hn:fn.ntmps=n)(hle:Nat.ble args.size n=true)
  (h:Ok M P n W (bodyPost P fn R) c [] (λt=>args.getD t undef)):Calls P k args W R:=by
 refine calls_of_wp hf hb ?_
 have hle':args.size<=n:=Nat.le_of_ble_eq_true hle
 have e:({tmps:=args++Array.replicate (fn.ntmps-args.size) undef,defers:=[]}:Act)=Fr n (λt=>args.getD t undef):=by
  unfold Fr
  congr 1
  rw [hn]
  apply Array.ext_getElem?
  intro i
  rw [Array.getElem?_ofFn,Array.getElem?_append,Array.getElem?_replicate]
  by_cases hi:i<args.size
  ·rw [if_pos hi,dif_pos Om,Array.getElem?_eq_getElem hi]
   simp [Array.getD,hi]
  ·rw [if_neg hi]
   by_cases hin:i<n
   ·rw [if_pos Om,dif_pos hin]
    simp [Array.getD,hi]
   ·rw [if_neg Om,dif_neg hin]
 rw [e]
 exact h.go W (Own.start _ W)
theorem calls_ok {k:FuncId}{fn:Func}{c:Code}{args:Array Value}{R:Ending->World->Prop}(hf:P.funcs[k]?=some fn)(hb:fn.body=some c)(hn:fn.ntmps=n)(hle:Nat.ble args.size n=true)
  (h:Ok [] P n W (bodyPost P fn R) c [] (λt=>args.getD t undef)):Calls P k args W R:=calls_okM [] hf hb hn hle h
theorem Z2 {k:FuncId}{fn:Func}{c:Code}{args:Array Value}{R:Ending->World->Prop}(hf:P.funcs[k]?=some fn)(hb:fn.body=some c)(h:Ok [] P n W (bodyPost P fn R) c [] (λt=>args.getD t undef))(hn:fn.ntmps=n:=by kernel_rfl)(hle:Nat.ble args.size n=true:=by kernel_rfl):Calls P k args W R:=calls_ok hf hb hn hle h
theorem fin_ret {fn:Func}{R:Ending->World->Prop}{t:Tmp}(v:Value)(hres:fn.results= #[.tmp t])(hv:ev n f (.tmp t)=v)(hR:∀ w,Own M W w L->R (.returned v) w):Fin M n W (bodyPost P fn R) .ret L f:=⟨λw hO=>by
 refine bodyPost_ret (v:=v) ?_ rfl (hR w hO)
 rw [results_tmp hres]
 have:(Fr n f).tmps.getD t undef=v:=(g0 n f t).trans hv
 rw [this]⟩
theorem ZF {fn:Func}{R:Ending->World->Prop}{t:Tmp}(v:Value)(hres:fn.results= #[.tmp t])(hR:∀ w,Own M W w L->R (.returned v) w)(hv:ev n f (.tmp t)=v:=by kernel_rfl):Fin M n W (bodyPost P fn R) .ret L f:=fin_ret v hres hv hR
def resAt (P:Program)(n:Nat)(f:Nat->Value)(L:List Blk):ResultVar->Nat->Option Value
 | .tmp t,_=>some (ev n f (.tmp t))
 | .cell p ty,i=>
  match L[i]?,ev n f (.tmp p) with
  |some x,.pointer (some ⟨b,off,none⟩)=>bif Nat.beq b x.b then yZ P ty x.cs off else none
  |_,_=>none
theorem fin_cell {fn:Func}{R:Ending->World->Prop}{p:Tmp}{ty:TypeId}(i:Nat)(x:Blk){off:Nat}(v:Value)(hres:fn.results= #[.cell p ty])(hL:L[i]?=some x)(hp:ev n f (.tmp p)= .pointer (some ⟨x.b,off,none⟩))(hv:yZ P ty x.cs off=some v)
  (hR:∀ w,Own M W w L->R (.returned v) w):Fin M n W (bodyPost P fn R) .ret L f:=⟨λw hO=>by
 refine bodyPost_ret (v:=v) ?_ rfl (hR w hO)
 have e:(Fr n f).tmps.getD p undef= .pointer (some ⟨x.b,off,none⟩):=(g0 n f p).trans hp
 have hr:=yU hv (hO.get hL)
 have e':(Fr n f).tmps[p]?.getD undef= .pointer (some ⟨x.b,off,none⟩):=by simpa using e
 simp [results,hres,e',asAddr,hr]⟩
theorem ZC {fn:Func}{R:Ending->World->Prop}{p:Tmp}{ty:TypeId}(i:Nat)(x:Blk){off:Nat}(v:Value)(hres:fn.results= #[.cell p ty])(hR:∀ w,Own M W w L->R (.returned v) w)(hL:L[i]?=some x:=by kernel_rfl)(hp:ev n f (.tmp p)= .pointer (some ⟨x.b,off,none⟩):=by kernel_rfl)(hv:yZ P ty x.cs off=some v:=by kernel_rfl):Fin M n W (bodyPost P fn R) .ret L f:=fin_cell i x v hres hL hp hv hR
theorem fin_ret2 {fn:Func}{R:Ending->World->Prop}{t u:Tmp}(v v':Value)(hres:fn.results= #[.tmp t,.tmp u])(hv:ev n f (.tmp t)=v)(hv':ev n f (.tmp u)=v')(hR:∀ w,Own M W w L->R (.returned (.tuple #[v,v'])) w):Fin M n W (bodyPost P fn R) .ret L f:=⟨λw hO=>by
 refine bodyPost_ret (v:= .tuple #[v,v']) ?_ rfl (hR w hO)
 rw [results_tmp2 hres]
 have e1:(Fr n f).tmps.getD t undef=v:=(g0 n f t).trans hv
 have e2:(Fr n f).tmps.getD u undef=v':=(g0 n f u).trans hv'
 rw [e1,e2]⟩
theorem ZG {fn:Func}{R:Ending->World->Prop}{t u:Tmp}(v v':Value)(hres:fn.results= #[.tmp t,.tmp u])(hR:∀ w,Own M W w L->R (.returned (.tuple #[v,v'])) w)(hv:ev n f (.tmp t)=v:=by kernel_rfl)(hv':ev n f (.tmp u)=v':=by kernel_rfl):Fin M n W (bodyPost P fn R) .ret L f:=fin_ret2 v v' hres hv hv' hR
theorem fin_cell2 {fn:Func}{R:Ending->World->Prop}{p u:Tmp}{ty:TypeId}(i:Nat)(x:Blk){off:Nat}(v v':Value)(hres:fn.results= #[.cell p ty,.tmp u])(hL:L[i]?=some x)(hp:ev n f (.tmp p)= .pointer (some ⟨x.b,off,none⟩))(hv:yZ P ty x.cs off=some v)(hv':ev n f (.tmp u)=v')
  (hR:∀ w,Own M W w L->R (.returned (.tuple #[v,v'])) w):Fin M n W (bodyPost P fn R) .ret L f:=⟨λw hO=>by
 refine bodyPost_ret (v:= .tuple #[v,v']) ?_ rfl (hR w hO)
 have e:(Fr n f).tmps.getD p undef= .pointer (some ⟨x.b,off,none⟩):=(g0 n f p).trans hp
 have hr:=yU hv (hO.get hL)
 have e':(Fr n f).tmps[p]?.getD undef= .pointer (some ⟨x.b,off,none⟩):=by simpa using e
 have e2:(Fr n f).tmps.getD u undef=v':=(g0 n f u).trans hv'
 have e2':(Fr n f).tmps[u]?.getD undef=v':=by simpa using e2
 simp [results,hres,e',e2',asAddr,hr]⟩
theorem ZD {fn:Func}{R:Ending->World->Prop}{p u:Tmp}{ty:TypeId}(i:Nat)(x:Blk){off:Nat}(v v':Value)(hres:fn.results= #[.cell p ty,.tmp u])(hR:∀ w,Own M W w L->R (.returned (.tuple #[v,v'])) w)(hL:L[i]?=some x:=by kernel_rfl)(hp:ev n f (.tmp p)= .pointer (some ⟨x.b,off,none⟩):=by kernel_rfl)(hv:yZ P ty x.cs off=some v:=by kernel_rfl)(hv':ev n f (.tmp u)=v':=by kernel_rfl):Fin M n W (bodyPost P fn R) .ret L f:=fin_cell2 i x v v' hres hL hp hv hv' hR
end
section
variable {M:List Nat}{P:Program}{n:Nat}{ops:Array Oper}{W:World}{Q:Exit->Act->World->Prop}{rest:List Oper}{o:Oper}{L:List Blk}{f:Nat->Value}{Qe:List Blk->(Nat->Value)->Prop}
theorem s_dec {p:Prop}[Decidable p](t:Bool)(hw:zU ops n f o=true)(hr:∀ w,(execOp (ev n f) o).run P w= .ok (.value (.bool (decide p))) w)(hp:decide p=t)(h:Seg M P n ops W Q rest L (upd f o.dst (.bool t))):Seg M P n ops W Q (o::rest) L f:=bU (.bool t) hw (λw=>hp▸hr w) h
theorem Zd {p:Prop}[Decidable p](t:Bool)(hp:decide p=t)(h:Seg M P n ops W Q rest L (upd f o.dst (.bool t)))(hw:zU ops n f o=true:=by kernel_rfl)(hr:∀ w,(execOp (ev n f) o).run P w= .ok (.value (.bool (decide p))) w:=by intro _;kernel_rfl):Seg M P n ops W Q (o::rest) L f:=s_dec t hw hr hp h
theorem Zg {p:Prop}[Decidable p](hp:p)(h:Seg M P n ops W Q rest L (upd f o.dst (.bool true)))(hw:zU ops n f o=true:=by kernel_rfl)(hr:∀ w,(execOp (ev n f) o).run P w= .ok (.value (.bool (decide p))) w:=by intro _;kernel_rfl):Seg M P n ops W Q (o::rest) L f:=s_dec true hw hr (decide_eq_true hp) h
theorem Zh {p:Prop}[Decidable p](hp:¬ p)(h:Seg M P n ops W Q rest L (upd f o.dst (.bool false)))(hw:zU ops n f o=true:=by kernel_rfl)(hr:∀ w,(execOp (ev n f) o).run P w= .ok (.value (.bool (decide p))) w:=by intro _;kernel_rfl):Seg M P n ops W Q (o::rest) L f:=s_dec false hw hr (decide_eq_false hp) h
theorem s_ndec {p:Prop}[Decidable p](t:Bool)(hw:zU ops n f o=true)(hr:∀ w,(execOp (ev n f) o).run P w= .ok (.value (.bool (!decide p))) w)(hp:decide p=t)(h:Seg M P n ops W Q rest L (upd f o.dst (.bool (!t)))):Seg M P n ops W Q (o::rest) L f:=bU (.bool (!t)) hw (λw=>hp▸hr w) h
theorem Zn {p:Prop}[Decidable p](t:Bool)(hp:decide p=t)(h:Seg M P n ops W Q rest L (upd f o.dst (.bool (!t))))(hw:zU ops n f o=true:=by kernel_rfl)(hr:∀ w,(execOp (ev n f) o).run P w= .ok (.value (.bool (!decide p))) w:=by intro _;kernel_rfl):Seg M P n ops W Q (o::rest) L f:=s_ndec t hw hr hp h
theorem s_sum {k:IntKind}(z:Int)(hw:zU ops n f o=true)(hr:∀ w,(execOp (ev n f) o).run P w= .ok (.value (.int k (k.wrap z))) w)(hz:k.wrap z=z)(h:Seg M P n ops W Q rest L (upd f o.dst (.int k z))):Seg M P n ops W Q (o::rest) L f:=bU (.int k z) hw (λw=>by rw [hr w,hz]) h
theorem Zu {k:IntKind}(z:Int)(hz:k.wrap z=z)(h:Seg M P n ops W Q rest L (upd f o.dst (.int k z)))(hw:zU ops n f o=true:=by kernel_rfl)(hr:∀ w,(execOp (ev n f) o).run P w= .ok (.value (.int k (k.wrap z))) w:=by intro _;kernel_rfl):Seg M P n ops W Q (o::rest) L f:=s_sum z hw hr hz h
theorem s_alloc_at {T:TypeId}(z:Value)(hw:zU ops n f o=true)(ho:o.op= .alloc T)(hi:(P.info? T).map (·.zero)=some (some z))
  (h:∀ b,Seg M P n ops W Q rest (⟨b,z.cells,T⟩::L) (upd f o.dst (.pointer (some ⟨b,0,none⟩)))):Seg M P n ops W Q (o::rest) L f:=by
 cases hq:P.info? T with
 |none=>rw [hq] at hi;cases hi
 |some i=>rw [hq] at hi;exact s_alloc z hw ho hq (Option.some.inj hi) h
theorem Za {T:TypeId}(z:Value)(h:∀ b,Seg M P n ops W Q rest (⟨b,z.cells,T⟩::L) (upd f o.dst (.pointer (some ⟨b,0,none⟩))))(ho:o.op= .alloc T:=by rfl)(hw:zU ops n f o=true:=by kernel_rfl)(hi:(P.info? T).map (·.zero)=some (some z):=by kernel_rfl):Seg M P n ops W Q (o::rest) L f:=s_alloc_at z hw ho hi h
theorem s_store_at (i:Nat)(x:Blk){T:TypeId}{p q:Operand}{off:Nat}(v:Value)(hw:zU ops n f o=true)(ho:o.op= .store T p q)(hd:o.dst=none)(hL:L[i]?=some x)
  (hp:ev n f p= .pointer (some ⟨x.b,off,none⟩)) (hq:ev n f q=v) (hi:((P.info? T).map λt=>Nat.beq v.cells.size t.size && Nat.ble (off+t.size) x.cs.size)=some true) (h1:(v.cells.toList.all λu=>u.oneCell')=true)
  (h:Seg M P n ops W Q rest (L.set i ⟨x.b,zW x.cs off v.cells,x.ty⟩) f):Seg M P n ops W Q (o::rest) L f:=by
 cases hz:P.info? T with
 |none=>rw [hz] at hi;cases hi
 |some t=>
  rw [hz] at hi
  have e:(Nat.beq v.cells.size t.size && Nat.ble (off+t.size) x.cs.size)=true:=Option.some.inj hi
  rw [Bool.and_eq_true] at e
  exact s_store i x v hw ho hd hL hp hq hz (Nat.eq_of_beq_eq_true e.1) (Nat.le_of_ble_eq_true e.2) (List.all_eq_true.1 h1) h
theorem Zs (i:Nat)(x:Blk){T:TypeId}{p q:Operand}{off:Nat}(v:Value)(h:Seg M P n ops W Q rest (L.set i ⟨x.b,zW x.cs off v.cells,x.ty⟩) f)(ho:o.op= .store T p q:=by rfl)(hd:o.dst=none:=by rfl)(hw:zU ops n f o=true:=by kernel_rfl)(hL:L[i]?=some x:=by kernel_rfl)(hp:ev n f p= .pointer (some ⟨x.b,off,none⟩):=by kernel_rfl)(hq:ev n f q=v:=by kernel_rfl)(hi:((P.info? T).map λt=>Nat.beq v.cells.size t.size && Nat.ble (off+t.size) x.cs.size)=some true:=by kernel_rfl)(h1:(v.cells.toList.all λu=>u.oneCell')=true:=by kernel_rfl):Seg M P n ops W Q (o::rest) L f:=s_store_at i x v hw ho hd hL hp hq hi h1 h
end
end
section
def backB (md:Region.Mode)(l:List Oper)(i:Nat):Bool:=
 match l[i]? with
 |some o=>o.after.all λe=> !(Region.binds md e)||decide (e.on<i)
 |none=>false
def waitB (md:Region.Mode)(l:List Oper)(t i:Nat):Bool:=
 match l[t]? with
 |some o=>o.after.any λe=>Region.binds md e && e.on==i
 |none=>false
def inB (l:List Oper)(m i:Nat):Bool:=
 match l[i]? with
 |some o=>match o.guard with|some (g,_)=>decide (g<m)|none=>true
 |none=>false
def preB (md:Region.Mode)(l:List Oper)(m:Nat):Bool:=
 decide (m<=l.length) && (List.range l.length).all (λi=>backB md l i) && (List.range m).all (λi=>inB l m i && (decide (l.length<=m)||waitB md l m i)) && (List.range l.length).all λt=>decide (t<=m)||waitB md l t (t-1)
section
variable {P:Program}{md:Region.Mode}{l:List Oper}{m:Nat}
structure PreOk (md:Region.Mode)(l:List Oper)(m:Nat):Prop where
 le:m<=l.length
 back:∀ i o,l[i]?=some o→∀ e∈o.after,Region.binds md e=true->e.on<i
 inn:∀ i o g b,i<m->l[i]?=some o->o.guard=some (g,b)->g<m
 first:∀ i o,i<m->l[m]?=some o→∃ e∈o.after,Region.binds md e=true/\e.on=i
 chain:∀ t o,m<t->l[t]?=some o→∃ e∈o.after,Region.binds md e=true/\e.on=t-1
theorem waitB_spec {t i:Nat}{o:Oper}(ho:l[t]?=some o)(h:waitB md l t i=true):∃ e∈o.after,Region.binds md e=true/\e.on=i:=by
 unfold waitB at h
 rw [ho] at h
 obtain ⟨e,he,hb⟩:=Array.any_eq_true'.1 h
 simp only [Bool.and_eq_true,beq_iff_eq] at hb
 exact ⟨e,he,hb.1,hb.2⟩
theorem preB_ok (h:preB md l m=true):PreOk md l m:=by
 unfold preB at h
 simp only [Bool.and_eq_true,decide_eq_true_eq,List.all_eq_true,List.mem_range,Bool.or_eq_true] at h
 obtain ⟨⟨⟨h1,h2⟩,h3⟩,h4⟩:=h
 refine ⟨h1,λi o ho e he hb=> ?_,λi o g b hi ho hg=> ?_,λi o hi ho=> ?_,λt o ht ho=> ?_⟩
 ·have hi:=(List.getElem?_eq_some_iff.1 ho).1
  have:=h2 i hi
  unfold backB at this
  rw [ho] at this
  have:=Array.all_eq_true_iff_forall_mem.1 this e he
  rw [hb] at this
  simpa using this
 ·have:=(h3 i hi).1
  unfold inB at this
  rw [ho] at this
  dsimp only at this
  rw [hg] at this
  simpa using this
 ·have hm:=(List.getElem?_eq_some_iff.1 ho).1
  rcases (h3 i hi).2 with h|h
  ·omega
  ·exact waitB_spec ho h
 ·have hl:=(List.getElem?_eq_some_iff.1 ho).1
  rcases h4 t hl with h|h
  ·omega
  ·exact waitB_spec ho h
def Upto (n k:Nat)(listed:Array Bool):Prop:=listed.size=n∧∀ i,i<n->listed[i]?=some (decide (i<k))
theorem Upto.set {n k:Nat}{listed:Array Bool}(h:Upto n k listed):Upto n (k+1) (listed.setIfInBounds k true):=by
 refine ⟨by rw [Array.size_setIfInBounds];exact h.1,λi hi=> ?_⟩
 rw [Array.getElem?_setIfInBounds]
 by_cases e:k=i
 ·subst e
  rw [if_pos rfl,if_pos (by rw [h.1];exact hi)]
  simp
 ·rw [if_neg e,h.2 i hi]
  congr 1
  exact decide_eq_decide.2 Om
theorem at_getD {a:Array Bool}{i:Nat}{b d:Bool}(h:a[i]?=some b):a.getD i d=b:=by rw [Array.getD_eq_getD_getElem?,h];rfl
theorem ready_upto (hp:PreOk md l m){k:Nat}{listed:Array Bool}(hk:m<=k)(h:Upto l.length k listed):∀ i,i∈Region.ready md l.toArray listed↔(i=k/\k<l.length):=by
 intro i
 rw [mem_ready]
 constructor
 ·rintro ⟨h1,o,ho,h2⟩
  have ho':l[i]?=some o:=by simpa using ho
  have hi:=(List.getElem?_eq_some_iff.1 ho').1
  have hki:¬ i<k:=λhlt=>by
   rw [at_getD (h.2 i hi)] at h1
   simp [hlt] at h1
  refine ⟨?_,by omega⟩
  rcases Nat.lt_or_ge k i with hlt|hge
  ·obtain ⟨e,he,hb,hon⟩:=hp.chain i o Om ho'
   have:=h2 e he hb
   rw [hon,at_getD (h.2 (i-1) Om)] at this
   simp at this
   omega
  ·omega
 ·rintro ⟨rfl,hlt⟩
  refine ⟨by rw [at_getD (h.2 i hlt)];simp,l[i],by simp,λe he hb=> ?_⟩
  have:=hp.back i l[i] (List.getElem?_eq_getElem hlt) e he hb
  rw [at_getD (h.2 e.on Om)]
  simpa using this
theorem any_tail (hp:PreOk md l m){Q:Exit->Act->World->Prop}:∀ (d k fuel:Nat) (listed:Array Bool) (a:Act) (w:World),d=l.length-k->m<=k->k<=l.length->d<=fuel->Upto l.length k listed->wpList P l.toArray Q (l.drop k) a w->wpAny P md l.toArray Q fuel listed a w:=by
 intro d
 induction d with
 |zero=>
  intro k fuel listed a w hd hk hkl _ hu h
  have hkn:k=l.length:=by omega
  have hr:Region.ready md l.toArray listed=[]:=by
   apply List.eq_nil_iff_forall_not_mem.2
   intro i hi
   have:=(ready_upto hp hk hu i).1 hi
   omega
  have hq:Q .normal a w:=by
   rw [hkn,List.drop_length] at h;exact h
  cases fuel with
  |zero=>exact ⟨hr,hq⟩
  |succ f=>exact ⟨λ_=>hq,λi hi=>by rw [hr] at hi;cases hi⟩
 |succ d ih=>
  intro k fuel listed a w hd hk hkl hf hu h
  have hlt:k<l.length:=by omega
  obtain ⟨f,rfl⟩:∃ f,fuel=f+1:=⟨fuel-1,by omega⟩
  refine ⟨λhr=> ?_,λi hi=> ?_⟩
  ·have:=(ready_upto hp hk hu k).2 ⟨rfl,hlt⟩
   rw [hr] at this;cases this
  ·obtain ⟨rfl,_⟩:=(ready_upto hp hk hu i).1 hi
   have ho:l.toArray[i]?=some l[i]:=by simp
   rw [List.drop_eq_getElem_cons hlt] at h
   have hw:wpOp P l.toArray Q i (wpList P l.toArray Q (l.drop (i+1))) a w:=by unfold wpOp;simp only [ho];exact h
   exact wpOp_mono (λa' w' h'=>ih (i+1) f _ a' w' Om Om Om Om hu.set h') hw
structure Part (n m:Nat)(listed' listed:Array Bool):Prop where
 size':listed'.size=m
 size:listed.size=n
 same:∀ i,i<m->listed[i]?=listed'[i]?
 rest:∀ t,m<=t->t<n->listed[t]?=some false
theorem Part.get {n m:Nat}{listed' listed:Array Bool}(h:Part n m listed' listed){i:Nat}(hi:i<m):∃ b,listed'[i]?=some b:=⟨_,Array.getElem?_eq_getElem (by rw [h.size'];exact hi)⟩
theorem Part.set {n m i:Nat}{listed' listed:Array Bool}(h:Part n m listed' listed)(hi:i<m):Part n m (listed'.setIfInBounds i true) (listed.setIfInBounds i true):=by
 refine ⟨by rw [Array.size_setIfInBounds];exact h.size',by rw [Array.size_setIfInBounds];exact h.size,λj hj=> ?_,λt ht htn=> ?_⟩
 ·rw [Array.getElem?_setIfInBounds,Array.getElem?_setIfInBounds]
  by_cases e:i=j
  ·subst e
   rw [if_pos rfl,if_pos rfl,h.size']
   by_cases hin:i<listed.size
   ·rw [if_pos hin,if_pos hi]
   ·have h1:=h.same i hi
    rw [Array.getElem?_eq_none Om] at h1
    obtain ⟨b,hb⟩:=h.get hi
    rw [←h1] at hb;cases hb
  ·rw [if_neg e,if_neg e];exact h.same j hj
 ·rw [Array.getElem?_setIfInBounds,if_neg Om];exact h.rest t ht htn
theorem least_false (b:Nat->Bool):∀ m,(∃ i,i<m/\b i=false)→∃ k,k<m/\b k=false∧∀ j,j<k->b j=true:=by
 intro m
 induction m with
 |zero=>rintro ⟨i,hi,_⟩;omega
 |succ m ih=>
  rintro ⟨i,hi,hb⟩
  by_cases h:∃ i,i<m/\b i=false
  ·obtain ⟨k,h1,h2,h3⟩:=ih h
   exact ⟨k,by omega,h2,h3⟩
  ·have:i=m:=by
    rcases Nat.lt_or_ge i m with h4|h4
    ·exact absurd ⟨i,h4,hb⟩ h
    ·omega
   subst this
   refine ⟨i,by omega,hb,λj hj=> ?_⟩
   cases hj2:b j with
   |true=>rfl
   |false=>exact absurd ⟨j,hj,hj2⟩ h
theorem take_at {i:Nat}(hi:i<m):(l.take m).toArray[i]?=l.toArray[i]?:=by simp [List.getElem?_take,hi]
theorem part_in (hp:PreOk md l m){listed' listed:Array Bool}(h:Part l.length m listed' listed)(hun:∃ i,i<m/\listed'.getD i true=false):∀ i∈Region.ready md l.toArray listed,i<m:=by
 intro i hi
 rw [mem_ready] at hi
 obtain ⟨h1,o,ho,h2⟩:=hi
 have ho':l[i]?=some o:=by simpa using ho
 have hil:=(List.getElem?_eq_some_iff.1 ho').1
 rcases Nat.lt_trichotomy i m with hlt|rfl|hgt
 ·exact hlt
 ·obtain ⟨j,hj,hjf⟩:=hun
  obtain ⟨e,he,hb,hon⟩:=hp.first j o hj ho'
  have h3:=h2 e he hb
  obtain ⟨b,hj'⟩:=h.get hj
  rw [hon,Array.getD_eq_getD_getElem?,h.same j hj,hj'] at h3
  rw [Array.getD_eq_getD_getElem?,hj'] at hjf
  simp at h3 hjf
  rw [h3] at hjf;cases hjf
 ·obtain ⟨e,he,hb,hon⟩:=hp.chain i o hgt ho'
  have h3:=h2 e he hb
  rw [hon,at_getD (h.rest (i-1) Om Om)] at h3
  cases h3
theorem part_ready (hp:PreOk md l m){listed' listed:Array Bool}(h:Part l.length m listed' listed){i:Nat}(hi:i<m):i∈Region.ready md l.toArray listed↔i∈Region.ready md (l.take m).toArray listed':=by
 rw [mem_ready,mem_ready,take_at hi]
 have e1:∀ j d,j<m->listed.getD j d=listed'.getD j d:=λj d hj=>by rw [Array.getD_eq_getD_getElem?,Array.getD_eq_getD_getElem?,h.same j hj]
 rw [e1 i true hi]
 constructor
 ·rintro ⟨h1,o,ho,h2⟩
  have ho':l[i]?=some o:=by simpa using ho
  exact ⟨h1,o,ho,λe he hb=>by have:=hp.back i o ho' e he hb;rw [←e1 _ _ Om];exact h2 e he hb⟩
 ·rintro ⟨h1,o,ho,h2⟩
  have ho':l[i]?=some o:=by simpa using ho
  exact ⟨h1,o,ho,λe he hb=>by have:=hp.back i o ho' e he hb;rw [e1 _ _ Om];exact h2 e he hb⟩
theorem want_take (hp:PreOk md l m){i:Nat}(hi:i<m){o:Oper}(ho:l[i]?=some o)(tmps:Array Value):Region.wanted o (yielded (l.take m).toArray tmps)=Region.wanted o (yielded l.toArray tmps):=by
 unfold Region.wanted
 cases hg:o.guard with
 |none=>rfl
 |some x=>
  obtain ⟨g,b⟩:=x
  have:=hp.inn i o g b hi ho hg
  dsimp only
  unfold yielded
  rw [take_at this]
end
section
variable {M:List Nat}{P:Program}{n:Nat}{W:World}{Q:Exit->Act->World->Prop}{L:List Blk}{f:Nat->Value}
end
theorem run_ixarr {P:Program}{ρ:Operand->Value}{o:Oper}{t e:TypeId}{x ix:Operand}{b off off' n sz:Nat}{k:IntKind}{j:Int}(ho:o.op= .indexAddr t x ix)(hx:ρ x= .pointer (some ⟨b,off,none⟩))(hi:ρ ix= .int k j)
  (hu:P.underlying t=some (.array n e)) (hs:(P.info? e).map (·.size)=some sz) (h0:0<=j) (h1:j<n) (hoff:off+j.toNat*sz=off') (w:World):(execOp ρ o).run P w= .ok (.value (.pointer (some ⟨b,off',none⟩))) w:=by
 subst hoff
 cases he:P.info? e with
 |none=>rw [he] at hs;cases hs
 |some i=>
  rw [he] at hs
  obtain rfl:=Option.some.inj hs
  unfold execOp
  simp [ho,hx,hi,Instr.indexAt,Sem.run_bind,asIntOf,run_underlying hu,Instr.sureAddr,h0,h1,sizeOf,typeInfo,he,xP]
theorem ret_v {P:Program}{k:FuncId}{args:Array Value}{w:World}{v v':Value}(h:v=v')(hc:Calls P k args w (YR v w)):Calls P k args w (YR v' w):=by subst h;exact hc
theorem ret_b {P:Program}{k:FuncId}{args:Array Value}{w:World}{a b:Bool}(h:a=b)(hc:Calls P k args w (YR (.bool a) w)):Calls P k args w (YR (.bool b) w):=by subst h;exact hc
end
section
theorem Own.sub {M:List Nat}{W w:World}{L0:List Blk}:∀ (E:List Blk),Own M W w (E++L0)->Own M W w L0
 | [],h=>h
 |e::E,h=>Own.sub E ⟨h.os,h.tape,h.output,h.size,h.drawn,h.kept,λx hx=>h.held x (List.mem_cons_of_mem _ hx),λx hx=>h.base x (List.mem_cons_of_mem _ hx),by
   have:=h.apart
   rw [List.cons_append,List.map_cons,List.nodup_cons] at this
   exact this.2⟩
theorem Own.swap {M:List Nat}{W w:World}{x y:Blk}{L:List Blk}(h:Own M W w (x::y::L)):Own M W w (y::x::L):=
 ⟨h.os,h.tape,h.output,h.size,h.drawn,h.kept,λz hz=>h.held z (by simp only [List.mem_cons] at hz ⊢;rcases hz with h|h|h<;>simp [h]),λz hz=>h.base z (by simp only [List.mem_cons] at hz ⊢;rcases hz with h|h|h<;>simp [h]),by
  have:=h.apart
  simp only [List.map_cons,List.nodup_cons,List.mem_cons,not_or] at this ⊢
  exact ⟨⟨λe=>this.1.1 e.symm,this.2.1⟩,this.1.2,this.2.2⟩⟩
section
variable {M:List Nat}{P:Program}{n:Nat}{ops:Array Oper}{W:World}{Q:Exit->Act->World->Prop}{L0 L:List Blk}{f:Nat->Value}{fuel:Nat}{listed:Array Bool}
def PQ (Q:Exit->Act->World->Prop):Prop:=∀ c (a:Act) d v w,Q (.panic c) (a.put d v) w->Q (.panic c) a w
theorem pq_seq {K:Act->World->Prop}(h:PQ Q):PQ (Exit.then K Q):=λc a d v w h2=>h c a d v w h2
theorem p6 {id:Nat}(h:PQ Q):PQ (Exit.inBlock id Q):=λc a d v w h2=>h c a d v w h2
theorem pq_round {Inv:List Blk->(Nat->Value)->Nat->Prop}{m:Nat}(h:PQ Q):PQ (Round M n W Inv m Q):=λc a d v w h2=>h c a d v w h2
theorem pq_body {fn:Func}{R:Ending->World->Prop}:PQ (bodyPost P fn R):=λc a d v w h2=>by cases d<;>exact h2
structure pQ (M:List Nat)(P:Program)(n:Nat)(ops:Array Oper)(W:World)(L0:List Blk)(Q:Exit->Act->World->Prop)(fuel:Nat)(listed:Array Bool)(L:List Blk)(f:Nat->Value):Prop where
 go:∀ w,Own M W w L->wpAnyH P .any ops Q (λw=>Own M W w L0) fuel listed (Fr n f) w
structure tU (M:List Nat)(P:Program)(n:Nat)(ops:Array Oper)(W:World)(L0:List Blk)(Q:Exit->Act->World->Prop)(fuel:Nat)(listed:Array Bool)(i:Nat)(L:List Blk)(f:Nat->Value):Prop where
 go:∀ w,Own M W w L->wpOp P ops Q i (λa' w'=>Own M W w' L0/\wpAnyH P .any ops Q (λw=>Own M W w L0) fuel (listed.setIfInBounds i true) a' w') (Fr n f) w
theorem h_done (hr:Region.ready .any ops listed=[])(h:Fin M n W Q .normal L f):pQ M P n ops W L0 Q fuel listed L f:=⟨λw hO=>wpAnyH_done hr (h.go w hO) fuel⟩
theorem ZZ (h:Fin M n W Q .normal L f)(hr:Region.ready .any ops listed=[]:=by kernel_rfl):pQ M P n ops W L0 Q fuel listed L f:=h_done hr h
theorem h_one (i:Nat)(hr:Region.ready .any ops listed=[i])(h:tU M P n ops W L0 Q fuel listed i L f):pQ M P n ops W L0 Q (fuel+1) listed L f:=⟨λw hO=>
 wpAnyH_all hr (by simp) λj hj=>by
  obtain rfl:j=i:=by simpa using hj
  exact h.go w hO⟩
theorem Zz (i:Nat)(h:tU M P n ops W L0 Q fuel listed i L f)(hr:Region.ready .any ops listed=[i]:=by kernel_rfl):pQ M P n ops W L0 Q (fuel+1) listed L f:=h_one i hr h
theorem hs_step {i:Nat}{oi:Oper}(hi:ops[i]?=some oi)(hw:zU ops n f oi=true)(h:∀ w,Own M W w L->oi.wp P (Fr n f) w (λa' w'=>Own M W w' L0/\wpAnyH P .any ops Q (λw=>Own M W w L0) fuel (listed.setIfInBounds i true) a' w') Q):tU M P n ops W L0 Q fuel listed i L f:=⟨λw hO=>by
 unfold wpOp
 simp only [hi]
 rw [qZ,hw,if_pos rfl]
 exact .inl (h w hO)⟩
end
end
section
def Sl (T:TypeId)(sz:Nat)(v:Value)(n:Nat)(xs:List Value)(ob:List Blk):Prop:=
 xs.length=n*sz/\((v= .slice none 0 0/\n=0/\ob=[])∨
  ∃ g cap cur,v= .slice (some ⟨g,0,none⟩) n cap/\ob=[⟨g,cur,T⟩]/\n<=cap/\cap<=maxLen/\cur.size=cap*sz/\cur.toList.take (n*sz)=xs)
theorem Sl.nil (T:TypeId)(sz:Nat):Sl T sz (.slice none 0 0) 0 [] []:=⟨by simp,.inl ⟨rfl,rfl,rfl⟩⟩
theorem Own.take {M:List Nat}{W w:World}{L L':List Blk}(h:Own M W w L)(hs:∀ x∈L',x∈L)(hn:(L'.map Blk.b).Nodup):Own M W w L':=
 ⟨h.os,h.tape,h.output,h.size,h.drawn,h.kept,λx hx=>h.held x (hs x hx),λx hx=>h.base x (hs x hx),hn⟩
theorem Own.move {M:List Nat}{W w:World}{E ob L0:List Blk}{x:Blk}(h:Own M W w (x::(E++ob++L0))):Own M W w (E++[x]++L0):=by
 refine h.take (λy hy=> ?_) ?_
 ·simp only [List.mem_append,List.mem_cons,List.not_mem_nil,or_false] at hy ⊢
  rcases hy with (hy|hy)|hy
  ·exact .inr (.inl (.inl hy))
  ·exact .inl hy
  ·exact .inr (.inr hy)
 ·have h1:=h.apart
  have h2:((x::(E++L0)).map Blk.b).Nodup:=by
   refine h1.sublist (List.Sublist.map _ (List.Sublist.cons_cons _ ?_))
   rw [List.append_assoc]
   exact List.Sublist.append (List.Sublist.refl E) (List.sublist_append_right ob L0)
  have hp:(E++[x]++L0).Perm (x::(E++L0)):=by
   rw [List.append_assoc];exact List.perm_middle
  exact (hp.map Blk.b).nodup_iff.2 h2
theorem drew_own {M:List Nat}{W w:World}{L:List Blk}(h:Own M W w L):Own M W w.drew L:=h.drew
section
variable {M:List Nat}{P:Program}{W w:World}{E ob L0:List Blk}
theorem t8 {t ty T:TypeId}{i:TypeInfo}{z:Value}{sz:Nat}(ht:P.underlying t=some (.slice T))(hi:P.info? T=some i)(hz:i.zero=some z)(hsz:i.size=sz)(hzs:z.cells.size=sz)
  {v:Value} {n:Nat} {xs:List Value} (hv:Sl T sz v n xs ob) (hO:Own M W w (E++ob++L0))
  {a:Addr} {m c:Nat} {news:List Value} (hl:news.length=m*sz) (hnews:∀ j u,news[j]?=some u->w.cell? (a.add j)=some u) (h1:∀ u∈news,u.oneCell'=true)
  (h63:n+m<=maxLen) (hbytes:(n+m)*i.bytes<=140737488355328):
  ∃ v' w' ob',(Builtin.append_ #[t,t] ty #[v,.slice (some a) m c]).run P w= .ok v' w'/\Sl T sz v' (n+m) (xs++news) ob'/\Own M W w' (E++ob'++L0):=by
 subst hsz
 have hsmall:n+m<=9223372036854775807:=by simp only [maxLen] at h63;omega
 have hlen:(xs++news).length=(n+m)*i.size:=by rw [List.length_append,hv.1,hl,Nat.add_mul]
 rcases hv.2 with ⟨rfl,rfl,rfl⟩|⟨g,cap,cur,rfl,rfl,hnc,hcm,hcs,htake⟩
 ·have hx:xs=[]:=List.eq_nil_of_length_eq_zero (by simpa using hv.1)
  subst hx
  by_cases hm:m=0
  ·subst hm
   have hn:news=[]:=List.eq_nil_of_length_eq_zero (by simpa using hl)
   subst hn
   refine ⟨.slice none 0 0,w,[], ?_,Sl.nil T i.size,hO⟩
   simp [Builtin.append_,run_underlying ht,sizeOf,typeInfo,hi,Builtin.lenOf,Builtin.firstCells,loadCells,loadCellsFrom]
  ·have hr:=run_append_nil (P:=P) w t ty T i z ht hi hz a m c news hl hnews Om Om (by have hb:=hbytes;simp only [Nat.zero_add] at hb;omega)
   have hge:=grownCap_ge w m 0 T
   have hcm:=grownCap_le_maxLen w m 0 T (by simpa using h63)
   refine ⟨_,_,[⟨w.heap.size,news.toArray++Builtin.zeroCells z.cells (grownCap w m 0 T-m),T⟩],hr,⟨by simpa using hlen,.inr ⟨w.heap.size,_,_,by simp,rfl,by simpa using hge,hcm, ?_, ?_⟩⟩, ?_⟩
   ·simp only [Array.size_append,List.size_toArray,size_zeroCells,hzs,hl,←Nat.add_mul]
    congr 1
    omega
   ·simp only [Array.toList_append,Nat.zero_add,List.nil_append]
    rw [←hl]
    exact List.take_left
   ·have:=(drew_own hO).alloc (news.toArray++Builtin.zeroCells z.cells (grownCap w m 0 T-m)) T
    exact Own.move (ob:=[]) this
 ·by_cases hroom:n+m<=cap
  ·have hfit:n*i.size+news.length<=cur.size:=by rw [hl,hcs,←Nat.add_mul];exact Nat.mul_le_mul_right _ hroom
   have hk:(E++[Blk.mk g cur T]++L0)[E.length]?=some ⟨g,cur,T⟩:=by simp
   have hg:=hO.get hk
   have hr:=run_append_room (P:=P) w t ty T i ht hi g n cap cur hg a m c news hl hnews h1 hroom hfit
   refine ⟨_,_,[⟨g,(cur.toList.take (n*i.size)++news++cur.toList.drop (n*i.size+news.length)).toArray,T⟩],hr,⟨hlen,.inr ⟨g,cap,_,rfl,rfl,hroom,hcm, ?_, ?_⟩⟩, ?_⟩
   ·simp only [List.size_toArray,List.length_append,List.length_take,List.length_drop,Array.length_toList]
    omega
   ·rw [htake,←hlen]
    exact List.take_left
   ·have:=hO.put hk (cur.toList.take (n*i.size)++news++cur.toList.drop (n*i.size+news.length)).toArray
    have e:(E++[Blk.mk g cur T]++L0).set E.length ⟨g,(cur.toList.take (n*i.size)++news++cur.toList.drop (n*i.size+news.length)).toArray,T⟩=E++[⟨g,(cur.toList.take (n*i.size)++news++cur.toList.drop (n*i.size+news.length)).toArray,T⟩]++L0:=by simp
    rw [e] at this;exact this
  ·have hk:(E++[Blk.mk g cur T]++L0)[E.length]?=some ⟨g,cur,T⟩:=by simp
   have hg:=hO.get hk
   have holds:∀ j u,xs[j]?=some u->w.cell? ((⟨g,0,none⟩:Addr).add j)=some u:=λj u hj=>by
    rw [xP,cell_of_row w g (0+j) cur T _ hg]
    rw [←htake,List.getElem?_take] at hj
    split at hj
    ·simpa using hj
    ·cases hj
   have hr:=run_append_grow (P:=P) w t ty T i z ht hi hz ⟨g,0,none⟩ n cap xs hv.1 holds a m c news hl hnews Om Om (growslice_fits Om hbytes)
   have hge:=grownCap_ge w (n+m) cap T
   have hcm:=grownCap_le_maxLen w (n+m) cap T h63
   refine ⟨_,_,[⟨w.heap.size,xs.toArray++news.toArray++Builtin.zeroCells z.cells (grownCap w (n+m) cap T-(n+m)),T⟩],hr,⟨hlen,.inr ⟨w.heap.size,_,_,rfl,rfl,hge,hcm, ?_, ?_⟩⟩, ?_⟩
   ·simp only [Array.size_append,List.size_toArray,size_zeroCells,hzs,hv.1,hl,←Nat.add_mul]
    congr 1
    omega
   ·simp only [Array.toList_append,List.append_assoc]
    rw [←List.append_assoc,←hlen]
    exact List.take_left
   ·exact Own.move ((drew_own hO).alloc (xs.toArray++news.toArray++Builtin.zeroCells z.cells (grownCap w (n+m) cap T-(n+m))) T)
end
section
variable {M:List Nat}{P:Program}{n0:Nat}{ops:Array Oper}{W:World}{Q:Exit->Act->World->Prop}{rest:List Oper}{o:Oper}{E ob L0:List Blk}{f:Nat->Value}
theorem s_append {t T:TypeId}{s x:Operand}{i:TypeInfo}{z:Value}{sz:Nat}(hw:zU ops n0 f o=true)(ho:o.op= .call {callee:= .builtin .append,args:= #[s,x],argTypes:= #[t,t]})
  (ht:P.underlying t=some (.slice T)) (hi:P.info? T=some i) (hz:i.zero=some z) (hsz:i.size=sz) (hzs:z.cells.size=sz)
  {v:Value} {n:Nat} {xs:List Value} (hs:ev n0 f s=v) (hv:Sl T sz v n xs ob) {a:Addr} {m c:Nat} {news:List Value} (hx:ev n0 f x= .slice (some a) m c)
  (hl:news.length=m*sz) (hnews:∀ w,Own M W w (E++ob++L0)→∀ j u,news[j]?=some u->w.cell? (a.add j)=some u) (h1:∀ u∈news,u.oneCell'=true)
  (h63:n+m<=maxLen) (hbytes:(n+m)*i.bytes<=140737488355328)
  (h:∀ v' ob',Sl T sz v' (n+m) (xs++news) ob'->Seg M P n0 ops W Q rest (E++ob'++L0) (upd f o.dst v')):Seg M P n0 ops W Q (o::rest) (E++ob++L0) f:=
 vC hw λw hO=>by
  obtain ⟨v',w',ob',hr,h2,h3⟩:=t8 (P:=P) (ty:=o.type) (c:=c) ht hi hz hsz hzs hv hO hl (hnews w hO) h1 h63 hbytes
  refine vA v' (w':=w') ?_ ((h v' ob' h2).go w' h3)
  unfold execOp
  simp only [ho,resolve,invoke,builtin,Sem.run_bind,Sem.run_pure,Result.andThen_ok,List.map_toArray,List.map_cons,List.map_nil,hs,hx,hr]
theorem s_lit {L:List Blk}{t:TypeId}{len:Nat}{parts:Array (Nat×Operand)}(T:TypeId)(cs:Array Value)(hw:zU ops n0 f o=true)(ho:o.op= .buildSlice t len parts)
  (hr:∀ w,(execOp (ev n0 f) o).run P w= .ok (.value (.slice (some ⟨w.heap.size,0,none⟩) len len)) (w.alloc (.cells cs T)))
  (h:∀ b,Seg M P n0 ops W Q rest (⟨b,cs,T⟩::L) (upd f o.dst (.slice (some ⟨b,0,none⟩) len len))):Seg M P n0 ops W Q (o::rest) L f:=
 vC hw λw hO=>vA _ (hr w) ((h w.heap.size).go _ (hO.alloc _ _))
theorem run_ixsl {ρ:Operand->Value}{t e:TypeId}{x ix:Operand}{b off off' n c sz:Nat}{k:IntKind}{j:Int}(ho:o.op= .indexAddr t x ix)(hx:ρ x= .slice (some ⟨b,off,none⟩) n c)(hi:ρ ix= .int k j)
  (hu:P.underlying t=some (.slice e)) (hs:(P.info? e).map (·.size)=some sz) (h0:0<=j) (h1:j<n) (hoff:off+j.toNat*sz=off') (w:World):(execOp ρ o).run P w= .ok (.value (.pointer (some ⟨b,off',none⟩))) w:=by
 subst hoff
 cases he:P.info? e with
 |none=>rw [he] at hs;cases hs
 |some i=>
  rw [he] at hs
  obtain rfl:=Option.some.inj hs
  unfold execOp
  simp [ho,hx,hi,Instr.indexAt,Sem.run_bind,asIntOf,run_underlying hu,Instr.sureAddr,h0,h1,sizeOf,typeInfo,he,xP]
theorem ZV {ρ:Operand->Value}{t e:TypeId}{x ix:Operand}{b off off' n c sz:Nat}{k:IntKind}{j:Int}(ho:o.op= .indexAddr t x ix:=by rfl)(hx:ρ x= .slice (some ⟨b,off,none⟩) n c:=by kernel_rfl)(hi:ρ ix= .int k j:=by kernel_rfl)(hu:P.underlying t=some (.slice e):=by kernel_rfl)(hs:(P.info? e).map (·.size)=some sz:=by kernel_rfl)(h0:0<=j:=by omega)(h1:j<n:=by omega)(hoff:off+j.toNat*sz=off':=by omega)(w:World):(execOp ρ o).run P w= .ok (.value (.pointer (some ⟨b,off',none⟩))) w:=run_ixsl ho hx hi hu hs h0 h1 hoff w
end
section
variable {α:Type}{g:α->List Value}{sz:Nat}
theorem jT (hg:∀ x,(g x).length=sz)(l:List α):(l.flatMap g).length=l.length*sz:=by
 induction l with
 |nil=>simp
 |cons x l ih=>rw [List.flatMap_cons,List.length_append,hg,ih,List.length_cons,Nat.succ_mul,Nat.add_comm]
theorem flat_at (hg:∀ x,(g x).length=sz)(l:List α):∀ k (h:k<l.length),((l.flatMap g).drop (k*sz)).take sz=g l[k]:=by
 induction l with
 |nil=>intro k h;simp at h
 |cons x l ih=>
  intro k h
  rw [List.flatMap_cons]
  cases k with
  |zero=>
   have:=hg x
   rw [Nat.zero_mul,List.drop_zero,←this,List.take_left];rfl
  |succ k=>
   rw [Nat.succ_mul,Nat.add_comm,←List.drop_drop]
   have hd:(g x++l.flatMap g).drop sz=l.flatMap g:=by rw [←hg x];exact List.drop_left
   rw [hd]
   exact ih k (by simpa using h)
end
end
section
def wV (f:Nat->Value):List (Nat×Value)->Nat->Value
 | []=>f
 |p::r=>upd (wV f r) (some p.1) p.2
def Agrees (f:Nat->Value):List (Nat×Value)->Prop
 | []=>True
 |p::r=>f p.1=p.2/\Agrees f r
theorem qE {f:Nat->Value}:∀ (l:List (Nat×Value)),Agrees f l->f=wV f l
 | [],_=>rfl
 |p::r,h=>by
  have e:=qE r h.2
  have h1:wV f r p.1=p.2:=by rw [←e];exact h.1
  show f=upd (wV f r) (some p.1) p.2
  rw [←nR h1];exact e
theorem ZU {f:Nat->Value}{l:List (Nat×Value)}(h:Agrees f l:=by repeat (first|exact trivial|refine ⟨by kernel_rfl, ?_⟩)):f=wV f l:=qE l h
def Reads {α:Type}(g:α->List Value)(w:World)(B:Nat)(A:Option Addr)(l:List α):Prop:=
 0<l.length→∃ b off,A=some ⟨b,off,none⟩/\b<B∧∀ k u,(l.flatMap g)[k]?=some u->w.cell? ⟨b,off+k,none⟩=some u
theorem Reads.on {α:Type}{g:α->List Value}{w w':World}{B B':Nat}{A:Option Addr}{l:List α}(h:Reads g w B A l)(hb:Below B w w')(hB:B<=B'):Reads g w' B' A l:=λh0=>by
 obtain ⟨b,off,e,hlt,hc⟩:=h h0
 exact ⟨b,off,e,by omega,λk u hk=>(hb.cell (p:=⟨b,off+k,none⟩) hlt).trans (hc k u hk)⟩
theorem Sl.reads {α:Type}{g:α->List Value}{T sz n:Nat}{A:Option Addr}{cap:Nat}{l:List α}{ob:List Blk}{M:List Nat}{W w:World}{L:List Blk}(h:Sl T sz (.slice A n cap) n (l.flatMap g) ob)(hn:l.length=n)(hO:Own M W w L)(hs:∀ x∈ob,x∈L):
  Reads g w w.heap.size A l:=λh0=>by
 rcases h.2 with ⟨_,h2,_⟩|⟨b,c,cur,e,rfl,h3,h4,h5,h6⟩
 ·omega
 ·obtain ⟨rfl,_,rfl⟩:A=some ⟨b,0,none⟩/\True/\cap=c:=by
   simp only [Value.slice.injEq] at e;exact ⟨e.1,trivial,e.2.2⟩
  have hb:=hs ⟨b,cur,T⟩ (by simp)
  refine ⟨b,0,rfl,hO.lt hb,λk u hk=> ?_⟩
  rw [cell_of_row w b (0+k) cur T _ (hO.held _ hb)]
  rw [←h6,List.getElem?_take] at hk
  split at hk
  ·simpa using hk
  ·cases hk
section
variable {P:Program}
theorem old_load {ty:TypeId}{w:World}{b o:Nat}(cs:List Value)(v:Value)(h:∀ k u,cs[k]?=some u->w.cell? ⟨b,o+k,none⟩=some u)(hr:yZ P ty cs.toArray 0=some v):(loadVar ty ⟨b,o,none⟩).run P w= .ok v w:=by
 unfold yZ at hr
 cases hu:P.underlying ty with
 |none=>rw [hu] at hr;simp at hr
 |some d=>
  cases hi:P.info? ty with
  |none=>rw [hu,hi] at hr;cases d<;>simp at hr
  |some i=>
   rw [hu,hi] at hr
   by_cases hd:aggB d=true
   ·have h2:(if 0+i.size<=cs.toArray.size then some (Value.agg (cs.toArray.toList.drop 0|>.take i.size).toArray) else none)=some v:=by
     cases d<;>first|exact hr|(simp [aggB] at hd)
    split at h2
    ·rename_i hle
     obtain rfl:=Option.some.inj h2
     have hlen:(cs.take i.size).length=i.size:=by simp at hle ⊢;omega
     have hl:=run_loadCells_list (P:=P) w ⟨b,o,none⟩ (cs.take i.size) (λj u hj=>by
      rw [xP]
      rw [List.getElem?_take] at hj
      split at hj
      ·exact h j u hj
      ·cases hj)
     rw [hlen] at hl
     have hagg:(isAgg ty).run P w= .ok true w:=by
      unfold isAgg
      rw [Sem.run_bind,run_underlying hu w]
      cases d<;>simp_all [aggB]
     simp [loadVar,Sem.run_bind,hagg,sizeOf,typeInfo,hi,hl]
    ·cases h2
   ·have h2:cs.toArray[0]?=some v:=by cases d<;>first|exact hr|(simp [aggB] at hd)
    have hagg:(isAgg ty).run P w= .ok false w:=by
     unfold isAgg
     rw [Sem.run_bind,run_underlying hu w]
     cases d<;>simp_all [aggB]
    have hc:w.cell? ⟨b,o,none⟩=some v:=by simpa using h 0 v (by simpa using h2)
    simp [loadVar,Sem.run_bind,hagg,run_load,hc,Result.andThen]
theorem wG {α:Type}{g:α->List Value}{sz:Nat}(hg:∀ x,(g x).length=sz){ty:TypeId}{w:World}{b off o:Nat}{l:List α}(hc:∀ k u,(l.flatMap g)[k]?=some u->w.cell? ⟨b,off+k,none⟩=some u)(k fo:Nat)(hk:k<l.length)(ho:o=off+k*sz+fo)(v:Value)
  (hr:yZ P ty ((g l[k]).drop fo).toArray 0=some v):(loadVar ty ⟨b,o,none⟩).run P w= .ok v w:=by
 subst ho
 refine old_load ((g l[k]).drop fo) v (λj u hj=> ?_) hr
 have e:((l.flatMap g)[k*sz+(fo+j)]?)=some u:=by
  rw [List.getElem?_drop] at hj
  have:=flat_at hg l k hk
  rw [←this,List.getElem?_take] at hj
  split at hj
  ·rw [List.getElem?_drop] at hj;exact hj
  ·cases hj
 have:=hc _ u e
 rw [show off+(k*sz+(fo+j))=off+k*sz+fo+j from by omega] at this
 exact this
theorem run_ixA {ρ:Operand->Value}{o:Oper}{t e:TypeId}{x ix:Operand}{A:Option Addr}{b off off' n c sz:Nat}{k:IntKind}{j:Int}(ho:o.op= .indexAddr t x ix)(hx:ρ x= .slice A n c)(hA:A=some ⟨b,off,none⟩)(hi:ρ ix= .int k j)
  (hu:P.underlying t=some (.slice e)) (hs:(P.info? e).map (·.size)=some sz) (h0:0<=j) (h1:j<n) (hoff:off+j.toNat*sz=off') (w:World):(execOp ρ o).run P w= .ok (.value (.pointer (some ⟨b,off',none⟩))) w:=by
 subst hA
 exact run_ixsl ho hx hi hu hs h0 h1 hoff w
theorem ZA {ρ:Operand->Value}{o:Oper}{t e:TypeId}{x ix:Operand}{A:Option Addr}{b off off' n c sz:Nat}{k:IntKind}{j:Int}(hA:A=some ⟨b,off,none⟩)(ho:o.op= .indexAddr t x ix:=by rfl)(hx:ρ x= .slice A n c:=by kernel_rfl)(hi:ρ ix= .int k j:=by kernel_rfl)(hu:P.underlying t=some (.slice e):=by kernel_rfl)(hs:(P.info? e).map (·.size)=some sz:=by kernel_rfl)(h0:0<=j:=by omega)(h1:j<n:=by omega)(hoff:off+j.toNat*sz=off':=by omega)(w:World):(execOp ρ o).run P w= .ok (.value (.pointer (some ⟨b,off',none⟩))) w:=run_ixA ho hx hA hi hu hs h0 h1 hoff w
end
end
section
section
variable {M:List Nat}{P:Program}{n:Nat}{ops:Array Oper}{W:World}{Q:Exit->Act->World->Prop}{L0 L:List Blk}{f:Nat->Value}{fuel:Nat}{listed:Array Bool}{rest:List Oper}{o:Oper}
theorem bV {L':List Blk}(e:L=L')(h:Seg M P n ops W Q rest L' f):Seg M P n ops W Q rest L f:=by subst e;exact h
theorem ok_cast {L':List Blk}{c:Code}(e:L=L')(h:Ok M P n W Q c L' f):Ok M P n W Q c L f:=by subst e;exact h
theorem ok_take {L':List Blk}{c:Code}(hs:∀ w,Own M W w L->Own M W w L')(h:Ok M P n W Q c L' f):Ok M P n W Q c L f:=⟨λw hO=>h.go w (hs w hO)⟩
theorem mG {L':List Blk}(hs:∀ w,Own M W w L->Own M W w L')(h:Seg M P n ops W Q rest L' f):Seg M P n ops W Q rest L f:=⟨λw hO=>h.go w (hs w hO)⟩
theorem fin_take {L':List Blk}{x:Exit}(hs:∀ w,Own M W w L->Own M W w L')(h:Fin M n W Q x L' f):Fin M n W Q x L f:=⟨λw hO=>h.go w (hs w hO)⟩
theorem hl_take (i:Nat)(oi:Oper)(v:Value)(hi:ops[i]?=some oi)(hs:Region.noSelect ops=true)(hf:Region.free .any ops listed i=true)(hr:(Region.ready .any ops listed).contains i=true)
  (hQ:PQ Q) (hsub:∀ w,Own M W w L->Own M W w L0) (hw:zU ops n f oi=true) (hv:∀ w,Own M W w L0->(execOp (ev n f) oi).run P w= .ok (.value v) w)
  (h:pQ M P n ops W L0 Q fuel (listed.setIfInBounds i true) L (upd f oi.dst v)):pQ M P n ops W L0 Q (fuel+1) listed L f:=⟨λw hO=>by
 refine wpAnyH_take hi hs hf hr (λc a w h=>hQ c a _ _ w h) (Or.inl ⟨by rw [qZ];exact hw,λw hw'=>by rw [kU];exact hv w hw'⟩) (hsub w hO) ?_
 rw [vW]
 exact h.go w hO⟩
theorem Z3 (i:Nat)(oi:Oper)(v:Value)(hi:ops[i]?=some oi)(hQ:PQ Q)(hsub:∀ w,Own M W w L->Own M W w L0)(h:pQ M P n ops W L0 Q fuel (listed.setIfInBounds i true) L (upd f oi.dst v))(hs:Region.noSelect ops=true:=by kernel_rfl)(hf:Region.free .any ops listed i=true:=by kernel_rfl)(hr:(Region.ready .any ops listed).contains i=true:=by kernel_rfl)(hw:zU ops n f oi=true:=by kernel_rfl)(hv:∀ w,Own M W w L0->(execOp (ev n f) oi).run P w= .ok (.value v) w:=by intro _ _;kernel_rfl):pQ M P n ops W L0 Q (fuel+1) listed L f:=hl_take i oi v hi hs hf hr hQ hsub hw hv h
theorem hl_skip (i:Nat)(oi:Oper)(hi:ops[i]?=some oi)(hs:Region.noSelect ops=true)(hf:Region.free .any ops listed i=true)(hr:(Region.ready .any ops listed).contains i=true)
  (hQ:PQ Q) (hsub:∀ w,Own M W w L->Own M W w L0) (hw:zU ops n f oi=false)
  (h:pQ M P n ops W L0 Q fuel (listed.setIfInBounds i true) L (upd f oi.dst undef)):pQ M P n ops W L0 Q (fuel+1) listed L f:=⟨λw hO=>by
 refine wpAnyH_take hi hs hf hr (λc a w h=>hQ c a _ _ w h) (Or.inr ⟨by rw [qZ];exact hw,rfl⟩) (hsub w hO) ?_
 rw [vW]
 exact h.go w hO⟩
theorem hl_load (i:Nat)(oi:Oper)(k:Nat)(x:Blk){ty:TypeId}{p:Operand}{off:Nat}(v:Value)(hi:ops[i]?=some oi)(hs:Region.noSelect ops=true)(hf:Region.free .any ops listed i=true)(hr:(Region.ready .any ops listed).contains i=true)
  (hQ:PQ Q) (hsub:∀ w,Own M W w L->Own M W w L0) (hw:zU ops n f oi=true) (ho:oi.op= .load ty p) (hL:L0[k]?=some x) (hp:ev n f p= .pointer (some ⟨x.b,off,none⟩)) (hv:yZ P ty x.cs off=some v)
  (h:pQ M P n ops W L0 Q fuel (listed.setIfInBounds i true) L (upd f oi.dst v)):pQ M P n ops W L0 Q (fuel+1) listed L f:=
 hl_take i oi v hi hs hf hr hQ hsub hw (λ_ hO=>qL ho hp (yU hv (hO.get hL))) h
theorem hl_step {i:Nat}(oi:Oper)(hi:ops[i]?=some oi)(hw:zU ops n f oi=true)(L':World->Value->List Blk->Prop)
  (h:∀ w,Own M W w L->oi.wp P (Fr n f) w (λa' w'=>∃ L' f',a'=Fr n f'/\Own M W w' L'/\Own M W w' L0/\pQ M P n ops W L0 Q fuel (listed.setIfInBounds i true) L' f') Q):tU M P n ops W L0 Q fuel listed i L f:=
 hs_step hi hw λw hO=>by
  refine Oper.wp_mono (λa' w' ⟨L',f',e,h1,h2,h3⟩=> ?_) (h w hO)
  subst e
  exact ⟨h2,h3.go w' h1⟩
theorem hl_call {i:Nat}(oi:Oper){k:FuncId}{args:Array Value}(v:Value)(hi:ops[i]?=some oi)(hw:zU ops n f oi=true)(hsub:∀ w,Own M W w L->Own M W w L0)(he:∀ w,(execOp (ev n f) oi).run P w= .ok (.enter k args) w)
  (hc:∀ w,Own M W w L->Calls P k args w (YR v w)) (h:pQ M P n ops W L0 Q fuel (listed.setIfInBounds i true) L (upd f oi.dst v)):tU M P n ops W L0 Q fuel listed i L f:=
 hs_step hi hw λw hO=>nO (he w) ((hc w hO).mono λe w' ⟨e1,e2⟩=>⟨v,e1,hsub w' (hO.on e2),h.go w' (hO.on e2)⟩)
theorem hl_callx {i:Nat}(oi:Oper){k:FuncId}{args:Array Value}(R:Value->List Blk->Prop)(hi:ops[i]?=some oi)(hw:zU ops n f oi=true)(he:∀ w,(execOp (ev n f) oi).run P w= .ok (.enter k args) w)
  (hc:∀ w,Own M W w L->Calls P k args w λe w'=>∃ v L',e= .returned v/\R v L'/\Own M W w' L') (hsub:∀ v L',R v L'→∀ w,Own M W w L'->Own M W w L0)
  (h:∀ v L',R v L'->pQ M P n ops W L0 Q fuel (listed.setIfInBounds i true) L' (upd f oi.dst v)):tU M P n ops W L0 Q fuel listed i L f:=
 hs_step hi hw λw hO=>nO (he w) ((hc w hO).mono λe w' ⟨v,L',e1,e2,e3⟩=>⟨v,e1,hsub v L' e2 w' e3,(h v L' e2).go w' e3⟩)
theorem hl_append {i0:Nat}{E ob R:List Blk}(oi:Oper){t T:TypeId}{s x:Operand}{i:TypeInfo}{z:Value}{sz:Nat}(hi0:ops[i0]?=some oi)(hw:zU ops n f oi=true)(ho:oi.op= .call {callee:= .builtin .append,args:= #[s,x],argTypes:= #[t,t]})
  (ht:P.underlying t=some (.slice T)) (hi:P.info? T=some i) (hz:i.zero=some z) (hsz:i.size=sz) (hzs:z.cells.size=sz)
  {v:Value} {m0:Nat} {xs:List Value} (hs:ev n f s=v) (hv:Sl T sz v m0 xs ob) {a:Addr} {m c:Nat} {news:List Value} (hx:ev n f x= .slice (some a) m c)
  (hl:news.length=m*sz) (hnews:∀ w,Own M W w (E++ob++R)→∀ j u,news[j]?=some u->w.cell? (a.add j)=some u) (h1:∀ u∈news,u.oneCell'=true)
  (h63:m0+m<=maxLen) (hbytes:(m0+m)*i.bytes<=140737488355328) (hsub:∀ ob' w,Own M W w (E++ob'++R)->Own M W w L0)
  (h:∀ v' ob',Sl T sz v' (m0+m) (xs++news) ob'->pQ M P n ops W L0 Q fuel (listed.setIfInBounds i0 true) (E++ob'++R) (upd f oi.dst v')):tU M P n ops W L0 Q fuel listed i0 (E++ob++R) f:=
 hs_step hi0 hw λw hO=>by
  obtain ⟨v',w',ob',hr,h2,h3⟩:=t8 (P:=P) (ty:=oi.type) (c:=c) ht hi hz hsz hzs hv hO hl (hnews w hO) h1 h63 hbytes
  refine vA v' (w':=w') ?_ ⟨hsub ob' w' h3,(h v' ob' h2).go w' h3⟩
  unfold execOp
  simp only [ho,resolve,invoke,builtin,Sem.run_bind,Sem.run_pure,Result.andThen_ok,List.map_toArray,List.map_cons,List.map_nil,hs,hx,hr]
theorem Own.join {ob ob' R:List Blk}{w w':World}(h:Own M W w (ob++R))(hc:Own (ob.map Blk.b) w w' ob'):Own M W w' (ob'++R):=by
 have hap:=h.apart
 rw [List.map_append,List.nodup_append] at hap
 have notob:∀ x∈R,x.b∉ob.map Blk.b:=λx hx hm=>hap.2.2 x.b hm x.b (List.mem_map.2 ⟨x,hx,rfl⟩) rfl
 have ltR:∀ x∈R,x.b<w.heap.size:=λx hx=>h.lt (List.mem_append_right ob hx)
 have newob:∀ x∈ob',x.b∉R.map Blk.b:=λx hx hm=>by
  obtain ⟨y,hy,e⟩:=List.mem_map.1 hm
  rcases hc.base x hx with h1|h1
  ·have:=ltR y hy;omega
  ·exact notob y hy (e▸h1)
 refine ⟨hc.os.trans h.os,hc.tape.trans h.tape,hc.output.trans h.output,Nat.le_trans h.size hc.size,Nat.le_trans h.drawn hc.drawn,λk hk hm=> ?_,λx hx=> ?_,λx hx=> ?_, ?_⟩
 ·rw [hc.kept k (Nat.lt_of_lt_of_le hk h.size) (λhmem=>by
   obtain ⟨y,hy,e⟩:=List.mem_map.1 hmem
   rcases h.base y (List.mem_append_left R hy) with h1|h1
   ·omega
   ·exact hm (e▸h1))]
  exact h.kept k hk hm
 ·rcases List.mem_append.1 hx with hx|hx
  ·exact hc.held x hx
  ·rw [hc.kept x.b (ltR x hx) (notob x hx)]
   exact h.held x (List.mem_append_right ob hx)
 ·rcases List.mem_append.1 hx with hx|hx
  ·rcases hc.base x hx with h1|h1
   ·exact .inl (Nat.le_trans h.size h1)
   ·obtain ⟨y,hy,e⟩:=List.mem_map.1 h1
    rw [←e];exact h.base y (List.mem_append_left R hy)
  ·exact h.base x (List.mem_append_right ob hx)
 ·rw [List.map_append,List.nodup_append]
  refine ⟨hc.apart,hap.2.1,λa ha b hb e=> ?_⟩
  obtain ⟨x,hx,rfl⟩:=List.mem_map.1 ha
  exact newob x hx (e▸hb)
theorem Own.joinN {ob' R:List Blk}{w w':World}(h:Own M W w R)(hc:Own [] w w' ob'):Own M W w' (ob'++R):=Own.join (ob:=[]) h hc
end
section
variable {P:Program}{n:Nat}{W:World}{f:Nat->Value}{Q:Exit->Act->World->Prop}{M:List Nat}{ops:Array Oper}{rest:List Oper}{o:Oper}{L:List Blk}
theorem calls_okL {k:FuncId}{fn:Func}{c:Code}{args:Array Value}{R:Ending->World->Prop}(hO:Own M W W L)(hf:P.funcs[k]?=some fn)(hb:fn.body=some c)(hn:fn.ntmps=n)(hle:Nat.ble args.size n=true)
  (h:Ok M P n W (bodyPost P fn R) c L (λt=>args.getD t undef)):Calls P k args W R:=by
 have h2:Ok M P n W (bodyPost P fn R) c [] (λt=>args.getD t undef)->Calls P k args W R:=calls_okM M hf hb hn hle
 refine calls_of_wp hf hb ?_
 have hle':args.size<=n:=Nat.le_of_ble_eq_true hle
 have e:({tmps:=args++Array.replicate (fn.ntmps-args.size) undef,defers:=[]}:Act)=Fr n (λt=>args.getD t undef):=by
  unfold Fr
  congr 1
  rw [hn]
  apply Array.ext_getElem?
  intro i
  rw [Array.getElem?_ofFn,Array.getElem?_append,Array.getElem?_replicate]
  by_cases hi:i<args.size
  ·rw [if_pos hi,dif_pos Om,Array.getElem?_eq_getElem hi]
   simp [Array.getD,hi]
  ·rw [if_neg hi]
   by_cases hin:i<n
   ·rw [if_pos Om,dif_pos hin]
    simp [Array.getD,hi]
   ·rw [if_neg Om,dif_neg hin]
 rw [e]
 exact h.go W hO
theorem Sl.block {T sz m:Nat}{A:Option Addr}{cap:Nat}{xs:List Value}{ob:List Blk}(h:Sl T sz (.slice A m cap) m xs ob)(h0:0<m):∃ g cur,A=some ⟨g,0,none⟩/\ob=[⟨g,cur,T⟩]/\m<=cap/\cap<=maxLen/\cur.size=cap*sz/\cur.toList.take (m*sz)=xs:=by
 rcases h.2 with ⟨_,h2,_⟩|⟨g,c,cur,e,e2,h3,h4,h5,h6⟩
 ·omega
 ·simp only [Value.slice.injEq] at e
  obtain ⟨rfl,_,rfl⟩:=e
  exact ⟨g,cur,rfl,e2,h3,h4,h5,h6⟩
theorem p5 {α:Type}{g:α->List Value}{sz:Nat}(hg:∀ x,(g x).length=sz){ty:TypeId}{cur:Array Value}{l:List α}(ht:cur.toList.take (l.length*sz)=l.flatMap g)(k fo:Nat)(hk:k<l.length)(hfo:fo<=sz)(v:Value)
  (hr:yZ P ty ((g l[k]).drop fo).toArray 0=some v):yZ P ty cur (k*sz+fo)=some v:=by
 have hcur:l.length*sz<=cur.size:=by
  have:=congrArg List.length ht
  rw [List.length_take,jT hg] at this
  simp at this;omega
 have hks:k*sz+sz<=l.length*sz:=by rw [←Nat.succ_mul];exact Nat.mul_le_mul_right _ hk
 have hat:∀ j u,((g l[k]).drop fo)[j]?=some u->cur.toList[k*sz+fo+j]?=some u:=λj u hj=>by
  rw [List.getElem?_drop] at hj
  have h1:fo+j<sz:=by
   have:=(List.getElem?_eq_some_iff.1 hj).1
   rw [hg] at this;exact this
  have h2:(l.flatMap g)[k*sz+(fo+j)]?=some u:=by
   have:=flat_at hg l k hk
   rw [←this,List.getElem?_take,if_pos h1,List.getElem?_drop] at hj
   exact hj
  rw [←ht,List.getElem?_take,if_pos Om] at h2
  rw [show k*sz+fo+j=k*sz+(fo+j) from by omega];exact h2
 unfold yZ at hr ⊢
 cases hu:P.underlying ty with
 |none=>rw [hu] at hr;simp at hr
 |some d=>
  cases hi:P.info? ty with
  |none=>rw [hu,hi] at hr;cases d<;>simp at hr
  |some i=>
   rw [hu,hi] at hr
   by_cases hd:aggB d=true
   ·have h2:(if 0+i.size<=((g l[k]).drop fo).toArray.size then some (Value.agg (((g l[k]).drop fo).toArray.toList.drop 0|>.take i.size).toArray) else none)=some v:=by
     cases d<;>first|exact hr|(simp [aggB] at hd)
    have h3:(if (k*sz+fo)+i.size<=cur.size then some (Value.agg (cur.toList.drop (k*sz+fo)|>.take i.size).toArray) else none)=some v:=by
     split at h2
     ·rename_i hle
      simp only [List.size_toArray,List.length_drop,hg] at hle
      rw [if_pos Om,←h2]
      congr 2
      congr 1
      apply List.ext_getElem?
      intro j
      rw [List.getElem?_take,List.getElem?_take]
      split
      ·rename_i hj
       rw [List.getElem?_drop]
       simp only [List.drop_zero]
       have:∃ u,((g l[k]).drop fo)[j]?=some u:=⟨_,List.getElem?_eq_getElem (by rw [List.length_drop,hg];omega)⟩
       obtain ⟨u,hu⟩:=this
       rw [hat j u hu,hu]
      ·rfl
     ·cases h2
    cases d<;>first|exact h3|(simp [aggB] at hd)
   ·have h2:((g l[k]).drop fo).toArray[0]?=some v:=by cases d<;>first|exact hr|(simp [aggB] at hd)
    have h3:cur[k*sz+fo]?=some v:=by
     have:=hat 0 v (by simpa using h2)
     simpa using this
    cases d<;>first|exact h3|(simp [aggB] at hd)
end
section
variable {P:Program}{n:Nat}{W:World}{f:Nat->Value}{Q:Exit->Act->World->Prop}{M:List Nat}{ops:Array Oper}{rest:List Oper}{o:Oper}{L:List Blk}
theorem s_storeS (i:Nat)(x:Blk){T:TypeId}{p q:Operand}{off:Nat}(v:Value)(sz:Nat)(hw:zU ops n f o=true)(ho:o.op= .store T p q)(hd:o.dst=none)(hL:L[i]?=some x)
  (hp:ev n f p= .pointer (some ⟨x.b,off,none⟩)) (hq:ev n f q=v) (hz:(P.info? T).map (·.size)=some sz) (hs:v.cells.size=sz) (hle:off+sz<=x.cs.size) (h1:(v.cells.toList.all λu=>u.oneCell')=true)
  (h:Seg M P n ops W Q rest (L.set i ⟨x.b,zW x.cs off v.cells,x.ty⟩) f):Seg M P n ops W Q (o::rest) L f:=by
 cases ht:P.info? T with
 |none=>rw [ht] at hz;cases hz
 |some t=>
  rw [ht] at hz
  have e:t.size=sz:=Option.some.inj hz
  exact s_store i x v hw ho hd hL hp hq ht (by rw [hs,e]) (by rw [e];exact hle) (List.all_eq_true.1 h1) h
theorem store_elem {α:Type}{g:α->List Value}{sz:Nat}(hg:∀ x,(g x).length=sz){cur:Array Value}{l:List α}(ht:cur.toList.take (l.length*sz)=l.flatMap g)(k fo:Nat)(hk:k<l.length)(vs:Array Value)(y:α)(hfit:fo+vs.size<=sz)
  (hy:g y=(g l[k]).take fo++vs.toList++(g l[k]).drop (fo+vs.size)):(zW cur (k*sz+fo) vs).toList.take (l.length*sz)=(l.set k y).flatMap g/\(zW cur (k*sz+fo) vs).size=cur.size:=by
 obtain ⟨R,hR⟩:∃ R,cur.toList=l.flatMap g++R:=⟨cur.toList.drop (l.length*sz),by rw [←ht];exact (List.take_append_drop _ _).symm⟩
 have hsplit:l.flatMap g=(l.take k).flatMap g++(g l[k]++(l.drop (k+1)).flatMap g):=by
  rw [←List.flatMap_cons,←List.drop_eq_getElem_cons hk,←List.flatMap_append,List.take_append_drop]
 obtain ⟨A,hA⟩:∃ A,(l.take k).flatMap g=A:=⟨_,rfl⟩
 obtain ⟨B,hB⟩:∃ B,(l.drop (k+1)).flatMap g=B:=⟨_,rfl⟩
 obtain ⟨G,hG⟩:∃ G,g l[k]=G:=⟨_,rfl⟩
 have lA:A.length=k*sz:=by rw [←hA,jT hg,List.length_take,Nat.min_eq_left Om]
 have lG:G.length=sz:=by rw [←hG];exact hg _
 have lB:B.length=(l.length-(k+1))*sz:=by rw [←hB,jT hg,List.length_drop]
 have tot:k*sz+sz+(l.length-(k+1))*sz=l.length*sz:=by
  rw [←Nat.succ_mul,←Nat.add_mul];congr 1;omega
 rw [hA,hB,hG] at hsplit
 rw [hG] at hy
 have hset:(l.set k y).flatMap g=A++(g y++B):=by
  rw [List.set_eq_take_append_cons_drop,if_pos hk,List.flatMap_append,List.flatMap_cons,hA,hB]
 have hcur:cur.toList=A++(G++(B++R)):=by rw [hR,hsplit];simp only [List.append_assoc]
 have e1:cur.toList.take (k*sz+fo)=A++G.take fo:=by
  rw [hcur,←lA,List.take_length_add_append,List.take_append_of_le_length Om]
 have e2:cur.toList.drop (k*sz+fo+vs.size)=G.drop (fo+vs.size)++(B++R):=by
  rw [hcur,←lA,Nat.add_assoc,List.drop_length_add_append,List.drop_append_of_le_length Om]
 have e3:(zW cur (k*sz+fo) vs).toList=A++(g y++(B++R)):=by
  unfold zW
  rw [e1,e2,hy];simp only [List.append_assoc]
 constructor
 ·rw [e3,hset]
  have:A++(g y++(B++R))=(A++(g y++B))++R:=by simp only [List.append_assoc]
  rw [this]
  exact List.take_left' (by rw [List.length_append,List.length_append,lA,lB,hg];omega)
 ·have h1:=congrArg List.length e3
  have h2:=congrArg List.length hcur
  simp only [List.length_append,Array.length_toList,hg,lG] at h1 h2
  omega
end
end
section
section
variable {P:Program}
theorem run_slhi {ρ:Operand->Value}{o:Oper}{t e:TypeId}{x y:Operand}{b off n c sz:Nat}{k:IntKind}{j:Int}(ho:o.op= .slice t x none (some y) none)(hx:ρ x= .slice (some ⟨b,off,none⟩) n c)(hy:ρ y= .int k j)
  (hu:P.underlying t=some (.slice e)) (hs:(P.info? e).map (·.size)=some sz) (h0:0<=j) (h1:j<=c) (w:World):(execOp ρ o).run P w= .ok (.value (.slice (some ⟨b,off,none⟩) j.toNat c)) w:=by
 cases he:P.info? e with
 |none=>rw [he] at hs;cases hs
 |some i=>
  unfold execOp
  simp [ho,hx,hy,Instr.sliceAt,Instr.slice,Instr.sliceBounds,Instr.sliceBound,Sem.run_bind,asIntOf,run_underlying hu,h0,h1,sizeOf,typeInfo,he,xP]
theorem run_sllo {ρ:Operand->Value}{o:Oper}{t e:TypeId}{x y:Operand}{b off n c sz:Nat}{k:IntKind}{j:Int}(ho:o.op= .slice t x (some y) none none)(hx:ρ x= .slice (some ⟨b,off,none⟩) n c)(hy:ρ y= .int k j)
  (hu:P.underlying t=some (.slice e)) (hs:(P.info? e).map (·.size)=some sz) (h0:0<=j) (h1:j<=n) (w:World):(execOp ρ o).run P w= .ok (.value (.slice (some ⟨b,off+(if c=j.toNat then 0 else j.toNat*sz),none⟩) (n-j.toNat) (c-j.toNat))) w:=by
 cases he:P.info? e with
 |none=>rw [he] at hs;cases hs
 |some i=>
  rw [he] at hs
  obtain rfl:=Option.some.inj hs
  unfold execOp
  by_cases hc:c=j.toNat
  ·simp [ho,hx,hy,Instr.sliceAt,Instr.slice,Instr.sliceBounds,Instr.sliceBound,Sem.run_bind,asIntOf,run_underlying hu,h0,h1,sizeOf,typeInfo,he,xP,hc]
  ·simp [ho,hx,hy,Instr.sliceAt,Instr.slice,Instr.sliceBounds,Instr.sliceBound,Sem.run_bind,asIntOf,run_underlying hu,h0,h1,sizeOf,typeInfo,he,xP,hc]
end
end
section
section
variable {P:Program}{w:World}{ob:List Blk}
theorem tQ {t ty T:TypeId}{i:TypeInfo}(ht:P.underlying t=some (.slice T))(hi:P.info? T=some i){sz:Nat}{v:Value}{n:Nat}{xs:List Value}(hv:Sl T sz v n xs ob)(c:Nat):
  (Builtin.append_ #[t,t] ty #[v,.slice none 0 c]).run P w= .ok v w:=by
 rcases hv.2 with ⟨rfl,rfl,rfl⟩|⟨g,cap,cur,rfl,rfl,hnc,hcm,hcs,htake⟩
 ·simp [Builtin.append_,run_underlying ht,sizeOf,typeInfo,hi,Builtin.lenOf,Builtin.firstCells]
 ·simp [Builtin.append_,run_underlying ht,sizeOf,typeInfo,hi,Builtin.lenOf,Builtin.firstCells,hnc,storeCells]
end
section
variable {M:List Nat}{P:Program}{n0:Nat}{ops:Array Oper}{W:World}{Q:Exit->Act->World->Prop}{rest:List Oper}{o:Oper}{E ob L0:List Blk}{f:Nat->Value}
end
end
section
theorem freeze_drawn (w:World)(a:Addr)(m:Nat):(w.freeze a m).drawn=w.drawn:=by unfold World.freeze;split<;>rfl
theorem Own.freeze {M:List Nat}{W w:World}{x:Blk}{L:List Blk}(h:Own M W w (x::L))(m:Nat):Own M W (w.freeze ⟨x.b,0,none⟩ m) L:=by
 have hne:∀ k,k≠x.b->(w.freeze ⟨x.b,0,none⟩ m).heap[k]?=w.heap[k]?:=λk hk=>by
  unfold World.freeze
  split
  ·rfl
  ·simp only [Array.getElem?_modify];rw [if_neg (Ne.symm hk)]
 have hsz:(w.freeze ⟨x.b,0,none⟩ m).heap.size=w.heap.size:=by unfold World.freeze;split<;>simp
 have ho:(w.freeze ⟨x.b,0,none⟩ m).os=w.os/\(w.freeze ⟨x.b,0,none⟩ m).tape=w.tape/\(w.freeze ⟨x.b,0,none⟩ m).output=w.output:=by unfold World.freeze;split<;>exact ⟨rfl,rfl,rfl⟩
 have hap:=h.apart
 rw [List.map_cons,List.nodup_cons] at hap
 refine ⟨ho.1.trans h.os,ho.2.1.trans h.tape,ho.2.2.trans h.output,by rw [hsz];exact h.size,by rw [freeze_drawn];exact h.drawn,λk hk hm=> ?_,λy hy=> ?_,λy hy=>h.base y (List.mem_cons_of_mem _ hy),hap.2⟩
 ·rw [hne k (λe=>by
   rcases h.base x List.mem_cons_self with h1|h1
   ·omega
   ·exact hm (e▸h1))]
  exact h.kept k hk hm
 ·rw [hne y.b (λe=>hap.1 (e▸List.mem_map_of_mem hy))]
  exact h.held y (List.mem_cons_of_mem _ hy)
section
variable {M:List Nat}{P:Program}{n0:Nat}{ops:Array Oper}{W:World}{Q:Exit->Act->World->Prop}{rest:List Oper}{o:Oper}{L:List Blk}{f:Nat->Value}
theorem s_make {t e:TypeId}{x y:Operand}{i:TypeInfo}{z:Value}{kl kc:IntKind}{l c:Int}(hw:zU ops n0 f o=true)(ho:o.op= .makeSlice t x y)(hx:ev n0 f x= .int kl l)(hy:ev n0 f y= .int kc c)
  (ht:P.underlying t=some (.slice e)) (hi:P.info? e=some i) (hz:i.zero=some z) (h0:0<=l) (hlc:l<=c) (hbytes:(i.bytes:Int)*c<=281474976710656) (h63:c<=9223372036854775807)
  (h:∀ b,Seg M P n0 ops W Q rest (⟨b,madeCells z.cells (c.toNat*i.size),e⟩::L) (upd f o.dst (.slice (some ⟨b,0,none⟩) l.toNat c.toNat))):Seg M P n0 ops W Q (o::rest) L f:=
 vC hw λw hO=>by
  refine vA _ (w':=w.alloc (.cells (madeCells z.cells (c.toNat*i.size)) e)) ?_ ((h w.heap.size).go _ (hO.alloc _ _))
  have hr:=run_make (P:=P) w t e i z ht hi hz kl kc l c h0 hlc hbytes h63
  unfold execOp
  simp only [ho,hx,hy,Sem.run_bind,Sem.run_pure,Result.andThen_ok,hr]
theorem s_copyS {t u e:TypeId}{x y:Operand}{b cap:Nat}{cs:Array Value}{T:TypeId}{s:ByteArray}(hw:zU ops n0 f o=true)(ho:o.op= .call {callee:= .builtin .copy,args:= #[x,y],argTypes:= #[t,u]})
  (hx:ev n0 f x= .slice (some ⟨b,0,none⟩) s.size cap) (hy:ev n0 f y= .string s) (ht:P.underlying t=some (.slice e)) (hs:(P.info? e).map (·.size)=some 1) (hc:cs.size=s.size)
  (h:Seg M P n0 ops W Q rest (⟨b,(Lib.byteCells s.data.toList).toArray,T⟩::L) (upd f o.dst (goInt s.size))):Seg M P n0 ops W Q (o::rest) (⟨b,cs,T⟩::L) f:=
 vC hw λw hO=>by
  have hr:=Lib.run_copy_row_string (P:=P) w t u o.type e b 0 s.size cap s cs T ht hs (hO.held _ List.mem_cons_self) (Nat.le_refl _) Om
  have hcs:(cs.toList.take 0++Lib.byteCells s.data.toList++cs.toList.drop (0+s.size)).toArray=(Lib.byteCells s.data.toList).toArray:=by
   rw [List.take_zero,List.nil_append,List.drop_of_length_le (by rw [Array.length_toList];omega),List.append_nil]
  rw [hcs] at hr
  refine vA _ (w':=w.setRow b (Lib.byteCells s.data.toList).toArray) ?_ (h.go _ (hO.put (i:=0) (x:=⟨b,cs,T⟩) rfl _))
  unfold execOp
  simp only [ho,resolve,invoke,builtin,Sem.run_bind,Sem.run_pure,Result.andThen_ok,List.map_toArray,List.map_cons,List.map_nil,hx,hy,hr]
theorem s_ustr {t u e:TypeId}{x y:Operand}{b:Nat}{s:ByteArray}(hw:zU ops n0 f o=true)(ho:o.op= .call {callee:= .builtin .unsafeString,args:= #[x,y],argTypes:= #[t,u]})
  (hx:ev n0 f x= .pointer (some ⟨b,0,none⟩)) (hy:ev n0 f y=YI s.size) (ht:P.underlying t=some (.pointer e)) (hc:P.cellsOf e=1) (hne:s.size≠0) (h63:s.size<=9223372036854775807)
  (h:Seg M P n0 ops W Q rest L (upd f o.dst (.string s))):Seg M P n0 ops W Q (o::rest) (⟨b,(Lib.byteCells s.data.toList).toArray,e⟩::L) f:=
 vC hw λw hO=>by
  have hg:=hO.held _ List.mem_cons_self
  have hl:s.data.toList.length=s.size:=by rw [←Lib.size_eq]
  have hr:=Lib.run_unsafeString_row (P:=P) w t u o.type e ht hc b s.size (by unfold World.shape?;simp only at hg;rw [hg];simp [Lib.byteCells_length,hl]) s.data.toList (λe=>hne (by rw [←hl,e];rfl)) Om Om
   (λj x hx=>by
    rw [xP,cell_of_row w b (0+j) _ e _ hg]
    simp [Lib.byteCells,hx])
  rw [hl] at hr
  refine vA _ (w':=w.freeze ⟨b,0,none⟩ s.size) ?_ (h.go _ (hO.freeze s.size))
  unfold execOp
  simp only [ho,resolve,invoke,builtin,Sem.run_bind,Sem.run_pure,Result.andThen_ok,List.map_toArray,List.map_cons,List.map_nil,hx,hy,hr]
end
end
section
section
variable {M:List Nat}{P:Program}{n:Nat}{W:World}{Q:Exit->Act->World->Prop}{L:List Blk}{f:Nat->Value}
def JoinQ (M:List Nat)(n:Nat)(W:World)(R:List Blk->(Nat->Value)->Prop):Exit->Act->World->Prop
 | .normal,a,w=>∃ L f,R L f/\Own M W w L/\a=Fr n f
 |_,_,_=>False
theorem pq_join {R:List Blk->(Nat->Value)->Prop}:PQ (JoinQ M n W R):=λc a d v w h=>h
theorem ok_join {c:Code}(R:List Blk->(Nat->Value)->Prop)(h1:Ok M P n W (JoinQ M n W R) c L f)(h2:∀ L f,R L f->Fin M n W Q .normal L f):Ok M P n W Q c L f:=⟨λw hO=>
 Code.wp_mono (λe a w h=>by
  cases e with
  |normal=>
   obtain ⟨L',f',hR,hO',rfl⟩:=h
   exact (h2 L' f' hR).go w hO'
  |_=>exact absurd h id) (h1.go w hO)⟩
theorem fin_join {R:List Blk->(Nat->Value)->Prop}(h:R L f):Fin M n W (JoinQ M n W R) .normal L f:=⟨λw hO=>⟨L,f,h,hO,rfl⟩⟩
end
end
section
section
variable {M:List Nat}{P:Program}{n0:Nat}{ops:Array Oper}{W:World}{Q:Exit->Act->World->Prop}{rest:List Oper}{o:Oper}{L:List Blk}{f:Nat->Value}
end
end
section
section
variable {M:List Nat}{P:Program}{n:Nat}{ops:Array Oper}{W:World}{Q:Exit->Act->World->Prop}{rest:List Oper}{o:Oper}{L:List Blk}{f:Nat->Value}{Qe:List Blk->(Nat->Value)->Prop}
end
end
section
end
section
theorem Reads.load {P:Program}{α:Type}{g:α->List Value}{sz:Nat}(hg:∀ x,(g x).length=sz){ty:TypeId}{w:World}{B b off o:Nat}{A:Option Addr}{l:List α}(h:Reads g w B A l)(hA:A=some ⟨b,off,none⟩)(k fo:Nat)(hk:k<l.length)(ho:o=off+k*sz+fo)(v:Value)
  (hr:yZ P ty ((g l[k]).drop fo).toArray 0=some v):(loadVar ty ⟨b,o,none⟩).run P w= .ok v w:=by
 subst hA
 obtain ⟨b',off',e,hlt,hcell⟩:=h Om
 obtain ⟨rfl,rfl⟩:b=b'/\off=off':=by simp at e;exact e
 exact wG hg hcell k fo hk ho v hr
end
section
theorem mk_data (t:YL):(mkS t).data.toList=t:=by unfold mkS;simp
theorem zQ (t:YL):(mkS t).size=t.length:=by unfold mkS;simp [ByteArray.size]
theorem x2 (a b:YL):mkS a++mkS b=mkS (a++b):=by
 unfold mkS;apply ByteArray.ext;simp
theorem bY (a:YL):(mkS a).size=a.length:=by unfold mkS;simp [ByteArray.size]
theorem Own.sublist {M:List Nat}{W w:World}{L L':List Blk}(h:Own M W w L)(hs:List.Sublist L' L):Own M W w L':=h.take (λx hx=>hs.subset hx) (h.apart.sublist (hs.map _))
theorem Own.lend {M:List Nat}{W w:World}{L:List Blk}(h:Own M W w L):Own (L.map Blk.b) w w L:=
 ⟨rfl,rfl,rfl,Nat.le_refl _,Nat.le_refl _,λ_ _ _=>rfl,h.held,λx hx=> .inr (List.mem_map.2 ⟨x,hx,rfl⟩),h.apart⟩
section
variable {M:List Nat}{P:Program}{n:Nat}{ops:Array Oper}{W:World}{Q:Exit->Act->World->Prop}{L0 L:List Blk}{f:Nat->Value}{fuel:Nat}{listed:Array Bool}{rest:List Oper}{o:Oper}
theorem s_callo {k:FuncId}{args:Array Value}(R:Value->List Blk->Prop)(hw:zU ops n f o=true)(he:∀ w,(execOp (ev n f) o).run P w= .ok (.enter k args) w)
  (hc:∀ w,Own M W w L->Calls P k args w λe w'=>∃ v L',e= .returned v/\R v L'/\Own M W w' L') (h:∀ v L',R v L'->Seg M P n ops W Q rest L' (upd f o.dst v)):Seg M P n ops W Q (o::rest) L f:=
 vC hw λw hO=>nO (he w) ((hc w hO).mono λe w' ⟨v,L',e1,e2,e3⟩=>⟨v,e1,(h v L' e2).go w' e3⟩)
theorem Zr {k:FuncId}{args:Array Value}(R:Value->List Blk->Prop)(hc:∀ w,Own M W w L->Calls P k args w λe w'=>∃ v L',e= .returned v/\R v L'/\Own M W w' L')(h:∀ v L',R v L'->Seg M P n ops W Q rest L' (upd f o.dst v))(hw:zU ops n f o=true:=by kernel_rfl)(he:∀ w,(execOp (ev n f) o).run P w= .ok (.enter k args) w:=by intro _;kernel_rfl):Seg M P n ops W Q (o::rest) L f:=s_callo R hw he hc h
theorem Own.perm {w:World}{L':List Blk}(h:Own M W w L)(hp:L.Perm L'):Own M W w L':=
 h.take (λx hx=>hp.mem_iff.2 hx) ((hp.map Blk.b).nodup_iff.1 h.apart)
end
def SlT (v:Value)(l:List YL)(ob:List Blk):Prop:=Sl 9 1 v l.length (jD l) ob
theorem SlT.form {v:Value}{l:List YL}{ob:List Blk}(h:SlT v l ob):∃ A cap,v= .slice A l.length cap:=by
 rcases h.2 with ⟨h1,h2,_⟩|⟨g,cap,cur,h1,_⟩
 ·exact ⟨none,0,by rw [h1,h2]⟩
 ·exact ⟨_,_,h1⟩
theorem Own.row {w w':World}{T sz n:Nat}{v:Value}{xs:List Value}(h:w'.ownsRow w.heap.size T sz v n xs)(hb:YB w w'):∃ ob,Sl T sz v n xs ob/\Own [] w w' ob:=by
 rcases h.2 with ⟨h1,h2⟩|⟨g,cap,cur,h1,h2,h3,h4,h5,h6,h7⟩
 ·exact ⟨[],⟨h.1,.inl ⟨h1,h2,rfl⟩⟩,⟨hb.os,hb.tape,hb.output,hb.size,hb.drawn,λk hk _=>hb.block k hk,by simp,by simp,by simp⟩⟩
 ·refine ⟨[⟨g,cur,T⟩],⟨h.1,.inr ⟨g,cap,cur,h1,rfl,h4,h5,h6,h7⟩⟩,⟨hb.os,hb.tape,hb.output,hb.size,hb.drawn,λk hk _=>hb.block k hk, ?_, ?_,by simp⟩⟩
  ·intro x hx
   rw [List.mem_singleton.1 hx];exact h3
  ·intro x hx
   rw [List.mem_singleton.1 hx];exact .inl h2
def yY (x:YL):List Value:=[.string (mkS x)]
theorem zX (x:YL):(yY x).length=1:=rfl
theorem kL:∀ (l:List YL),jD l=l.flatMap yY
 | []=>rfl
 |x::l=>by
  show Value.string (mkS x)::jD l=[Value.string (mkS x)]++l.flatMap yY
  rw [kL l];rfl
theorem SlT.reads {A:Option Addr}{n cap:Nat}{l:List YL}{ob L:List Blk}{M:List Nat}{W w:World}(h:SlT (.slice A n cap) l ob)(hn:l.length=n)(hO:Own M W w L)(hs:∀ x∈ob,x∈L):Reads yY w w.heap.size A l:=by
 subst hn
 unfold SlT at h
 rw [kL] at h
 exact Sl.reads h rfl hO hs
theorem slt_lit (l:List YL)(b:Nat)(cur:Array Value)(h:cur.toList=jD l)(hm:l.length<=maxLen):SlT (.slice (some ⟨b,0,none⟩) l.length l.length) l [⟨b,cur,9⟩]:=by
 have hc:cur.toList.length=l.length:=by rw [h,bF]
 refine ⟨by rw [bF];omega,.inr ⟨b,l.length,cur,rfl,rfl,Nat.le_refl _,hm,by rw [←Array.length_toList,hc];omega, ?_⟩⟩
 rw [h]
 exact List.take_of_length_le (by rw [bF];omega)
theorem Sl.to {T:TypeId}{sz:Nat}{v:Value}{n n':Nat}{xs xs':List Value}{ob:List Blk}(h:Sl T sz v n xs ob)(e:n=n')(e':xs=xs'):Sl T sz v n' xs' ob:=by subst e;subst e';exact h
theorem Sl.form {T sz n:Nat}{v:Value}{xs:List Value}{ob:List Blk}(h:Sl T sz v n xs ob):∃ A cap,v= .slice A n cap:=by
 rcases h.2 with ⟨h1,h2,_⟩|⟨g,cap,cur,h1,_⟩
 ·exact ⟨none,0,by rw [h1,h2]⟩
 ·exact ⟨_,_,h1⟩
theorem SlT.add {u:Value}{l:List YL}{x:YL}{ob:List Blk}(h:Sl 9 1 u (l.length+1) (jD l++yY x) ob):SlT u (l++[x]) ob:=
 Sl.to h (by simp) (by unfold jD;rw [List.map_append];rfl)
def EqOk (P:Program)(d:Nat)(xs ys:Array Value):List Field->List Bool->Prop
 | [],[]=>True
 | f :: fs, b :: bs => f.name ≠ "_" ∧ (∃ u v, ∀ w, (part f.type xs f.offset).run P w = .ok u w ∧ (part f.type ys f.offset).run P w = .ok v w ∧ (Op.equalIn d f.type u v).run P w = .ok b w) ∧ EqOk P d xs ys fs bs
 |_,_=>False
theorem eqF {P:Program}{d:Nat}{xs ys:Array Value}:∀ (fs:List Field) (bs:List Bool),EqOk P d xs ys fs bs→∀ w,(Op.eqFields d xs ys fs).run P w= .ok (bs.all id) w
 | [],[],_,w=>rfl
 |f::fs,b::bs,h,w=>by
  obtain ⟨h1,⟨u,v,h2⟩,h3⟩:=h
  obtain ⟨e1,e2,e3⟩:=h2 w
  have ih:=eqF fs bs h3 w
  unfold Op.eqFields
  rw [if_pos h1]
  simp only [Sem.run_bind,e1,e2,e3,Result.andThen_ok]
  cases b with
  |false=>simp
  |true=>simp [ih]
 | [],_::_,h,_=>h.elim
 |_::_,[],h,_=>h.elim
theorem eq_agg {P:Program}{d:Nat}{t:TypeId}{xs ys:Array Value}{fs:List Field}{bs:List Bool}(hu:P.underlying t=some (.struct fs.toArray))(hp:P.stoodInHeld t=false)(h:EqOk P d xs ys fs bs)(w:World):
  (Op.equalIn (d+1) t (.agg xs) (.agg ys)).run P w= .ok (bs.all id) w:=by
 have hf:P.fieldsOf t=fs.toArray:=by unfold Program.fieldsOf;rw [hu]
 rw [run_equalIn_struct w d t xs ys (by rw [hf];exact hu) hp,hf]
 have:fs.toArray.toList=fs:=by simp
 rw [this]
 exact eqF fs bs h w
theorem str_beq (a b:YL):((mkS a).toList==(mkS b).toList)=decide (a=b):=by
 rw [Lib.toList_data,Lib.toList_data,mk_data,mk_data]
 by_cases h:a=b
 ·subst h;simp
 ·rw [decide_eq_false h];simpa using h
theorem guard_str {P:Program}{op:BinOp}{t:TypeId}{x y:Operand}{a b:ByteArray}(w:World):(eqGuard op t x y (.string a) (.string b)).run P w= .ok () w:=by cases op<;>simp [eqGuard]
theorem gN {P:Program}{ρ:Operand->Value}{o:Oper}{t t':TypeId}{x y:Operand}{a b:YL}{r:Bool}(ho:o.op= .binOp .eql t x y t')(hx:ρ x= .string (mkS a))(hy:ρ y= .string (mkS b))(h:decide (a=b)=r)(w:World):(execOp ρ o).run P w= .ok (.value (.bool r)) w:=by
 unfold execOp
 simp only [ho,hx,hy,Sem.run_bind,guard_str,Result.andThen_ok,binOp_string_eql,Sem.run_pure,str_beq,h]
theorem binOp_string_neq' (t:TypeId)(a b:ByteArray):binOp .neq t (.string a) (.string b)=pure (.bool (!(a.toList==b.toList))):=by simp [binOp,Op.stringOp]
theorem run_strneq {P:Program}{ρ:Operand->Value}{o:Oper}{t t':TypeId}{x y:Operand}{a b:YL}{r:Bool}(ho:o.op= .binOp .neq t x y t')(hx:ρ x= .string (mkS a))(hy:ρ y= .string (mkS b))(h:decide (a=b)=r)(w:World):(execOp ρ o).run P w= .ok (.value (.bool (!r))) w:=by
 unfold execOp
 simp only [ho,hx,hy,Sem.run_bind,guard_str,Result.andThen_ok,binOp_string_neq',Sem.run_pure,str_beq,h]
theorem all5 (a b c d e:Bool):([a,b,c,d,e].all id)=(a && (b && (c && (d && e)))):=by simp
theorem int_beq (a b:Int):(a==b)=decide (a=b):=rfl
theorem binOp_agg_neq {P:Program}{t:TypeId}{xs ys:Array Value}{b:Bool}(w:World)(h:(Op.equalIn 10000 t (.agg xs) (.agg ys)).run P w= .ok b w):(binOp .neq t (.agg xs) (.agg ys)).run P w= .ok (.bool (!b)) w:=by
 have e:binOp .neq t (.agg xs) (.agg ys)=(do let r<-Op.equalIn 10000 t (.agg xs) (.agg ys);pure (.bool (!r))):=by first|rfl|simp [binOp]
 rw [e]
 simp only [Sem.run_bind,h,Result.andThen_ok,Sem.run_pure]
theorem run_ne_op {P:Program}{ρ:Operand->Value}{o:Oper}{t t':TypeId}{x y:Operand}{xs ys:Array Value}{b:Bool}(ho:o.op= .binOp .neq t x y t')(hx:ρ x= .agg xs)(hy:ρ y= .agg ys)(hm:P.eqGuardType P.depth t=false)
  (h:∀ w,(Op.equalIn 10000 t (.agg xs) (.agg ys)).run P w= .ok b w) (w:World):(execOp ρ o).run P w= .ok (.value (.bool (!b))) w:=by
 have h1:=run_eqGuard_agg (P:=P) w .neq t x y xs ys hm
 have h2:=binOp_agg_neq w (h w)
 unfold execOp
 simp only [ho,hx,hy,Sem.run_bind,h1,Result.andThen_ok,h2,Sem.run_pure]
theorem Own.belowB {M:List Nat}{W w:World}{L:List Blk}{B:Nat}(h:Own M W w L)(hM:∀ k∈M,B<=k)(hB:B<=W.heap.size):Below B W w:=
 ⟨h.os,h.tape,h.output,h.size,h.drawn,λk hk=>h.kept k (Nat.lt_of_lt_of_le hk hB) λhm=>absurd (hM k hm) (Nat.not_le.2 hk)⟩
theorem Own.allB {M:List Nat}{W w:World}{L:List Blk}{B:Nat}(h:Own M W w L)(hM:∀ k∈M,B<=k)(hB:B<=W.heap.size):∀ x∈L,B<=x.b:=λx hx=>(h.base x hx).elim (λq=>Nat.le_trans hB q) (λq=>hM _ q)
theorem qC {ob:List Blk}{B:Nat}(h:∀ x∈ob,B<=x.b):∀ k∈ob.map Blk.b,B<=k:=λk hk=>by
 obtain ⟨x,hx,rfl⟩:=List.mem_map.1 hk;exact h x hx
theorem Own.back {ob ob' R:List Blk}{M:List Nat}{W w w':World}(h:Own M W w (ob++R))(hc:Own (ob.map Blk.b) w w' ob'):Own M W w' (ob'++R):=Own.join h hc
theorem Own.lent {ob R:List Blk}{M:List Nat}{W w:World}(h:Own M W w (ob++R)):Own (ob.map Blk.b) w w ob:=Own.lend (h.sublist (List.sublist_append_left _ _))
end
end Go.Proofs.YtobimfnmnkegdaaGreatDoor
section
namespace Go.Proofs
open Go.Shelf
theorem YT {α:Type}{x:Option α}{a b:α}(h:x=some a)(e:a=b:=by kernel_rfl):x=some b:=h.trans (congrArg some e)
def Tryz.lays160_ren:Go.Shelf.Ren:=⟨fun|160=>177|232=>209|231=>208|227=>210|234=>212|233=>211|236=>214|235=>213|228=>241|271=>243|151=>242|197=>223|120=>262|152=>261|260=>249|137=>97|119=>274|224=>246|225=>245|217=>145|266=>188|n=>n,fun|9=>9|4=>4|3=>3|5=>5|117=>246|116=>245|0=>0|124=>249|21=>21|105=>253|46=>144|119=>287|139=>290|138=>289|n=>n,fun|3=>3|4=>4|n=>n⟩
theorem Tryz.lays160:Go.Proofs.Lays.n160 Tryz.prog Tryz.lays160_ren:={
 mixed:=by kernel_rfl
 f119:=YT Tryz.func274
 f120:=YT Tryz.func262
 f137:=YT Tryz.func97
 f151:=YT Tryz.func242
 f152:=YT Tryz.func261
 f160:=YT Tryz.func177
 f197:=YT Tryz.func223
 f217:=YT Tryz.func145
 f224:=YT Tryz.func246
 f225:=YT Tryz.func245
 f227:=YT Tryz.func210
 f228:=YT Tryz.func241
 f231:=YT Tryz.func208
 f232:=YT Tryz.func209
 f233:=YT Tryz.func211
 f234:=YT Tryz.func212
 f235:=YT Tryz.func213
 f236:=YT Tryz.func214
 f260:=YT Tryz.func249
 f266:=YT Tryz.func188
 f271:=YT Tryz.func243
 t0:=Tryz.underlying0
 a0:=Tryz.isAgg0
 z0:=Tryz.sizeOf0
 v0:=Tryz.zeroValue0
 t3:=Tryz.underlying3
 a3:=Tryz.isAgg3
 z3:=Tryz.sizeOf3
 v3:=Tryz.zeroValue3
 t4:=Tryz.underlying4
 a4:=Tryz.isAgg4
 z4:=Tryz.sizeOf4
 v4:=Tryz.zeroValue4
 t5:=Tryz.underlying5
 a5:=Tryz.isAgg5
 z5:=Tryz.sizeOf5
 v5:=Tryz.zeroValue5
 t9:=Tryz.underlying9
 a9:=Tryz.isAgg9
 z9:=Tryz.sizeOf9
 v9:=Tryz.zeroValue9
 t21:=Tryz.underlying21
 a21:=Tryz.isAgg21
 z21:=Tryz.sizeOf21
 v21:=Tryz.zeroValue21
 t46:=Tryz.underlying144
 a46:=Tryz.isAgg144
 z46:=Tryz.sizeOf144
 v46:=Tryz.zeroValue144
 t105:=Tryz.underlying253
 a105:=Tryz.isAgg253
 z105:=Tryz.sizeOf253
 v105:=Tryz.zeroValue253
 t116:=Tryz.underlying245
 a116:=Tryz.isAgg245
 z116:=Tryz.sizeOf245
 t117:=Tryz.underlying246
 a117:=Tryz.isAgg246
 z117:=Tryz.sizeOf246
 v117:=Tryz.zeroValue246
 t119:=Tryz.underlying287
 a119:=Tryz.isAgg287
 z119:=Tryz.sizeOf287
 t124:=Tryz.underlying249
 a124:=Tryz.isAgg249
 z124:=Tryz.sizeOf249
 v124:=Tryz.zeroValue249
 t138:=Tryz.underlying289
 a138:=Tryz.isAgg289
 z138:=Tryz.sizeOf289
 v138:=Tryz.zeroValue289
 t139:=Tryz.underlying290
 a139:=Tryz.isAgg290
 z139:=Tryz.sizeOf290
 v139:=Tryz.zeroValue290
 g3:=by kernel_rfl
 g4:=by kernel_rfl}
open Go.RowKit in
theorem Tryz.strings_Trim_one (s:ByteArray)(c:UInt8)(hc:c.toNat<128)(w:World)(hs:s.size<=9223372036854775807):
  Calls Tryz.prog 177 #[.string s,.string ⟨#[c]⟩] w λe w'=>e= .returned (.string ⟨(Lib.trimB s.data.toList c).toArray⟩)/\(w'=w\/w'=w.drew):=Any.strings_Trim_one Tryz.lays160 s c hc w hs
def Tryz.lays118_ren:Go.Shelf.Ren:=⟨fun|118=>251|n=>n,fun|21=>21|3=>3|4=>4|n=>n,fun|n=>n⟩
theorem Tryz.lays118:Go.Proofs.Lays.n118 Tryz.prog Tryz.lays118_ren:={
 mixed:=by kernel_rfl
 f118:=YT Tryz.func251
 t3:=Tryz.underlying3
 a3:=Tryz.isAgg3
 z3:=Tryz.sizeOf3
 v3:=Tryz.zeroValue3
 t4:=Tryz.underlying4
 a4:=Tryz.isAgg4
 z4:=Tryz.sizeOf4
 v4:=Tryz.zeroValue4
 t21:=Tryz.underlying21
 a21:=Tryz.isAgg21
 z21:=Tryz.sizeOf21
 v21:=Tryz.zeroValue21}
theorem Tryz.utf8_RuneLen (r:Int)(w:World):
  Calls Tryz.prog 251 #[.int .i32 r] w λe w'=>e= .returned (.int .i64 (Lib.runeLen r))/\w'=w:=Any.utf8_RuneLen Tryz.lays118 r w
def Tryz.lays137_ren:Go.Shelf.Ren:=⟨fun|137=>97|217=>145|266=>188|n=>n,fun|9=>9|5=>5|3=>3|n=>n,fun|n=>n⟩
theorem Tryz.lays137:Go.Proofs.Lays.n137 Tryz.prog Tryz.lays137_ren:={
 mixed:=by kernel_rfl
 f137:=YT Tryz.func97
 f217:=YT Tryz.func145
 f266:=YT Tryz.func188
 t3:=Tryz.underlying3
 a3:=Tryz.isAgg3
 z3:=Tryz.sizeOf3
 v3:=Tryz.zeroValue3
 t5:=Tryz.underlying5
 a5:=Tryz.isAgg5
 z5:=Tryz.sizeOf5
 v5:=Tryz.zeroValue5
 t9:=Tryz.underlying9
 a9:=Tryz.isAgg9
 z9:=Tryz.sizeOf9
 v9:=Tryz.zeroValue9}
open Go.RowKit in
theorem Tryz.strings_IndexByte (s:ByteArray)(c:Int)(w:World):
  Calls Tryz.prog 97 #[.string s,.int .u8 c] w λe w'=>e= .returned (.int .i64 (Lib.indexByte s.data.toList c.toNat.toUInt8))/\w'=w:=Any.strings_IndexByte Tryz.lays137 s c w
def Tryz.lays103_ren:Go.Shelf.Ren:=⟨fun|103=>161|210=>199|206=>234|n=>n,fun|9=>9|4=>4|24=>116|3=>3|n=>n,fun|n=>n⟩
theorem Tryz.lays103:Go.Proofs.Lays.n103 Tryz.prog Tryz.lays103_ren:={
 mixed:=by kernel_rfl
 f103:=YT Tryz.func161
 f206:=YT Tryz.func234
 f210:=YT Tryz.func199
 t3:=Tryz.underlying3
 a3:=Tryz.isAgg3
 z3:=Tryz.sizeOf3
 v3:=Tryz.zeroValue3
 t4:=Tryz.underlying4
 a4:=Tryz.isAgg4
 z4:=Tryz.sizeOf4
 v4:=Tryz.zeroValue4
 t9:=Tryz.underlying9
 a9:=Tryz.isAgg9
 z9:=Tryz.sizeOf9
 v9:=Tryz.zeroValue9
 t24:=Tryz.underlying116
 a24:=Tryz.isAgg116
 z24:=Tryz.sizeOf116
 v24:=Tryz.zeroValue116}
open Go.RowKit in
theorem Tryz.strings_CutPrefix (s p:ByteArray)(w:World):
  Calls Tryz.prog 161 #[.string s,.string p] w λe w'=>e= .returned (.tuple #[.string ⟨(Lib.trimPrefix s.data.toList p.data.toList).toArray⟩,.bool (Lib.hasPrefix s.data.toList p.data.toList)])/\w'=w:=Any.strings_CutPrefix Tryz.lays103 s p w
def Tryz.lays104_ren:Go.Shelf.Ren:=⟨fun|104=>59|211=>102|207=>149|n=>n,fun|9=>9|4=>4|24=>116|3=>3|n=>n,fun|n=>n⟩
theorem Tryz.lays104:Go.Proofs.Lays.n104 Tryz.prog Tryz.lays104_ren:={
 mixed:=by kernel_rfl
 f104:=YT Tryz.func59
 f207:=YT Tryz.func149
 f211:=YT Tryz.func102
 t3:=Tryz.underlying3
 a3:=Tryz.isAgg3
 z3:=Tryz.sizeOf3
 v3:=Tryz.zeroValue3
 t4:=Tryz.underlying4
 a4:=Tryz.isAgg4
 z4:=Tryz.sizeOf4
 v4:=Tryz.zeroValue4
 t9:=Tryz.underlying9
 a9:=Tryz.isAgg9
 z9:=Tryz.sizeOf9
 v9:=Tryz.zeroValue9
 t24:=Tryz.underlying116
 a24:=Tryz.isAgg116
 z24:=Tryz.sizeOf116
 v24:=Tryz.zeroValue116}
open Go.RowKit in
theorem Tryz.strings_CutSuffix (s p:ByteArray)(w:World)(hs:s.size<=9223372036854775807):
  Calls Tryz.prog 59 #[.string s,.string p] w λe w'=>e= .returned (.tuple #[.string ⟨(Lib.trimSuffix s.data.toList p.data.toList).toArray⟩,.bool (Lib.hasSuffix s.data.toList p.data.toList)])/\w'=w:=Any.strings_CutSuffix Tryz.lays104 s p w hs
def Tryz.laysM171_ren:Go.Shelf.Ren:=⟨fun|171=>189|243=>221|246=>248|283=>264|284=>265|285=>266|286=>267|129=>276|317=>275|318=>277|319=>278|320=>279|337=>283|338=>284|n=>n,fun|3=>3|9=>9|2=>2|4=>4|171=>282|0=>0|53=>86|37=>96|5=>5|173=>285|212=>295|51=>279|20=>20|213=>296|46=>144|232=>300|233=>301|n=>n,fun|17=>5|18=>6|19=>7|n=>n⟩
theorem Tryz.laysM171:Go.Proofs.LaysM.n171 Tryz.prog Tryz.laysM171_ren:={
 mixed:=by kernel_rfl
 f129:=YT Tryz.func276
 f171:=YT Tryz.func189
 f243:=YT Tryz.func221
 f246:=YT Tryz.func248
 f283:=YT Tryz.func264
 f284:=YT Tryz.func265
 f285:=YT Tryz.func266
 f286:=YT Tryz.func267
 f317:=YT Tryz.func275
 f318:=YT Tryz.func277
 f319:=YT Tryz.func278
 f320:=YT Tryz.func279
 f337:=YT Tryz.func283
 f338:=YT Tryz.func284
 t0:=Tryz.underlying0
 a0:=Tryz.isAgg0
 z0:=Tryz.sizeOf0
 v0:=Tryz.zeroValue0
 t2:=Tryz.underlying2
 a2:=Tryz.isAgg2
 z2:=Tryz.sizeOf2
 v2:=Tryz.zeroValue2
 t3:=Tryz.underlying3
 a3:=Tryz.isAgg3
 z3:=Tryz.sizeOf3
 v3:=Tryz.zeroValue3
 t4:=Tryz.underlying4
 a4:=Tryz.isAgg4
 z4:=Tryz.sizeOf4
 v4:=Tryz.zeroValue4
 t5:=Tryz.underlying5
 a5:=Tryz.isAgg5
 z5:=Tryz.sizeOf5
 v5:=Tryz.zeroValue5
 t9:=Tryz.underlying9
 a9:=Tryz.isAgg9
 z9:=Tryz.sizeOf9
 v9:=Tryz.zeroValue9
 t20:=Tryz.underlying20
 a20:=Tryz.isAgg20
 z20:=Tryz.sizeOf20
 v20:=Tryz.zeroValue20
 t37:=Tryz.underlying96
 a37:=Tryz.isAgg96
 z37:=Tryz.sizeOf96
 v37:=Tryz.zeroValue96
 t46:=Tryz.underlying144
 a46:=Tryz.isAgg144
 z46:=Tryz.sizeOf144
 v46:=Tryz.zeroValue144
 t51:=Tryz.underlying279
 a51:=Tryz.isAgg279
 z51:=Tryz.sizeOf279
 v51:=Tryz.zeroValue279
 t53:=Tryz.underlying86
 a53:=Tryz.isAgg86
 z53:=Tryz.sizeOf86
 v53:=Tryz.zeroValue86
 t171:=Tryz.underlying282
 a171:=Tryz.isAgg282
 z171:=Tryz.sizeOf282
 v171:=Tryz.zeroValue282
 t173:=Tryz.underlying285
 a173:=Tryz.isAgg285
 z173:=Tryz.sizeOf285
 v173:=Tryz.zeroValue285
 t212:=Tryz.underlying295
 a212:=Tryz.isAgg295
 z212:=Tryz.sizeOf295
 v212:=Tryz.zeroValue295
 t213:=Tryz.underlying296
 a213:=Tryz.isAgg296
 z213:=Tryz.sizeOf296
 t232:=Tryz.underlying300
 a232:=Tryz.isAgg300
 z232:=Tryz.sizeOf300
 v232:=Tryz.zeroValue300
 t233:=Tryz.underlying301
 a233:=Tryz.isAgg301
 z233:=Tryz.sizeOf301
 v233:=Tryz.zeroValue301
 g17:=by kernel_rfl
 g18:=by kernel_rfl
 g19:=by kernel_rfl
 i0:=by kernel_rfl
 i2:=by kernel_rfl
 i3:=by kernel_rfl
 i4:=by kernel_rfl
 i5:=by kernel_rfl
 i9:=by kernel_rfl
 i20:=by kernel_rfl
 i37:=by kernel_rfl
 i46:=by kernel_rfl
 i51:=by kernel_rfl
 i53:=by kernel_rfl
 i171:=by kernel_rfl
 i173:=by kernel_rfl
 i212:=by kernel_rfl
 i232:=by kernel_rfl
 i233:=by kernel_rfl
 m17:=by kernel_rfl
 m18:=by kernel_rfl
 m19:=by kernel_rfl}
open Go.RowKit Go.Sort Go.Lib in
theorem Tryz.strconv_Itoa (n : Int) (h0 : -9223372036854775808 ≤ n) (h1 : n ≤ 9223372036854775807) (w : World) (htab : Lib.TabIs Tryz.prog w "internal/strconv.uint64pow10" .u64 Lib.pow10Tab) :
  Calls Tryz.prog 189 #[.int .i64 n] w λe w'=>e= .returned (.string ⟨(Lib.itoa n).toArray⟩)∧∃ k os,w'=grow (w.drewN k) os:=Any.strconv_Itoa Tryz.laysM171 n h0 h1 w htab
def Tryz.lays219_ren:Go.Shelf.Ren:=⟨fun|219=>219|217=>145|225=>245|224=>246|267=>247|266=>188|314=>263|n=>n,fun|9=>9|3=>3|4=>4|5=>5|46=>144|146=>280|51=>279|n=>n,fun|1=>1|n=>n⟩
theorem Tryz.lays219:Go.Proofs.Lays.n219 Tryz.prog Tryz.lays219_ren:={
 mixed:=by kernel_rfl
 f217:=YT Tryz.func145
 f219:=YT Tryz.func219
 f224:=YT Tryz.func246
 f225:=YT Tryz.func245
 f266:=YT Tryz.func188
 f267:=YT Tryz.func247
 f314:=YT Tryz.func263
 t3:=Tryz.underlying3
 a3:=Tryz.isAgg3
 z3:=Tryz.sizeOf3
 v3:=Tryz.zeroValue3
 t4:=Tryz.underlying4
 a4:=Tryz.isAgg4
 z4:=Tryz.sizeOf4
 v4:=Tryz.zeroValue4
 t5:=Tryz.underlying5
 a5:=Tryz.isAgg5
 z5:=Tryz.sizeOf5
 v5:=Tryz.zeroValue5
 t9:=Tryz.underlying9
 a9:=Tryz.isAgg9
 z9:=Tryz.sizeOf9
 v9:=Tryz.zeroValue9
 t46:=Tryz.underlying144
 a46:=Tryz.isAgg144
 z46:=Tryz.sizeOf144
 v46:=Tryz.zeroValue144
 t51:=Tryz.underlying279
 a51:=Tryz.isAgg279
 z51:=Tryz.sizeOf279
 v51:=Tryz.zeroValue279
 t146:=Tryz.underlying280
 a146:=Tryz.isAgg280
 z146:=Tryz.sizeOf280
 v146:=Tryz.zeroValue280
 g1:=by kernel_rfl}
open Go.RowKit Go.Lib in
theorem Tryz.stringslite_Index_one (s:ByteArray)(c:UInt8)(w:World):
  Calls Tryz.prog 219 #[.string s,.string ⟨#[c]⟩] w λe w'=>e= .returned (.int .i64 (Lib.indexByte s.data.toList c))/\w'=w:=Any.stringslite_Index_one Tryz.lays219 s c w
def Tryz.lays143_ren:Go.Shelf.Ren:=⟨fun|143=>192|219=>219|217=>145|225=>245|224=>246|267=>247|266=>188|314=>263|n=>n,fun|9=>9|3=>3|4=>4|5=>5|46=>144|146=>280|51=>279|n=>n,fun|1=>1|n=>n⟩
theorem Tryz.lays143:Go.Proofs.Lays.n143 Tryz.prog Tryz.lays143_ren:={
 mixed:=by kernel_rfl
 f143:=YT Tryz.func192
 f217:=YT Tryz.func145
 f219:=YT Tryz.func219
 f224:=YT Tryz.func246
 f225:=YT Tryz.func245
 f266:=YT Tryz.func188
 f267:=YT Tryz.func247
 f314:=YT Tryz.func263
 t3:=Tryz.underlying3
 a3:=Tryz.isAgg3
 z3:=Tryz.sizeOf3
 v3:=Tryz.zeroValue3
 t4:=Tryz.underlying4
 a4:=Tryz.isAgg4
 z4:=Tryz.sizeOf4
 v4:=Tryz.zeroValue4
 t5:=Tryz.underlying5
 a5:=Tryz.isAgg5
 z5:=Tryz.sizeOf5
 v5:=Tryz.zeroValue5
 t9:=Tryz.underlying9
 a9:=Tryz.isAgg9
 z9:=Tryz.sizeOf9
 v9:=Tryz.zeroValue9
 t46:=Tryz.underlying144
 a46:=Tryz.isAgg144
 z46:=Tryz.sizeOf144
 v46:=Tryz.zeroValue144
 t51:=Tryz.underlying279
 a51:=Tryz.isAgg279
 z51:=Tryz.sizeOf279
 v51:=Tryz.zeroValue279
 t146:=Tryz.underlying280
 a146:=Tryz.isAgg280
 z146:=Tryz.sizeOf280
 v146:=Tryz.zeroValue280
 g1:=by kernel_rfl}
open Go.RowKit Go.Lib in
theorem Tryz.strings_Index_one (s:ByteArray)(c:UInt8)(w:World):
  Calls Tryz.prog 192 #[.string s,.string ⟨#[c]⟩] w λe w'=>e= .returned (.int .i64 (Lib.indexByte s.data.toList c))/\w'=w:=Any.strings_Index_one Tryz.lays143 s c w
def Tryz.lays144_ren:Go.Shelf.Ren:=⟨fun|144=>185|143=>192|219=>219|217=>145|225=>245|224=>246|267=>247|266=>188|314=>263|n=>n,fun|9=>9|4=>4|3=>3|5=>5|46=>144|146=>280|51=>279|n=>n,fun|1=>1|n=>n⟩
theorem Tryz.lays144:Go.Proofs.Lays.n144 Tryz.prog Tryz.lays144_ren:={
 mixed:=by kernel_rfl
 f143:=YT Tryz.func192
 f144:=YT Tryz.func185
 f217:=YT Tryz.func145
 f219:=YT Tryz.func219
 f224:=YT Tryz.func246
 f225:=YT Tryz.func245
 f266:=YT Tryz.func188
 f267:=YT Tryz.func247
 f314:=YT Tryz.func263
 t3:=Tryz.underlying3
 a3:=Tryz.isAgg3
 z3:=Tryz.sizeOf3
 v3:=Tryz.zeroValue3
 t4:=Tryz.underlying4
 a4:=Tryz.isAgg4
 z4:=Tryz.sizeOf4
 v4:=Tryz.zeroValue4
 t5:=Tryz.underlying5
 a5:=Tryz.isAgg5
 z5:=Tryz.sizeOf5
 v5:=Tryz.zeroValue5
 t9:=Tryz.underlying9
 a9:=Tryz.isAgg9
 z9:=Tryz.sizeOf9
 v9:=Tryz.zeroValue9
 t46:=Tryz.underlying144
 a46:=Tryz.isAgg144
 z46:=Tryz.sizeOf144
 v46:=Tryz.zeroValue144
 t51:=Tryz.underlying279
 a51:=Tryz.isAgg279
 z51:=Tryz.sizeOf279
 v51:=Tryz.zeroValue279
 t146:=Tryz.underlying280
 a146:=Tryz.isAgg280
 z146:=Tryz.sizeOf280
 v146:=Tryz.zeroValue280
 g1:=by kernel_rfl}
open Go.RowKit Go.Lib in
theorem Tryz.strings_Contains_one (s:ByteArray)(c:UInt8)(w:World):
  Calls Tryz.prog 185 #[.string s,.string ⟨#[c]⟩] w λe w'=>e= .returned (.bool (decide (0<=Lib.indexByte s.data.toList c)))/\w'=w:=Any.strings_Contains_one Tryz.lays144 s c w
def Tryz.lays138_ren:Go.Shelf.Ren:=⟨fun|138=>191|195=>222|218=>224|143=>192|219=>219|217=>145|225=>245|224=>246|267=>247|266=>188|314=>263|n=>n,fun|9=>9|3=>3|4=>4|5=>5|0=>0|46=>144|146=>280|51=>279|n=>n,fun|1=>1|n=>n⟩
theorem Tryz.lays138:Go.Proofs.Lays.n138 Tryz.prog Tryz.lays138_ren:={
 mixed:=by kernel_rfl
 f138:=YT Tryz.func191
 f143:=YT Tryz.func192
 f195:=YT Tryz.func222
 f217:=YT Tryz.func145
 f218:=YT Tryz.func224
 f219:=YT Tryz.func219
 f224:=YT Tryz.func246
 f225:=YT Tryz.func245
 f266:=YT Tryz.func188
 f267:=YT Tryz.func247
 f314:=YT Tryz.func263
 t0:=Tryz.underlying0
 a0:=Tryz.isAgg0
 z0:=Tryz.sizeOf0
 v0:=Tryz.zeroValue0
 t3:=Tryz.underlying3
 a3:=Tryz.isAgg3
 z3:=Tryz.sizeOf3
 v3:=Tryz.zeroValue3
 t4:=Tryz.underlying4
 a4:=Tryz.isAgg4
 z4:=Tryz.sizeOf4
 v4:=Tryz.zeroValue4
 t5:=Tryz.underlying5
 a5:=Tryz.isAgg5
 z5:=Tryz.sizeOf5
 v5:=Tryz.zeroValue5
 t9:=Tryz.underlying9
 a9:=Tryz.isAgg9
 z9:=Tryz.sizeOf9
 v9:=Tryz.zeroValue9
 t46:=Tryz.underlying144
 a46:=Tryz.isAgg144
 z46:=Tryz.sizeOf144
 v46:=Tryz.zeroValue144
 t51:=Tryz.underlying279
 a51:=Tryz.isAgg279
 z51:=Tryz.sizeOf279
 v51:=Tryz.zeroValue279
 t146:=Tryz.underlying280
 a146:=Tryz.isAgg280
 z146:=Tryz.sizeOf280
 v146:=Tryz.zeroValue280
 g1:=by kernel_rfl}
open Go.RowKit Go.Lib in
theorem Tryz.strings_Count_one (s:ByteArray)(c:UInt8)(w:World):
  Calls Tryz.prog 191 #[.string s,.string ⟨#[c]⟩] w λe w'=>e= .returned (.int .i64 (Lib.countByte s.data.toList c))/\w'=w:=Any.strings_Count_one Tryz.lays138 s c w
def Tryz.laysM143_ren:Go.Shelf.Ren:=⟨fun|143=>192|219=>219|217=>145|225=>245|224=>246|267=>247|266=>188|314=>263|n=>n,fun|9=>9|3=>3|4=>4|5=>5|46=>144|146=>280|51=>279|n=>n,fun|1=>1|n=>n⟩
theorem Tryz.laysM143:Go.Proofs.LaysM.n143 Tryz.prog Tryz.laysM143_ren:={
 mixed:=by kernel_rfl
 f143:=YT Tryz.func192
 f217:=YT Tryz.func145
 f219:=YT Tryz.func219
 f224:=YT Tryz.func246
 f225:=YT Tryz.func245
 f266:=YT Tryz.func188
 f267:=YT Tryz.func247
 f314:=YT Tryz.func263
 t3:=Tryz.underlying3
 a3:=Tryz.isAgg3
 z3:=Tryz.sizeOf3
 v3:=Tryz.zeroValue3
 t4:=Tryz.underlying4
 a4:=Tryz.isAgg4
 z4:=Tryz.sizeOf4
 v4:=Tryz.zeroValue4
 t5:=Tryz.underlying5
 a5:=Tryz.isAgg5
 z5:=Tryz.sizeOf5
 v5:=Tryz.zeroValue5
 t9:=Tryz.underlying9
 a9:=Tryz.isAgg9
 z9:=Tryz.sizeOf9
 v9:=Tryz.zeroValue9
 t46:=Tryz.underlying144
 a46:=Tryz.isAgg144
 z46:=Tryz.sizeOf144
 v46:=Tryz.zeroValue144
 t51:=Tryz.underlying279
 a51:=Tryz.isAgg279
 z51:=Tryz.sizeOf279
 v51:=Tryz.zeroValue279
 t146:=Tryz.underlying280
 a146:=Tryz.isAgg280
 z146:=Tryz.sizeOf280
 v146:=Tryz.zeroValue280
 g1:=by kernel_rfl
 i3:=by kernel_rfl
 i4:=by kernel_rfl
 i5:=by kernel_rfl
 i9:=by kernel_rfl
 i46:=by kernel_rfl
 i51:=by kernel_rfl
 i146:=by kernel_rfl
 m1:=by kernel_rfl
 s1_3:=λw h=>Go.Proofs.cell_of_shapedOpen_int (zero:= #[.int .i64 0]) (t:=3) h (of_decide_eq_true (by kernel_rfl)) (by kernel_rfl) rfl (by kernel_rfl) (by kernel_rfl) Tryz.underlying3}
def Tryz.lays99_ren:Go.Shelf.Ren:=⟨fun|99=>250|206=>234|n=>n,fun|9=>9|4=>4|3=>3|n=>n,fun|n=>n⟩
theorem Tryz.lays99:Go.Proofs.Lays.n99 Tryz.prog Tryz.lays99_ren:={
 mixed:=by kernel_rfl
 f99:=YT Tryz.func250
 f206:=YT Tryz.func234
 t3:=Tryz.underlying3
 a3:=Tryz.isAgg3
 z3:=Tryz.sizeOf3
 v3:=Tryz.zeroValue3
 t4:=Tryz.underlying4
 a4:=Tryz.isAgg4
 z4:=Tryz.sizeOf4
 v4:=Tryz.zeroValue4
 t9:=Tryz.underlying9
 a9:=Tryz.isAgg9
 z9:=Tryz.sizeOf9
 v9:=Tryz.zeroValue9}
open Go.RowKit Go.Lib in
theorem Tryz.strings_HasPrefix (s p:ByteArray)(w:World):
  Calls Tryz.prog 250 #[.string s,.string p] w λe w'=>e= .returned (.bool (Lib.hasPrefix s.data.toList p.data.toList))/\w'=w:=Any.strings_HasPrefix Tryz.lays99 s p w
def Tryz.lays221_ren:Go.Shelf.Ren:=⟨fun|221=>150|268=>190|138=>191|143=>192|195=>222|197=>223|218=>224|219=>219|260=>249|217=>145|225=>245|224=>246|267=>247|266=>188|314=>263|n=>n,fun|9=>9|3=>3|31=>66|4=>4|0=>0|105=>253|21=>21|5=>5|46=>144|119=>287|139=>290|138=>289|146=>280|51=>279|n=>n,fun|1=>1|3=>3|4=>4|n=>n⟩
theorem Tryz.lays221:Go.Proofs.Lays.n221 Tryz.prog Tryz.lays221_ren:={
 mixed:=by kernel_rfl
 f138:=YT Tryz.func191
 f143:=YT Tryz.func192
 f195:=YT Tryz.func222
 f197:=YT Tryz.func223
 f217:=YT Tryz.func145
 f218:=YT Tryz.func224
 f219:=YT Tryz.func219
 f221:=YT Tryz.func150
 f224:=YT Tryz.func246
 f225:=YT Tryz.func245
 f260:=YT Tryz.func249
 f266:=YT Tryz.func188
 f267:=YT Tryz.func247
 f268:=YT Tryz.func190
 f314:=YT Tryz.func263
 t0:=Tryz.underlying0
 a0:=Tryz.isAgg0
 z0:=Tryz.sizeOf0
 v0:=Tryz.zeroValue0
 t3:=Tryz.underlying3
 a3:=Tryz.isAgg3
 z3:=Tryz.sizeOf3
 v3:=Tryz.zeroValue3
 t4:=Tryz.underlying4
 a4:=Tryz.isAgg4
 z4:=Tryz.sizeOf4
 v4:=Tryz.zeroValue4
 t5:=Tryz.underlying5
 a5:=Tryz.isAgg5
 z5:=Tryz.sizeOf5
 v5:=Tryz.zeroValue5
 t9:=Tryz.underlying9
 a9:=Tryz.isAgg9
 z9:=Tryz.sizeOf9
 v9:=Tryz.zeroValue9
 t21:=Tryz.underlying21
 a21:=Tryz.isAgg21
 z21:=Tryz.sizeOf21
 v21:=Tryz.zeroValue21
 t31:=Tryz.underlying66
 a31:=Tryz.isAgg66
 z31:=Tryz.sizeOf66
 v31:=Tryz.zeroValue66
 t46:=Tryz.underlying144
 a46:=Tryz.isAgg144
 z46:=Tryz.sizeOf144
 v46:=Tryz.zeroValue144
 t51:=Tryz.underlying279
 a51:=Tryz.isAgg279
 z51:=Tryz.sizeOf279
 v51:=Tryz.zeroValue279
 t105:=Tryz.underlying253
 a105:=Tryz.isAgg253
 z105:=Tryz.sizeOf253
 v105:=Tryz.zeroValue253
 t119:=Tryz.underlying287
 a119:=Tryz.isAgg287
 z119:=Tryz.sizeOf287
 t138:=Tryz.underlying289
 a138:=Tryz.isAgg289
 z138:=Tryz.sizeOf289
 v138:=Tryz.zeroValue289
 t139:=Tryz.underlying290
 a139:=Tryz.isAgg290
 z139:=Tryz.sizeOf290
 v139:=Tryz.zeroValue290
 t146:=Tryz.underlying280
 a146:=Tryz.isAgg280
 z146:=Tryz.sizeOf280
 v146:=Tryz.zeroValue280
 g1:=by kernel_rfl
 g3:=by kernel_rfl
 g4:=by kernel_rfl}
def Tryz.lays146_ren:Go.Shelf.Ren:=⟨fun|146=>154|221=>150|268=>190|138=>191|143=>192|195=>222|197=>223|218=>224|219=>219|260=>249|217=>145|225=>245|224=>246|267=>247|266=>188|314=>263|n=>n,fun|9=>9|31=>66|3=>3|4=>4|0=>0|105=>253|21=>21|5=>5|46=>144|119=>287|139=>290|138=>289|146=>280|51=>279|n=>n,fun|1=>1|3=>3|4=>4|n=>n⟩
theorem Tryz.lays146:Go.Proofs.Lays.n146 Tryz.prog Tryz.lays146_ren:={
 mixed:=by kernel_rfl
 f138:=YT Tryz.func191
 f143:=YT Tryz.func192
 f146:=YT Tryz.func154
 f195:=YT Tryz.func222
 f197:=YT Tryz.func223
 f217:=YT Tryz.func145
 f218:=YT Tryz.func224
 f219:=YT Tryz.func219
 f221:=YT Tryz.func150
 f224:=YT Tryz.func246
 f225:=YT Tryz.func245
 f260:=YT Tryz.func249
 f266:=YT Tryz.func188
 f267:=YT Tryz.func247
 f268:=YT Tryz.func190
 f314:=YT Tryz.func263
 t0:=Tryz.underlying0
 a0:=Tryz.isAgg0
 z0:=Tryz.sizeOf0
 v0:=Tryz.zeroValue0
 t3:=Tryz.underlying3
 a3:=Tryz.isAgg3
 z3:=Tryz.sizeOf3
 v3:=Tryz.zeroValue3
 t4:=Tryz.underlying4
 a4:=Tryz.isAgg4
 z4:=Tryz.sizeOf4
 v4:=Tryz.zeroValue4
 t5:=Tryz.underlying5
 a5:=Tryz.isAgg5
 z5:=Tryz.sizeOf5
 v5:=Tryz.zeroValue5
 t9:=Tryz.underlying9
 a9:=Tryz.isAgg9
 z9:=Tryz.sizeOf9
 v9:=Tryz.zeroValue9
 t21:=Tryz.underlying21
 a21:=Tryz.isAgg21
 z21:=Tryz.sizeOf21
 v21:=Tryz.zeroValue21
 t31:=Tryz.underlying66
 a31:=Tryz.isAgg66
 z31:=Tryz.sizeOf66
 v31:=Tryz.zeroValue66
 t46:=Tryz.underlying144
 a46:=Tryz.isAgg144
 z46:=Tryz.sizeOf144
 v46:=Tryz.zeroValue144
 t51:=Tryz.underlying279
 a51:=Tryz.isAgg279
 z51:=Tryz.sizeOf279
 v51:=Tryz.zeroValue279
 t105:=Tryz.underlying253
 a105:=Tryz.isAgg253
 z105:=Tryz.sizeOf253
 v105:=Tryz.zeroValue253
 t119:=Tryz.underlying287
 a119:=Tryz.isAgg287
 z119:=Tryz.sizeOf287
 t138:=Tryz.underlying289
 a138:=Tryz.isAgg289
 z138:=Tryz.sizeOf289
 v138:=Tryz.zeroValue289
 t139:=Tryz.underlying290
 a139:=Tryz.isAgg290
 z139:=Tryz.sizeOf290
 v139:=Tryz.zeroValue290
 t146:=Tryz.underlying280
 a146:=Tryz.isAgg280
 z146:=Tryz.sizeOf280
 v146:=Tryz.zeroValue280
 g1:=by kernel_rfl
 g3:=by kernel_rfl
 g4:=by kernel_rfl}
open Go.RowKit Go.Lib in
theorem Tryz.strings_Split (s sep:ByteArray)(m:Int)(w:World)(hs:s.size<4294967281)(hm:w.cell? ⟨1,0,none⟩=some (.int .i64 m))(h1:1<=sep.size):
  Calls Tryz.prog 154 #[.string s,.string sep] w λe w'=>
   e= .returned (.slice (some ⟨w.heap.size,0,none⟩) (Lib.countB s sep+1) (Lib.countB s sep+1))/\w'=w.alloc (.cells ((Lib.splitB sep 0 (Lib.countB s sep) s).map Value.string).toArray 9):=Any.strings_Split Tryz.lays146 (by kernel_rfl) s sep m w hs hm h1
end Go.Proofs
end
namespace Go.Proofs.YtobimfnmnkegdaaGreatDoor
open Go.RowKit
section
theorem dY (c:UInt8)(l:YL):Lib.indexByte l c=Lib.index l [c]:=by
 induction l with
 |nil=>rfl
 |cons b r ih=>
  rw [Lib.indexByte,Lib.index,ih]
  by_cases h:b=c
  ·subst h;simp
  ·have e1:([c].isPrefixOf (b::r))=false:=by simp [List.isPrefixOf];exact λe=>h e.symm
   rw [e1];simp [h]
theorem cutB (s:YL)(c:UInt8):Lib.cut (mkS s).data.toList (⟨#[c]⟩:ByteArray).data.toList=zA c s:=cutAt_cut c s
theorem scut_any (s:YL)(c:UInt8)(w:World)(hs:(mkS s).size<4294967281):
  YC 186 #[.string (mkS s),.string ⟨#[c]⟩] w λe w'=>e= .returned (.tuple #[.string (mkS (zA c s).1),.string (mkS (zA c s).2.1),.bool (zA c s).2.2])∧∃ n,w'=w.drewN n:=by
 have hc:=cutB s c
 rcases Lib.indexB_cases (mkS s) ⟨#[c]⟩ with hix|⟨i,hix,hroom⟩
 ·obtain ⟨e1,e2,e3⟩:=Lib.cutB_miss (mkS s) ⟨#[c]⟩ hix
  rw [hc] at e1 e2 e3
  rw [show mkS (zA c s).1=mkS s from e1,show mkS (zA c s).2.1=ByteArray.empty from e2,e3]
  have hixb:Lib.indexByte (mkS s).data.toList c= -1:=(dY c _).trans hix
  have H:=Lib.hid hixb
  clear hc e1 e2 e3 hix hixb
  go_enter Tryz.func186,Tryz.ntmps186
  go_wp2_with (go_at_call 219;refine (Tryz.stringslite_Index_one (mkS s) c _).mono ?_;rintro e w' ⟨rfl,rfl⟩;rw [H.out])
  go_ret3
  exact ⟨rfl,0,rfl⟩
 ·obtain ⟨e1,e2,e3⟩:=Lib.cutB_hit (mkS s) ⟨#[c]⟩ i hix
  rw [hc] at e1 e2 e3
  rw [show mkS (zA c s).1=_ from e1,show mkS (zA c s).2.1=_ from e2,e3]
  have hroom':i+1<=(mkS s).size:=hroom
  rw [show i+(⟨#[c]⟩:ByteArray).size=i+1 from rfl]
  have c1:(0:Int)≤↑i:=by omega
  have c2:(↑i:Int)≤↑(mkS s).size:=by omega
  have c3:(0:Int)≤↑i+1:=by omega
  have c4:(↑i+1:Int)≤↑(mkS s).size:=by omega
  have hixb:Lib.indexByte (mkS s).data.toList c=(i:Int):=(dY c _).trans hix
  have H:=Lib.hid hixb
  clear hc e1 e2 e3 hix hixb
  go_enter Tryz.func186,Tryz.ntmps186
  go_wp2_with (go_at_call 219;refine (Tryz.stringslite_Index_one (mkS s) c _).mono ?_;rintro e w' ⟨rfl,rfl⟩;rw [H.out])
  have mixed:Tryz.prog.follows .mixedOrders=true:=by kernel_rfl
  have hwr:IntKind.i64.wrap ((i:Int)+1)=(i:Int)+1:=IntWalk.i64_in _ Om
  have hnat:((i:Int)+1).toNat=i+1:=by omega
  go_region_o
  go_wp2
  go_ret3
  exact ⟨rfl,1,rfl⟩
theorem cut_any (s:YL)(c:UInt8)(w:World)(hs:s.length<4294967281):
  YC 143 #[.string (mkS s),.string ⟨#[c]⟩] w λe w'=>e= .returned (.tuple #[.string (mkS (zA c s).1),.string (mkS (zA c s).2.1),.bool (zA c s).2.2])∧∃ n,w'=w.drewN n:=by
 have hs':(mkS s).size<4294967281:=by unfold mkS;simpa [ByteArray.size] using hs
 go_enter Tryz.func143,Tryz.ntmps143
 go_wp2_with (go_at_call 186;refine (scut_any s c _ hs').mono ?_;rintro e w' ⟨rfl,n,rfl⟩)
 go_ret3
 exact ⟨rfl,n,rfl⟩
theorem jV (s:YL)(c:UInt8)(w:World)(hs:s.length<4294967281):
  YC 143 #[.string (mkS s),.string ⟨#[c]⟩] w (YR (.tuple #[.string (mkS (zA c s).1),.string (mkS (zA c s).2.1),.bool (zA c s).2.2]) w):=
 (cut_any s c w hs).mono λ_ _ ⟨he,n,hw⟩=>⟨he,by rw [hw];exact below_drewN (Below.refl _ _) n⟩
end
section
theorem v6 {a b:Int}{p q:Bool}(h:a=b)(h2:p=q):Ending.returned (.tuple #[YI a,.bool p])= .returned (.tuple #[YI b,.bool q]):=by rw [h,h2]
theorem qF {s:ByteArray}(h:x5 0 true s.data.toList=none):numV s=0:=by unfold numV numB;rw [h];rfl
theorem g6 {s:ByteArray}(h:x5 0 true s.data.toList=none):numOk s=false:=by unfold numOk numB;rw [h];rfl
theorem numV_some {s:ByteArray}{n:Nat}(h:x5 0 true s.data.toList=some n):numV s=n:=by unfold numV numB;rw [h];rfl
theorem numOk_some {s:ByteArray}{n:Nat}(h:x5 0 true s.data.toList=some n):numOk s=true:=by unfold numOk numB;rw [h];rfl
theorem digB_range {n:Nat}(h:yL n=true):48<=n/\n<=57:=by unfold yL at h;simp at h;omega
theorem number_any (s:ByteArray)(w:World)(hs:s.size<=maxLen):
  YC 156 #[.string s] w (YR (.tuple #[YI (numV s),.bool (numOk s)]) w):=by
 unfold maxLen at hs
 go_enter Tryz.func156,Tryz.ntmps156
 go_wp2
 go_loopw [4] (λv wr=>∃ (pos n:Nat),wr=w.iter s pos/\pos<=s.size/\n<=9999/\v=YI n/\Hid (pos=0->n=0)/\Hid (x5 n (decide (pos=0)) (s.data.toList.drop pos)=x5 0 true s.data.toList)) (λ_ wr=>s.size-wr.iterPos w.heap.size)
 case atStart=>exact ⟨0,0,rfl,Nat.zero_le _,by omega,rfl,λ_=>rfl,rfl⟩
 case round=>
  obtain ⟨pos,n,rfl,hple,hn,rfl,HZ,HR⟩:=hrel
  by_cases hp:pos<s.size
  ·have HD:=Lib.hid (qI s pos hp)
   by_cases ha:(s[pos]'hp).toNat<128
   ·have hnx:∀ ty,(Instr.next (.pointer (some ⟨w.heap.size,0,none⟩)) true ty).run YP (w.iter s pos)=_:=λty=>run_next_ascii w s pos ty hp ha
    by_cases hd:yL (s[pos]'hp).toNat=true
    ·have HG:=Lib.hid hd
     obtain ⟨hlo,hhi⟩:=digB_range hd
     clear hd
     by_cases h0:pos=0
     ·subst h0
      by_cases h3:n*10+((s[0]'hp).toNat-48)<=9999
      ·have h3i:(n:Int)*10+(((s[0]'hp).toNat:Int) -48)<=9999:=by omega
       go_wp2_with (go_at_call 110;refine (kX _ true HG.out _).mono ?_;rintro e w' ⟨rfl,rfl⟩)
       go_roundw
       case rel=>exact ⟨0+1,n*10+((s[0]'hp).toNat-48),rfl,by omega,h3,by go_num,λh=>by omega,by rw [←HR.out,HD.out,mL _ _ _ _ HG.out (by simp) h3];rfl⟩
       case measure=>simp;omega
      ·have h3i:9999<(n:Int)*10+(((s[0]'hp).toNat:Int) -48):=by omega
       go_wp2_with (go_at_call 110;refine (kX _ true HG.out _).mono ?_;rintro e w' ⟨rfl,rfl⟩)
       go_ret2
       have HN:x5 0 true s.data.toList=none:=by rw [←HR.out,HD.out,numGo_big _ _ _ _ h3]
       exact ⟨v6 (qF HN).symm (g6 HN).symm,yC _ _ _⟩
     ·have hpos:0<pos:=by omega
      by_cases hz:n=0
      ·have hzb:((n:Int)==0)=true:=by simp [hz]
       have HZ2:=Lib.hid hz
       clear hz
       go_wp2_with (go_at_call 110;refine (kX _ true HG.out _).mono ?_;rintro e w' ⟨rfl,rfl⟩)
       go_ret2
       have HN:x5 0 true s.data.toList=none:=by rw [←HR.out,HD.out,HZ2.out,decide_eq_false Om,numGo_zero]
       exact ⟨v6 (qF HN).symm (g6 HN).symm,yC _ _ _⟩
      ·have hzb:((n:Int)==0)=false:=by simpa using hz
       by_cases h3:n*10+((s[pos]'hp).toNat-48)<=9999
       ·have h3i:(n:Int)*10+(((s[pos]'hp).toNat:Int) -48)<=9999:=by omega
        go_wp2_with (go_at_call 110;refine (kX _ true HG.out _).mono ?_;rintro e w' ⟨rfl,rfl⟩)
        go_roundw
        case rel=>exact ⟨pos+1,n*10+((s[pos]'hp).toNat-48),rfl,by omega,h3,by go_num,λh=>by omega,by rw [←HR.out,HD.out,mL _ _ _ _ HG.out (λh=>hz h.2) h3];rfl⟩
        case measure=>simp;omega
       ·have h3i:9999<(n:Int)*10+(((s[pos]'hp).toNat:Int) -48):=by omega
        go_wp2_with (go_at_call 110;refine (kX _ true HG.out _).mono ?_;rintro e w' ⟨rfl,rfl⟩)
        go_ret2
        have HN:x5 0 true s.data.toList=none:=by rw [←HR.out,HD.out,numGo_big _ _ _ _ h3]
        exact ⟨v6 (qF HN).symm (g6 HN).symm,yC _ _ _⟩
    ·have HG:=Lib.hid (Bool.eq_false_iff.2 hd)
     clear hd
     go_wp2_with (go_at_call 110;refine (kX _ false HG.out _).mono ?_;rintro e w' ⟨rfl,rfl⟩)
     go_ret2
     have HN:x5 0 true s.data.toList=none:=by rw [←HR.out,HD.out,m6 _ _ _ _ HG.out]
     exact ⟨v6 (qF HN).symm (g6 HN).symm,yC _ _ _⟩
   ·have hnx:∀ ty,(Instr.next (.pointer (some ⟨w.heap.size,0,none⟩)) true ty).run YP (w.iter s pos)=_:=λty=>run_next_any w s pos ty hp
    have hhi:=(decode_high s pos hp Om).1
    have HG:=Lib.hid (digB_hi _ hhi)
    go_wp2_with (go_at_call 110;refine (kX _ false HG.out _).mono ?_;rintro e w' ⟨rfl,rfl⟩)
    go_ret2
    have HN:x5 0 true s.data.toList=none:=by rw [←HR.out,HD.out,m6 _ _ _ _ (digB_hi8 _ Om)]
    exact ⟨v6 (qF HN).symm (g6 HN).symm,yC _ _ _⟩
  ·have hnx:∀ ty,(Instr.next (.pointer (some ⟨w.heap.size,0,none⟩)) true ty).run YP (w.iter s pos)=_:=λty=>run_next_end w s pos ty hp
   have HD:=Lib.hid (wP s pos hp)
   by_cases he:s.size=0
   ·have hes:s=⟨#[]⟩:=by
     apply ByteArray.ext
     exact Array.eq_empty_of_size_eq_zero he
    subst hes
    obtain rfl:n=0:=HZ.out (Nat.le_zero.1 hple)
    go_wp2
    go_ret2
    exact ⟨v6 (by decide) (by decide),yC _ _ _⟩
   ·have hse:(!s.toList.isEmpty)=true:=by
     rw [Lib.toList_data,Bool.not_eq_true',List.isEmpty_eq_false_iff];intro h;apply he;have:=congrArg List.length h;simpa using this
    have HSE:=Lib.hid hse
    clear hse
    go_wp2
    go_ret2
    have HN:x5 0 true s.data.toList=some n:=by rw [←HR.out,HD.out,decide_eq_false Om,x5];rfl
    exact ⟨v6 (numV_some HN).symm (HSE.out.trans (numOk_some HN).symm),yC _ _ _⟩
theorem foldV_snoc (l:YL)(c:UInt8)(n:Nat):vZ n (l++[c])=vZ n l*10+(c.toNat-48):=by rw [foldV_append];rfl
theorem take_snoc (s:ByteArray)(k:Nat)(h:k<s.size):s.data.toList.take (k+1)=s.data.toList.take k++[s[k]]:=by
 rw [List.take_succ_eq_append_getElem (by simpa using h)];rfl
theorem allDig_snoc (l:YL)(c:UInt8):yM (l++[c])=(yM l && yL c.toNat):=by rw [nL];unfold yM;rw [List.all_cons,List.all_nil,Bool.and_true]
theorem allDig_bad (s:ByteArray)(k:Nat)(h:k<s.size)(hd:yL s[k].toNat=false):yM s.data.toList=false:=by
 have e:s.data.toList=s.data.toList.take k++s[k]::s.data.toList.drop (k+1):=by rw [←qI s k h,List.take_append_drop]
 rw [e,nL]
 have:yM (s[k]::s.data.toList.drop (k+1))=false:=by unfold yM;rw [List.all_cons,hd];rfl
 rw [this,Bool.and_false]
theorem bZ (s:ByteArray):s.data.toList.length=s.size:=by simp
theorem head_data (s:ByteArray)(h:0<s.size):s.data.toList.head?=some s[0]:=by
 have:=qI s 0 h
 rw [List.drop_zero] at this
 rw [this];rfl
theorem ten_le {k:Nat}(h:k<=8):10^k<=100000000:=Nat.pow_le_pow_right Om h
theorem rnumber_any (s:ByteArray)(w:World)(hs:s.size<=maxLen):
  YC 166 #[.string s] w λe w'=>e= .returned (.tuple #[YI (numV s),.bool (numOk s)])/\w=w':=by
 unfold maxLen at hs
 have HREF:=Lib.hid (numGo_ref s.data.toList)
 by_cases h0:s.size<1
 ·have HN:x5 0 true s.data.toList=none:=by rw [HREF.out,numRef,if_pos (Or.inl (by rw [bZ];exact h0))]
  have HV:=Lib.hid (qF HN)
  have HO:=Lib.hid (g6 HN)
  clear HN
  go_enter Tryz.func166,Tryz.ntmps166
  go_wp2
  go_ret2
  exact ⟨v6 HV.out.symm HO.out.symm,rfl⟩
 ·have hp0:0<s.size:=by omega
  by_cases h9:s.size<=9
  ·by_cases hz:1<s.size/\(s[0].toNat:Int)=48
   ·have HN:x5 0 true s.data.toList=none:=by
     rw [HREF.out,numRef,if_pos (Or.inr (Or.inr ⟨by rw [bZ];exact hz.1,by rw [head_data s hp0,show s[0]=48 from UInt8.toNat_inj.1 (by have:=hz.2;show s[0].toNat=48;omega)]⟩))]
    have HV:=Lib.hid (qF HN)
    have HO:=Lib.hid (g6 HN)
    clear HN
    have hb:((s[0].toNat:Int)==48)=true:=by simp [hz.2]
    have h1:1<s.size:=hz.1
    clear hz
    go_enter Tryz.func166,Tryz.ntmps166
    go_wp2
    go_ret2
    exact ⟨v6 HV.out.symm HO.out.symm,rfl⟩
   ·have HN:Hid (x5 0 true s.data.toList=if yM s.data.toList=true/\vZ 0 s.data.toList<=9999 then some (vZ 0 s.data.toList) else none):=by
     show _=_
     rw [HREF.out,numRef,if_neg]
     rintro (h|h|h)
     ·rw [bZ] at h;omega
     ·rw [bZ] at h;omega
     ·rw [bZ,head_data s hp0] at h
      refine hz ⟨h.1, ?_⟩
      have:=Option.some.inj h.2
      rw [this];rfl
    have hb:1<s.size->((s[0].toNat:Int)==48)=false:=λh=>wR (λe=>hz ⟨h,e⟩)
    clear hz
    by_cases h1:1<s.size
    ·have hb1:=hb h1
     clear hb
     go_enter Tryz.func166,Tryz.ntmps166
     go_wp2
     go_loop [4,5] (λv i=>∃ k n:Nat,k<=s.size/\v=YI n/\i=YI k/\Hid (n<10^k)/\Hid (n=vZ 0 (s.data.toList.take k))/\Hid (yM (s.data.toList.take k)=true)) (λ_ i=>s.size-(intOf i).toNat)
     case atStart=>exact ⟨0,0,Nat.zero_le _,rfl,rfl,by show 0<10^0;omega,rfl,rfl⟩
     case round=>
      obtain ⟨k,n,hk,rfl,rfl,HP,HF,HA⟩:=hrel
      by_cases hp:k<s.size
      ·by_cases hd:yL s[k].toNat=true
       ·have HG:=Lib.hid hd
        obtain ⟨hlo,hhi⟩:=digB_range hd
        clear hd
        have hn8:n<=100000000:=Nat.le_of_lt (Nat.lt_of_lt_of_le HP.out (ten_le Om))
        go_wp2_with (go_at_call 125;refine (bG _ true HG.out _).mono ?_;rintro e w' ⟨rfl,rfl⟩)
        go_round
        case rel=>
         refine ⟨k+1,n*10+(s[k].toNat-48),by omega,by go_num,by go_num, ?_, ?_, ?_⟩
         ·have:=HP.out
          show _<10^(k+1)
          rw [Nat.pow_succ];omega
         ·show _=_
          rw [take_snoc s k hp,foldV_snoc,←HF.out]
         ·show _=_
          rw [take_snoc s k hp,allDig_snoc,HA.out,HG.out];rfl
        case measure=>simp [intOf];omega
       ·have HG:=Lib.hid (Bool.eq_false_iff.2 hd)
        clear hd
        go_wp2_with (go_at_call 125;refine (bG _ false HG.out _).mono ?_;rintro e w' ⟨rfl,rfl⟩)
        go_ret2
        have HM:x5 0 true s.data.toList=none:=by rw [HN.out,allDig_bad s k hp HG.out];simp
        exact ⟨v6 (qF HM).symm (g6 HM).symm,rfl⟩
      ·have HT:Hid (s.data.toList.take k=s.data.toList):=List.take_of_length_le (by rw [bZ];omega)
       by_cases h4:n<=9999
       ·go_wp2
        go_ret2
        have HM:x5 0 true s.data.toList=some n:=by
         have e1:=HF.out
         have e2:=HA.out
         rw [HT.out] at e1 e2
         rw [HN.out,e2,←e1,if_pos ⟨rfl,h4⟩]
        exact ⟨v6 (numV_some HM).symm (numOk_some HM).symm,rfl⟩
       ·go_wp2
        go_ret2
        have HM:x5 0 true s.data.toList=none:=by
         have e1:=HF.out
         rw [HT.out] at e1
         rw [HN.out,←e1,if_neg (λh=>h4 h.2)]
        exact ⟨v6 (qF HM).symm (g6 HM).symm,rfl⟩
    ·clear hb
     go_enter Tryz.func166,Tryz.ntmps166
     go_wp2
     go_loop [4,5] (λv i=>∃ k n:Nat,k<=s.size/\v=YI n/\i=YI k/\Hid (n<10^k)/\Hid (n=vZ 0 (s.data.toList.take k))/\Hid (yM (s.data.toList.take k)=true)) (λ_ i=>s.size-(intOf i).toNat)
     case atStart=>exact ⟨0,0,Nat.zero_le _,rfl,rfl,by show 0<10^0;omega,rfl,rfl⟩
     case round=>
      obtain ⟨k,n,hk,rfl,rfl,HP,HF,HA⟩:=hrel
      by_cases hp:k<s.size
      ·by_cases hd:yL s[k].toNat=true
       ·have HG:=Lib.hid hd
        obtain ⟨hlo,hhi⟩:=digB_range hd
        clear hd
        have hn8:n<=100000000:=Nat.le_of_lt (Nat.lt_of_lt_of_le HP.out (ten_le Om))
        go_wp2_with (go_at_call 125;refine (bG _ true HG.out _).mono ?_;rintro e w' ⟨rfl,rfl⟩)
        go_round
        case rel=>
         refine ⟨k+1,n*10+(s[k].toNat-48),by omega,by go_num,by go_num, ?_, ?_, ?_⟩
         ·have:=HP.out
          show _<10^(k+1)
          rw [Nat.pow_succ];omega
         ·show _=_
          rw [take_snoc s k hp,foldV_snoc,←HF.out]
         ·show _=_
          rw [take_snoc s k hp,allDig_snoc,HA.out,HG.out];rfl
        case measure=>simp [intOf];omega
       ·have HG:=Lib.hid (Bool.eq_false_iff.2 hd)
        clear hd
        go_wp2_with (go_at_call 125;refine (bG _ false HG.out _).mono ?_;rintro e w' ⟨rfl,rfl⟩)
        go_ret2
        have HM:x5 0 true s.data.toList=none:=by rw [HN.out,allDig_bad s k hp HG.out];simp
        exact ⟨v6 (qF HM).symm (g6 HM).symm,rfl⟩
      ·have HT:Hid (s.data.toList.take k=s.data.toList):=List.take_of_length_le (by rw [bZ];omega)
       by_cases h4:n<=9999
       ·go_wp2
        go_ret2
        have HM:x5 0 true s.data.toList=some n:=by
         have e1:=HF.out
         have e2:=HA.out
         rw [HT.out] at e1 e2
         rw [HN.out,e2,←e1,if_pos ⟨rfl,h4⟩]
        exact ⟨v6 (numV_some HM).symm (numOk_some HM).symm,rfl⟩
       ·go_wp2
        go_ret2
        have HM:x5 0 true s.data.toList=none:=by
         have e1:=HF.out
         rw [HT.out] at e1
         rw [HN.out,←e1,if_neg (λh=>h4 h.2)]
        exact ⟨v6 (qF HM).symm (g6 HM).symm,rfl⟩
  ·have HN:x5 0 true s.data.toList=none:=by rw [HREF.out,numRef,if_pos (Or.inr (Or.inl (by rw [bZ];omega)))]
   have HV:=Lib.hid (qF HN)
   have HO:=Lib.hid (g6 HN)
   clear HN
   go_enter Tryz.func166,Tryz.ntmps166
   go_wp2
   go_ret2
   exact ⟨v6 HV.out.symm HO.out.symm,rfl⟩
end
section
theorem jZ (r:Int)(b:Bool)(hb:yL r=b)(w:World):
  YC 155 #[.int .i32 r] w λe w'=>e= .returned (.bool b)/\w=w':=by
 subst hb
 unfold yL
 go_enter Tryz.func155,Tryz.ntmps155
 go_wp2
 all_goals go_ret
 all_goals exact ⟨yB (by simp;try omega),rfl⟩
theorem allDig_cons_ok (c:UInt8)(r:YL)(h:yL c.toNat=true):yM (c::r)=yM r:=by unfold yM;rw [List.all_cons,h,Bool.true_and]
theorem tT (c:UInt8)(r:YL)(h:yL c.toNat=false):yM (c::r)=false:=by unfold yM;rw [List.all_cons,h,Bool.false_and]
theorem vnumeric_any (s:ByteArray)(w:World)(_hs:s.size<=maxLen):
  YC 157 #[.string s] w (YR (.bool (vY s.data.toList)) w):=by
 go_enter Tryz.func157,Tryz.ntmps157
 go_wp2
 go_loopw [] (λwr=>∃ (pos:Nat),wr=w.iter s pos/\pos<=s.size/\Hid (yM (s.data.toList.drop pos)=yM s.data.toList)) (λwr=>s.size-wr.iterPos w.heap.size)
 case atStart=>exact ⟨0,rfl,Nat.zero_le _,rfl⟩
 case round=>
  obtain ⟨pos,rfl,hple,HR⟩:=hrel
  by_cases hp:pos<s.size
  ·have HD:=Lib.hid (qI s pos hp)
   by_cases ha:(s[pos]'hp).toNat<128
   ·have hnx:∀ ty,(Instr.next (.pointer (some ⟨w.heap.size,0,none⟩)) true ty).run YP (w.iter s pos)=_:=λty=>run_next_ascii w s pos ty hp ha
    by_cases hd:yL (s[pos]'hp).toNat=true
    ·have HG:=Lib.hid hd
     clear hd
     go_wp2_with (go_at_call 155;refine (jZ _ true HG.out _).mono ?_;rintro e w' ⟨rfl,rfl⟩)
     go_roundw
     case rel=>exact ⟨pos+1,rfl,by omega,by rw [←HR.out,HD.out,allDig_cons_ok _ _ HG.out];rfl⟩
     case measure=>simp;omega
    ·have HG:=Lib.hid (Bool.eq_false_iff.2 hd)
     clear hd
     go_wp2_with (go_at_call 155;refine (jZ _ false HG.out _).mono ?_;rintro e w' ⟨rfl,rfl⟩)
     go_ret
     exact ⟨yB (by unfold vY;rw [←HR.out,HD.out,tT _ _ HG.out,Bool.and_false]),yC _ _ _⟩
   ·have hnx:∀ ty,(Instr.next (.pointer (some ⟨w.heap.size,0,none⟩)) true ty).run YP (w.iter s pos)=_:=λty=>run_next_any w s pos ty hp
    have hhi:=(decode_high s pos hp Om).1
    have HG:=Lib.hid (digB_hi _ hhi)
    go_wp2_with (go_at_call 155;refine (jZ _ false HG.out _).mono ?_;rintro e w' ⟨rfl,rfl⟩)
    go_ret
    exact ⟨yB (by unfold vY;rw [←HR.out,HD.out,tT _ _ (digB_hi8 _ Om),Bool.and_false]),yC _ _ _⟩
  ·have hnx:∀ ty,(Instr.next (.pointer (some ⟨w.heap.size,0,none⟩)) true ty).run YP (w.iter s pos)=_:=λty=>run_next_end w s pos ty hp
   have HD:=Lib.hid (wP s pos hp)
   go_wp2
   go_ret
   exact ⟨yB (by unfold vY;rw [←HR.out,HD.out];simp [yM,Lib.toList_data]),yC _ _ _⟩
theorem tagC_dig (c:UInt8)(h:yL c.toNat=true):mF c=true:=by unfold mF;rw [h];simp
theorem tagC_let (c:UInt8)(h:qV c.toNat=true):mF c=true:=by unfold mF;rw [h];simp
theorem tagC_dash (c:UInt8)(h:(c.toNat:Int)=45):mF c=true:=by unfold mF;rw [decide_eq_true h];simp
theorem tagC_bad (c:UInt8)(h1:yL c.toNat=false)(h2:qV c.toNat=false)(h3:¬ (c.toNat:Int)=45):mF c=false:=by unfold mF;rw [h1,h2,decide_eq_false h3];rfl
theorem all_ok (c:UInt8)(r:YL)(h:mF c=true):(c::r).all mF=r.all mF:=by rw [List.all_cons,h,Bool.true_and]
theorem all_bad (c:UInt8)(r:YL)(h:mF c=false):(c::r).all mF=false:=by rw [List.all_cons,h,Bool.false_and]
def gH (l:List YL):Array Value:= #[.string (mkS (tg l 0)),.string (mkS (tg l 1)),.string (mkS (tg l 2)),.string (mkS (tg l 3))]
theorem tagOk_short {t:YL}(h:t=[]):kZ t=false:=by subst h;decide
theorem tagOk_long {t:YL}(h:8<t.length):kZ t=false:=by
 unfold kZ;rw [decide_eq_false Om];rfl
theorem tagOk_mid {t:YL}(h:t≠[])(h2:t.length<=8):kZ t=t.all mF:=by
 unfold kZ
 have:1<=t.length:=by cases t<;>simp at h ⊢
 rw [decide_eq_true ⟨this,h2⟩,Bool.true_and]
theorem cutGo_bad (n:Nat)(s:YL)(h:kZ (zA 46 s).1=false):gU (n+1) s=([],false):=by
 unfold gU;rw [if_neg (by simp [h])]
theorem cutGo_on (n:Nat)(s:YL)(h:kZ (zA 46 s).1=true)(h2:(zA 46 s).2.2=true):gU (n+1) s=((zA 46 s).1::(gU n (zA 46 s).2.1).1,(gU n (zA 46 s).2.1).2):=by
 rw [gU,if_pos h,if_pos h2]
theorem lcells_snoc (acc:List YL)(x:YL)(k:Nat)(hk:acc.length=k)(h4:k<4):(gH acc).setIfInBounds k (.string (mkS x))=gH (acc++[x]):=by
 subst hk
 match acc,h4 with
 | [],_=>rfl
 | [a],_=>rfl
 | [a,b],_=>rfl
 | [a,b,c],_=>rfl
def LRel (s:YL)(w:World)(g:Nat)(s0 s5 s6:Value)(wr:World):Prop:=
 ∃ (acc:List YL) (r:YL) (k:Nat) (b:Bool),k+g=4/\s0= .string (mkS r)/\s5= .bool b/\s6=YI k/\r.length<=s.length∧
  wr.heap[w.heap.size]?=some (.cells (gH []) 173)/\wr.heap[w.heap.size+1]?=some (.cells (gH acc) 173)/\YB w wr∧
  (b=true->lst s=(acc,true))/\(b=false->acc.length=k/\lst s=(acc++(gU (4-k) r).1,(gU (4-k) r).2))
theorem fL (w:World)(o:Obj):(w.alloc o).heap[w.heap.size]?=some o:=by
 show (w.heap.push o)[w.heap.size]?=some o
 simp
theorem heap_at (w:World)(o:Obj)(k:Nat)(h:k=w.heap.size):(w.alloc o).heap[k]?=some o:=by subst h;exact fL w o
theorem heap_old (w:World)(o:Obj){k:Nat}(h:k<w.heap.size):(w.alloc o).heap[k]?=w.heap[k]?:=by
 show (w.heap.push o)[k]?=_
 rw [Array.getElem?_push,if_neg Om]
theorem qH (w:World)(s:ByteArray)(pos:Nat){k:Nat}(h:k<w.heap.size):(w.iter s pos).heap[k]?=w.heap[k]?:=heap_old w _ h
theorem qP {w:World}{g j:Nat}{cs:Array Value}{t:TypeId}(hg:w.heap[g]?=some (.cells cs t (0,0)))(hj:j<cs.size):w.cell? ⟨g,j,none⟩=some cs[j]/\w.frozen? ⟨g,j,none⟩=false:=by
 refine ⟨by rw [cell_of_row w g j cs t (0,0) hg];simp [hj],by simp [World.frozen?,hg]⟩
theorem tI {B g:Nat}{a w:World}(h:Below B a w)(hg:B<=g)(cs:Array Value):Below B a (w.setRow g cs):=by
 refine ⟨h.os,h.tape,h.output, ?_,h.drawn,λk hk=> ?_⟩
 ·have:=h.size;unfold World.setRow;simpa using this
 ·rw [←h.block k hk]
  unfold World.setRow
  have:g≠k:=by omega
  simp [Array.getElem?_modify,this]
theorem pV (w:World)(g k:Nat)(cs:Array Value)(h:g≠k):(w.setRow g cs).heap[k]?=w.heap[k]?:=by
 unfold World.setRow
 simp [Array.getElem?_modify,h]
theorem lcells_size (l:List YL):(gH l).size=4:=rfl
theorem wZ (l:List YL):(gH l).all (·.oneCell')=true:=by simp [gH,Value.oneCell']
def LEnd (s:YL)(w:World)(e:Ending)(w':World):Prop:=e= .returned (.tuple #[.agg (gH (lst s).1),.bool (lst s).2])/\YB w w'
theorem dQ {s:YL}{w wr:World}{acc:List YL}{b:Bool}{tmps:Array Value}(h2:tmps.getD 2 undef= .pointer (some ⟨w.heap.size,0,none⟩))(h3:tmps.getD 3 undef= .bool b)
  (hg:wr.heap[w.heap.size]?=some (.cells (gH []) 173)) (hbel:YB w wr) (hl:lst s=(acc,b)):
  bodyPost YP Tryz.f112 (LEnd s w) .ret ⟨tmps,[]⟩ (wr.setRow w.heap.size (gH acc)):=by
 have hrow:=setRow_heap wr w.heap.size _ (gH acc) _ _ hg
 have hr:=run_loadVar_row (P:=YP) (wr.setRow w.heap.size (gH acc)) w.heap.size 173 173 (gH acc) _ _ hrow Tryz.underlying173 rfl Kr
 have h2':tmps[2]?.getD undef= .pointer (some ⟨w.heap.size,0,none⟩):=by simpa using h2
 have h3':tmps[3]?.getD undef= .bool b:=by simpa using h3
 refine bodyPost_ret (v:= .tuple #[.agg (gH acc),.bool b]) (by simp [results,Tryz.results112,asAddr,h2',h3',hr]) rfl ⟨by rw [hl],tI hbel (Nat.le_refl _) _⟩
theorem list_any0 (s:YL)(w:World)(hs:s.length<4294967281):
  YC 112 #[.string (mkS s)] w (LEnd s w):=by
 go_enter Tryz.func112,Tryz.ntmps112
 go_wp2
 go_step3
 go_wp2
 go_step3
 go_wp2
 go_loopg [0,5,6] 4 (λg s0 s5 s6 wr=>LRel s w g s0 s5 s6 wr)
 case atStart=>
  refine ⟨[],s,0,s.isEmpty,by omega,rfl, ?_,rfl,Nat.le_refl _, ?_, ?_, ?_, ?_, ?_⟩
  ·rw [Lib.toList_data];rfl
  ·rw [heap_old _ _ (by simp),fL];rfl
  ·exact heap_at _ _ _ (by simp)
  ·exact ((Below.refl _ _).alloc (Nat.le_refl _) _).alloc (by simp) _
  ·intro h;unfold lst;rw [if_pos h]
  ·intro h;unfold lst;rw [if_neg (by simp [h])];exact ⟨rfl,rfl⟩
 case round=>
  obtain ⟨acc,r,k,b,hkg,rfl,rfl,rfl,hrl,hB0,hB1,hbel,hT,hF⟩:=hrel
  have HB0:=Lib.hid hB0
  have HB1:=Lib.hid hB1
  clear hB0 hB1
  cases b with
  |true=>
   have HT:=Lib.hid (hT rfl)
   clear hT hF
   by_cases hk4:(k:Int)<4
   all_goals
    go_wp2_with (first
     |(refine wpList_load_row rfl 173 _ rfl (w.heap.size+1) rfl _ _ _ _ HB1.out Tryz.underlying173 rfl Kr ?_)
     |(refine wpList_store_row rfl 173 _ _ rfl w.heap.size (gH acc) rfl rfl _ _ HB0.out Kr rfl (wZ acc) ?_))
    exact dQ rfl rfl HB0.out hbel HT.out
  |false=>
   have HKL:=Lib.hid (hF rfl).1
   have HL:=Lib.hid (hF rfl).2
   clear hT hF
   cases gk with
   |zero=>
    have hk4:¬ (k:Int)<4:=by omega
    go_wp2_with (first
     |(refine wpList_load_row rfl 173 _ rfl (w.heap.size+1) rfl _ _ _ _ HB1.out Tryz.underlying173 rfl Kr ?_)
     |(refine wpList_store_row rfl 173 _ _ rfl w.heap.size (gH acc) rfl rfl _ _ HB0.out Kr rfl (wZ acc) ?_))
    exact dQ rfl rfl HB0.out hbel (by rw [HL.out,show 4-k=0 from by omega,gU,List.append_nil])
   |succ g=>
    have hk4:(k:Int)<4:=by omega
    obtain ⟨t,rest,more,hcut⟩:∃ t rest more,zA 46 r=(t,rest,more):=⟨_,_,_,rfl⟩
    have hle:=jX 46 r
    have cC:=jV r 46 wr Om
    have hG:(∀ n,gU (n+1) r=if kZ t then (if more then (t::(gU n rest).1,(gU n rest).2) else ([t],true)) else ([],false)):=by
     intro n;rw [gU,hcut]
    have HG:=Lib.hid hG
    clear hG
    rw [hcut] at cC hle
    dsimp only at cC hle
    have htz:(mkS t).size=t.length:=by unfold mkS;simp [ByteArray.size]
    have HC:=Lib.hid hcut
    clear hcut
    have hsz0:w.heap.size+1<wr.heap.size:=(Array.getElem?_eq_some_iff.1 HB1.out).1
    by_cases ht0:t=[]
    ·have hte:(mkS t).toList.isEmpty=true:=by rw [Lib.toList_data,ht0];rfl
     have hE:lst s=(acc,false):=by rw [HL.out,show 4-k=(3-k)+1 from by omega,HG.out,tagOk_short ht0];simp
     have HE:=Lib.hid hE
     clear hE
     clear ht0
     go_wp2_with (first
      |(go_at_call 143;refine cC.mono ?_;rintro e w2 ⟨rfl,hb2⟩;have HB02:=Lib.hid ((hb2.block w.heap.size Om).trans HB0.out);have HB12:=Lib.hid ((hb2.block (w.heap.size+1) hsz0).trans HB1.out))
      |(refine wpList_load_row rfl 173 _ rfl (w.heap.size+1) rfl _ _ _ _ HB12.out Tryz.underlying173 rfl Kr ?_)
      |(refine wpList_store_row rfl 173 _ _ rfl w.heap.size (gH acc) rfl rfl _ _ HB02.out Kr rfl (wZ acc) ?_))
     exact dQ rfl rfl HB02.out (hbel.trans (hb2.mono hbel.size)) HE.out
    ·have htn:(mkS t).toList.isEmpty=false:=by
      rw [Lib.toList_data,mk_data];cases t with
      |nil=>exact absurd rfl ht0
      |cons _ _=>rfl
     by_cases h8:t.length<=8
     ·have h8i:¬ (8:Int)<(mkS t).size:=by omega
      have HA:=Lib.hid (tagOk_mid ht0 h8)
      clear ht0
      go_wp2_with (first
       |(go_at_call 143;refine cC.mono ?_;rintro e w2 ⟨rfl,hb2⟩;have HB02:=Lib.hid ((hb2.block w.heap.size Om).trans HB0.out);have HB12:=Lib.hid ((hb2.block (w.heap.size+1) hsz0).trans HB1.out)))
      go_loopg [11] ((mkS t).size+1) (λg2 s11 wi=>∃ pos:Nat,wi=w2.iter (mkS t) pos/\pos+g2=(mkS t).size+1/\pos<=(mkS t).size/\Hid ((t.drop pos).all mF=t.all mF))
      case atStart=>exact ⟨0,rfl,by omega,by omega,rfl⟩
      case round=>
       obtain ⟨pos,rfl,hpg,hple,HR⟩:=hrel
       have hs1:w.heap.size+1<w2.heap.size:=by have:=hb2.size;omega
       have hs0:w.heap.size<w2.heap.size:=by omega
       have hb0:w.heap.size<=w2.heap.size:=by omega
       by_cases hp:pos<(mkS t).size
       ·have hd0:=qI (mkS t) pos hp
        rw [mk_data] at hd0
        have HD:=Lib.hid hd0
        clear hd0
        by_cases ha:((mkS t)[pos]'hp).toNat<128
        ·have hnx:∀ ty,(Instr.next (.pointer (some ⟨w2.heap.size,0,none⟩)) true ty).run YP (w2.iter (mkS t) pos)=_:=λty=>run_next_ascii w2 (mkS t) pos ty hp ha
         by_cases hd:yL ((mkS t)[pos]'hp).toNat=true
         ·have HG1:=Lib.hid hd
          clear hd
          go_wp2_with (go_at_call 155;refine (jZ _ true HG1.out _).mono ?_;rintro e w' ⟨rfl,rfl⟩)
          go_roundg (gk-1)
          case measure=>omega
          case rel=>exact ⟨pos+1,rfl,by omega,by omega,by rw [←HR.out,HD.out,all_ok _ _ (tagC_dig _ HG1.out)];rfl⟩
         ·have HG1:=Lib.hid (Bool.eq_false_iff.2 hd)
          clear hd
          by_cases hl:qV ((mkS t)[pos]'hp).toNat=true
          ·have hl2:(97:Int)<=((mkS t)[pos]'hp).toNat/\(((mkS t)[pos]'hp).toNat:Int)<=122:=by unfold qV at hl;simpa using hl
           obtain ⟨hla,hlb⟩:=hl2
           have HL1:=Lib.hid hl
           clear hl
           go_wp2_with (go_at_call 155;refine (jZ _ false HG1.out _).mono ?_;rintro e w' ⟨rfl,rfl⟩)
           go_roundg (gk-1)
           case measure=>omega
           case rel=>exact ⟨pos+1,rfl,by omega,by omega,by rw [←HR.out,HD.out,all_ok _ _ (tagC_let _ HL1.out)];rfl⟩
          ·have HL1:=Lib.hid (Bool.eq_false_iff.2 hl)
           by_cases h3:(((mkS t)[pos]'hp).toNat:Int)=45
           ·have h3b:((((mkS t)[pos]'hp).toNat:Int) !=45)=false:=by simp [h3]
            have hla:(((mkS t)[pos]'hp).toNat:Int)<97:=by omega
            have H3:=Lib.hid h3
            clear h3 hl
            go_wp2_with (go_at_call 155;refine (jZ _ false HG1.out _).mono ?_;rintro e w' ⟨rfl,rfl⟩)
            go_roundg (gk-1)
            case measure=>omega
            case rel=>exact ⟨pos+1,rfl,by omega,by omega,by rw [←HR.out,HD.out,all_ok _ _ (tagC_dash _ H3.out)];rfl⟩
           ·have h3b:((((mkS t)[pos]'hp).toNat:Int) !=45)=true:=by simpa using h3
            have hE:lst s=(acc,false):=by
             rw [HL.out,show 4-k=(3-k)+1 from by omega,HG.out,HA.out,←HR.out,HD.out,all_bad _ _ (tagC_bad _ HG1.out HL1.out h3)];simp
            have HE:=Lib.hid hE
            clear hE h3
            have hl3:(((mkS t)[pos]'hp).toNat:Int)<97\/(122:Int)<((mkS t)[pos]'hp).toNat:=by
             unfold qV at hl;simp at hl;omega
            clear hl
            rcases hl3 with hl3|hl3
            ·go_wp2_with (first
              |(go_at_call 155;refine (jZ _ false HG1.out _).mono ?_;rintro e w' ⟨rfl,rfl⟩)
              |(refine wpList_load_row rfl 173 _ rfl (w.heap.size+1) rfl _ _ _ _ ((qH _ _ _ hs1).trans HB12.out) Tryz.underlying173 rfl Kr ?_)
              |(refine wpList_store_row rfl 173 _ _ rfl w.heap.size (gH acc) rfl rfl _ _ ((qH _ _ _ hs0).trans HB02.out) Kr rfl (wZ acc) ?_))
             exact dQ rfl rfl ((qH _ _ _ hs0).trans HB02.out) ((hbel.trans (hb2.mono hbel.size)).trans ((yC _ _ _).mono hb0)) HE.out
            ·have hl4:(97:Int)<=((mkS t)[pos]'hp).toNat:=by omega
             have hl5:(!decide ((((mkS t)[pos]'hp).toNat:Int)<=122))=true:=by simp;omega
             go_wp2_with (first
              |(go_at_call 155;refine (jZ _ false HG1.out _).mono ?_;rintro e w' ⟨rfl,rfl⟩)
              |(refine wpList_load_row rfl 173 _ rfl (w.heap.size+1) rfl _ _ _ _ ((qH _ _ _ hs1).trans HB12.out) Tryz.underlying173 rfl Kr ?_)
              |(refine wpList_store_row rfl 173 _ _ rfl w.heap.size (gH acc) rfl rfl _ _ ((qH _ _ _ hs0).trans HB02.out) Kr rfl (wZ acc) ?_))
             exact dQ rfl rfl ((qH _ _ _ hs0).trans HB02.out) ((hbel.trans (hb2.mono hbel.size)).trans ((yC _ _ _).mono hb0)) HE.out
        ·have hnx:∀ ty,(Instr.next (.pointer (some ⟨w2.heap.size,0,none⟩)) true ty).run YP (w2.iter (mkS t) pos)=_:=λty=>run_next_any w2 (mkS t) pos ty hp
         have hhi:=(decode_high (mkS t) pos hp Om).1
         have HG1:=Lib.hid (digB_hi _ hhi)
         have h3b:(((Utf8.decode (mkS t) pos).1:Int) !=45)=true:=by simp;omega
         have hl3:(122:Int)<(Utf8.decode (mkS t) pos).1:=by omega
         have hl4:(97:Int)<=(Utf8.decode (mkS t) pos).1:=by omega
         have hl5:(!decide (((Utf8.decode (mkS t) pos).1:Int)<=122))=true:=by simp;omega
         have hE:lst s=(acc,false):=by
          rw [HL.out,show 4-k=(3-k)+1 from by omega,HG.out,HA.out,←HR.out,HD.out,all_bad _ _ (tagC_bad _ (digB_hi8 _ Om) (letB_hi8 _ Om) Om)];simp
         have HE:=Lib.hid hE
         clear hE
         go_wp2_with (first
          |(go_at_call 155;refine (jZ _ false HG1.out _).mono ?_;rintro e w' ⟨rfl,rfl⟩)
          |(refine wpList_load_row rfl 173 _ rfl (w.heap.size+1) rfl _ _ _ _ ((qH _ _ _ hs1).trans HB12.out) Tryz.underlying173 rfl Kr ?_)
          |(refine wpList_store_row rfl 173 _ _ rfl w.heap.size (gH acc) rfl rfl _ _ ((qH _ _ _ hs0).trans HB02.out) Kr rfl (wZ acc) ?_))
         exact dQ rfl rfl ((qH _ _ _ hs0).trans HB02.out) ((hbel.trans (hb2.mono hbel.size)).trans ((yC _ _ _).mono hb0)) HE.out
       ·have hnx:∀ ty,(Instr.next (.pointer (some ⟨w2.heap.size,0,none⟩)) true ty).run YP (w2.iter (mkS t) pos)=_:=λty=>run_next_end w2 (mkS t) pos ty hp
        have hd0:=wP (mkS t) pos hp
        rw [mk_data] at hd0
        have hA:kZ t=true:=by rw [HA.out,←HR.out,hd0];rfl
        have HAT:=Lib.hid hA
        clear hd0 hA
        obtain ⟨hcell,hfro⟩:=qP (j:=k) ((qH w2 (mkS t) pos hs1).trans HB12.out) (by rw [lcells_size];omega)
        go_wp2
        have hg1:(w2.iter (mkS t) pos).heap[w.heap.size+1]?=some (.cells (gH acc) 173):=(qH _ _ _ hs1).trans HB12.out
        have hg0:(w2.iter (mkS t) pos).heap[w.heap.size]?=some (.cells (gH []) 173):=(qH _ _ _ hs0).trans HB02.out
        have hset:=setCell_eq_setRow _ _ k _ _ _ (.string (mkS t)) hg1
        rw [lcells_snoc acc t k HKL.out Om] at hset
        have hbw:Below w.heap.size w (w2.iter (mkS t) pos):=(hbel.trans (hb2.mono hbel.size)).trans ((yC _ _ _).mono hb0)
        rw [hset]
        go_roundg g
        case measure=>omega
        case rel=>
         refine ⟨acc++[t],rest,k+1, !more,by omega,rfl,rfl,by go_num,by omega, ?_,setRow_heap _ _ _ _ _ _ hg1,tI hbw (by omega) _, ?_, ?_⟩
         ·rw [←hg0];exact pV _ _ _ _ Om
         ·intro h
          have hm:more=false:=by simpa using h
          rw [HL.out,show 4-k=(3-k)+1 from by omega,HG.out,HAT.out,hm];simp
         ·intro h
          have hm:more=true:=by simpa using h
          refine ⟨by rw [List.length_append,HKL.out];rfl, ?_⟩
          rw [HL.out,show 4-k=(3-k)+1 from by omega,HG.out,HAT.out,hm,show 4-(k+1)=3-k from by omega];simp
     ·have h8i:(8:Int)<(mkS t).size:=by omega
      have hE:lst s=(acc,false):=by rw [HL.out,show 4-k=(3-k)+1 from by omega,HG.out,tagOk_long Om];simp
      have HE:=Lib.hid hE
      clear hE ht0
      go_wp2_with (first
       |(go_at_call 143;refine cC.mono ?_;rintro e w2 ⟨rfl,hb2⟩;have HB02:=Lib.hid ((hb2.block w.heap.size Om).trans HB0.out);have HB12:=Lib.hid ((hb2.block (w.heap.size+1) hsz0).trans HB1.out))
       |(refine wpList_load_row rfl 173 _ rfl (w.heap.size+1) rfl _ _ _ _ HB12.out Tryz.underlying173 rfl Kr ?_)
       |(refine wpList_store_row rfl 173 _ _ rfl w.heap.size (gH acc) rfl rfl _ _ HB02.out Kr rfl (wZ acc) ?_))
      exact dQ rfl rfl HB02.out (hbel.trans (hb2.mono hbel.size)) HE.out
theorem list_any (s:YL)(w:World)(hs:s.length<4294967281):
  YC 112 #[.string (mkS s)] w (YR (.tuple #[.agg (gH (lst s).1),.bool (lst s).2]) w):=list_any0 s w hs
end
end Go.Proofs.YtobimfnmnkegdaaGreatDoor
